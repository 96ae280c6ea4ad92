/- Wrapping a chain: what the laws' loops over the operations keep. -/
import Derived.Test.YtpjcmfoamdiohaaDoorFltIs
import Derived.Test.YtpjcmfoamdiohaaDoorSenK
import Derived.Test.YtpjcmfoamdiohaaDoorStrsA
namespace Go.Proofs.YtpjcmfoamdiohaaDoor
open Go.ChangeShapes Go.WideShapes Go.ChangeAt Go.RowKit
set_option linter.unusedVariables false
theorem below_nx {w a b : World} (h : Below w.heap.size w a) (k : Below a.heap.size a b) : Below w.heap.size w b := h.trans (k.mono h.size)
/-- err behind the wraps of ops[j..]: nil where e has no sentinel, else a chain around its own -/
def Er (pa : Nat → Addr) (e : Int) (w : World) (ops : List ByteArray) (v : Value) : Prop :=
  (∃ k, k < 42 ∧ numS k = e ∧ Ch w (pa k) ops v ∧ ∃ b, v = fltV b) ∨ ((∀ k, k < 42 → numS k ≠ e) ∧ v = .nilIface)
theorem Er.keep {pa : Nat → Addr} {e : Int} {w w' : World} {ops : List ByteArray} {v : Value} (h : Er pa e w ops v) (hb : Below w.heap.size w w') : Er pa e w' ops v := by
  rcases h with ⟨k, h1, h2, h3, h4⟩ | h
  · exact .inl ⟨k, h1, h2, h3.keep hb, h4⟩
  · exact .inr h
theorem new_er (pa : Nat → Addr) (op : ByteArray) (at0 e : Int) (w : World) (hs : Sen w pa) :
    Calls Tryd.prog 11 #[.string op, .int .i64 at0, .int .i64 e] w fun r w' => ∃ v, r = .returned v ∧ Er pa e w' [op] v ∧ Below w.heap.size w w' := by
  refine (new_any pa op at0 e w hs).mono ?_
  rintro r w1 ⟨hr, hb⟩
  rcases hr with ⟨k, b, hk, hke, rfl, _, hf⟩ | ⟨hno, rfl⟩
  · exact ⟨_, rfl, .inl ⟨k, hk, hke, ⟨b, at0, _, rfl, hf, rfl⟩, b, rfl⟩, hb⟩
  · exact ⟨_, rfl, .inr ⟨hno, rfl⟩, hb⟩
theorem wrap_er (pa : Nat → Addr) (e : Int) (op : ByteArray) (ops : List ByteArray) (v : Value) (w : World) (h : Er pa e w ops v) :
    Calls Tryd.prog 14 #[.string op, v] w fun r w' => ∃ v', r = .returned v' ∧ Er pa e w' (op :: ops) v' ∧ Below w.heap.size w w' := by
  rcases h with ⟨k, hk, hke, hc, b, rfl⟩ | ⟨hno, rfl⟩
  · refine (wrap_flt op b w).mono ?_
    rintro r w1 ⟨c, rfl, _, hf, hb⟩
    exact ⟨_, rfl, .inl ⟨k, hk, hke, ⟨c, -1, _, rfl, hf, hc.keep hb⟩, c, rfl⟩, hb⟩
  · refine (wrap_nil op w).mono ?_
    rintro r w1 ⟨rfl, rfl⟩
    exact ⟨_, rfl, .inr ⟨hno, rfl⟩, Below.refl _ _⟩
theorem er_flt {pa : Nat → Addr} {e : Int} {w : World} {ops : List ByteArray} {b : Nat} {kb : Bool} (h : Er pa e w ops (fltV b)) (hk : KnownIs e kb) : kb = true := by
  rcases h with ⟨k, h1, h2, _⟩ | ⟨_, h2⟩
  · rcases hk with ⟨h, _⟩ | ⟨_, h⟩
    · exact h
    · exact absurd h2 (h k h1)
  · cases h2
theorem er_nil {pa : Nat → Addr} {e : Int} {w : World} {ops : List ByteArray} {kb : Bool} (h : Er pa e w ops .nilIface) (hk : KnownIs e kb) : kb = false := by
  rcases h with ⟨k, h1, h2, _, b, h4⟩ | ⟨h, _⟩
  · cases h4
  · rcases hk with ⟨_, k, h1, h2⟩ | ⟨h, _⟩
    · exact absurd h2 (h k h1)
    · exact h
theorem er_form {pa : Nat → Addr} {e : Int} {w : World} {ops : List ByteArray} {v : Value} (h : Er pa e w ops v) : (∃ b, v = fltV b) ∨ v = .nilIface := by
  rcases h with ⟨k, h1, h2, _, h4⟩ | ⟨_, h⟩
  · exact .inl h4
  · exact .inr h
theorem er_chain {pa : Nat → Addr} {e : Int} {w : World} {ops : List ByteArray} {b : Nat} (h : Er pa e w ops (fltV b)) : ∃ k, k < 42 ∧ numS k = e ∧ Ch w (pa k) ops (fltV b) := by
  rcases h with ⟨k, h1, h2, h3, _⟩ | ⟨_, h⟩
  · exact ⟨k, h1, h2, h3⟩
  · cases h
theorem sen_eq {pa : Nat → Addr} {w : World} (hs : Sen w pa) (k m : Nat) (hk : k < 42) (hm : m < 42) : (binOp .eql 30 (senV (pa k)) (senV (pa m))).run Tryd.prog w = .ok (.bool (decide (pa k = pa m))) w := by
  by_cases h : pa k = pa m
  · rw [h, decide_eq_true rfl]; exact eq_sen_same (pa m) w
  · rw [decide_eq_false h]; exact eq_sen_other h (hs.blk k hk) (hs.blk m hm)
theorem sen_dec {pa : Nat → Addr} {w : World} (hs : Sen w pa) (k m : Nat) (hk : k < 42) (hm : m < 42) : decide (pa k = pa m) = decide (numS k = numS m) :=
  decide_eq_decide.2 ⟨fun h => by rw [hs.inj k m hk hm h], fun h => by rw [numS_inj hk hm h]⟩
theorem drop_str (l : List ByteArray) (k : Nat) (h : k < l.length) : l.drop k = l.getD k ByteArray.empty :: l.drop (k + 1) := by
  rw [List.drop_eq_getElem_cons h, List.getD_eq_getElem?_getD, List.getElem?_eq_getElem h]; rfl
end Go.Proofs.YtpjcmfoamdiohaaDoor
