/- Own texts, joined: Aid, Gld, Plain, Find, Bnd, Same. -/
import Derived.WalkKit
import Derived.ProofKit
import Derived.OpenShut
import Derived.WalkSpells
import Derived.WalkLawsBesides
import Derived.Laws.BitsAllLaws
import Derived.Laws.MathBits
import Derived.Laws.ShiftsVarLaws
import Derived.Below
import Derived.Test.YtldbdhhbmnbmaaaGreatRows
import Derived.Lib.ConvBytes
import Derived.Deep.QuietTactic
import Derived.BigQuiet
import Derived.Deep.RegionHeld3
namespace Go.Proofs.YtldbdhhbmnbmaaaGreat
open Go.ChangeShapes Go.WideShapes Go.ChangeAt Go.RowKit
theorem ret_int {k : IntKind} {a b : Int} (h : a = b) : Ending.returned (.int k a) = .returned (.int k b) := by rw [h]
theorem ret_bool {a b : Bool} (h : a = b) : Ending.returned (.bool a) = .returned (.bool b) := by rw [h]
theorem wrap_i64 (n : Int) : IntKind.i64.wrap n = (n + 9223372036854775808) % 18446744073709551616 - 9223372036854775808 := by
  simp [IntKind.wrap, IntKind.bits, IntKind.signed]
  omega
def Bytes (w : World) (a : Option Addr) (l : List Nat) : Prop :=
  (∀ i, l.getD i 0 < 256) ∧ (l = [] ∨ ∃ b off, a = some ⟨b, off, none⟩ ∧ b < w.heap.size ∧ ∀ i, i < l.length → w.cell? ⟨b, off + i, none⟩ = some (.int .u8 (l.getD i 0 : Nat)))
theorem len_close (b x i : Nat) (h : bitLen x = b + bitLen i) (hi : i < 256) (hb : b ≤ 56) : wrap64 ((b : Int) + wrap64 ((bitLen i : Nat) : Int)) = ((bitLen x : Nat) : Int) := by
  have := bitLen_le8 i hi
  rw [h]
  unfold wrap64
  omega
theorem len_close0 (x : Nat) (hi : x < 256) : wrap64 (wrap64 ((bitLen x : Nat) : Int)) = ((bitLen x : Nat) : Int) := by
  have := bitLen_le8 x hi
  unfold wrap64
  omega
def encF : Nat → Nat → List Nat
  | 0, _ => []
  | f + 1, u => if u < 128 then [u] else (128 + u % 128) :: encF f (u / 128)
def enc (u : Nat) : List Nat := encF 10 u
def B8 (l : List Nat) : List Value := l.map fun (n : Nat) => Value.int .u8 (n : Int)
theorem B8_append (l m : List Nat) : B8 (l ++ m) = B8 l ++ B8 m := by simp [B8]
theorem bitLen_lt (u n : Nat) (h : u < 2 ^ n) : bitLen u ≤ n := by
  unfold bitLen
  split
  · omega
  · rename_i h0
    have := (Nat.log2_lt h0).2 h
    omega
theorem grown_row {w wr w' : World} {base n : Nat} {v : Value} {e size : Nat} {xs : List Value} (h : Below base w wr) (ho : wr.ownsRow base e size v n xs) (hb : base ≤ wr.heap.size) (hg : wr.grownBy w' v.ownBlock) : Below base w w' :=
  h.grown hg hb fun k hk => (ho.lt k hk).1
def Own (w : World) (base : Nat) (v : Value) (l : List Nat) : Prop := (∀ i, l.getD i 0 < 256) ∧ w.ownsRow base 5 1 v l.length (B8 l)
theorem Bytes.keep {w w' : World} {a : Option Addr} {l : List Nat} (h : Bytes w a l) (hb : Below w.heap.size w w') : Bytes w' a l := by
  refine ⟨h.1, ?_⟩
  rcases h.2 with h | ⟨b, off, rfl, hlt, hc⟩
  · exact .inl h
  · exact .inr ⟨b, off, rfl, Nat.lt_of_lt_of_le hlt hb.size, fun i hi => (hb.cell (p := ⟨b, off + i, none⟩) hlt).trans (hc i hi)⟩
theorem Bytes.drewN {w : World} {a : Option Addr} {l : List Nat} (h : Bytes w a l) (n : Nat) : Bytes (w.drewN n) a l := by
  refine ⟨h.1, ?_⟩
  rcases h.2 with h | ⟨b, off, rfl, hlt, hc⟩
  · exact .inl h
  · exact .inr ⟨b, off, rfl, by simpa using hlt, fun i hi => by simpa using hc i hi⟩
theorem B8_get (l : List Nat) (i : Nat) (h : i < l.length) : (B8 l)[i]? = some (.int .u8 (l.getD i 0 : Nat)) := by
  simp [B8, h]
theorem Own.shape {w : World} {base : Nat} {v : Value} {l : List Nat} (h : Own w base v l) :
    ∃ a cap, v = .slice a l.length cap ∧ l.length ≤ cap ∧ cap ≤ maxLen ∧ Bytes w a l ∧ ((a = none ∧ l = [] ∧ cap = 0) ∨ ∃ g, a = some ⟨g, 0, none⟩ ∧ base ≤ g ∧ g < w.heap.size) := by
  obtain ⟨h0, h1, h2⟩ := h
  rcases h2 with ⟨rfl, hn⟩ | ⟨g, cap, cur, rfl, hb, hg, hnc, hcm, hcs, htake⟩
  · have : l = [] := List.length_eq_zero_iff.1 hn
    subst this
    exact ⟨none, 0, rfl, Nat.le_refl _, by simp, ⟨h0, .inl rfl⟩, .inl ⟨rfl, rfl, rfl⟩⟩
  · have hlt : g < w.heap.size := by
      by_cases hh : g < w.heap.size
      · exact hh
      · rw [Array.getElem?_eq_none (by omega)] at hg; cases hg
    have ho : w.ownsRow base 5 1 (.slice (some ⟨g, 0, none⟩) l.length cap) l.length (B8 l) := ⟨h1, .inr ⟨g, cap, cur, rfl, hb, hg, hnc, hcm, hcs, htake⟩⟩
    refine ⟨some ⟨g, 0, none⟩, cap, rfl, hnc, hcm, ⟨h0, .inr ⟨g, 0, rfl, hlt, fun i hi => ?_⟩⟩, .inr ⟨g, rfl, hb, hlt⟩⟩
    rw [Nat.zero_add, ho.cellAt i (by omega), B8_get l i hi]
def Nums (w : World) (a : Option Addr) (l : List Nat) : Prop :=
  (∀ i, l.getD i 0 < 18446744073709551616) ∧ (l = [] ∨ ∃ b off, a = some ⟨b, off, none⟩ ∧ b < w.heap.size ∧ ∀ i, i < l.length → w.cell? ⟨b, off + i, none⟩ = some (.int .u64 (l.getD i 0 : Nat)))
theorem Nums.keep {w w' : World} {a : Option Addr} {l : List Nat} (h : Nums w a l) (hb : Below w.heap.size w w') : Nums w' a l := by
  refine ⟨h.1, ?_⟩
  rcases h.2 with h | ⟨b, off, rfl, hlt, hc⟩
  · exact .inl h
  · exact .inr ⟨b, off, rfl, Nat.lt_of_lt_of_le hlt hb.size, fun i hi => (hb.cell (p := ⟨b, off + i, none⟩) hlt).trans (hc i hi)⟩
structure Came (w : World) (a : Option Addr) (len cap bytes : Nat) : Prop where
  fits : len ≤ cap
  room : cap * bytes ≤ 140737488351232
  none : a = none → cap = 0
theorem Bytes.take {w : World} {a : Option Addr} {l : List Nat} (h : Bytes w a l) (n : Nat) : Bytes w a (l.take n) := by
  refine ⟨fun i => ?_, ?_⟩
  · have := h.1 i
    rw [List.getD_eq_getElem?_getD, List.getElem?_take]
    split
    · rwa [← List.getD_eq_getElem?_getD]
    · simp
  · rcases h.2 with rfl | ⟨b, off, rfl, hlt, hc⟩
    · left; simp
    · refine .inr ⟨b, off, rfl, hlt, fun i hi => ?_⟩
      rw [List.length_take] at hi
      rw [hc i (by omega), List.getD_eq_getElem?_getD, List.getD_eq_getElem?_getD, List.getElem?_take, if_pos (by omega)]
theorem Own.append {w : World} {base : Nat} {v : Value} {l m : List Nat} (hl : ∀ i, l.getD i 0 < 256) (hm : ∀ i, m.getD i 0 < 256) (h : w.ownsRow base 5 1 v (l.length + m.length) (B8 l ++ B8 m)) : Own w base v (l ++ m) := by
  refine ⟨fun i => ?_, by rw [List.length_append, B8_append]; exact h⟩
  have h1 := hl i
  have h2 := hm (i - l.length)
  rw [List.getD_eq_getElem?_getD] at h1 h2 ⊢
  rw [List.getElem?_append]
  split <;> assumption
theorem Own.slice {w : World} {base : Nat} {v : Value} {l : List Nat} (h : Own w base v l) : ∃ a cap, v = .slice a l.length cap ∧ Bytes w a l := by
  obtain ⟨a, cap, h1, _, _, h2, _⟩ := h.shape
  exact ⟨a, cap, h1, h2⟩
theorem Own.row {w : World} {base : Nat} {v : Value} {l : List Nat} (h : Own w base v l) (hl : l ≠ []) : ∃ g cap, v = .slice (some ⟨g, 0, none⟩) l.length cap ∧ l.length ≤ cap ∧ Bytes w (some ⟨g, 0, none⟩) l := by
  obtain ⟨a, cap, h1, h2, _, h3, h4⟩ := h.shape
  rcases h4 with ⟨_, h5, _⟩ | ⟨g, rfl, _, _⟩
  · exact absurd h5 hl
  · exact ⟨g, cap, h1, h2, h3⟩
theorem Bytes.drop {w : World} {b off : Nat} {l : List Nat} (h : Bytes w (some ⟨b, off, none⟩) l) (n : Nat) : Bytes w (some ⟨b, off + n, none⟩) (l.drop n) := by
  refine ⟨fun i => ?_, ?_⟩
  · have := h.1 (n + i)
    rw [List.getD_eq_getElem?_getD] at this ⊢
    rw [List.getElem?_drop]
    exact this
  · rcases h.2 with rfl | ⟨b', off', hx, hlt, hc⟩
    · left; simp
    · cases hx
      refine .inr ⟨b, off + n, rfl, hlt, fun i hi => ?_⟩
      rw [List.length_drop] at hi
      have := hc (n + i) (by omega)
      rw [show off + n + i = off + (n + i) from by omega, this, List.getD_eq_getElem?_getD, List.getD_eq_getElem?_getD, List.getElem?_drop]
theorem Bytes.none (w : World) (a : Option Addr) : Bytes w a [] := ⟨by simp, .inl rfl⟩
end Go.Proofs.YtldbdhhbmnbmaaaGreat
namespace Go.Proofs.YtldbdhhbmnbmaaaGreat
open Go.ChangeShapes Go.WideShapes Go.ChangeAt Go.RowKit
theorem guard_load {ops : Array Oper} {rest : List Oper} {a : Act} {w : World} {Q : Exit → Act → World → Prop} {dst : Option Tmp} {ty : TypeId} {pos : String} {after : Array Edge} {x : Operand} (t : TypeId)
    (h : wpList Tryz.prog ops Q (⟨dst, .load t x, ty, pos, after, none⟩ :: rest) a w) : wpList Tryz.prog ops Q (⟨dst, .load t x, ty, pos, after, none⟩ :: rest) a w := h
theorem guard_store {ops : Array Oper} {rest : List Oper} {a : Act} {w : World} {Q : Exit → Act → World → Prop} {dst : Option Tmp} {ty : TypeId} {pos : String} {after : Array Edge} {x y : Operand} (t : TypeId)
    (h : wpList Tryz.prog ops Q (⟨dst, .store t x y, ty, pos, after, none⟩ :: rest) a w) : wpList Tryz.prog ops Q (⟨dst, .store t x y, ty, pos, after, none⟩ :: rest) a w := h
end Go.Proofs.YtldbdhhbmnbmaaaGreat
namespace Go.Proofs.YtldbdhhbmnbmaaaGreat
open Go.ChangeShapes Go.WideShapes Go.ChangeAt Go.RowKit
def okC (c : Int) : Bool := decide (97 ≤ c ∧ c ≤ 122) || decide (48 ≤ c ∧ c ≤ 57) || decide (c = 45)
def plainB (l : List UInt8) : Bool := l.all fun c => okC (c.toNat : Int)
theorem okC_yes {c : Int} (h : okC c = true) : (97 ≤ c ∧ c ≤ 122) ∨ (48 ≤ c ∧ c ≤ 57) ∨ c = 45 := by
  simpa [okC, or_assoc] using h
theorem okC_no {c : Int} (h : okC c = false) : ¬ (97 ≤ c ∧ c ≤ 122) ∧ ¬ (48 ≤ c ∧ c ≤ 57) ∧ c ≠ 45 := by
  simp [okC] at h
  omega
theorem plain_more (l : List UInt8) (k : Nat) (c : Int) (hk : k < l.length) (hc : c = ((l.getD k 0).toNat : Int)) (h : plainB (l.take k) = true) (ho : okC c = true) : plainB (l.take (k + 1)) = true := by
  subst hc
  rw [List.take_succ_eq_append_getElem hk]
  unfold plainB at h ⊢
  rw [List.all_append, h]
  rw [List.getD_eq_getElem?_getD, List.getElem?_eq_getElem hk] at ho
  simpa using ho
theorem plain_not (l : List UInt8) (k : Nat) (c : Int) (hk : k < l.length) (hc : c = ((l.getD k 0).toNat : Int)) (ho : okC c = false) : plainB l = false := by
  subst hc
  rw [List.getD_eq_getElem?_getD, List.getElem?_eq_getElem hk] at ho
  unfold plainB
  rw [List.all_eq_false]
  exact ⟨l[k], List.getElem_mem hk, by simpa using ho⟩
theorem conv_any (s : ByteArray) (w : World) :
    ∃ c wr, (convert 9 134 (.string s)).run Tryz.prog w = .ok (.slice (some ⟨w.heap.size, 0, none⟩) s.size c) wr ∧ (∀ j, j < s.size → wr.cell? ⟨w.heap.size, j, none⟩ = some (.int .u8 (s.data.toList.getD j 0).toNat)) ∧ Below w.heap.size w wr := by
  refine ⟨_, _, Lib.run_convert_string_bytes w 9 134 5 s Tryz.underlying9 Tryz.underlying134 Tryz.underlying5, fun j hj => Lib.bytesWorld_cell w 5 s j hj, ?_⟩
  exact ⟨rfl, rfl, rfl, by rw [Lib.bytesWorld_size]; omega, fun k hk => Lib.bytesWorld_at_old w 5 s k hk⟩
set_option maxRecDepth 20000 in
set_option maxHeartbeats 1000000 in
theorem plain_any (s : ByteArray) (w : World) (hs : s.size ≤ 16) :
    Calls Tryz.prog 107 #[.string s] w fun e w' => e = .returned (.bool (plainB s.data.toList)) ∧ Below w.heap.size w w' := by
  obtain ⟨c, wr, hrun, hcell, hb⟩ := conv_any s w
  have HB : Hid (Below w.heap.size w wr) := hb
  clear hb
  have hlen : s.data.toList.length = s.size := by simp
  have HL : Hid (s.data.toList.length = s.size) := hlen
  clear hlen
  go_enter Tryz.func107, Tryz.ntmps107
  go_wp2
  go_loop [10] (fun i => ∃ k : Nat, k ≤ s.size ∧ i = .int .i64 k ∧ Hid (plainB (s.data.toList.take k) = true)) (fun i => s.size - (intOf i).toNat)
  case atStart => exact ⟨0, Nat.zero_le _, rfl, rfl⟩
  case round =>
    obtain ⟨k, hk, rfl, HP⟩ := hrel
    by_cases hlt : k < s.size
    · have hc := hcell k hlt
      have hlt' : k < s.data.toList.length := by rw [HL.out]; exact hlt
      obtain ⟨x, hx⟩ : ∃ x : Int, x = ((s.data.toList.getD k 0).toNat : Int) := ⟨_, rfl⟩
      rw [← hx] at hc
      have hx0 : 0 ≤ x ∧ x < 256 := by have := (s.data.toList.getD k 0).toNat_lt; omega
      have HX : Hid (x = ((s.data.toList.getD k 0).toNat : Int)) := hx
      have HK : Hid (k < s.data.toList.length) := hlt'
      clear hx hlt' hcell
      cases ho : okC x with
      | true =>
        have hoc := okC_yes ho
        have HO : Hid (plainB (s.data.toList.take (k + 1)) = true) := plain_more _ k x HK.out HX.out HP.out ho
        clear ho
        go_wp2
        all_goals first
          | (exfalso; omega)
          | (go_round
             case rel => exact ⟨k + 1, by omega, by go_num, HO⟩
             case measure => simp [intOf]; omega)
      | false =>
        obtain ⟨hn1, hn2, hn3⟩ := okC_no ho
        have HO : Hid (plainB s.data.toList = false) := plain_not _ k x HK.out HX.out ho
        have hn4 : (x != 45) = true := by simpa using hn3
        have hr : x < 48 ∨ (57 < x ∧ x < 97) ∨ 122 < x := by omega
        clear ho hn3 hn1 hn2
        rcases hr with hr | ⟨hr, hr'⟩ | hr
        · go_wp2
          go_ret
          exact ⟨ret_bool HO.out.symm, HB.out⟩
        · have d1 : decide (x ≤ 57) = false := by simpa using hr
          go_wp2
          go_ret
          exact ⟨ret_bool HO.out.symm, HB.out⟩
        · have d1 : decide (x ≤ 57) = false := by simp; omega
          have d2 : decide (x ≤ 122) = false := by simpa using hr
          go_wp2
          go_ret
          exact ⟨ret_bool HO.out.symm, HB.out⟩
    · go_wp2
      go_ret
      exact ⟨ret_bool (by have := HP.out; rw [List.take_of_length_le (by rw [HL.out]; omega)] at this; exact this.symm), HB.out⟩
def wit (a x b : Int) : Bool := decide (a ≤ x) && decide (x ≤ b)
set_option maxRecDepth 20000 in
theorem within_any (a x b : Int) (w : World) :
    Calls Tryz.prog 106 #[.int .i64 a, .int .i64 x, .int .i64 b] w fun e w' => e = .returned (.bool (wit a x b)) ∧ w = w' := by
  by_cases h1 : a ≤ x
  · by_cases h2 : x ≤ b
    · go_enter Tryz.func106, Tryz.ntmps106
      go_wp2
      go_ret
      exact ⟨ret_bool (by simp [wit, h1, h2]), rfl⟩
    · have h3 : b < x := by omega
      go_enter Tryz.func106, Tryz.ntmps106
      go_wp2
      go_ret
      exact ⟨ret_bool (by simp [wit, h1, h3]), rfl⟩
  · have h3 : x < a := by omega
    go_enter Tryz.func106, Tryz.ntmps106
    go_wp2
    go_ret
    exact ⟨ret_bool (by simp [wit]; omega), rfl⟩
end Go.Proofs.YtldbdhhbmnbmaaaGreat
namespace Go.Proofs.YtldbdhhbmnbmaaaGreat
open Go.ChangeShapes Go.WideShapes Go.ChangeAt Go.RowKit
def verV : Int → Value
  | 1 => .iface 123 (.agg #[.int .i64 0, .int .i64 0, .int .i64 0, .int .i64 0, .int .i64 0])
  | 2 => .iface 125 (.agg #[.int .i64 0, .int .i64 0, .int .i64 0, .int .i64 0, .int .i64 0, .int .i64 0])
  | 3 => .iface 127 (.agg #[.int .i64 0, .int .i64 0, .int .i64 0, .int .i64 0, .int .i64 0, .int .i64 0, .int .i64 0])
  | 4 => .iface 129 (.agg #[.int .i64 0, .int .i64 0, .int .i64 0, .int .i64 0, .int .i64 0, .int .i64 0, .int .i64 0, .string ⟨#[]⟩])
  | _ => .iface 131 (.agg #[.int .i64 0, .int .i64 0, .int .i64 0, .int .i64 0, .int .i64 0, .int .i64 0, .int .i64 0, .string ⟨#[]⟩, .int .i64 0, .string ⟨#[]⟩])
set_option maxRecDepth 20000 in
theorem find_no (v : Int) (w : World) (h : v < 1 ∨ 5 < v) :
    Calls Tryz.prog 98 #[.int .i64 v] w fun e w' => e = .returned (.tuple #[.nilIface, .bool false]) ∧ w = w' := by
  have h1 : (v == 1) = false := by simp; omega
  have h2 : (v == 2) = false := by simp; omega
  have h3 : (v == 3) = false := by simp; omega
  have h4 : (v == 4) = false := by simp; omega
  have h5 : (v == 5) = false := by simp; omega
  clear h
  go_enter Tryz.func98, Tryz.ntmps98
  go_wp2
  go_ret2
  exact ⟨rfl, rfl⟩
set_option maxRecDepth 20000 in
theorem find_yes (v : Int) (w : World) (h1 : 1 ≤ v) (h2 : v ≤ 5) :
    Calls Tryz.prog 98 #[.int .i64 v] w fun e w' => e = .returned (.tuple #[verV v, .bool true]) ∧ w = w' := by
  have h : v = 1 ∨ v = 2 ∨ v = 3 ∨ v = 4 ∨ v = 5 := by omega
  clear h1 h2
  rcases h with rfl | rfl | rfl | rfl | rfl
  all_goals
    go_enter Tryz.func98, Tryz.ntmps98
    go_wp2
    go_ret2
    exact ⟨rfl, rfl⟩
end Go.Proofs.YtldbdhhbmnbmaaaGreat
namespace Go.Proofs.YtldbdhhbmnbmaaaGreat
open Go.ChangeShapes Go.WideShapes Go.ChangeAt Go.RowKit
theorem ev_cell {w w2 : World} {C : Array Value} {T : TypeId} (h : Below (w.heap.size + 1) (w.alloc (.cells C T)) w2) (i : Nat) (v : Value) (hv : C[i]? = some v) : w2.cell? ⟨w.heap.size, i, none⟩ = some v := by
  rw [h.cell (p := ⟨w.heap.size, i, none⟩) (Nat.lt_succ_self _)]
  rw [cell_of_row (w.alloc (.cells C T)) w.heap.size i C T (0, 0) (heap_alloc_new w _)]
  exact hv
theorem quiet_val {P : Program} {o : Oper} {a : Act} {C : World → Prop} {K : Act → Prop} {v : Value} (h : ∀ w, C w → (execOp a.eval o).run P w = .ok (.value v) w) (hk : K (a.put o.dst v)) : o.quiet P a C K :=
  ⟨v, fun w hw => by unfold Oper.quietAt; rw [h w hw]; exact ⟨rfl, rfl⟩, hk⟩
theorem quiet_call {P : Program} {o : Oper} {a : Act} {C : World → Prop} {K : Act → Prop} {v : Value} {f : FuncId} {args : Array Value} (h : ∀ w, C w → (execOp a.eval o).run P w = .ok (.enter f args) w) (hc : ∀ w, C w → Calls P f args w fun e w' => e = .returned v ∧ C w') (hk : K (a.put o.dst v)) : o.quiet P a C K :=
  ⟨v, fun w hw => by unfold Oper.quietAt; rw [h w hw]; exact ⟨rfl, hc w hw⟩, hk⟩
theorem ev_below {w w2 : World} {O : Obj} (h : Below (w.heap.size + 1) (w.alloc O) w2) : Below w.heap.size w w2 :=
  ((Below.refl _ _).alloc (Nat.le_refl _) O).trans (h.mono (by omega))
theorem ev_held (w : World) (k o i q p c t : Int) (wh : ByteArray) (s : Int) (n : ByteArray) : ∃ E : World → Prop, E (w.alloc (.cells #[.int .i64 k, .int .i64 o, .int .i64 i, .int .i64 q, .int .i64 p, .int .i64 c, .int .i64 t, .string wh, .int .i64 s, .string n] 28)) ∧ E (w.alloc (.cells #[.int .i64 k, .int .i64 o, .int .i64 i, .int .i64 q, .int .i64 p, .int .i64 c, .int .i64 t, .string wh, .int .i64 s, .string n] 28)).drew ∧ (∀ w1 w2, E w1 → Below w1.heap.size w1 w2 → E w2) ∧ (∀ w2, E w2 → Below w.heap.size w w2) ∧ (∀ w2, E w2 → w.heap.size < w2.heap.size) ∧ (∀ w2, E w2 → w2.cell? ⟨w.heap.size, 0, none⟩ = some (.int .i64 k)) ∧ (∀ w2, E w2 → w2.cell? ⟨w.heap.size, 1, none⟩ = some (.int .i64 o)) ∧ (∀ w2, E w2 → w2.cell? ⟨w.heap.size, 2, none⟩ = some (.int .i64 i)) ∧ (∀ w2, E w2 → w2.cell? ⟨w.heap.size, 3, none⟩ = some (.int .i64 q)) ∧ (∀ w2, E w2 → w2.cell? ⟨w.heap.size, 4, none⟩ = some (.int .i64 p)) ∧ (∀ w2, E w2 → w2.cell? ⟨w.heap.size, 5, none⟩ = some (.int .i64 c)) ∧ (∀ w2, E w2 → w2.cell? ⟨w.heap.size, 6, none⟩ = some (.int .i64 t)) ∧ (∀ w2, E w2 → w2.cell? ⟨w.heap.size, 7, none⟩ = some (.string wh)) ∧ (∀ w2, E w2 → w2.cell? ⟨w.heap.size, 8, none⟩ = some (.int .i64 s)) ∧ (∀ w2, E w2 → w2.cell? ⟨w.heap.size, 9, none⟩ = some (.string n)) := by
  refine ⟨fun w2 => Below (w.heap.size + 1) (w.alloc (.cells #[.int .i64 k, .int .i64 o, .int .i64 i, .int .i64 q, .int .i64 p, .int .i64 c, .int .i64 t, .string wh, .int .i64 s, .string n] 28)) w2, Below.refl _ _, (Below.refl _ _).drew, fun w1 w2 h h2 => h.trans (h2.mono ?_), fun w2 h => ev_below h, fun w2 h => ?_, fun w2 h => ev_cell h 0 _ rfl, fun w2 h => ev_cell h 1 _ rfl, fun w2 h => ev_cell h 2 _ rfl, fun w2 h => ev_cell h 3 _ rfl, fun w2 h => ev_cell h 4 _ rfl, fun w2 h => ev_cell h 5 _ rfl, fun w2 h => ev_cell h 6 _ rfl, fun w2 h => ev_cell h 7 _ rfl, fun w2 h => ev_cell h 8 _ rfl, fun w2 h => ev_cell h 9 _ rfl⟩
  · have := h.size
    simpa using this
  · have := h.size
    simp at this
    omega
set_option maxRecDepth 20000 in
theorem v1_least (v : Array Value) (w : World) : Calls Tryz.prog 128 #[.agg v] w fun e w' => e = .returned (.int .i64 (-10000)) ∧ Below w.heap.size w w' := by
  go_enter Tryz.func128, Tryz.ntmps128
  go_wp2
  go_ret
  exact ⟨rfl, (Below.refl _ _).alloc (Nat.le_refl _) _⟩
set_option maxRecDepth 20000 in
theorem v3_least (v : Array Value) (w : World) : Calls Tryz.prog 136 #[.agg v] w fun e w' => e = .returned (.int .i64 (0)) ∧ Below w.heap.size w w' := by
  go_enter Tryz.func136, Tryz.ntmps136
  go_wp2
  go_ret
  exact ⟨rfl, (Below.refl _ _).alloc (Nat.le_refl _) _⟩
set_option maxRecDepth 20000 in
theorem v1_most (v : Array Value) (w : World) : Calls Tryz.prog 129 #[.agg v] w fun e w' => e = .returned (.int .i64 (1000000)) ∧ Below w.heap.size w w' := by
  go_enter Tryz.func129, Tryz.ntmps129
  go_wp2
  go_ret
  exact ⟨rfl, (Below.refl _ _).alloc (Nat.le_refl _) _⟩
set_option maxRecDepth 20000 in
theorem v2_most (v : Array Value) (w : World) : Calls Tryz.prog 133 #[.agg v] w fun e w' => e = .returned (.int .i64 (100000000)) ∧ Below w.heap.size w w' := by
  go_enter Tryz.func133, Tryz.ntmps133
  go_wp2
  go_ret
  exact ⟨rfl, (Below.refl _ _).alloc (Nat.le_refl _) _⟩
set_option maxRecDepth 20000 in
theorem v1_last (v : Array Value) (w : World) : Calls Tryz.prog 127 #[.agg v] w fun e w' => e = .returned (.int .i64 (5)) ∧ Below w.heap.size w w' := by
  go_enter Tryz.func127, Tryz.ntmps127
  go_wp2
  go_ret
  exact ⟨rfl, (Below.refl _ _).alloc (Nat.le_refl _) _⟩
set_option maxRecDepth 20000 in
theorem v3_last (v : Array Value) (w : World) : Calls Tryz.prog 135 #[.agg v] w fun e w' => e = .returned (.int .i64 (7)) ∧ Below w.heap.size w w' := by
  go_enter Tryz.func135, Tryz.ntmps135
  go_wp2
  go_ret
  exact ⟨rfl, (Below.refl _ _).alloc (Nat.le_refl _) _⟩
set_option maxRecDepth 20000 in
theorem v4_last (v : Array Value) (w : World) : Calls Tryz.prog 140 #[.agg v] w fun e w' => e = .returned (.int .i64 (9)) ∧ Below w.heap.size w w' := by
  go_enter Tryz.func140, Tryz.ntmps140
  go_wp2
  go_ret
  exact ⟨rfl, (Below.refl _ _).alloc (Nat.le_refl _) _⟩
set_option maxRecDepth 20000 in
theorem v5_last (v : Array Value) (w : World) : Calls Tryz.prog 142 #[.agg v] w fun e w' => e = .returned (.int .i64 (10)) ∧ Below w.heap.size w w' := by
  go_enter Tryz.func142, Tryz.ntmps142
  go_wp2
  go_ret
  exact ⟨rfl, (Below.refl _ _).alloc (Nat.le_refl _) _⟩
theorem m_least1 (w : World) : (method 269 123 (.agg #[.int .i64 0, .int .i64 0, .int .i64 0, .int .i64 0, .int .i64 0]) "daybook/schema.leastQty").run Tryz.prog w = .ok (128, .agg #[.int .i64 0, .int .i64 0, .int .i64 0, .int .i64 0, .int .i64 0]) w := by kernel_rfl
theorem m_least2 (w : World) : (method 269 125 (.agg #[.int .i64 0, .int .i64 0, .int .i64 0, .int .i64 0, .int .i64 0, .int .i64 0]) "daybook/schema.leastQty").run Tryz.prog w = .ok (128, .agg #[.int .i64 0, .int .i64 0, .int .i64 0, .int .i64 0, .int .i64 0]) w := by kernel_rfl
theorem m_least3 (w : World) : (method 269 127 (.agg #[.int .i64 0, .int .i64 0, .int .i64 0, .int .i64 0, .int .i64 0, .int .i64 0, .int .i64 0]) "daybook/schema.leastQty").run Tryz.prog w = .ok (136, .agg #[.int .i64 0, .int .i64 0, .int .i64 0, .int .i64 0, .int .i64 0, .int .i64 0, .int .i64 0]) w := by kernel_rfl
theorem m_least4 (w : World) : (method 269 129 (.agg #[.int .i64 0, .int .i64 0, .int .i64 0, .int .i64 0, .int .i64 0, .int .i64 0, .int .i64 0, .string ⟨#[]⟩]) "daybook/schema.leastQty").run Tryz.prog w = .ok (136, .agg #[.int .i64 0, .int .i64 0, .int .i64 0, .int .i64 0, .int .i64 0, .int .i64 0, .int .i64 0]) w := by kernel_rfl
theorem m_least5 (w : World) : (method 269 131 (.agg #[.int .i64 0, .int .i64 0, .int .i64 0, .int .i64 0, .int .i64 0, .int .i64 0, .int .i64 0, .string ⟨#[]⟩, .int .i64 0, .string ⟨#[]⟩]) "daybook/schema.leastQty").run Tryz.prog w = .ok (136, .agg #[.int .i64 0, .int .i64 0, .int .i64 0, .int .i64 0, .int .i64 0, .int .i64 0, .int .i64 0]) w := by kernel_rfl
theorem m_most1 (w : World) : (method 269 123 (.agg #[.int .i64 0, .int .i64 0, .int .i64 0, .int .i64 0, .int .i64 0]) "daybook/schema.mostPrice").run Tryz.prog w = .ok (129, .agg #[.int .i64 0, .int .i64 0, .int .i64 0, .int .i64 0, .int .i64 0]) w := by kernel_rfl
theorem m_most2 (w : World) : (method 269 125 (.agg #[.int .i64 0, .int .i64 0, .int .i64 0, .int .i64 0, .int .i64 0, .int .i64 0]) "daybook/schema.mostPrice").run Tryz.prog w = .ok (133, .agg #[.int .i64 0, .int .i64 0, .int .i64 0, .int .i64 0, .int .i64 0, .int .i64 0]) w := by kernel_rfl
theorem m_most3 (w : World) : (method 269 127 (.agg #[.int .i64 0, .int .i64 0, .int .i64 0, .int .i64 0, .int .i64 0, .int .i64 0, .int .i64 0]) "daybook/schema.mostPrice").run Tryz.prog w = .ok (133, .agg #[.int .i64 0, .int .i64 0, .int .i64 0, .int .i64 0, .int .i64 0, .int .i64 0]) w := by kernel_rfl
theorem m_most4 (w : World) : (method 269 129 (.agg #[.int .i64 0, .int .i64 0, .int .i64 0, .int .i64 0, .int .i64 0, .int .i64 0, .int .i64 0, .string ⟨#[]⟩]) "daybook/schema.mostPrice").run Tryz.prog w = .ok (133, .agg #[.int .i64 0, .int .i64 0, .int .i64 0, .int .i64 0, .int .i64 0, .int .i64 0]) w := by kernel_rfl
theorem m_most5 (w : World) : (method 269 131 (.agg #[.int .i64 0, .int .i64 0, .int .i64 0, .int .i64 0, .int .i64 0, .int .i64 0, .int .i64 0, .string ⟨#[]⟩, .int .i64 0, .string ⟨#[]⟩]) "daybook/schema.mostPrice").run Tryz.prog w = .ok (133, .agg #[.int .i64 0, .int .i64 0, .int .i64 0, .int .i64 0, .int .i64 0, .int .i64 0]) w := by kernel_rfl
theorem m_last1 (w : World) : (method 269 123 (.agg #[.int .i64 0, .int .i64 0, .int .i64 0, .int .i64 0, .int .i64 0]) "daybook/schema.lastKind").run Tryz.prog w = .ok (127, .agg #[.int .i64 0, .int .i64 0, .int .i64 0, .int .i64 0, .int .i64 0]) w := by kernel_rfl
theorem m_last2 (w : World) : (method 269 125 (.agg #[.int .i64 0, .int .i64 0, .int .i64 0, .int .i64 0, .int .i64 0, .int .i64 0]) "daybook/schema.lastKind").run Tryz.prog w = .ok (127, .agg #[.int .i64 0, .int .i64 0, .int .i64 0, .int .i64 0, .int .i64 0]) w := by kernel_rfl
theorem m_last3 (w : World) : (method 269 127 (.agg #[.int .i64 0, .int .i64 0, .int .i64 0, .int .i64 0, .int .i64 0, .int .i64 0, .int .i64 0]) "daybook/schema.lastKind").run Tryz.prog w = .ok (135, .agg #[.int .i64 0, .int .i64 0, .int .i64 0, .int .i64 0, .int .i64 0, .int .i64 0, .int .i64 0]) w := by kernel_rfl
theorem m_last4 (w : World) : (method 269 129 (.agg #[.int .i64 0, .int .i64 0, .int .i64 0, .int .i64 0, .int .i64 0, .int .i64 0, .int .i64 0, .string ⟨#[]⟩]) "daybook/schema.lastKind").run Tryz.prog w = .ok (140, .agg #[.int .i64 0, .int .i64 0, .int .i64 0, .int .i64 0, .int .i64 0, .int .i64 0, .int .i64 0, .string ⟨#[]⟩]) w := by kernel_rfl
theorem m_last5 (w : World) : (method 269 131 (.agg #[.int .i64 0, .int .i64 0, .int .i64 0, .int .i64 0, .int .i64 0, .int .i64 0, .int .i64 0, .string ⟨#[]⟩, .int .i64 0, .string ⟨#[]⟩]) "daybook/schema.lastKind").run Tryz.prog w = .ok (142, .agg #[.int .i64 0, .int .i64 0, .int .i64 0, .int .i64 0, .int .i64 0, .int .i64 0, .int .i64 0, .string ⟨#[]⟩, .int .i64 0, .string ⟨#[]⟩]) w := by kernel_rfl
def bnd (l m o i q p c t : Int) (wh : ByteArray) (s : Int) : Bool := wit 1 o 1099511627776 && (wit 0 i 65535 && (wit l q 10000 && (wit 0 p m && (wit 0 c 3 && (wit 0 t 5000 && (plainB wh.data.toList && wit 0 s 1099511627776))))))
end Go.Proofs.YtldbdhhbmnbmaaaGreat
namespace Go.Proofs.YtldbdhhbmnbmaaaGreat
open Go.ChangeShapes Go.WideShapes Go.ChangeAt Go.RowKit
theorem drewN_add (w : World) (a b : Nat) : (w.drewN a).drewN b = w.drewN (a + b) := by
  induction b with
  | zero => rfl
  | succ b ih => show ((w.drewN a).drewN b).drew = (w.drewN (a + b)).drew; rw [ih]
end Go.Proofs.YtldbdhhbmnbmaaaGreat
