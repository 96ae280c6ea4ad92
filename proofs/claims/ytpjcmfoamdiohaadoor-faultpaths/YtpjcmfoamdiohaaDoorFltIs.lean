/- What errors.Is answers about a chain of faults that ends in a sentinel. -/
import Derived.Test.YtpjcmfoamdiohaaDoorFltA
import Derived.Deep.LoopGhost
import Derived.RowKitTokens
namespace Go.Proofs.YtpjcmfoamdiohaaDoor
open Go.ChangeShapes Go.WideShapes Go.ChangeAt Go.RowKit
open Go.Extern.Stop Go.Stop Go.Extern
set_option linter.unusedVariables false
/-- v is a chain of faults with these operations, from the outside to the inside, around the sentinel at a -/
def Ch (w : World) (a : Addr) : List ByteArray → Value → Prop
  | [], v => v = senV a
  | op :: ops, v => ∃ b at0 inner, v = fltV b ∧ FltAt w b op at0 inner ∧ Ch w a ops inner
theorem Ch.keep {w w' : World} {a : Addr} (hb : Below w.heap.size w w') : ∀ {ops : List ByteArray} {v : Value}, Ch w a ops v → Ch w' a ops v
  | [], _, h => h
  | _ :: _, _, ⟨b, at0, inner, h1, h2, h3⟩ => ⟨b, at0, inner, h1, h2.keep hb, Ch.keep hb h3⟩
theorem Ch.form {w : World} {a : Addr} : ∀ {ops : List ByteArray} {v : Value}, Ch w a ops v → (∃ b, v = fltV b) ∨ v = senV a
  | [], _, h => .inr h
  | _ :: _, _, ⟨b, _, _, h1, _, _⟩ => .inl ⟨b, h1⟩
theorem Ch.one {w : World} {a : Addr} {ops : List ByteArray} {v : Value} (h : Ch w a ops v) : v.oneCell' = true := by
  rcases h.form with ⟨b, rfl⟩ | rfl <;> rfl
/-! what the assertions of errors.is find -/
theorem Tryd.noIsF (v : Value) (xT : TypeId) (w : World) : (Instr.typeAssert (.iface 49 v) xT 67 true).run Tryd.prog w = .ok (.tuple #[.nilIface, .bool false]) w := run_typeAssert_lacksB Tryd.underlying67 (by kernel_rfl) (by kernel_rfl) v xT w
theorem Tryd.noIsE (v : Value) (xT : TypeId) (w : World) : (Instr.typeAssert (.iface 59 v) xT 67 true).run Tryd.prog w = .ok (.tuple #[.nilIface, .bool false]) w := run_typeAssert_lacksB Tryd.underlying67 (by kernel_rfl) (by kernel_rfl) v xT w
theorem Tryd.noUnwsE (v : Value) (xT : TypeId) (w : World) : (Instr.typeAssert (.iface 59 v) xT 70 true).run Tryd.prog w = .ok (.tuple #[.nilIface, .bool false]) w := run_typeAssert_lacksB Tryd.underlying70 (by kernel_rfl) (by kernel_rfl) v xT w
set_option maxRecDepth 100000 in
set_option maxHeartbeats 4000000 in
theorem is_ch (a t : Addr) (ops : List ByteArray) (v : Value) (w : World) (hc : Ch w a ops v) (heq : (binOp .eql 30 (senV a) (senV t)).run Tryd.prog w = .ok (.bool (decide (a = t))) w) :
    Calls Tryd.prog 21 #[v, senV t, .bool true] w fun r w' => r = .returned (.bool (decide (a = t))) ∧ w = w' := by
  have HC : Hid (Ch w a ops v) := hc
  have hq := eq_flt_sen
  have n1 := Tryd.noIsF
  have n2 := Tryd.noIsE
  have n3 := Tryd.noUnwsE
  have n4 := Tryd.hasUnwF
  have n5 := Tryd.noUnwE
  have hm := m_unw
  obtain ⟨D, hD⟩ : ∃ D, decide (a = t) = D := ⟨_, rfl⟩
  rw [hD] at heq ⊢
  clear hc hD
  go_enter Tryd.func21, Tryd.ntmps21
  go_wp2
  go_loopg [0] ops.length (fun k ve wr => w = wr ∧ ∃ o2, o2.length = k ∧ Ch w a o2 ve)
  case atStart => exact ⟨rfl, ops, rfl, HC.out⟩
  case round =>
    obtain ⟨rfl, o2, hk, hch⟩ := hrel
    have HK : Hid (o2.length = gk) := hk
    clear hk HC
    cases o2 with
    | nil =>
      have hv : u0 = senV a := hch
      subst hv
      cases D
      · go_wp2
        go_ret
        exact ⟨rfl, rfl⟩
      · go_wp2
        go_ret
        exact ⟨rfl, rfl⟩
    | cons op o3 =>
      obtain ⟨b, at0, inner, rfl, hf, h3⟩ := hch
      have HF : Hid (FltAt w b op at0 inner) := hf
      have H3 : Hid (Ch w a o3 inner) := h3
      have hin := h3.form
      clear hf h3
      rcases hin with ⟨b2, rfl⟩ | rfl
      · go_wp2_with (go_at_call 54; refine (funwrap_any b op at0 _ _ HF.out rfl).mono ?_; rintro r w1 ⟨rfl, rfl⟩)
        go_roundg o3.length
        case rel => exact ⟨rfl, o3, rfl, H3.out⟩
        case measure => have := HK.out; simp at this; omega
      · go_wp2_with (go_at_call 54; refine (funwrap_any b op at0 _ _ HF.out rfl).mono ?_; rintro r w1 ⟨rfl, rfl⟩)
        go_roundg o3.length
        case rel => exact ⟨rfl, o3, rfl, H3.out⟩
        case measure => have := HK.out; simp at this; omega
theorem Tryd.callTypeOf (v : Value) (w : World) : (callFunc 20 #[.iface 59 v]).run Tryd.prog w = .ok (.value (.iface 65 (.agg #[.pointer (some ⟨46, 59, none⟩)]))) w := by kernel_rfl
theorem Tryd.callComparable (w : World) : (callFunc 79 #[.agg #[.pointer (some ⟨46, 59, none⟩)]]).run Tryd.prog w = .ok (.value (.bool true)) w := by kernel_rfl
theorem Tryd.isMethodComparable (v : Value) (w : World) : (Go.method 244 65 v "Comparable").run Tryd.prog w = .ok (79, v) w := by kernel_rfl
set_option maxRecDepth 100000 in
set_option maxHeartbeats 4000000 in
theorem eis_ch (a t : Addr) (ops : List ByteArray) (v : Value) (w : World) (hc : Ch w a ops v) (heq : (binOp .eql 30 (senV a) (senV t)).run Tryd.prog w = .ok (.bool (decide (a = t))) w) :
    Calls Tryd.prog 10 #[v, senV t] w fun r w' => r = .returned (.bool (decide (a = t))) ∧ w = w' := by
  have tT := Tryd.callTypeOf
  have cT := Tryd.callComparable
  have mR := Tryd.isMethodComparable
  have HC : Hid (Ch w a ops v) := hc
  have HQ : Hid (_ = _) := heq
  have hin := hc.form
  clear hc heq
  rcases hin with ⟨b2, rfl⟩ | rfl
  · go_enter Tryd.func10, Tryd.ntmps10
    go_wp2_with (go_at_call 21; refine (is_ch a t ops _ w HC.out HQ.out).mono ?_; rintro r w1 ⟨rfl, rfl⟩)
    go_ret
    exact ⟨rfl, rfl⟩
  · go_enter Tryd.func10, Tryd.ntmps10
    go_wp2_with (go_at_call 21; refine (is_ch a t ops _ w HC.out HQ.out).mono ?_; rintro r w1 ⟨rfl, rfl⟩)
    go_ret
    exact ⟨rfl, rfl⟩
end Go.Proofs.YtpjcmfoamdiohaaDoor
