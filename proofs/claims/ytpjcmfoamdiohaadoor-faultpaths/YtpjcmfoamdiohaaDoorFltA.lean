/- What fault.New, Wrap, Unwrap and errors.Unwrap answer. -/
import Derived.Test.YtpjcmfoamdiohaaDoorSenB
import Derived.LaidEql
import Derived.Stop.Asserts
namespace Go.Proofs.YtpjcmfoamdiohaaDoor
open Go.ChangeShapes Go.WideShapes Go.ChangeAt Go.RowKit
set_option linter.unusedVariables false
/-- a fault lies in block b -/
def FltAt (w : World) (b : Nat) (op : ByteArray) (at0 : Int) (inner : Value) : Prop := w.heap[b]? = some (.cells #[.string op, .int .i64 at0, inner] 51)
theorem FltAt.lt {w : World} {b : Nat} {op : ByteArray} {at0 : Int} {inner : Value} (h : FltAt w b op at0 inner) : b < w.heap.size := by
  by_cases hh : b < w.heap.size
  · exact hh
  · unfold FltAt at h; rw [Array.getElem?_eq_none (by omega)] at h; cases h
theorem FltAt.keep {w w' : World} {b : Nat} {op : ByteArray} {at0 : Int} {inner : Value} (h : FltAt w b op at0 inner) (hb : Below w.heap.size w w') : FltAt w' b op at0 inner := (hb.block b h.lt).trans h
theorem FltAt.inner {w : World} {b : Nat} {op : ByteArray} {at0 : Int} {inner : Value} (h : FltAt w b op at0 inner) : w.cell? ⟨b, 2, none⟩ = some inner := by
  rw [cell_of_row w b 2 _ _ _ h]; rfl
theorem FltAt.op {w : World} {b : Nat} {op : ByteArray} {at0 : Int} {inner : Value} (h : FltAt w b op at0 inner) : w.cell? ⟨b, 0, none⟩ = some (.string op) := by
  rw [cell_of_row w b 0 _ _ _ h]; rfl
theorem FltAt.new (w : World) (op : ByteArray) (at0 : Int) (inner : Value) : FltAt (w.alloc (.cells #[.string op, .int .i64 at0, inner] 51)) w.heap.size op at0 inner := by
  unfold FltAt; simp only [World.alloc, Array.getElem?_push]; rw [if_pos trivial]
/-- the value of a pointer to a fault, as an error -/
abbrev fltV (b : Nat) : Value := .iface 49 (.pointer (some ⟨b, 0, none⟩))
abbrev senV (a : Addr) : Value := .iface 59 (.pointer (some a))
set_option maxRecDepth 100000 in
set_option maxHeartbeats 4000000 in
theorem new_any (pa : Nat → Addr) (op : ByteArray) (at0 e : Int) (w : World) (hs : Sen w pa) :
    Calls Tryd.prog 11 #[.string op, .int .i64 at0, .int .i64 e] w fun r w' => ((∃ k b, k < 42 ∧ numS k = e ∧ r = .returned (fltV b) ∧ w.heap.size ≤ b ∧ FltAt w' b op at0 (senV (pa k))) ∨ ((∀ k, k < 42 → numS k ≠ e) ∧ r = .returned .nilIface)) ∧ Below w.heap.size w w' := by
  have HS : Hid (Sen w pa) := hs
  clear hs
  go_enter Tryd.func11, Tryd.ntmps11
  go_wp2_with (go_at_call 12; refine (sentinel_any pa e w HS.out).mono ?_; rintro r w1 ⟨hr, hb1⟩; have HB : Hid (Below w.heap.size w w1) := hb1; clear hb1; rcases hr with ⟨k, hk, hke, rfl⟩ | ⟨hno, rfl⟩)
  · go_ret
    exact ⟨.inl ⟨k, w1.heap.size, hk, hke, rfl, HB.out.size, FltAt.new _ _ _ _⟩, HB.out.alloc HB.out.size _⟩
  · go_ret
    exact ⟨.inr ⟨hno, rfl⟩, HB.out⟩
set_option maxRecDepth 100000 in
set_option maxHeartbeats 4000000 in
theorem wrap_nil (op : ByteArray) (w : World) : Calls Tryd.prog 14 #[.string op, .nilIface] w fun r w' => r = .returned .nilIface ∧ w = w' := by
  go_enter Tryd.func14, Tryd.ntmps14
  go_wp2
  go_ret
  exact ⟨rfl, rfl⟩
set_option maxRecDepth 100000 in
set_option maxHeartbeats 4000000 in
theorem wrap_flt (op : ByteArray) (b : Nat) (w : World) : Calls Tryd.prog 14 #[.string op, fltV b] w fun r w' => ∃ c, r = .returned (fltV c) ∧ w.heap.size ≤ c ∧ FltAt w' c op (-1) (fltV b) ∧ Below w.heap.size w w' := by
  go_enter Tryd.func14, Tryd.ntmps14
  go_wp2
  go_ret
  exact ⟨w.heap.size, rfl, Nat.le_refl _, FltAt.new _ _ _ _, (Below.refl _ _).alloc (Nat.le_refl _) _⟩
set_option maxRecDepth 100000 in
set_option maxHeartbeats 4000000 in
theorem funwrap_any (b : Nat) (op : ByteArray) (at0 : Int) (inner : Value) (w : World) (h : FltAt w b op at0 inner) (h1 : inner.oneCell' = true) :
    Calls Tryd.prog 54 #[.pointer (some ⟨b, 0, none⟩)] w fun r w' => r = .returned inner ∧ w = w' := by
  have hc := h.inner
  clear h
  go_enter Tryd.func54, Tryd.ntmps54
  go_wp2
  go_ret
  exact ⟨rfl, rfl⟩
theorem m_unw (a : Addr) (w : World) : (method 244 49 (.pointer (some a)) "Unwrap").run Tryd.prog w = .ok (54, .pointer (some a)) w := by kernel_rfl
open Go.Extern.Stop Go.Stop Go.Extern
/-! what the assertions find -/
theorem Tryd.hasUnwF (v : Value) (xT : TypeId) (w : World) : (Instr.typeAssert (.iface 49 v) xT 56 true).run Tryd.prog w = .ok (.tuple #[.iface 49 v, .bool true]) w := run_typeAssert_hasB Tryd.underlying56 (by kernel_rfl) v xT w
theorem Tryd.noUnwE (v : Value) (xT : TypeId) (w : World) : (Instr.typeAssert (.iface 59 v) xT 56 true).run Tryd.prog w = .ok (.tuple #[.nilIface, .bool false]) w := run_typeAssert_lacksB Tryd.underlying56 (by kernel_rfl) (by kernel_rfl) v xT w
theorem Tryd.compE : (Tryd.prog.info? 59).map (·.comparable) = some true := by kernel_rfl
theorem Tryd.sizeE : (Tryd.prog.info? 61).map (·.size) = some 1 := by kernel_rfl
theorem Tryd.compF : (Tryd.prog.info? 49).map (·.comparable) = some true := by kernel_rfl
theorem Tryd.sizeF : (Tryd.prog.info? 51).map (·.size) = some 3 := by kernel_rfl
/-! '==' between errors -/
theorem eq_sen_same (a : Addr) (w : World) : (binOp .eql 30 (senV a) (senV a)).run Tryd.prog w = .ok (.bool true) w := by
  obtain ⟨i, hi, hcmp⟩ := Option.map_eq_some_iff.1 Tryd.compE
  obtain ⟨j, hj, hjs⟩ := Option.map_eq_some_iff.1 Tryd.sizeE
  exact run_eql_iface_ptr_same w a Tryd.underlying30 Tryd.underlying59 hi hcmp hj
theorem eq_sen_other {a b : Addr} {w : World} (hne : a ≠ b) (ha : ∃ c t, w.heap[a.block]? = some (.cells c t (0, 0))) (hb : ∃ c t, w.heap[b.block]? = some (.cells c t (0, 0))) : (binOp .eql 30 (senV a) (senV b)).run Tryd.prog w = .ok (.bool false) w := by
  obtain ⟨i, hi, hcmp⟩ := Option.map_eq_some_iff.1 Tryd.compE
  obtain ⟨j, hj, hjs⟩ := Option.map_eq_some_iff.1 Tryd.sizeE
  obtain ⟨ca, ta, ha⟩ := ha
  obtain ⟨cb, tb, hb⟩ := hb
  exact run_eql_iface_ptr_other w Tryd.underlying30 Tryd.underlying59 hi hcmp hj (by rw [hjs]; decide) hne ha hb
theorem eq_flt_same (b : Nat) (w : World) : (binOp .eql 30 (fltV b) (fltV b)).run Tryd.prog w = .ok (.bool true) w := by
  obtain ⟨i, hi, hcmp⟩ := Option.map_eq_some_iff.1 Tryd.compF
  obtain ⟨j, hj, hjs⟩ := Option.map_eq_some_iff.1 Tryd.sizeF
  exact run_eql_iface_ptr_same w ⟨b, 0, none⟩ Tryd.underlying30 Tryd.underlying49 hi hcmp hj
theorem eq_flt_sen (b : Nat) (a : Addr) (w : World) : (binOp .eql 30 (fltV b) (senV a)).run Tryd.prog w = .ok (.bool false) w :=
  run_eql_iface_types (P := Tryd.prog) 49 59 (.pointer (some ⟨b, 0, none⟩)) (.pointer (some a)) Tryd.underlying30 (by decide) w
theorem neq_sen_same (a : Addr) (w : World) : (binOp .neq 30 (senV a) (senV a)).run Tryd.prog w = .ok (.bool false) w := by
  obtain ⟨i, hi, hcmp⟩ := Option.map_eq_some_iff.1 Tryd.compE
  obtain ⟨j, hj, hjs⟩ := Option.map_eq_some_iff.1 Tryd.sizeE
  simp only [binOp]
  simp [Op.equal, Op.maxDepth, run_equalIn_iface_ptr_same w 9998 a Tryd.underlying30 Tryd.underlying59 hi hcmp hj]
set_option maxRecDepth 100000 in
set_option maxHeartbeats 4000000 in
theorem eunwrap_flt (b : Nat) (op : ByteArray) (at0 : Int) (inner : Value) (w : World) (h : FltAt w b op at0 inner) (h1 : inner.oneCell' = true) :
    Calls Tryd.prog 15 #[fltV b] w fun r w' => r = .returned inner ∧ w = w' := by
  have hm := m_unw
  have ha := Tryd.hasUnwF
  have HF : Hid (FltAt w b op at0 inner) := h
  clear h
  go_enter Tryd.func15, Tryd.ntmps15
  go_wp2_with (go_at_call 54; refine (funwrap_any b op at0 inner w HF.out h1).mono ?_; rintro r w1 ⟨rfl, rfl⟩)
  go_ret
  exact ⟨rfl, rfl⟩
end Go.Proofs.YtpjcmfoamdiohaaDoor
