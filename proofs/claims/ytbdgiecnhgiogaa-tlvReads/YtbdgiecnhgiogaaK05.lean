/- Own texts, joined: Gld, Tlf. -/
import Derived.Test.YtbdgiecnhgiogaaRows
import Derived.Test.YtbdgiecnhgiogaaK00
import Derived.Test.YtbdgiecnhgiogaaK04
namespace Go.Proofs.Ytbdgiecnhgiogaa
open Go.ChangeShapes Go.WideShapes Go.ChangeAt Go.RowKit
theorem guard_load {ops : Array Oper} {rest : List Oper} {a : Act} {w : World} {Q : Exit → Act → World → Prop} {dst : Option Tmp} {ty : TypeId} {pos : String} {after : Array Edge} {x : Operand} (t : TypeId)
    (h : wpList Try.prog ops Q (⟨dst, .load t x, ty, pos, after, none⟩ :: rest) a w) : wpList Try.prog ops Q (⟨dst, .load t x, ty, pos, after, none⟩ :: rest) a w := h
theorem guard_store {ops : Array Oper} {rest : List Oper} {a : Act} {w : World} {Q : Exit → Act → World → Prop} {dst : Option Tmp} {ty : TypeId} {pos : String} {after : Array Edge} {x y : Operand} (t : TypeId)
    (h : wpList Try.prog ops Q (⟨dst, .store t x y, ty, pos, after, none⟩ :: rest) a w) : wpList Try.prog ops Q (⟨dst, .store t x y, ty, pos, after, none⟩ :: rest) a w := h
end Go.Proofs.Ytbdgiecnhgiogaa
namespace Go.Proofs.Ytbdgiecnhgiogaa
open Go.ChangeShapes Go.WideShapes Go.ChangeAt Go.RowKit
set_option linter.unusedVariables false
/-- a field's value -/
abbrev FV (tag : Int) (text : Bool) (num : Nat) (bv : Value) : Value := .agg #[.int .i64 tag, .bool text, .int .u64 (num : Int), bv]
set_option maxRecDepth 20000 in
set_option maxHeartbeats 1000000 in
theorem check_any (f : Fld) (last : Int) (a : Option Addr) (cap : Nat) (w : World) (hn : f.num ≤ 18446744073709551615) :
    Calls Try.prog 41 #[FV f.tag f.text f.num (.slice a f.bytes.length cap), .int .i64 last] w fun r w' => r = .returned (.int .i64 (flt f last : Int)) ∧ Below w.heap.size w w' := by
  obtain ⟨tag, text, num, bytes⟩ := f
  simp only at hn ⊢
  obtain ⟨L, hL⟩ : ∃ L, bytes.length = L := ⟨_, rfl⟩
  rw [hL]
  by_cases c1 : tag < 1
  · have HF : Hid (flt ⟨tag, text, num, bytes⟩ last = 20) := by show _ = _; unfold flt; rw [if_pos (.inl c1)]
    go_enter Try.func41, Try.ntmps41
    go_wp2
    go_ret
    exact ⟨by rw [HF.out]; rfl, by first | exact (Below.refl _ _).alloc (Nat.le_refl _) _ | exact ((Below.refl _ _).alloc (Nat.le_refl _) _).alloc (by simp) _⟩
  by_cases c2 : 31 < tag
  · have HF : Hid (flt ⟨tag, text, num, bytes⟩ last = 20) := by show _ = _; unfold flt; rw [if_pos (.inr c2)]
    go_enter Try.func41, Try.ntmps41
    go_wp2
    go_ret
    exact ⟨by rw [HF.out]; rfl, by first | exact (Below.refl _ _).alloc (Nat.le_refl _) _ | exact ((Below.refl _ _).alloc (Nat.le_refl _) _).alloc (by simp) _⟩
  have c12 : ¬ (tag < 1 ∨ 31 < tag) := by omega
  by_cases c3 : tag ≤ last
  · have HF : Hid (flt ⟨tag, text, num, bytes⟩ last = 21) := by show _ = _; unfold flt; rw [if_neg c12, if_pos c3]
    go_enter Try.func41, Try.ntmps41
    go_wp2
    go_ret
    exact ⟨by rw [HF.out]; rfl, by first | exact (Below.refl _ _).alloc (Nat.le_refl _) _ | exact ((Below.refl _ _).alloc (Nat.le_refl _) _).alloc (by simp) _⟩
  cases text with
  | true =>
    by_cases c4 : L = 0
    · have HF : Hid (flt ⟨tag, true, num, bytes⟩ last = 22) := by show _ = _; unfold flt; rw [if_neg c12, if_neg c3, if_pos rfl, if_pos (List.length_eq_zero_iff.1 (hL.trans c4))]
      subst c4
      clear hL
      go_enter Try.func41, Try.ntmps41
      go_wp2
      go_ret
      exact ⟨by rw [HF.out]; rfl, by first | exact (Below.refl _ _).alloc (Nat.le_refl _) _ | exact ((Below.refl _ _).alloc (Nat.le_refl _) _).alloc (by simp) _⟩
    have c4' : bytes ≠ [] := by intro h; subst h; simp at hL; omega
    by_cases c5 : 200 < L
    · have HF : Hid (flt ⟨tag, true, num, bytes⟩ last = 23) := by show _ = _; unfold flt; rw [if_neg c12, if_neg c3, if_pos rfl, if_neg c4', if_pos (by rw [hL]; exact c5)]
      clear hL
      go_enter Try.func41, Try.ntmps41
      go_wp2
      go_ret
      exact ⟨by rw [HF.out]; rfl, by first | exact (Below.refl _ _).alloc (Nat.le_refl _) _ | exact ((Below.refl _ _).alloc (Nat.le_refl _) _).alloc (by simp) _⟩
    · have HF : Hid (flt ⟨tag, true, num, bytes⟩ last = 0) := by show _ = _; unfold flt; rw [if_neg c12, if_neg c3, if_pos rfl, if_neg c4', if_neg (by rw [hL]; exact c5)]
      clear hL
      go_enter Try.func41, Try.ntmps41
      go_wp2
      go_ret
      exact ⟨by rw [HF.out]; rfl, by first | exact (Below.refl _ _).alloc (Nat.le_refl _) _ | exact ((Below.refl _ _).alloc (Nat.le_refl _) _).alloc (by simp) _⟩
  | false =>
    by_cases c4 : num = 0
    · have HF : Hid (flt ⟨tag, false, num, bytes⟩ last = 22) := by show _ = _; unfold flt; rw [if_neg c12, if_neg c3, if_neg (by simp), if_pos c4]
      subst c4
      clear hL
      go_enter Try.func41, Try.ntmps41
      go_wp2
      go_ret
      exact ⟨by rw [HF.out]; rfl, by first | exact (Below.refl _ _).alloc (Nat.le_refl _) _ | exact ((Below.refl _ _).alloc (Nat.le_refl _) _).alloc (by simp) _⟩
    · have HF : Hid (flt ⟨tag, false, num, bytes⟩ last = 0) := by show _ = _; unfold flt; rw [if_neg c12, if_neg c3, if_neg (by simp), if_neg c4]
      clear hL
      go_enter Try.func41, Try.ntmps41
      go_wp2
      go_ret
      exact ⟨by rw [HF.out]; rfl, by first | exact (Below.refl _ _).alloc (Nat.le_refl _) _ | exact ((Below.refl _ _).alloc (Nat.le_refl _) _).alloc (by simp) _⟩
end Go.Proofs.Ytbdgiecnhgiogaa
