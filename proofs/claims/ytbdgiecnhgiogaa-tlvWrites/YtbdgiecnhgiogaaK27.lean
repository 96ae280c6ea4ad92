/- Own texts, joined: Tlen. -/
import Derived.Test.YtbdgiecnhgiogaaK13
import Derived.Test.YtbdgiecnhgiogaaK26
namespace Go.Proofs.Ytbdgiecnhgiogaa
open Go.ChangeShapes Go.WideShapes Go.ChangeAt Go.RowKit
set_option linter.unusedVariables false
set_option maxRecDepth 20000 in
set_option maxHeartbeats 1000000 in
theorem rfault_any (f : Fld) (last : Int) (a : Option Addr) (cap : Nat) (w : World) (hn : f.num ≤ 18446744073709551615) :
    Calls Try.prog 16 #[FV f.tag f.text f.num (.slice a f.bytes.length cap), .int .i64 last] w fun r w' => r = .returned (.int .i64 (flt f last : Int)) ∧ Below w.heap.size w w' := by
  obtain ⟨tag, text, num, bytes⟩ := f
  simp only at hn ⊢
  obtain ⟨L, hL⟩ : ∃ L, bytes.length = L := ⟨_, rfl⟩
  rw [hL]
  by_cases c1 : tag < 1
  · have HF : Hid (flt ⟨tag, text, num, bytes⟩ last = 20) := by show _ = _; unfold flt; rw [if_pos (.inl c1)]
    go_enter Try.func16, Try.ntmps16
    go_wp2
    go_ret
    exact ⟨by rw [HF.out]; rfl, (Below.refl _ _).alloc (Nat.le_refl _) _⟩
  by_cases c2 : 31 < tag
  · have HF : Hid (flt ⟨tag, text, num, bytes⟩ last = 20) := by show _ = _; unfold flt; rw [if_pos (.inr c2)]
    go_enter Try.func16, Try.ntmps16
    go_wp2
    go_ret
    exact ⟨by rw [HF.out]; rfl, (Below.refl _ _).alloc (Nat.le_refl _) _⟩
  have c12 : ¬ (tag < 1 ∨ 31 < tag) := by omega
  by_cases c3 : tag ≤ last
  · have HF : Hid (flt ⟨tag, text, num, bytes⟩ last = 21) := by show _ = _; unfold flt; rw [if_neg c12, if_pos c3]
    go_enter Try.func16, Try.ntmps16
    go_wp2
    go_ret
    exact ⟨by rw [HF.out]; rfl, (Below.refl _ _).alloc (Nat.le_refl _) _⟩
  cases text with
  | true =>
    by_cases c4 : L = 0
    · have HF : Hid (flt ⟨tag, true, num, bytes⟩ last = 22) := by show _ = _; unfold flt; rw [if_neg c12, if_neg c3, if_pos rfl, if_pos (List.length_eq_zero_iff.1 (hL.trans c4))]
      subst c4
      clear hL
      go_enter Try.func16, Try.ntmps16
      go_wp2
      go_ret
      exact ⟨by rw [HF.out]; rfl, (Below.refl _ _).alloc (Nat.le_refl _) _⟩
    have c4' : bytes ≠ [] := by intro h; subst h; simp at hL; omega
    by_cases c5 : 200 < L
    · have HF : Hid (flt ⟨tag, true, num, bytes⟩ last = 23) := by show _ = _; unfold flt; rw [if_neg c12, if_neg c3, if_pos rfl, if_neg c4', if_pos (by rw [hL]; exact c5)]
      clear hL
      go_enter Try.func16, Try.ntmps16
      go_wp2
      go_ret
      exact ⟨by rw [HF.out]; rfl, (Below.refl _ _).alloc (Nat.le_refl _) _⟩
    · have HF : Hid (flt ⟨tag, true, num, bytes⟩ last = 0) := by show _ = _; unfold flt; rw [if_neg c12, if_neg c3, if_pos rfl, if_neg c4', if_neg (by rw [hL]; exact c5)]
      clear hL
      go_enter Try.func16, Try.ntmps16
      go_wp2
      go_ret
      exact ⟨by rw [HF.out]; rfl, (Below.refl _ _).alloc (Nat.le_refl _) _⟩
  | false =>
    by_cases c4 : num = 0
    · have HF : Hid (flt ⟨tag, false, num, bytes⟩ last = 22) := by show _ = _; unfold flt; rw [if_neg c12, if_neg c3, if_neg (by simp), if_pos c4]
      subst c4
      clear hL
      go_enter Try.func16, Try.ntmps16
      go_wp2
      go_ret
      exact ⟨by rw [HF.out]; rfl, (Below.refl _ _).alloc (Nat.le_refl _) _⟩
    · have HF : Hid (flt ⟨tag, false, num, bytes⟩ last = 0) := by show _ = _; unfold flt; rw [if_neg c12, if_neg c3, if_neg (by simp), if_neg c4]
      clear hL
      go_enter Try.func16, Try.ntmps16
      go_wp2
      go_ret
      exact ⟨by rw [HF.out]; rfl, (Below.refl _ _).alloc (Nat.le_refl _) _⟩
theorem rencode_at (x : Int) (u : Nat) (hx : x = u) (w : World) (hu : u ≤ 18446744073709551615) :
    Calls Try.prog 44 #[.int .u64 x] w fun e w' => ∃ v, e = .returned v ∧ Own w' w.heap.size v (enc u) ∧ Below w.heap.size w w' := by
  subst hx
  exact renc_any 9 u w hu (lt_pow10 u hu)
end Go.Proofs.Ytbdgiecnhgiogaa
