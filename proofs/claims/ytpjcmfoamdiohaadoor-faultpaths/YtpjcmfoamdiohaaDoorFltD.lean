/- Code at a chain around a sentinel, and at an error of another make; errors.New; the laws' head. -/
import Derived.Test.YtpjcmfoamdiohaaDoorFltC
namespace Go.Proofs.YtpjcmfoamdiohaaDoor
open Go.ChangeShapes Go.WideShapes Go.ChangeAt Go.RowKit
set_option linter.unusedVariables false
theorem code_sen (pa : Nat → Addr) (k : Nat) (hk : k < 42) (ops : List ByteArray) (v : Value) (w : World) (hs : Sen w pa) (hc : Ch w (pa k) ops v) :
    Calls Tryd.prog 17 #[v] w fun r w' => r = .returned (.int .i64 (numS k)) ∧ Below w.heap.size w w' := by
  refine (code_any pa (pa k) ops v w hs hc (fun m hm w' hb => sen_eq (hs.keep hb) k m hk hm)).mono ?_
  rintro r w' ⟨N, rfl, hN, hb⟩
  rcases hN with ⟨m, hm, he, rfl⟩ | ⟨hno, _⟩
  · rw [hs.inj k m hk hm he]; exact ⟨rfl, hb⟩
  · exact absurd rfl (hno k hk)
theorem code_other (pa : Nat → Addr) (b : Nat) (w : World) (hs : Sen w pa) (hb : ∀ k, k < 42 → (pa k).block ≠ b) (hrow : ∃ c t, w.heap[b]? = some (.cells c t (0, 0))) :
    Calls Tryd.prog 17 #[senV ⟨b, 0, none⟩] w fun r w' => r = .returned (.int .i64 1) ∧ Below w.heap.size w w' := by
  have hne : ∀ k, k < 42 → (⟨b, 0, none⟩ : Addr) ≠ pa k := fun k hk h => hb k hk (by rw [← h])
  have hlt : b < w.heap.size := by
    obtain ⟨c, t, h⟩ := hrow
    by_cases hh : b < w.heap.size
    · exact hh
    · rw [Array.getElem?_eq_none (by omega)] at h; cases h
  refine (code_any pa ⟨b, 0, none⟩ [] _ w hs rfl (fun m hm w' hbw => ?_)).mono ?_
  · rw [decide_eq_false (hne m hm)]
    obtain ⟨c, t, h⟩ := hrow
    exact eq_sen_other (hne m hm) ⟨c, t, (hbw.block b hlt).trans h⟩ ((hs.keep hbw).blk m hm)
  · rintro r w' ⟨N, rfl, hN, hb2⟩
    rcases hN with ⟨m, hm, he, rfl⟩ | ⟨_, rfl⟩
    · exact absurd he (hne m hm)
    · exact ⟨rfl, hb2⟩
set_option maxRecDepth 100000 in
set_option maxHeartbeats 4000000 in
theorem enew_any (own : ByteArray) (w : World) :
    Calls Tryd.prog 18 #[.string own] w fun r w' => r = .returned (senV ⟨w.heap.size, 0, none⟩) ∧ (∃ c t, w'.heap[w.heap.size]? = some (.cells c t (0, 0))) ∧ Below w.heap.size w w' := by
  go_enter Tryd.func18, Tryd.ntmps18
  go_wp2
  go_ret
  refine ⟨rfl, ⟨#[.string own], 61, ?_⟩, (Below.refl _ _).alloc (Nat.le_refl _) _⟩
  simp only [World.alloc, Array.getElem?_push]
  rw [if_pos trivial]
theorem full_name : NameIs 54 (txtS 21) := .inr (.inl ⟨21, by omega, rfl, rfl⟩)
set_option maxRecDepth 100000 in
set_option maxHeartbeats 4000000 in
theorem head01_any (pa : Nat → Addr) (w : World) (hs : Sen w pa) : Calls Tryd.prog 16 #[] w fun r w' => r = .returned (.bool true) ∧ Below w.heap.size w w' := by
  have HS : Hid (Sen w pa) := hs
  clear hs
  go_enter Tryd.func16, Tryd.ntmps16
  go_wp2_with (go_at_call 8; refine (name_any pa 54 w HS.out).mono ?_; rintro r w1 ⟨s1, rfl, hn1, hb1⟩; have HB1 : Hid (Below w.heap.size w w1) := hb1; (obtain rfl := hn1.one full_name); clear hb1 hn1)
  go_ret
  exact ⟨ret_bool (by rw [ByteArray.toList_eq]; rfl), HB1.out⟩
end Go.Proofs.YtpjcmfoamdiohaaDoor
