/- What varint.Size and varint.Encode answer. -/
import Derived.Test.YtaegmeilhdbnnaaDoorEncS
namespace Go.Proofs.YtaegmeilhdbnnaaDoor
open Go.ChangeShapes Go.WideShapes Go.ChangeAt Go.RowKit
set_option maxHeartbeats 400000 in
theorem encode_any (u : Nat) (w : World) (hu : u ≤ 18446744073709551615) :
    Calls Tryd.prog 63 #[.int .u64 u] w fun e w' => ∃ v, e = .returned v ∧ Own w' w.heap.size v (enc u) ∧ Below w.heap.size w w' := by
  obtain ⟨i0, hi, hz0, hz1, hz2⟩ := info_parts Tryd.info5
  have hl := enc_length_le u hu
  obtain ⟨hl1, hl2⟩ := hl
  have HB : Hid (∀ i, (enc u).getD i 0 < 256) := enc_byte u hu
  generalize hE : enc u = l at *
  have HE : Hid (_ = _) := hE
  clear hE
  have hl3 : l.length ≤ maxLen := by unfold maxLen; omega
  go_enter Tryd.func63, Tryd.ntmps63
  go_wp2_with (first
    | (go_at_call 86; refine (size_any u _ hu).mono ?_; rw [HE.out]; rintro e w' ⟨rfl, rfl⟩)
    | (at_make; refine wpList_make_own _ rfl _ _ 22 rfl w.heap.size 5 i0 (.int .u8 0) 1 Tryd.underlying22 hi hz0 hz1 _ _ _ l.length rfl rfl rfl (by rw [hz2]; omega) hl3 (Nat.le_refl _) ?_))
  intro w1 ho hg
  have hb1 : Below w.heap.size w w1 := (Below.refl _ _).grown hg (Nat.le_refl _) (fun k hk => by cases hk)
  have hs1 := hb1.size
  clear hg
  go_wp2_with (go_at_call 85; refine (put_any u w.heap.size _ _ _ _ hu ho hs1 (by omega)).mono ?_; rw [HE.out, Nat.zero_add, List.nil_append]; rintro e w2 ⟨v, rfl, ho2, hb2⟩)
  go_ret
  exact ⟨v, rfl, ⟨HB.out, ho2⟩, hb1.trans hb2⟩
end Go.Proofs.YtaegmeilhdbnnaaDoor
