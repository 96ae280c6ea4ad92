/- What daybookref02.Copy answers. -/
import Derived.Test.YtpjikkhcimghaaaDoorRows
import Derived.Test.YtpjikkhcimghaaaDoorAid
namespace Go.Proofs.YtpjikkhcimghaaaDoor
open Go.ChangeShapes Go.WideShapes Go.ChangeAt Go.RowKit
theorem copy_step (l : List Nat) (k n : Nat) (hn : n = l.length) (h : k < l.length) :
    (B8 (l.take k) ++ List.replicate (n - k) (Value.int .u8 0)).set k (.int .u8 (l.getD k 0 : Nat)) = B8 (l.take (k + 1)) ++ List.replicate (n - (k + 1)) (Value.int .u8 0) := by
  subst hn
  have h1 : (B8 (l.take k)).length = k := by simp [B8]; omega
  rw [show l.length - k = (l.length - (k + 1)) + 1 from by omega, List.replicate_succ]
  rw [List.set_append, if_neg (by omega), h1, Nat.sub_self, List.set_cons_zero]
  rw [List.take_succ_eq_append_getElem h, B8_append, List.append_assoc]
  simp [B8, List.getD_eq_getElem?_getD, h]
theorem Tryd.info5c : (Tryd.prog.info? 5).map (fun i => (i.zero, i.size, i.bytes)) = some (some (.int .u8 0), 1, 1) := by kernel_rfl
set_option maxRecDepth 20000 in
set_option maxHeartbeats 1000000 in
theorem copy_any (l : List Nat) (a : Option Addr) (cap : Nat) (w : World) (hb : Bytes w a l) (hl : l.length ≤ 281474976710656) :
    Calls Tryd.prog 7 #[.slice a l.length cap] w fun e w' => ∃ v, e = .returned v ∧ Own w' w.heap.size v l ∧ Below w.heap.size w w' := by
  obtain ⟨i0, hi, hz0, hz1, hz2⟩ := info_parts Tryd.info5c
  have hl3 : l.length ≤ maxLen := by unfold maxLen; omega
  obtain ⟨hy, hb⟩ := hb
  have HY : Hid (∀ i, l.getD i 0 < 256) := hy
  go_enter Tryd.func7, Tryd.ntmps7
  go_wp2_with (at_make; refine wpList_make_full _ rfl _ _ 22 rfl w.heap.size 5 i0 (.int .u8 0) 1 Tryd.underlying22 hi hz0 hz1 _ _ _ _ l.length rfl rfl rfl rfl (by rw [hz2]; omega) hl3 (Nat.le_refl _) ?_)
  intro w1 ho hg
  have hb1 : Below w.heap.size w w1 := (Below.refl _ _).grown hg (Nat.le_refl _) (fun k hk => by cases hk)
  clear hg
  have ho1 : w1.ownsRow w.heap.size 5 1 (.slice (some ⟨w.heap.size, 0, none⟩) l.length l.length) l.length (B8 (l.take 0) ++ List.replicate (l.length - 0) (Value.int .u8 0)) := by
    have h := ho
    rw [toList_madeCells_one] at h
    simpa [B8] using h
  clear ho
  rcases hb with rfl | ⟨b, off, rfl, hlt, hc⟩
  · go_wp2
    refine wp_loop_rounds 1 ?_
    rw [rounds_succ]
    go_wp2
    go_ret
    exact ⟨_, rfl, ⟨HY.out, ho1⟩, hb1⟩
  · go_wp2
    go_loopw [10] (fun i wr => ∃ k : Nat, k ≤ l.length ∧ i = .int .i64 k ∧ wr.ownsRow w.heap.size 5 1 (.slice (some ⟨w.heap.size, 0, none⟩) l.length l.length) l.length (B8 (l.take k) ++ List.replicate (l.length - k) (Value.int .u8 0)) ∧ Below w.heap.size w wr) (fun i _ => l.length - (intOf i).toNat)
    case atStart => exact ⟨0, Nat.zero_le _, rfl, ho1, hb1⟩
    case round =>
      obtain ⟨k, hk, rfl, ho, hbe⟩ := hrel
      by_cases hkl : k < l.length
      · have e1 := hc k hkl
        rw [← hbe.cell (p := ⟨b, off + k, none⟩) hlt] at e1
        have hst := ho.stored k (.int .u8 (l.getD k 0 : Nat))
        rw [copy_step l k _ rfl hkl] at hst
        have e2 := ho.cellAt k (by omega)
        have e3 := ho.frozenAt k
        obtain ⟨z, hz⟩ : ∃ z, wr.cell? ⟨w.heap.size, k, none⟩ = some z := by
          rw [e2]
          exact ⟨_, List.getElem?_eq_getElem (by rw [List.length_append, List.length_replicate]; simp [B8]; omega)⟩
        have hb2 := hbe.grown hst.2 (by have := hbe.size; omega) (fun j hj => by cases hj; exact Nat.le_refl _)
        have HS : Hid (_ ∧ _) := ⟨hst.1, hb2⟩
        clear e2 hst hb2 ho hbe hc hy ho1 hb1
        obtain ⟨x, hx⟩ : ∃ x, x = l.getD k 0 := ⟨_, rfl⟩
        rw [← hx] at e1 HS
        clear hx
        go_wp2
        go_roundw
        case rel => exact ⟨k + 1, by omega, by go_num, HS.out.1, HS.out.2⟩
        case measure => simp [intOf]; omega
      · have hkl2 : k = l.length := by omega
        have HO : Hid (wr.ownsRow w.heap.size 5 1 (.slice (some ⟨w.heap.size, 0, none⟩) l.length l.length) l.length (B8 l)) := by
          have h := ho
          rw [hkl2, List.take_of_length_le (Nat.le_refl _), Nat.sub_self, List.replicate_zero, List.append_nil] at h
          exact h
        clear ho hc hy ho1 hb1 hkl2
        go_wp2
        go_ret
        exact ⟨_, rfl, ⟨HY.out, HO.out⟩, hbe⟩
end Go.Proofs.YtpjikkhcimghaaaDoor
