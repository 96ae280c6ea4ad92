/- Own texts, joined: Fr6, Fr8, Copy, Fr9. -/
import Derived.Test.YtaegmeilhdbnnabDoorJ03
import Derived.Test.YtaegmeilhdbnnabDoorJ05
import Derived.Deep.RegionHeld3
import Derived.Test.YtaegmeilhdbnnabDoorRows
import Derived.Test.YtaegmeilhdbnnabDoorJ00
namespace Go.Proofs.YtaegmeilhdbnnabDoor
open Go.ChangeShapes Go.WideShapes Go.ChangeAt Go.RowKit
set_option linter.unusedVariables false
theorem cells_four (w : World) (x y z t : Value) (e : TypeId) : ∀ j u, [x, y, z, t][j]? = some u → (w.alloc (.cells #[x, y, z, t] e)).cell? ((⟨w.heap.size, 0, none⟩ : Addr).add j) = some u := by
  intro j u hj
  match j, hj with
  | 0, hj => simp at hj; subst hj; simp [Addr.add]
  | 1, hj => simp at hj; subst hj; simp [Addr.add]
  | 2, hj => simp at hj; subst hj; simp [Addr.add]
  | 3, hj => simp at hj; subst hj; simp [Addr.add]
theorem own_lit (w : World) (l : List Nat) (h : ∀ i, l.getD i 0 < 256) (hm : l.length ≤ maxLen) : Own (w.alloc (.cells (B8 l).toArray 5)) w.heap.size (.slice (some ⟨w.heap.size, 0, none⟩) l.length l.length) l :=
  ⟨h, own_of_heap (Nat.le_refl _) hm (by simp [B8]) (by simp only [World.alloc, Array.getElem?_push]; rw [if_pos trivial])⟩
end Go.Proofs.YtaegmeilhdbnnabDoor
namespace Go.Proofs.YtaegmeilhdbnnabDoor
open Go.ChangeShapes Go.WideShapes Go.ChangeAt Go.RowKit
set_option linter.unusedVariables false
theorem closed16 (l : List Nat) (h : 16 ≤ l.length) : closedB (l.take 16) = decide ((l.drop 12).take 4 = Crcm.four (Crcm.sum (l.take 12))) := by
  unfold closedB
  have h1 : (l.take 16).length = 16 := by rw [List.length_take]; omega
  rw [h1, show 16 - 4 = 12 from rfl, List.take_take, show min 12 16 = 12 from rfl, List.drop_take, show 16 - 12 = 4 from rfl, decide_eq_decide]
  exact ⟨fun x => x.2, fun x => ⟨by omega, x⟩⟩
/-- the bytes from 9 down to i -/
def hi6 (l : List Nat) (i : Nat) : Nat := Crcm.val ((l.drop (i + 1)).take (9 - i))
theorem hi6_step (l : List Nat) (i : Nat) (hl : 16 ≤ l.length) (h4 : 4 ≤ i) (h9 : i ≤ 9) : 256 * hi6 l i + l.getD i 0 = Crcm.val ((l.drop i).take (10 - i)) := by
  have e : (l.drop i).take (10 - i) = l.getD i 0 :: (l.drop (i + 1)).take (9 - i) := by
    rw [drop_at l i _ (by omega) rfl, show 10 - i = (9 - i) + 1 from by omega, List.take_succ_cons]
  rw [e]
  show _ = l.getD i 0 + 256 * Crcm.val _
  unfold hi6
  omega
theorem val_take_lt (l : List Nat) (hl : ∀ x ∈ l, x < 256) (i k : Nat) : Crcm.val ((l.drop i).take k) < 256 ^ k := by
  have h := Crcm.val_lt ((l.drop i).take k) (fun x hx => hl x (List.mem_of_mem_drop (List.mem_of_mem_take hx)))
  have h2 : ((l.drop i).take k).length ≤ k := List.length_take_le _ _
  have h3 : 2 ^ (8 * ((l.drop i).take k).length) ≤ 2 ^ (8 * k) := Nat.pow_le_pow_right (by omega) (by omega)
  rw [show (256 : Nat) ^ k = 2 ^ (8 * k) from by rw [Nat.pow_mul]]
  omega
theorem ps_parts (l : List Nat) (hl : 16 ≤ l.length) : ps l = Crcm.val ((l.drop 4).take 6) + 281474976710656 * (l.getD 10 0 + 256 * l.getD 11 0) := by
  unfold ps
  have e : (l.drop 4).take 8 = (l.drop 4).take 6 ++ [l.getD 10 0, l.getD 11 0] := by
    rw [show 8 = 6 + 2 from rfl, List.take_add, List.drop_drop, show 4 + 6 = 10 from rfl, drop_at l 10 _ (by omega) rfl, drop_at l 11 _ (by omega) rfl]
    rfl
  have h6 : ((l.drop 4).take 6).length = 6 := by rw [List.length_take, List.length_drop]; omega
  rw [e, Crcm.val_append, h6]
  rfl
theorem ps_bound (l : List Nat) (hl : 16 ≤ l.length) (hb : ∀ i, l.getD i 0 < 256) : ps l ≤ 1099511627776 ↔ l.getD 10 0 = 0 ∧ l.getD 11 0 = 0 ∧ Crcm.val ((l.drop 4).take 6) ≤ 1099511627776 := by
  rw [ps_parts l hl]
  have := hb 10
  have := hb 11
  omega
/-- what daybookref11.Peek has read by the loop -/
theorem ps_low (l : List Nat) (hl : 16 ≤ l.length) (h10 : l.getD 10 0 = 0) (h11 : l.getD 11 0 = 0) : Crcm.val ((l.drop 4).take 6) = ps l := by
  rw [ps_parts l hl, h10, h11]
  omega
theorem val6_step (l : List Nat) (j : Nat) (hl : 16 ≤ l.length) (h6 : j < 6) : 256 * Crcm.val ((l.drop (10 - j)).take j) + l.getD (9 - j) 0 = Crcm.val ((l.drop (10 - (j + 1))).take (j + 1)) := by
  have e : (l.drop (10 - (j + 1))).take (j + 1) = l.getD (9 - j) 0 :: (l.drop (10 - j)).take j := by
    rw [show 10 - (j + 1) = 9 - j from by omega, drop_at l (9 - j) _ (by omega) rfl, List.take_succ_cons, show 9 - j + 1 = 10 - j from by omega]
  rw [e]
  show _ = l.getD (9 - j) 0 + 256 * Crcm.val _
  omega
theorem val6_lt (l : List Nat) (hl : ∀ x ∈ l, x < 256) (i j : Nat) (h6 : j ≤ 6) : Crcm.val ((l.drop i).take j) < 281474976710656 := by
  have h := val_take_lt l hl i j
  have h2 : 256 ^ j ≤ 256 ^ 6 := Nat.pow_le_pow_right (by omega) h6
  rw [show (256 : Nat) ^ 6 = 281474976710656 from by decide] at h2
  omega
end Go.Proofs.YtaegmeilhdbnnabDoor
namespace Go.Proofs.YtaegmeilhdbnnabDoor
open Go.ChangeShapes Go.WideShapes Go.ChangeAt Go.RowKit
theorem copy_step (l : List Nat) (k n : Nat) (hn : n = l.length) (h : k < l.length) :
    (B8 (l.take k) ++ List.replicate (n - k) (Value.int .u8 0)).set k (.int .u8 (l.getD k 0 : Nat)) = B8 (l.take (k + 1)) ++ List.replicate (n - (k + 1)) (Value.int .u8 0) := by
  subst hn
  have h1 : (B8 (l.take k)).length = k := by simp [B8]; omega
  rw [show l.length - k = (l.length - (k + 1)) + 1 from by omega, List.replicate_succ]
  rw [List.set_append, if_neg (by omega), h1, Nat.sub_self, List.set_cons_zero]
  rw [List.take_succ_eq_append_getElem h, B8_append, List.append_assoc]
  simp [B8, List.getD_eq_getElem?_getD, h]
theorem Tryd.info5c : (Tryd.prog.info? 5).map (fun i => (i.zero, i.size, i.bytes)) = some (some (.int .u8 0), 1, 1) := by kernel_rfl
set_option maxRecDepth 20000 in
set_option maxHeartbeats 1000000 in
theorem copy_any (l : List Nat) (a : Option Addr) (cap : Nat) (w : World) (hb : Bytes w a l) (hl : l.length ≤ 281474976710656) :
    Calls Tryd.prog 11 #[.slice a l.length cap] w fun e w' => ∃ v, e = .returned v ∧ Own w' w.heap.size v l ∧ Below w.heap.size w w' := by
  obtain ⟨i0, hi, hz0, hz1, hz2⟩ := info_parts Tryd.info5c
  have hl3 : l.length ≤ maxLen := by unfold maxLen; omega
  obtain ⟨hy, hb⟩ := hb
  have HY : Hid (∀ i, l.getD i 0 < 256) := hy
  go_enter Tryd.func11, Tryd.ntmps11
  go_wp2_with (at_make; refine wpList_make_full _ rfl _ _ 26 rfl w.heap.size 5 i0 (.int .u8 0) 1 Tryd.underlying26 hi hz0 hz1 _ _ _ _ l.length rfl rfl rfl rfl (by rw [hz2]; omega) hl3 (Nat.le_refl _) ?_)
  intro w1 ho hg
  have hb1 : Below w.heap.size w w1 := (Below.refl _ _).grown hg (Nat.le_refl _) (fun k hk => by cases hk)
  clear hg
  have ho1 : w1.ownsRow w.heap.size 5 1 (.slice (some ⟨w.heap.size, 0, none⟩) l.length l.length) l.length (B8 (l.take 0) ++ List.replicate (l.length - 0) (Value.int .u8 0)) := by
    have h := ho
    rw [toList_madeCells_one] at h
    simpa [B8] using h
  clear ho
  rcases hb with rfl | ⟨b, off, rfl, hlt, hc⟩
  · go_wp2
    refine wp_loop_rounds 1 ?_
    rw [rounds_succ]
    go_wp2
    go_ret
    exact ⟨_, rfl, ⟨HY.out, ho1⟩, hb1⟩
  · go_wp2
    go_loopw [10] (fun i wr => ∃ k : Nat, k ≤ l.length ∧ i = .int .i64 k ∧ wr.ownsRow w.heap.size 5 1 (.slice (some ⟨w.heap.size, 0, none⟩) l.length l.length) l.length (B8 (l.take k) ++ List.replicate (l.length - k) (Value.int .u8 0)) ∧ Below w.heap.size w wr) (fun i _ => l.length - (intOf i).toNat)
    case atStart => exact ⟨0, Nat.zero_le _, rfl, ho1, hb1⟩
    case round =>
      obtain ⟨k, hk, rfl, ho, hbe⟩ := hrel
      by_cases hkl : k < l.length
      · have e1 := hc k hkl
        rw [← hbe.cell (p := ⟨b, off + k, none⟩) hlt] at e1
        have hst := ho.stored k (.int .u8 (l.getD k 0 : Nat))
        rw [copy_step l k _ rfl hkl] at hst
        have e2 := ho.cellAt k (by omega)
        have e3 := ho.frozenAt k
        obtain ⟨z, hz⟩ : ∃ z, wr.cell? ⟨w.heap.size, k, none⟩ = some z := by
          rw [e2]
          exact ⟨_, List.getElem?_eq_getElem (by rw [List.length_append, List.length_replicate]; simp [B8]; omega)⟩
        have hb2 := hbe.grown hst.2 (by have := hbe.size; omega) (fun j hj => by cases hj; exact Nat.le_refl _)
        have HS : Hid (_ ∧ _) := ⟨hst.1, hb2⟩
        clear e2 hst hb2 ho hbe hc hy ho1 hb1
        obtain ⟨x, hx⟩ : ∃ x, x = l.getD k 0 := ⟨_, rfl⟩
        rw [← hx] at e1 HS
        clear hx
        go_wp2
        go_roundw
        case rel => exact ⟨k + 1, by omega, by go_num, HS.out.1, HS.out.2⟩
        case measure => simp [intOf]; omega
      · have hkl2 : k = l.length := by omega
        have HO : Hid (wr.ownsRow w.heap.size 5 1 (.slice (some ⟨w.heap.size, 0, none⟩) l.length l.length) l.length (B8 l)) := by
          have h := ho
          rw [hkl2, List.take_of_length_le (Nat.le_refl _), Nat.sub_self, List.replicate_zero, List.append_nil] at h
          exact h
        clear ho hc hy ho1 hb1 hkl2
        go_wp2
        go_ret
        exact ⟨_, rfl, ⟨HY.out, HO.out⟩, hbe⟩
end Go.Proofs.YtaegmeilhdbnnabDoor
namespace Go.Proofs.YtaegmeilhdbnnabDoor
open Go.ChangeShapes Go.WideShapes Go.ChangeAt Go.RowKit
set_option linter.unusedVariables false
theorem FrmAt.drewN {w : World} {k : Nat} {kind seq : Int} {bv : Value} (h : FrmAt w k kind seq bv) (m : Nat) : FrmAt (w.drewN m) k kind seq bv := by
  induction m with
  | zero => exact h
  | succ m ih => exact ih
theorem own_drewN {w : World} {base : Nat} {v : Value} {l : List Nat} (h : Own w base v l) (m : Nat) : Own (w.drewN m) base v l := by
  induction m with
  | zero => exact h
  | succ m ih => exact ih
theorem own_apart {w w' : World} {base j : Nat} {v : Value} {l : List Nat} (h : Own w base v l) (hh : ∀ k, k ≠ j → w'.heap[k]? = w.heap[k]?) (hj : j < base) : Own w' j v l := by
  refine ⟨h.1, h.2.1, ?_⟩
  rcases h.2.2 with h2 | ⟨g, cap, cur, h3, h4, h5, h6⟩
  · exact .inl h2
  · exact .inr ⟨g, cap, cur, h3, by omega, (hh g (by omega)).trans h5, h6⟩
theorem closedBody (l : List Nat) (p : Nat) (h : p + 20 ≤ l.length) : closedB ((l.take (p + 20)).drop 16) = decide ((l.drop (p + 16)).take 4 = Crcm.four (Crcm.sum ((l.drop 16).take p))) := by
  have h1 : ((l.take (p + 20)).drop 16).length = p + 4 := by rw [List.length_drop, List.length_take]; omega
  unfold closedB
  rw [h1, show p + 4 - 4 = p from by omega, List.drop_drop, List.drop_take, List.drop_take, List.take_take, show min p (p + 20 - 16) = p from by omega, show p + 20 - (16 + p) = 4 from by omega, show 16 + p = p + 16 from by omega, decide_eq_decide]
  exact ⟨fun x => x.2, fun x => ⟨by omega, x⟩⟩
end Go.Proofs.YtaegmeilhdbnnabDoor
