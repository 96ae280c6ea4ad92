/- For every script of pieces that holds together at most 1048576 values: two digests, written to by turns, tell the sums and lengths of what was written. -/
import Derived.Test.YtnecnedkoddihaaDoorCrcTie
import Derived.Test.YtnecnedkoddihaaDoorHead03
import Derived.Test.YtnecnedkoddihaaDoorDigT
import Derived.Test.YtnecnedkoddihaaDoorSame
import Derived.Test.YtnecnedkoddihaaDoorBulk
import Derived.SizedLaws
import Derived.ChangeOld
import Derived.JoinedCond
import Derived.Deep.CondSized
import Derived.Deep.Matrix
import Derived.Test.YtnecnedkoddihaaDoorDigO
namespace Go.Proofs.YtnecnedkoddihaaDoor.crcDigests
open Go.ChangeShapes Go.WideShapes Go.ChangeAt Go.RowKit
set_option linter.unusedVariables false
theorem own_mem {w : World} {base : Nat} {v : Value} {l : List Nat} (h : Own w base v l) : ∀ x ∈ l, x < 256 := by
  intro x hx
  obtain ⟨i, hi, rfl⟩ := List.mem_iff_getElem.1 hx
  have := h.1 i
  rwa [List.getD_eq_getElem?_getD, List.getElem?_eq_getElem hi] at this
theorem Pieces.keep {w w' : World} {a : Option Addr} {n : Nat} {A : Nat → Option Addr} {L : Nat → List Nat} {C : Nat → Nat} (h : Pieces w a n A L C) (hb : Below w.heap.size w w') : Pieces w' a n A L C := by
  refine ⟨?_, fun r hr => ⟨(h.2 r hr).1.keep hb, (h.2 r hr).2⟩⟩
  rcases h.1 with h | ⟨b, off, rfl, hlt, hc⟩
  · exact .inl h
  · exact .inr ⟨b, off, rfl, Nat.lt_of_lt_of_le hlt hb.size, fun i hi => (hb.cell (p := ⟨b, off + i, none⟩) hlt).trans (hc i hi)⟩
set_option maxRecDepth 100000 in
set_option maxHeartbeats 4000000 in
theorem walk (n : Nat) (a : Option Addr) (cap : Nat) (A : Nat → Option Addr) (L : Nat → List Nat) (C : Nat → Nat) (w : World) (hb : Pieces w a n A L C) (hsum : n + tot L n ≤ 1048576) (ht : Tab w) :
    Calls Tryd.prog 5 #[.slice a n cap] w fun e w' => e = .returned (.bool true) ∧ Below w.heap.size w w' := by
  have HT : Hid (Tab w) := ht
  have HP : Hid (Pieces w a n A L C) := hb
  have HTOT : Hid (tot L n ≤ 1048576) := by show tot L n ≤ 1048576; omega
  have hn : n ≤ 1048576 := by omega
  have T1 : Hid True := trivial
  clear ht hb hsum
  go_enter Tryd.func5, Tryd.ntmps5
  go_wp2_with (first
    | (go_at_call 6; refine (head03_any w HT.out).mono ?_; rintro r w1 ⟨rfl, hb1⟩; have HB1 : Hid (Below w.heap.size w w1) := hb1; clear hb1)
    | (go_at_call 12; clear T1; refine (dnew_any w1).mono ?_; rintro r w2 ⟨rfl, hd2, hb2, hs2⟩; have HD2 : Hid (DigAt w2 w1.heap.size 0 0 ∧ Below w1.heap.size w1 w2 ∧ w2.heap.size = w1.heap.size + 1) := ⟨hd2, hb2, hs2⟩; clear hd2 hb2 hs2)
    | (go_at_call 12; refine (dnew_any w2).mono ?_; rintro r w3 ⟨rfl, hd3, hb3, hs3⟩; have HD3 : Hid (DigAt w3 w2.heap.size 0 0 ∧ Below w2.heap.size w2 w3 ∧ w3.heap.size = w2.heap.size + 1) := ⟨hd3, hb3, hs3⟩; clear hd3 hb3 hs3))
  have HG0 : Hid (Dg w w3 w3.heap.size w1.heap.size w2.heap.size (.slice none 0 0) (.slice none 0 0) [] []) := by
    obtain ⟨h1, h2, h3⟩ := HD2.out
    obtain ⟨k1, k2, k3⟩ := HD3.out
    have hs := HB1.out.size
    exact ⟨⟨by simp, World.ownsRow_nil _ _ _ _⟩, ⟨by simp, World.ownsRow_nil _ _ _ _⟩, (fun g hg => by cases hg), h1.keep k2, k1, below_ny (below_ny HB1.out h2) k2, Nat.le_refl _, by omega⟩
  clear HD2 HD3 HB1
  obtain ⟨B, hB⟩ : ∃ B, w3.heap.size = B := ⟨_, rfl⟩
  obtain ⟨bd, hbd⟩ : ∃ bd, w1.heap.size = bd := ⟨_, rfl⟩
  obtain ⟨bf, hbf⟩ : ∃ bf, w2.heap.size = bf := ⟨_, rfl⟩
  rw [hB, hbd, hbf] at HG0
  rw [hbd, hbf]
  clear hB hbd hbf
  go_loopw [5, 6, 24] (fun vx vy vi wr => ∃ (k : Nat) (X Y : List Nat) (ax ay : Option Addr) (cx cy : Nat), k ≤ n ∧ vi = .int .i64 k ∧ vx = .slice ax X.length cx ∧ vy = .slice ay Y.length cy ∧ Hid (Dg w wr B bd bf (.slice ax X.length cx) (.slice ay Y.length cy) X Y ∧ X.length + Y.length ≤ tot L k)) (fun _ _ vi _ => n - (intOf vi).toNat)
  case atStart => exact ⟨0, [], [], none, none, 0, 0, Nat.zero_le _, rfl, rfl, rfl, HG0.out, by simp [tot]⟩
  case round =>
    obtain ⟨k, X, Y, ax, ay, cx, cy, hk, rfl, rfl, rfl, HI⟩ := hrel
    clear HG0
    by_cases hkn : k < n
    · obtain ⟨b, off, hab, hcell⟩ : ∃ b off, a = some ⟨b, off, none⟩ ∧ wr.cell? ⟨b, off + k, none⟩ = some (.slice (A k) (L k).length (C k)) := by
        rcases (Pieces.keep HP.out HI.out.1.bel).1 with h | ⟨b, off, ha, _, hc⟩
        · omega
        · exact ⟨b, off, ha, hc k hkn⟩
      subst hab
      have HPk := (HP.out).2 k hkn
      obtain ⟨l, hl⟩ : ∃ l, L k = l := ⟨_, rfl⟩
      obtain ⟨Ak, hAk⟩ : ∃ x, A k = x := ⟨_, rfl⟩
      obtain ⟨Ck, hCk⟩ : ∃ x, C k = x := ⟨_, rfl⟩
      rw [hl, hAk, hCk] at hcell HPk
      have HLK : Hid (L k = l) := hl
      have HP2 : Hid (∀ w', Below w.heap.size w w' → Bytes w' Ak l) := fun w' hb => HPk.1.keep hb
      have HBy : Hid (Bytes wr Ak l) := HPk.1.keep HI.out.1.bel
      have HLE : Hid (l.length ≤ Ck ∧ (Ak = none → Ck = 0)) := HPk.2
      have HLEN : Hid (X.length + Y.length + l.length ≤ 1048576) := by
        show _ ≤ _
        have h1 := tot_mono L (show k + 1 ≤ n by omega)
        rw [tot, hl] at h1
        have h2 := HI.out.2
        have h3 := HTOT.out
        omega
      have hll : l.length ≤ 1048576 := by have := HLEN.out; omega
      have hxl : X.length ≤ 1048576 := by have := HLEN.out; omega
      have hyl : Y.length ≤ 1048576 := by have := HLEN.out; omega
      clear hl hAk hCk HPk
      by_cases h1 : l.length = 1
      · have h1b : ((l.length : Int) == 1) = true := by rw [h1]; rfl
        have hpos : (0 : Int) < (l.length : Int) := by omega
        obtain ⟨b', off', hAk', hlt', hc'⟩ := HBy.out.nonempty (by intro h; rw [h] at h1; simp at h1)
        subst hAk'
        obtain ⟨z, hz⟩ : ∃ z, l.getD 0 0 = z := ⟨_, rfl⟩
        have hz256 : z < 256 := by rw [← hz]; exact HBy.out.1 0
        have hc0 : wr.cell? ⟨b', off', none⟩ = some (.int .u8 (z : Int)) := by have h := hc' 0 (by omega); rw [Nat.add_zero, hz] at h; exact h
        have HC1 : Hid (∀ w', Below wr.heap.size wr w' → w'.cell? ⟨b', off', none⟩ = some (.int .u8 (z : Int))) := fun w' hb => (hb.cell (p := ⟨b', off', none⟩) hlt').trans hc0
        clear hc' hlt' h1 hz hc0
        by_cases h7 : z = 7
        · subst h7
          go_wp2_with (first
            | (go_at_call 13; refine (copy_any l _ _ _ HBy.out (by omega)).mono ?_; rintro r wc ⟨vc, rfl, hoc, hbc⟩; obtain ⟨ac, cc, hvc, hbyc⟩ := hoc.slice; subst hvc; have HOC : Hid (Own wc wr.heap.size (.slice ac l.length cc) l ∧ Below wr.heap.size wr wc ∧ Bytes wc ac l) := ⟨hoc, hbc, hbyc⟩; have hcell7 := HC1.out wc hbc; clear hoc hbc hbyc)
            | (go_at_call 14; refine (dreset_any _ bd _ _ (HI.out.1.keep HOC.out.2.1).dd).mono ?_; rintro r wz ⟨rfl, hd, hk⟩; have HA : Hid (Aft w wz B bd bf wr.heap.size (.slice none 0 0) (.slice ay Y.length cy) (.slice ac l.length cc) [] Y l) := aft_reset HI.out.1 HOC.out.2.1 HOC.out.1 hk hd; clear hd hk)
            | (go_at_call 16; obtain ⟨ac2, cc2, hvc2, hby2⟩ := (show Own _ _ _ l from ⟨HBy.out.1, HA.out.2.1⟩).slice; cases hvc2; refine (same_at l l _ _ _ _ _ _ _ rfl rfl (HP2.out _ HA.out.1.bel) hby2 (by unfold maxLen; omega) (by unfold maxLen; omega)).mono ?_; rw [decide_eq_true (rfl : l = l)]; rintro r ws ⟨rfl, q, rfl⟩; clear hby2))
          have HLEN2 : Hid ((([] : List Nat)).length + (Y).length ≤ tot L (k + 1)) := by
            show _ ≤ _
            rw [tot, HLK.out]
            have := HI.out.2
            simp only [List.length_nil]
            omega
          have hx4 : (([] : List Nat)).length ≤ 1048576 ∧ (Y).length ≤ 1048576 := by have h1 := HLEN2.out; have h2 := tot_mono L (show k + 1 ≤ n by omega); have h3 := HTOT.out; omega
          obtain ⟨hx4, hy4⟩ := hx4
          have HG4 : Hid (Dg w (wz.drewN q) B bd bf (.slice none 0 0) (.slice ay Y.length cy) (([] : List Nat)) (Y) ∧ ∃ xs, (wz.drewN q).ownsRow wr.heap.size 5 1 (.slice ac l.length cc) l.length xs) := ⟨HA.out.1.drewN q, _, own_row_keep HA.out.2.1 ⟨rfl, rfl, rfl, Nat.le_refl _, fun _ _ => rfl⟩⟩
          obtain ⟨wy, hwy⟩ : ∃ wy, wz.drewN q = wy := ⟨_, rfl⟩
          rw [hwy] at HG4 ⊢
          clear hwy
          go_loopw [10, 65] (fun _ vj wq => ∃ j : Nat, j ≤ l.length ∧ vj = .int .i64 j ∧ Hid (Dg w wq B bd bf (.slice none 0 0) (.slice ay Y.length cy) (([] : List Nat)) (Y) ∧ ∃ xs, wq.ownsRow wr.heap.size 5 1 (.slice ac l.length cc) l.length xs)) (fun _ vj _ => l.length - (intOf vj).toNat)
          case atStart => exact ⟨0, Nat.zero_le _, rfl, HG4⟩
          case round =>
            obtain ⟨j, hj, rfl, HJ⟩ := hrel
            clear HG4
            rename_i wq _ _ _ _ _ _ _ _
            by_cases hjl : j < l.length
            · obtain ⟨gc, hac⟩ : ∃ gc, ac = some ⟨gc, 0, none⟩ := by
                obtain ⟨xs, hxs⟩ := HJ.out.2
                rcases hxs.2 with ⟨_, h0⟩ | ⟨g, cap', cur, hv, _⟩
                · omega
                · cases hv; exact ⟨g, rfl⟩
              subst hac
              obtain ⟨⟨z, hz⟩, hfz, hn1, hn2⟩ := HJ.out.1.mark HJ.out.2 HA.out.2.2.1 (HA.out.2.2.2 gc rfl).1 (HA.out.2.2.2 gc rfl).2 hjl (.int .u8 90)
              have HN : Hid (_ ∧ _) := ⟨hn1, hn2⟩
              clear hn1 hn2
              go_wp2
              go_roundw
              case rel => exact ⟨j + 1, by omega, by go_num, HN⟩
              case measure => simp [intOf]; omega
            · obtain rfl : j = l.length := by omega
              have T5 : Hid True := trivial
              have T6 : Hid True := trivial
              have T7 : Hid True := trivial
              obtain ⟨axx, cxx, hvx5, hbx5⟩ := HJ.out.1.ox.slice
              cases hvx5
              obtain ⟨ayy, cyy, hvy5, hby5⟩ := HJ.out.1.oy.slice
              cases hvy5
              have HBX : Hid (Bytes _ _ (([] : List Nat)) ∧ Bytes _ _ (Y)) := ⟨hbx5, hby5⟩
              clear hbx5 hby5
              go_wp2_with (first
                | (go_at_call 17; clear T5; refine (dlen_any _ bd _ _ HJ.out.1.dd).mono ?_; rintro r w7 ⟨rfl, rfl⟩)
                | (go_at_call 17; refine (dlen_any _ bf _ _ HJ.out.1.df).mono ?_; rintro r w7 ⟨rfl, rfl⟩)
                | (go_at_call 18; clear T6; refine (dsum_any _ bd _ _ HJ.out.1.dd).mono ?_; rintro r w7 ⟨rfl, rfl⟩)
                | (go_at_call 18; refine (dsum_any _ bf _ _ HJ.out.1.df).mono ?_; rintro r w7 ⟨rfl, rfl⟩)
                | (go_at_call 9; clear T7; refine (rsum_any (([] : List Nat)) _ _ _ _ rfl HBX.out.1 (by unfold maxLen; omega)).mono ?_; rintro r w7 ⟨rfl, rfl⟩)
                | (go_at_call 9; refine (rsum_any (Y) _ _ _ _ rfl HBX.out.2 (by unfold maxLen; omega)).mono ?_; rintro r w7 ⟨rfl, rfl⟩))
              go_roundw
              case rel => exact ⟨k + 1, _, _, _, _, _, _, by omega, by go_num, rfl, rfl, HJ.out.1, HLEN2.out⟩
              case measure => simp [intOf]; omega
        · have h7b : ((z : Int) == 7) = false := by simp; omega
          clear h7
          by_cases hm : k % 3 = 2
          · have hm3 : (k : Int).tmod 3 = 2 := by rw [Int.tmod_eq_emod_of_nonneg (by omega)]; omega
            go_wp2_with (first
              | (go_at_call 13; refine (copy_any l _ _ _ HBy.out (by omega)).mono ?_; rintro r wc ⟨vc, rfl, hoc, hbc⟩; obtain ⟨ac, cc, hvc, hbyc⟩ := hoc.slice; subst hvc; have HOC : Hid (Own wc wr.heap.size (.slice ac l.length cc) l ∧ Below wr.heap.size wr wc ∧ Bytes wc ac l) := ⟨hoc, hbc, hbyc⟩; have hcell7 := HC1.out wc hbc; clear hoc hbc hbyc)
              | (go_at_call 15; refine (dwrite_any _ bf _ _ l ac cc (HI.out.1.keep HOC.out.2.1).df (Crcm.sum_lt _ (own_mem HI.out.1.oy)) (by have := HLEN.out; omega) HOC.out.2.2 (HT.out.keep (HI.out.1.keep HOC.out.2.1).bel)).mono ?_; rintro r wd ⟨rfl, hd, hk⟩; have HW : Hid (DigAt wd bf _ _ ∧ Kept bf bf wc wd) := ⟨hd, hk⟩; clear hd hk)
              | (at_builtin; refine wpList_append_sep _ rfl _ _ rfl B _ Y l _ _ _ rfl ((HI.out.1.keep HOC.out.2.1).wrF HW.out.2).2.1 rfl rfl (HP2.out _ ((HI.out.1.keep HOC.out.2.1).wrF HW.out.2).2.2.2.1) HLE.out.1 HLE.out.2 (by have := HLEN.out; omega) ((HI.out.1.keep HOC.out.2.1).wrF HW.out.2).2.2.2.2 ?_; intro v' wz ho hg hs; obtain ⟨a', c', hv', _⟩ := ho.slice; subst hv'; have HA : Hid (Aft w wz B bd bf wr.heap.size (.slice ax X.length cx) (.slice a' (Y ++ l).length c') (.slice ac l.length cc) X (Y ++ l) l) := aft_y HI.out.1 HOC.out.2.1 HOC.out.1 HW.out.2 HW.out.1 ho hg hs; clear ho hg hs)
              | (go_at_call 16; obtain ⟨ac2, cc2, hvc2, hby2⟩ := (show Own _ _ _ l from ⟨HBy.out.1, HA.out.2.1⟩).slice; cases hvc2; refine (same_at l l _ _ _ _ _ _ _ rfl rfl (HP2.out _ HA.out.1.bel) hby2 (by unfold maxLen; omega) (by unfold maxLen; omega)).mono ?_; rw [decide_eq_true (rfl : l = l)]; rintro r ws ⟨rfl, q, rfl⟩; clear hby2))
            have HLEN2 : Hid ((X).length + (Y ++ l).length ≤ tot L (k + 1)) := by
              show _ ≤ _
              rw [tot, HLK.out]
              have := HI.out.2
              simp only [List.length_append]
              omega
            have hx4 : (X).length ≤ 1048576 ∧ (Y ++ l).length ≤ 1048576 := by have h1 := HLEN2.out; have h2 := tot_mono L (show k + 1 ≤ n by omega); have h3 := HTOT.out; omega
            obtain ⟨hx4, hy4⟩ := hx4
            have HG4 : Hid (Dg w (wz.drewN q) B bd bf (.slice ax X.length cx) (.slice a' (Y ++ l).length c') (X) (Y ++ l) ∧ ∃ xs, (wz.drewN q).ownsRow wr.heap.size 5 1 (.slice ac l.length cc) l.length xs) := ⟨HA.out.1.drewN q, _, own_row_keep HA.out.2.1 ⟨rfl, rfl, rfl, Nat.le_refl _, fun _ _ => rfl⟩⟩
            obtain ⟨wy, hwy⟩ : ∃ wy, wz.drewN q = wy := ⟨_, rfl⟩
            rw [hwy] at HG4 ⊢
            clear hwy
            go_loopw [10, 65] (fun _ vj wq => ∃ j : Nat, j ≤ l.length ∧ vj = .int .i64 j ∧ Hid (Dg w wq B bd bf (.slice ax X.length cx) (.slice a' (Y ++ l).length c') (X) (Y ++ l) ∧ ∃ xs, wq.ownsRow wr.heap.size 5 1 (.slice ac l.length cc) l.length xs)) (fun _ vj _ => l.length - (intOf vj).toNat)
            case atStart => exact ⟨0, Nat.zero_le _, rfl, HG4⟩
            case round =>
              obtain ⟨j, hj, rfl, HJ⟩ := hrel
              clear HG4
              rename_i wq _ _ _ _ _ _ _ _
              by_cases hjl : j < l.length
              · obtain ⟨gc, hac⟩ : ∃ gc, ac = some ⟨gc, 0, none⟩ := by
                  obtain ⟨xs, hxs⟩ := HJ.out.2
                  rcases hxs.2 with ⟨_, h0⟩ | ⟨g, cap', cur, hv, _⟩
                  · omega
                  · cases hv; exact ⟨g, rfl⟩
                subst hac
                obtain ⟨⟨z, hz⟩, hfz, hn1, hn2⟩ := HJ.out.1.mark HJ.out.2 HA.out.2.2.1 (HA.out.2.2.2 gc rfl).1 (HA.out.2.2.2 gc rfl).2 hjl (.int .u8 90)
                have HN : Hid (_ ∧ _) := ⟨hn1, hn2⟩
                clear hn1 hn2
                go_wp2
                go_roundw
                case rel => exact ⟨j + 1, by omega, by go_num, HN⟩
                case measure => simp [intOf]; omega
              · obtain rfl : j = l.length := by omega
                have T5 : Hid True := trivial
                have T6 : Hid True := trivial
                have T7 : Hid True := trivial
                obtain ⟨axx, cxx, hvx5, hbx5⟩ := HJ.out.1.ox.slice
                cases hvx5
                obtain ⟨ayy, cyy, hvy5, hby5⟩ := HJ.out.1.oy.slice
                cases hvy5
                have HBX : Hid (Bytes _ _ (X) ∧ Bytes _ _ (Y ++ l)) := ⟨hbx5, hby5⟩
                clear hbx5 hby5
                go_wp2_with (first
                  | (go_at_call 17; clear T5; refine (dlen_any _ bd _ _ HJ.out.1.dd).mono ?_; rintro r w7 ⟨rfl, rfl⟩)
                  | (go_at_call 17; refine (dlen_any _ bf _ _ HJ.out.1.df).mono ?_; rintro r w7 ⟨rfl, rfl⟩)
                  | (go_at_call 18; clear T6; refine (dsum_any _ bd _ _ HJ.out.1.dd).mono ?_; rintro r w7 ⟨rfl, rfl⟩)
                  | (go_at_call 18; refine (dsum_any _ bf _ _ HJ.out.1.df).mono ?_; rintro r w7 ⟨rfl, rfl⟩)
                  | (go_at_call 9; clear T7; refine (rsum_any (X) _ _ _ _ rfl HBX.out.1 (by unfold maxLen; omega)).mono ?_; rintro r w7 ⟨rfl, rfl⟩)
                  | (go_at_call 9; refine (rsum_any (Y ++ l) _ _ _ _ List.length_append HBX.out.2 (by unfold maxLen; omega)).mono ?_; rintro r w7 ⟨rfl, rfl⟩))
                go_roundw
                case rel => exact ⟨k + 1, _, _, _, _, _, _, by omega, by go_num, rfl, by rw [List.length_append], HJ.out.1, HLEN2.out⟩
                case measure => simp [intOf]; omega
          · have hm3 : ((k : Int).tmod 3 == 2) = false := by rw [Int.tmod_eq_emod_of_nonneg (by omega)]; simp; omega
            go_wp2_with (first
              | (go_at_call 13; refine (copy_any l _ _ _ HBy.out (by omega)).mono ?_; rintro r wc ⟨vc, rfl, hoc, hbc⟩; obtain ⟨ac, cc, hvc, hbyc⟩ := hoc.slice; subst hvc; have HOC : Hid (Own wc wr.heap.size (.slice ac l.length cc) l ∧ Below wr.heap.size wr wc ∧ Bytes wc ac l) := ⟨hoc, hbc, hbyc⟩; have hcell7 := HC1.out wc hbc; clear hoc hbc hbyc)
              | (go_at_call 15; refine (dwrite_any _ bd _ _ l ac cc (HI.out.1.keep HOC.out.2.1).dd (Crcm.sum_lt _ (own_mem HI.out.1.ox)) (by have := HLEN.out; omega) HOC.out.2.2 (HT.out.keep (HI.out.1.keep HOC.out.2.1).bel)).mono ?_; rintro r wd ⟨rfl, hd, hk⟩; have HW : Hid (DigAt wd bd _ _ ∧ Kept bd bd wc wd) := ⟨hd, hk⟩; clear hd hk)
              | (at_builtin; refine wpList_append_sep _ rfl _ _ rfl B _ X l _ _ _ rfl ((HI.out.1.keep HOC.out.2.1).wrD HW.out.2).1 rfl rfl (HP2.out _ ((HI.out.1.keep HOC.out.2.1).wrD HW.out.2).2.2.2.1) HLE.out.1 HLE.out.2 (by have := HLEN.out; omega) ((HI.out.1.keep HOC.out.2.1).wrD HW.out.2).2.2.2.2 ?_; intro v' wz ho hg hs; obtain ⟨a', c', hv', _⟩ := ho.slice; subst hv'; have HA : Hid (Aft w wz B bd bf wr.heap.size (.slice a' (X ++ l).length c') (.slice ay Y.length cy) (.slice ac l.length cc) (X ++ l) Y l) := aft_x HI.out.1 HOC.out.2.1 HOC.out.1 HW.out.2 HW.out.1 ho hg hs; clear ho hg hs)
              | (go_at_call 16; obtain ⟨ac2, cc2, hvc2, hby2⟩ := (show Own _ _ _ l from ⟨HBy.out.1, HA.out.2.1⟩).slice; cases hvc2; refine (same_at l l _ _ _ _ _ _ _ rfl rfl (HP2.out _ HA.out.1.bel) hby2 (by unfold maxLen; omega) (by unfold maxLen; omega)).mono ?_; rw [decide_eq_true (rfl : l = l)]; rintro r ws ⟨rfl, q, rfl⟩; clear hby2))
            have HLEN2 : Hid ((X ++ l).length + (Y).length ≤ tot L (k + 1)) := by
              show _ ≤ _
              rw [tot, HLK.out]
              have := HI.out.2
              simp only [List.length_append]
              omega
            have hx4 : (X ++ l).length ≤ 1048576 ∧ (Y).length ≤ 1048576 := by have h1 := HLEN2.out; have h2 := tot_mono L (show k + 1 ≤ n by omega); have h3 := HTOT.out; omega
            obtain ⟨hx4, hy4⟩ := hx4
            have HG4 : Hid (Dg w (wz.drewN q) B bd bf (.slice a' (X ++ l).length c') (.slice ay Y.length cy) (X ++ l) (Y) ∧ ∃ xs, (wz.drewN q).ownsRow wr.heap.size 5 1 (.slice ac l.length cc) l.length xs) := ⟨HA.out.1.drewN q, _, own_row_keep HA.out.2.1 ⟨rfl, rfl, rfl, Nat.le_refl _, fun _ _ => rfl⟩⟩
            obtain ⟨wy, hwy⟩ : ∃ wy, wz.drewN q = wy := ⟨_, rfl⟩
            rw [hwy] at HG4 ⊢
            clear hwy
            go_loopw [10, 65] (fun _ vj wq => ∃ j : Nat, j ≤ l.length ∧ vj = .int .i64 j ∧ Hid (Dg w wq B bd bf (.slice a' (X ++ l).length c') (.slice ay Y.length cy) (X ++ l) (Y) ∧ ∃ xs, wq.ownsRow wr.heap.size 5 1 (.slice ac l.length cc) l.length xs)) (fun _ vj _ => l.length - (intOf vj).toNat)
            case atStart => exact ⟨0, Nat.zero_le _, rfl, HG4⟩
            case round =>
              obtain ⟨j, hj, rfl, HJ⟩ := hrel
              clear HG4
              rename_i wq _ _ _ _ _ _ _ _
              by_cases hjl : j < l.length
              · obtain ⟨gc, hac⟩ : ∃ gc, ac = some ⟨gc, 0, none⟩ := by
                  obtain ⟨xs, hxs⟩ := HJ.out.2
                  rcases hxs.2 with ⟨_, h0⟩ | ⟨g, cap', cur, hv, _⟩
                  · omega
                  · cases hv; exact ⟨g, rfl⟩
                subst hac
                obtain ⟨⟨z, hz⟩, hfz, hn1, hn2⟩ := HJ.out.1.mark HJ.out.2 HA.out.2.2.1 (HA.out.2.2.2 gc rfl).1 (HA.out.2.2.2 gc rfl).2 hjl (.int .u8 90)
                have HN : Hid (_ ∧ _) := ⟨hn1, hn2⟩
                clear hn1 hn2
                go_wp2
                go_roundw
                case rel => exact ⟨j + 1, by omega, by go_num, HN⟩
                case measure => simp [intOf]; omega
              · obtain rfl : j = l.length := by omega
                have T5 : Hid True := trivial
                have T6 : Hid True := trivial
                have T7 : Hid True := trivial
                obtain ⟨axx, cxx, hvx5, hbx5⟩ := HJ.out.1.ox.slice
                cases hvx5
                obtain ⟨ayy, cyy, hvy5, hby5⟩ := HJ.out.1.oy.slice
                cases hvy5
                have HBX : Hid (Bytes _ _ (X ++ l) ∧ Bytes _ _ (Y)) := ⟨hbx5, hby5⟩
                clear hbx5 hby5
                go_wp2_with (first
                  | (go_at_call 17; clear T5; refine (dlen_any _ bd _ _ HJ.out.1.dd).mono ?_; rintro r w7 ⟨rfl, rfl⟩)
                  | (go_at_call 17; refine (dlen_any _ bf _ _ HJ.out.1.df).mono ?_; rintro r w7 ⟨rfl, rfl⟩)
                  | (go_at_call 18; clear T6; refine (dsum_any _ bd _ _ HJ.out.1.dd).mono ?_; rintro r w7 ⟨rfl, rfl⟩)
                  | (go_at_call 18; refine (dsum_any _ bf _ _ HJ.out.1.df).mono ?_; rintro r w7 ⟨rfl, rfl⟩)
                  | (go_at_call 9; clear T7; refine (rsum_any (X ++ l) _ _ _ _ List.length_append HBX.out.1 (by unfold maxLen; omega)).mono ?_; rintro r w7 ⟨rfl, rfl⟩)
                  | (go_at_call 9; refine (rsum_any (Y) _ _ _ _ rfl HBX.out.2 (by unfold maxLen; omega)).mono ?_; rintro r w7 ⟨rfl, rfl⟩))
                go_roundw
                case rel => exact ⟨k + 1, _, _, _, _, _, _, by omega, by go_num, by rw [List.length_append], rfl, HJ.out.1, HLEN2.out⟩
                case measure => simp [intOf]; omega
      · have h1b : ((l.length : Int) == 1) = false := by simp; omega
        clear h1
        by_cases hm : k % 3 = 2
        · have hm3 : (k : Int).tmod 3 = 2 := by rw [Int.tmod_eq_emod_of_nonneg (by omega)]; omega
          go_wp2_with (first
            | (go_at_call 13; refine (copy_any l _ _ _ HBy.out (by omega)).mono ?_; rintro r wc ⟨vc, rfl, hoc, hbc⟩; obtain ⟨ac, cc, hvc, hbyc⟩ := hoc.slice; subst hvc; have HOC : Hid (Own wc wr.heap.size (.slice ac l.length cc) l ∧ Below wr.heap.size wr wc ∧ Bytes wc ac l) := ⟨hoc, hbc, hbyc⟩;  clear hoc hbc hbyc)
            | (go_at_call 15; refine (dwrite_any _ bf _ _ l ac cc (HI.out.1.keep HOC.out.2.1).df (Crcm.sum_lt _ (own_mem HI.out.1.oy)) (by have := HLEN.out; omega) HOC.out.2.2 (HT.out.keep (HI.out.1.keep HOC.out.2.1).bel)).mono ?_; rintro r wd ⟨rfl, hd, hk⟩; have HW : Hid (DigAt wd bf _ _ ∧ Kept bf bf wc wd) := ⟨hd, hk⟩; clear hd hk)
            | (at_builtin; refine wpList_append_sep _ rfl _ _ rfl B _ Y l _ _ _ rfl ((HI.out.1.keep HOC.out.2.1).wrF HW.out.2).2.1 rfl rfl (HP2.out _ ((HI.out.1.keep HOC.out.2.1).wrF HW.out.2).2.2.2.1) HLE.out.1 HLE.out.2 (by have := HLEN.out; omega) ((HI.out.1.keep HOC.out.2.1).wrF HW.out.2).2.2.2.2 ?_; intro v' wz ho hg hs; obtain ⟨a', c', hv', _⟩ := ho.slice; subst hv'; have HA : Hid (Aft w wz B bd bf wr.heap.size (.slice ax X.length cx) (.slice a' (Y ++ l).length c') (.slice ac l.length cc) X (Y ++ l) l) := aft_y HI.out.1 HOC.out.2.1 HOC.out.1 HW.out.2 HW.out.1 ho hg hs; clear ho hg hs)
            | (go_at_call 16; obtain ⟨ac2, cc2, hvc2, hby2⟩ := (show Own _ _ _ l from ⟨HBy.out.1, HA.out.2.1⟩).slice; cases hvc2; refine (same_at l l _ _ _ _ _ _ _ rfl rfl (HP2.out _ HA.out.1.bel) hby2 (by unfold maxLen; omega) (by unfold maxLen; omega)).mono ?_; rw [decide_eq_true (rfl : l = l)]; rintro r ws ⟨rfl, q, rfl⟩; clear hby2))
          have HLEN2 : Hid ((X).length + (Y ++ l).length ≤ tot L (k + 1)) := by
            show _ ≤ _
            rw [tot, HLK.out]
            have := HI.out.2
            simp only [List.length_append]
            omega
          have hx4 : (X).length ≤ 1048576 ∧ (Y ++ l).length ≤ 1048576 := by have h1 := HLEN2.out; have h2 := tot_mono L (show k + 1 ≤ n by omega); have h3 := HTOT.out; omega
          obtain ⟨hx4, hy4⟩ := hx4
          have HG4 : Hid (Dg w (wz.drewN q) B bd bf (.slice ax X.length cx) (.slice a' (Y ++ l).length c') (X) (Y ++ l) ∧ ∃ xs, (wz.drewN q).ownsRow wr.heap.size 5 1 (.slice ac l.length cc) l.length xs) := ⟨HA.out.1.drewN q, _, own_row_keep HA.out.2.1 ⟨rfl, rfl, rfl, Nat.le_refl _, fun _ _ => rfl⟩⟩
          obtain ⟨wy, hwy⟩ : ∃ wy, wz.drewN q = wy := ⟨_, rfl⟩
          rw [hwy] at HG4 ⊢
          clear hwy
          go_loopw [10, 65] (fun _ vj wq => ∃ j : Nat, j ≤ l.length ∧ vj = .int .i64 j ∧ Hid (Dg w wq B bd bf (.slice ax X.length cx) (.slice a' (Y ++ l).length c') (X) (Y ++ l) ∧ ∃ xs, wq.ownsRow wr.heap.size 5 1 (.slice ac l.length cc) l.length xs)) (fun _ vj _ => l.length - (intOf vj).toNat)
          case atStart => exact ⟨0, Nat.zero_le _, rfl, HG4⟩
          case round =>
            obtain ⟨j, hj, rfl, HJ⟩ := hrel
            clear HG4
            rename_i wq _ _ _ _ _ _ _ _
            by_cases hjl : j < l.length
            · obtain ⟨gc, hac⟩ : ∃ gc, ac = some ⟨gc, 0, none⟩ := by
                obtain ⟨xs, hxs⟩ := HJ.out.2
                rcases hxs.2 with ⟨_, h0⟩ | ⟨g, cap', cur, hv, _⟩
                · omega
                · cases hv; exact ⟨g, rfl⟩
              subst hac
              obtain ⟨⟨z, hz⟩, hfz, hn1, hn2⟩ := HJ.out.1.mark HJ.out.2 HA.out.2.2.1 (HA.out.2.2.2 gc rfl).1 (HA.out.2.2.2 gc rfl).2 hjl (.int .u8 90)
              have HN : Hid (_ ∧ _) := ⟨hn1, hn2⟩
              clear hn1 hn2
              go_wp2
              go_roundw
              case rel => exact ⟨j + 1, by omega, by go_num, HN⟩
              case measure => simp [intOf]; omega
            · obtain rfl : j = l.length := by omega
              have T5 : Hid True := trivial
              have T6 : Hid True := trivial
              have T7 : Hid True := trivial
              obtain ⟨axx, cxx, hvx5, hbx5⟩ := HJ.out.1.ox.slice
              cases hvx5
              obtain ⟨ayy, cyy, hvy5, hby5⟩ := HJ.out.1.oy.slice
              cases hvy5
              have HBX : Hid (Bytes _ _ (X) ∧ Bytes _ _ (Y ++ l)) := ⟨hbx5, hby5⟩
              clear hbx5 hby5
              go_wp2_with (first
                | (go_at_call 17; clear T5; refine (dlen_any _ bd _ _ HJ.out.1.dd).mono ?_; rintro r w7 ⟨rfl, rfl⟩)
                | (go_at_call 17; refine (dlen_any _ bf _ _ HJ.out.1.df).mono ?_; rintro r w7 ⟨rfl, rfl⟩)
                | (go_at_call 18; clear T6; refine (dsum_any _ bd _ _ HJ.out.1.dd).mono ?_; rintro r w7 ⟨rfl, rfl⟩)
                | (go_at_call 18; refine (dsum_any _ bf _ _ HJ.out.1.df).mono ?_; rintro r w7 ⟨rfl, rfl⟩)
                | (go_at_call 9; clear T7; refine (rsum_any (X) _ _ _ _ rfl HBX.out.1 (by unfold maxLen; omega)).mono ?_; rintro r w7 ⟨rfl, rfl⟩)
                | (go_at_call 9; refine (rsum_any (Y ++ l) _ _ _ _ List.length_append HBX.out.2 (by unfold maxLen; omega)).mono ?_; rintro r w7 ⟨rfl, rfl⟩))
              go_roundw
              case rel => exact ⟨k + 1, _, _, _, _, _, _, by omega, by go_num, rfl, by rw [List.length_append], HJ.out.1, HLEN2.out⟩
              case measure => simp [intOf]; omega
        · have hm3 : ((k : Int).tmod 3 == 2) = false := by rw [Int.tmod_eq_emod_of_nonneg (by omega)]; simp; omega
          go_wp2_with (first
            | (go_at_call 13; refine (copy_any l _ _ _ HBy.out (by omega)).mono ?_; rintro r wc ⟨vc, rfl, hoc, hbc⟩; obtain ⟨ac, cc, hvc, hbyc⟩ := hoc.slice; subst hvc; have HOC : Hid (Own wc wr.heap.size (.slice ac l.length cc) l ∧ Below wr.heap.size wr wc ∧ Bytes wc ac l) := ⟨hoc, hbc, hbyc⟩;  clear hoc hbc hbyc)
            | (go_at_call 15; refine (dwrite_any _ bd _ _ l ac cc (HI.out.1.keep HOC.out.2.1).dd (Crcm.sum_lt _ (own_mem HI.out.1.ox)) (by have := HLEN.out; omega) HOC.out.2.2 (HT.out.keep (HI.out.1.keep HOC.out.2.1).bel)).mono ?_; rintro r wd ⟨rfl, hd, hk⟩; have HW : Hid (DigAt wd bd _ _ ∧ Kept bd bd wc wd) := ⟨hd, hk⟩; clear hd hk)
            | (at_builtin; refine wpList_append_sep _ rfl _ _ rfl B _ X l _ _ _ rfl ((HI.out.1.keep HOC.out.2.1).wrD HW.out.2).1 rfl rfl (HP2.out _ ((HI.out.1.keep HOC.out.2.1).wrD HW.out.2).2.2.2.1) HLE.out.1 HLE.out.2 (by have := HLEN.out; omega) ((HI.out.1.keep HOC.out.2.1).wrD HW.out.2).2.2.2.2 ?_; intro v' wz ho hg hs; obtain ⟨a', c', hv', _⟩ := ho.slice; subst hv'; have HA : Hid (Aft w wz B bd bf wr.heap.size (.slice a' (X ++ l).length c') (.slice ay Y.length cy) (.slice ac l.length cc) (X ++ l) Y l) := aft_x HI.out.1 HOC.out.2.1 HOC.out.1 HW.out.2 HW.out.1 ho hg hs; clear ho hg hs)
            | (go_at_call 16; obtain ⟨ac2, cc2, hvc2, hby2⟩ := (show Own _ _ _ l from ⟨HBy.out.1, HA.out.2.1⟩).slice; cases hvc2; refine (same_at l l _ _ _ _ _ _ _ rfl rfl (HP2.out _ HA.out.1.bel) hby2 (by unfold maxLen; omega) (by unfold maxLen; omega)).mono ?_; rw [decide_eq_true (rfl : l = l)]; rintro r ws ⟨rfl, q, rfl⟩; clear hby2))
          have HLEN2 : Hid ((X ++ l).length + (Y).length ≤ tot L (k + 1)) := by
            show _ ≤ _
            rw [tot, HLK.out]
            have := HI.out.2
            simp only [List.length_append]
            omega
          have hx4 : (X ++ l).length ≤ 1048576 ∧ (Y).length ≤ 1048576 := by have h1 := HLEN2.out; have h2 := tot_mono L (show k + 1 ≤ n by omega); have h3 := HTOT.out; omega
          obtain ⟨hx4, hy4⟩ := hx4
          have HG4 : Hid (Dg w (wz.drewN q) B bd bf (.slice a' (X ++ l).length c') (.slice ay Y.length cy) (X ++ l) (Y) ∧ ∃ xs, (wz.drewN q).ownsRow wr.heap.size 5 1 (.slice ac l.length cc) l.length xs) := ⟨HA.out.1.drewN q, _, own_row_keep HA.out.2.1 ⟨rfl, rfl, rfl, Nat.le_refl _, fun _ _ => rfl⟩⟩
          obtain ⟨wy, hwy⟩ : ∃ wy, wz.drewN q = wy := ⟨_, rfl⟩
          rw [hwy] at HG4 ⊢
          clear hwy
          go_loopw [10, 65] (fun _ vj wq => ∃ j : Nat, j ≤ l.length ∧ vj = .int .i64 j ∧ Hid (Dg w wq B bd bf (.slice a' (X ++ l).length c') (.slice ay Y.length cy) (X ++ l) (Y) ∧ ∃ xs, wq.ownsRow wr.heap.size 5 1 (.slice ac l.length cc) l.length xs)) (fun _ vj _ => l.length - (intOf vj).toNat)
          case atStart => exact ⟨0, Nat.zero_le _, rfl, HG4⟩
          case round =>
            obtain ⟨j, hj, rfl, HJ⟩ := hrel
            clear HG4
            rename_i wq _ _ _ _ _ _ _ _
            by_cases hjl : j < l.length
            · obtain ⟨gc, hac⟩ : ∃ gc, ac = some ⟨gc, 0, none⟩ := by
                obtain ⟨xs, hxs⟩ := HJ.out.2
                rcases hxs.2 with ⟨_, h0⟩ | ⟨g, cap', cur, hv, _⟩
                · omega
                · cases hv; exact ⟨g, rfl⟩
              subst hac
              obtain ⟨⟨z, hz⟩, hfz, hn1, hn2⟩ := HJ.out.1.mark HJ.out.2 HA.out.2.2.1 (HA.out.2.2.2 gc rfl).1 (HA.out.2.2.2 gc rfl).2 hjl (.int .u8 90)
              have HN : Hid (_ ∧ _) := ⟨hn1, hn2⟩
              clear hn1 hn2
              go_wp2
              go_roundw
              case rel => exact ⟨j + 1, by omega, by go_num, HN⟩
              case measure => simp [intOf]; omega
            · obtain rfl : j = l.length := by omega
              have T5 : Hid True := trivial
              have T6 : Hid True := trivial
              have T7 : Hid True := trivial
              obtain ⟨axx, cxx, hvx5, hbx5⟩ := HJ.out.1.ox.slice
              cases hvx5
              obtain ⟨ayy, cyy, hvy5, hby5⟩ := HJ.out.1.oy.slice
              cases hvy5
              have HBX : Hid (Bytes _ _ (X ++ l) ∧ Bytes _ _ (Y)) := ⟨hbx5, hby5⟩
              clear hbx5 hby5
              go_wp2_with (first
                | (go_at_call 17; clear T5; refine (dlen_any _ bd _ _ HJ.out.1.dd).mono ?_; rintro r w7 ⟨rfl, rfl⟩)
                | (go_at_call 17; refine (dlen_any _ bf _ _ HJ.out.1.df).mono ?_; rintro r w7 ⟨rfl, rfl⟩)
                | (go_at_call 18; clear T6; refine (dsum_any _ bd _ _ HJ.out.1.dd).mono ?_; rintro r w7 ⟨rfl, rfl⟩)
                | (go_at_call 18; refine (dsum_any _ bf _ _ HJ.out.1.df).mono ?_; rintro r w7 ⟨rfl, rfl⟩)
                | (go_at_call 9; clear T7; refine (rsum_any (X ++ l) _ _ _ _ List.length_append HBX.out.1 (by unfold maxLen; omega)).mono ?_; rintro r w7 ⟨rfl, rfl⟩)
                | (go_at_call 9; refine (rsum_any (Y) _ _ _ _ rfl HBX.out.2 (by unfold maxLen; omega)).mono ?_; rintro r w7 ⟨rfl, rfl⟩))
              go_roundw
              case rel => exact ⟨k + 1, _, _, _, _, _, _, by omega, by go_num, by rw [List.length_append], rfl, HJ.out.1, HLEN2.out⟩
              case measure => simp [intOf]; omega
    · obtain rfl : k = n := by omega
      have T9 : Hid True := trivial
      go_wp2_with (first
        | (go_at_call 15; refine (dwrite_nil _ _).mono ?_; rintro r w7 ⟨rfl, rfl⟩)
        | (go_at_call 14; refine (dreset_nil _).mono ?_; rintro r w7 ⟨rfl, rfl⟩)
        | (go_at_call 17; refine (dlen_nil _).mono ?_; rintro r w7 ⟨rfl, rfl⟩)
        | (go_at_call 18; refine (dsum_nil _).mono ?_; rintro r w7 ⟨rfl, rfl⟩))
      go_ret
      exact ⟨rfl, HI.out.1.bel.alloc HI.out.1.bel.size _⟩
theorem own : ownKnob Tryd.prog.godebug = none := by kernel_rfl
theorem laidOut : laidOutB Tryd.prog = true := by kernel_rfl
set_option maxRecDepth 100000 in
theorem contract (H : Type) (enc : TypeId × Value → H) (W : World) (base : Nat) (args : Array Value) (ds gs : List (DataW H)) (before : List MemPlace)
    (hval : ∀ (j : Nat) t v, Tryd.f5.params[j]? = some t → args[j]? = some v → Value.okWide Tryd.prog W .any base t v)
    (hW : DataW.Whole enc Tryd.prog Tryd.f5.params.toList Rows.crcDigestsSpec.vars false W args.toList ds gs before)
    (hsz : (DataW.weightsEach Tryd.prog (Tryd.f5.params.toList ++ Rows.crcDigestsSpec.plain.varTypes Tryd.prog) (ds ++ gs)).all (· ≤ reachBytes) = true) (hk : Rows.uptoSmall H (ds ++ gs) = true) (hL : laidMetH Tryd.prog ([("daybook/crc.halves", Rows.laid_daybook_crc_halves)]) W) :
    Calls Tryd.prog 5 args W fun e W' => ∃ v, e = .returned v ∧ Rows.crcDigestsSpec.post enc Tryd.prog Tryd.f5 false true false false W args v W' := by
  have hW' := hW
  obtain ⟨p, q, hA0, hV, rfl, hfz, hnd⟩ := hW
  have hA : DataW.TrodAll enc Tryd.prog W 0 (fun _ => true) true Tryd.f5.params.toList args.toList ds p := hA0
  rw [Tryd.params5] at hA hval hsz
  obtain ⟨v0, vs0, d0, ds0, p0, q0, hargs, rfl, rfl, h0, r0⟩ := trodAll_cons hA
  obtain ⟨rfl, rfl, rfl⟩ := trodAll_nil r0
  obtain rfl : args = #[v0] := by cases args; simp_all
  obtain ⟨rfl, rfl⟩ := trodVars_none hV
  obtain ⟨a0, len0, cap0, rfl⟩ := okWide_slice Tryd.underlying30 (hval 0 30 v0 rfl rfl)
  have k0 := h0
  have lt0 : ∀ x ∈ p0, x.block < W.heap.size := by obtain ⟨m, hm⟩ := k0; exact DataW.trod_lt m _ _ _ hm
  obtain ⟨A0, L0, C0, w0, u0⟩ : ∃ (A : Nat → Option Addr) (L : Nat → List Nat) (C : Nat → Nat), Pieces W a0 len0 A L C ∧ len0 + tot L len0 + 1 ≤ Rows.uptoBulk d0 := by
    obtain ⟨fuel, hf⟩ := h0
    rcases Go.Deep.open_int_rows Tryd.underlying30 Tryd.underlying22 Tryd.underlying5 (by kernel_rfl) (by kernel_rfl) hf with ⟨hcs, hx⟩ | ⟨x, l, c, A, L, C, Z, hcs, _, hl, hm, hx, hr⟩
    · simp [Value.cells] at hcs
      obtain ⟨rfl, rfl, rfl⟩ := hcs
      obtain ⟨rfl, rfl⟩ := Prod.mk.inj hx
      exact ⟨fun _ => none, fun _ => [], fun _ => 0, ⟨.inl rfl, fun r hr => by omega⟩, by simp [Rows.uptoBulk, tot]⟩
    · simp [Value.cells] at hcs
      obtain ⟨rfl, rfl, rfl⟩ := hcs
      obtain ⟨ll, h1, h2⟩ := pieces_of x len0 cap0 A L C Z hl hr
      refine ⟨A, ll, C, h2, ?_⟩
      have hd : d0 = _ := (Prod.mk.inj hx).1
      rw [hd]
      have hbr := bulk_range (H := H) len0 (fun r => Go.Deep.intRow .u8 (A r) (L r) (Z r)) ll (fun r hrl => by rw [h1 r hrl]; obtain ⟨_, q2, _, q4, _, q6, _⟩ := hr r (by omega); exact bulk_row (A r) (L r) (C r) (Z r) q4 q2 q6)
      simp only [Rows.uptoBulk]
      omega
  have hbk := bulks.bound hk
  simp only [List.append_nil, Rows.uptoBulkAll] at hbk
  have hsum : len0 + tot L0 len0 ≤ 1048576 := by omega
  clear hA0
  refine (walk len0 a0 cap0 A0 L0 C0 W w0 hsum (tab_of hL)).mono fun e W' ⟨he, bel⟩ => ?_
  subst he
  exact ⟨_, rfl, _, _, _, [], _, [], hW', trodAll_mk1 (shut_bool Tryd.underlying4 _), (trodAll_cons_mk (Below.trod laidOut (by kernel_rfl) (of_decide_eq_true (by kernel_rfl)) k0 bel lt0) trodAll_mk0), rfl, bel.frame _, fun h => by cases h⟩
set_option maxRecDepth 100000 in
theorem start (os : Os) : ∃ w0 : World, w0.os = os ∧ (w0.forCall (fun _ _ => 0) ⟨#[], #[.slice none 0 0], []⟩).variablesB Tryd.prog = true ∧
    ((w0.forCall (fun _ _ => 0) ⟨#[], #[.slice none 0 0], []⟩).heap.toList.drop Tryd.prog.globals.size).take ((begin Tryd.prog (fun _ _ => 0) default).world.heap.size - Tryd.prog.globals.size) = (begin Tryd.prog (fun _ _ => 0) default).world.heap.toList.drop Tryd.prog.globals.size ∧
    Input.okWideB Tryd.prog (w0.forCall (fun _ _ => 0) ⟨#[], #[.slice none 0 0], []⟩) 5 ⟨#[], #[.slice none 0 0], []⟩ = true ∧
    laidMet Tryd.prog Rows.crcDigestsUptoRow.laid (w0.forCall (fun _ _ => 0) ⟨#[], #[.slice none 0 0], []⟩).memory ∧
    ∀ (H : Type) (enc : TypeId × Value → H), DataW.whole enc Tryd.prog (w0.forCall (fun _ _ => 0) ⟨#[], #[.slice none 0 0], []⟩).memory Tryd.f5.params.toList Rows.crcDigestsSpec.vars false (#[.slice none 0 0] : Array Value).toList 8 = some ([.nil], [], []) :=
  ⟨{ World.holding Tryd.prog os ⟨#[], #[], []⟩ with heap := (World.holding Tryd.prog os ⟨#[], #[], []⟩).heap.modify 0 fun
      | .cells _ t frozen => .cells #[.int .u32 0, .int .u32 498536548, .int .u32 997073096, .int .u32 651767980, .int .u32 1994146192, .int .u32 1802195444, .int .u32 1303535960, .int .u32 1342533948, .int .u32 3988292384, .int .u32 4027552580, .int .u32 3604390888, .int .u32 3412177804, .int .u32 2607071920, .int .u32 2262029012, .int .u32 2685067896, .int .u32 3183342108] t frozen
      | o => o }, rfl, by kernel_rfl, by kernel_rfl, by kernel_rfl, laidMet_of_run' 8 (by kernel_rfl) (by kernel_rfl), fun _ _ => by kernel_rfl⟩
set_option maxRecDepth 100000 in
theorem lifted (os : Os) (started : os.Started) (H : Type) (enc : TypeId × Value → H) (F : Stop.Interp) :
    ReturnsInHanded {} Tryd.checked os 5 .any ((Rows.OpenSpec.upto Rows.crcDigestsSpec).preRow enc Tryd.prog Tryd.f5 Rows.crcDigestsUptoRow.domain false Rows.crcDigestsUptoRow.laid) (((Rows.OpenSpec.upto Rows.crcDigestsSpec).at F).post enc Tryd.prog Tryd.f5 false true false false) := by
  obtain ⟨w0, h1, h2, h3, h4, h5, h6⟩ := start os
  refine returnsInHanded_of_row (C := Tryd.checked) (s := Rows.OpenSpec.upto Rows.crcDigestsSpec) own started (by kernel_rfl) Tryd.func5
    (witness_row_at (enc := enc) (C := Tryd.checked) false w0 #[.slice none 0 0] h1 h2 h3 h4
      (OpenSpec.preRow_of_cond 8 (h6 H enc) (by kernel_rfl) (fun k hk => by cases hk; kernel_rfl) (by kernel_rfl) h5)) ?_
  intro W base args ds gs before hval hW _ hcond hsz hL _ _
  exact contract H enc W base args ds gs before hval hW hsz (hcond _ rfl) hL
theorem said : Rows.CrcDigestsUptoSaid :=
  OpenClaim.holds_of_cond 5 Tryd.f5 rfl rfl rfl rfl rfl rfl rfl ⟨rfl, rfl, rfl, rfl, rfl⟩ rfl rfl rfl rfl rfl (by kernel_rfl) Tryd.func5 (by kernel_rfl)
    (of_decide_eq_true (by kernel_rfl)) (by unfold Func.isWrapper; first | (rw [if_pos (by decide +kernel)]; kernel_rfl) | (rw [if_neg (by decide +kernel)]; exact ⟨rfl, rfl⟩))
    (fun os started H enc _ F => by rw [OpenClaim.pre_eq_preRow]; exact lifted os started H enc F)
theorem plain (f : FuncId) (fn : Func) (hf : Tryd.pinned.checked.prog.funcNamed "daybook/daybooklaw03.CrcDigests" = some f) (hfn : Tryd.pinned.checked.prog.funcs[f]? = some fn) :
    false = Tryd.pinned.checked.prog.looks [] ∧ ∀ (j : Nat) t, fn.params[j]? = some t → Tryd.pinned.checked.prog.wantsStandIn t = false := by
  obtain rfl : f = 5 := Option.some.inj ((show Tryd.prog.funcNamed "daybook/daybooklaw03.CrcDigests" = some 5 by kernel_rfl).symm.trans hf) |>.symm
  obtain rfl : fn = Tryd.f5 := (Option.some.inj (Tryd.func5.symm.trans hfn)).symm
  refine ⟨by kernel_rfl, fun j t ht => ?_⟩
  rw [Tryd.params5] at ht
  have hm := Array.mem_of_getElem? ht
  have hall : ∀ t ∈ (#[30] : Array TypeId), Tryd.prog.wantsStandIn t = false := by
    intro t ht
    simp only [List.mem_toArray, List.mem_cons, List.not_mem_nil, or_false] at ht
    rcases ht with rfl <;> kernel_rfl
  exact hall t hm
theorem card : Rows.CrcDigestsUptoCardSaid :=
  Claim7.holds_tied_plain_at .later [] _ _ _ _ said (fun _ h => by cases h) (by kernel_rfl) (fun _ h => by cases h) crcDigestsUpto_row_tie rfl ⟨rfl, rfl⟩ (by kernel_rfl) rfl plain (by kernel_rfl)
end Go.Proofs.YtnecnedkoddihaaDoor.crcDigests
