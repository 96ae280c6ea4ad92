/- The parts add up to the total, and nobody gets what is not his. -/
import Derived.Test.YtapbceeiehiikaaNsk
import Derived.SizedLaws
import Derived.ChangeOld
import Derived.Laws.AppendOwnNone
import Derived.Deep.RegionWith
import Derived.Deep.DeepCutAuto
namespace Go.Proofs.Ytapbceeiehiikaa.numShareWhole
open Go.ChangeShapes Go.WideShapes Go.ChangeAt Go.RowKit Go.Sort
set_option linter.unusedVariables false
theorem litI (w : World) : OwnI (w.alloc (.cells #[] 2)) w.heap.size (.slice (some ⟨w.heap.size, 0, none⟩) 0 0) [] :=
  ⟨by simp, World.ownsRow_lit w #[] 0 (Nat.le_refl _) (by simp) rfl⟩
set_option maxRecDepth 20000 in
set_option maxHeartbeats 8000000 in
theorem walk_some (t : Int) (l : List Int) (n : Nat) (x : Addr) (cap : Nat) (w : World) (HT : Hid (inI t)) (HN : Hid (l.length = n)) (HI : Hid (Ints w (some x) l)) (hf : n ≤ cap) (hr : cap * 8 ≤ 140737488351232) :
    Calls Try.prog 4 #[.int .i64 t, .slice (some x) n cap] w fun e w' => e = .returned (.bool true) ∧ Below w.heap.size w w' := by
  obtain ⟨i0, hi, hz0, hz1, hz2⟩ := info_parts Try.infoI
  have hnI : (n : Int) ≤ 17592186044416 := by omega
  have HM : Hid (n ≤ maxLen) := by show _ ≤ _; unfold maxLen; omega
  go_enter Try.func4, Try.ntmps4
  go_upto_region 6 with (first
    | (go_at_call 6; refine (shares_any w).mono ?_; rintro e w2 ⟨rfl, hb2⟩; have HB2 : Hid (Below w.heap.size w w2) := hb2; clear hb2)
    | (at_builtin; refine wpList_append_own _ rfl _ _ 22 rfl w2.heap.size 2 i0 (.int .i64 0) 1 8 Try.underlying22 hi hz0 hz1 hz2 rfl (by decide) _ _ _ rfl (litI w2).2 x n cap (BI l) rfl (by rw [BI_length, HN.out]) (ints_cells ((HI.out.keep HB2.out).keep (bal (Below.refl _ _) _))) (BI_one l) (by unfold maxLen; simp; try omega) (by simp; try omega) (by simp) ?_; intro v3 w3 ho3 hg3 _; have hb3 : Below w2.heap.size w2 w3 := ((Below.refl w2.heap.size w2).alloc (Nat.le_refl _) _).grown hg3 (by simp) (fun k hk => by cases hk; exact Nat.le_refl _); obtain ⟨a3, cap3, rfl, hc3, hm3, hnm3⟩ := (show OwnI w3 w2.heap.size v3 l from ⟨(HI.out.keep HB2.out).1, by rw [HN.out]; simpa [BI] using ho3⟩).shape; clear ho3 hg3; rw [HN.out]; have HB3 : Hid (Below w.heap.size w w3) := bnx HB2.out hb3; have HI3 : Hid (Ints w3 a3 l) := hnm3; clear hb3 hnm3 hc3 hm3)
    | (go_at_call 8; refine (share_any t l n a3 _ w3 HT.out HI3.out HN.out).mono ?_; rintro e w4 ⟨v, rfl, hb4, hv1, hv2⟩; obtain ⟨sb, hsb⟩ : ∃ sb, shB t l = sb := ⟨_, rfl⟩; rw [hsb]; have HSB : Hid (shB t l = sb) := hsb; have HV : Hid ((shB t l = false → v = .slice none 0 0) ∧ (shB t l = true → ∃ b, v = .slice (some ⟨b, 0, none⟩) n n ∧ w3.heap.size ≤ b ∧ Dealt w4 l n t b)) := ⟨hv1, hv2⟩; have HB4 : Hid (Below w.heap.size w w4) := bnx HB3.out hb4; have HI4 : Hid (Ints w4 a3 l) := HI3.out.keep hb4; clear hv1 hv2 hb4 hsb)
    | (go_at_call 10; refine (sum_any l n a3 _ w4 HN.out HI4.out HM.out).mono ?_; obtain ⟨fv, hfv⟩ : ∃ fv, fitV l.sum = fv := ⟨_, rfl⟩; obtain ⟨fb, hfb⟩ : ∃ fb, fitB l.sum = fb := ⟨_, rfl⟩; rw [hfv, hfb]; have HF : Hid (fitV l.sum = fv ∧ fitB l.sum = fb) := ⟨hfv, hfb⟩; rintro e w5 ⟨rfl, hb5⟩; have HB5 : Hid (Below w.heap.size w w5) := bnx HB4.out hb5; have HV5 : Hid ((shB t l = false → v = .slice none 0 0) ∧ (shB t l = true → ∃ b, v = .slice (some ⟨b, 0, none⟩) n n ∧ Dealt w5 l n t b)) := ⟨HV.out.1, fun h => by obtain ⟨b, g1, _, g2⟩ := HV.out.2 h; exact ⟨b, g1, g2.keep hb5⟩⟩; clear hb5 hfv hfb))
  clear HV HI3 HI4 HB2 HB3 HB4
  go_cut [10] (fun v10 wx => v10 = .bool (decide (0 ≤ t) && decide (n ≤ 64) && fb && decide (0 < fv)) ∧ wx = w5)
  case first =>
    by_cases h1 : 0 ≤ t
    · have d1 : decide (0 ≤ t) = true := decide_eq_true h1
      by_cases h2 : n ≤ 64
      · have d2 : decide ((n : Int) ≤ 64) = true := decide_eq_true (by omega)
        have d2' : (n : Int) ≤ 64 := by omega
        cases fb with
        | true =>
          by_cases h3 : 0 < fv
          · have d3 : decide (0 < fv) = true := decide_eq_true h3
            go_wp2
            go_meet
            exact ⟨congrArg Value.bool (by first | (simp_all; done) | (simp_all; intros; omega)), rfl⟩
          · have d3 : decide (0 < fv) = false := decide_eq_false h3
            go_wp2
            go_meet
            exact ⟨congrArg Value.bool (by first | (simp_all; done) | (simp_all; intros; omega)), rfl⟩
        | false =>
          go_wp2
          go_meet
          exact ⟨congrArg Value.bool (by first | (simp_all; done) | (simp_all; intros; omega)), rfl⟩
      · have d2 : decide ((n : Int) ≤ 64) = false := decide_eq_false (by omega)
        have d2' : ¬ (n : Int) ≤ 64 := by omega
        go_wp2
        go_meet
        exact ⟨congrArg Value.bool (by first | (simp_all; done) | (simp_all; intros; omega)), rfl⟩
    · have d1 : decide (0 ≤ t) = false := decide_eq_false h1
      go_wp2
      go_meet
      exact ⟨congrArg Value.bool (by first | (simp_all; done) | (simp_all; intros; omega)), rfl⟩
  case rest =>
  obtain ⟨rfl, hwx⟩ := hcut
  obtain rfl := hwx.symm
  obtain ⟨r0, hr0⟩ : ∃ r0, (decide (0 ≤ t) && decide (n ≤ 64) && fb && decide (0 < fv)) = r0 := ⟨_, rfl⟩
  rw [hr0]
  have HSA : Hid (shB t l = (r0 && decide (∀ x ∈ l, 0 ≤ x))) := by show _ = _; rw [← hr0, ← HF.out.1, ← HF.out.2]; exact shB_all t l n HN.out
  clear hr0 HF
  go_wp2
  go_loopw [10, 48] (fun vb vi wr => ∃ (k : Nat) (r : Bool), vb = .bool r ∧ vi = .int .i64 k ∧ k ≤ n ∧ wr = w5 ∧ Hid (r = (r0 && decide (∀ j, j < k → 0 ≤ l.getD j 0)))) (fun _ vi _ => n - (intOf vi).toNat)
  case atStart => exact ⟨0, r0, rfl, rfl, Nat.zero_le _, rfl, by show _ = _; rw [decide_eq_true (fun j hj => by omega)]; simp⟩
  case round =>
    obtain ⟨k, r, rfl, rfl, hk, rfl, HJ⟩ := hrel
    by_cases hkn : k < n
    · obtain ⟨b0, off, ha, hx⟩ : ∃ b0 off, x = (⟨b0, off, none⟩ : Addr) ∧ wr.cell? ⟨b0, off + k, none⟩ = some (.int .i64 (l.getD k 0)) := by
        rcases (HI.out.keep HB5.out).2 with h | ⟨b0, off, ha, _, hc⟩
        · have := HN.out; rw [h] at this; simp at this; omega
        · cases ha; exact ⟨b0, off, rfl, hc k (by rw [HN.out]; exact hkn)⟩
      subst ha
      obtain ⟨y, ey⟩ : ∃ y, l.getD k 0 = y := ⟨_, rfl⟩
      rw [ey] at hx
      have HY : Hid (l.getD k 0 = y) := ey
      have hkz : (k : Int) < (n : Int) := by omega
      have HSTEP : Hid ((r && decide (0 ≤ y)) = (r0 && decide (∀ j, j < k + 1 → 0 ≤ l.getD j 0))) := by
        show _ = _
        rw [HJ.out, Bool.and_assoc, ← Bool.decide_and]
        congr 1
        refine decide_eq_decide.2 ⟨fun h j hj => ?_, fun h => ⟨fun j hj => h j (by omega), by rw [← ey]; exact h k (by omega)⟩⟩
        by_cases c : j = k
        · rw [c, ey]; exact h.2
        · exact h.1 j (by omega)
      clear ey
      cases r with
      | false =>
        go_wp2
        go_roundw
        case rel => exact ⟨k + 1, false, rfl, by go_num, by omega, by first | rfl | trivial, by have h9 := HSTEP.out; rw [Bool.false_and] at h9; exact h9⟩
        case measure => first | (simp [intOf]; done) | (simp [intOf]; omega)
      | true =>
        by_cases hy : 0 ≤ y
        · go_wp2
          go_roundw
          case rel => exact ⟨k + 1, true, by first | rfl | (congr 1; simp; omega), by go_num, by omega, by first | rfl | trivial, by have h9 := HSTEP.out; rw [decide_eq_true hy, Bool.and_self] at h9; exact h9⟩
          case measure => first | (simp [intOf]; done) | (simp [intOf]; omega)
        · have hyd : decide (0 ≤ y) = false := decide_eq_false hy
          go_wp2
          go_roundw
          case rel => exact ⟨k + 1, false, by first | rfl | (congr 1; simp; omega), by go_num, by omega, by first | rfl | trivial, by have h9 := HSTEP.out; rw [hyd, Bool.and_false] at h9; exact h9⟩
          case measure => first | (simp [intOf]; done) | (simp [intOf]; omega)
    · obtain rfl : k = n := by omega
      have HR : Hid (r = shB t l) := by
        show _ = _
        rw [HSA.out, HJ.out]
        congr 1
        refine decide_eq_decide.2 ⟨fun h y hy => ?_, fun h j hj => ?_⟩
        · obtain ⟨j, hj, rfl⟩ := List.getElem_of_mem hy
          have := h j (by rw [← HN.out]; exact hj)
          rw [List.getD_eq_getElem?_getD, List.getElem?_eq_getElem hj] at this
          simpa using this
        · rw [List.getD_eq_getElem?_getD, List.getElem?_eq_getElem (by rw [HN.out]; exact hj)]
          exact h _ (List.getElem_mem _)
      obtain rfl : r = sb := HR.out.trans HSB.out
      cases r with
      | false =>
        obtain rfl := HV5.out.1 HSB.out
        go_wp2
        go_ret
        exact ⟨ret_bool (by simp), HB5.out⟩
      | true =>
        obtain ⟨b, rfl, hd⟩ := HV5.out.2 HSB.out
        have HD5 : Hid (Dealt wr l k t b) := hd
        have HMk : Hid (k ≤ maxLen) := HM.out
        have HB5' : Hid (Below w.heap.size w wr) := HB5.out
        obtain ⟨P, eP⟩ : ∃ P, P = partL l k t.toNat l.sum.toNat := ⟨_, rfl⟩
        have HP : Hid (P.length = k ∧ P.sum = t ∧ (fitV P.sum = t ∧ fitB P.sum = true) ∧ P = partL l k t.toNat l.sum.toNat) := by
          have h1 : P.sum = t := by rw [eP, partL_sum hd.deal hd.ord]; have := hd.pos; omega
          have h2 := fit_in t HT.out
          exact ⟨by rw [eP]; exact partL_len _ _ _ _, h1, by rw [h1]; exact h2, eP⟩
        have HPI : Hid (Ints wr (some ⟨b, 0, none⟩) P) := by rw [eP]; exact hd.ints
        have hk64 : k ≤ 64 := hd.deal.n1
        clear eP hd
        have HPin : Hid (∀ j, j < k → 0 ≤ P.getD j 0 ∧ (l.getD j 0 = 0 → P.getD j 0 = 0)) := by
          intro j hj
          have hd := HD5.out
          rw [HP.out.2.2.2, partL_get _ _ _ _ _ hj]
          refine ⟨by omega, fun h0 => ?_⟩
          obtain ⟨f, hf⟩ := hd.ord
          have := part_none hf hd.deal.hW hd.deal.W0 hd.deal.n0 hj (by unfold wtN; rw [h0]; rfl)
          omega
        go_wp2_with (first
          | (at_builtin; refine wpList_append_own _ rfl _ _ 22 rfl wr.heap.size 2 i0 (.int .i64 0) 1 8 Try.underlying22 hi hz0 hz1 hz2 rfl (by decide) _ _ _ rfl (litI wr).2 ⟨b, 0, none⟩ k k (BI P) rfl (by rw [BI_length, HP.out.1]) (ints_cells (HPI.out.keep (bal (Below.refl _ _) _))) (BI_one P) (by unfold maxLen; simp; try omega) (by simp; try omega) (by simp) ?_; intro v6 w6 ho6 hg6 _; have hb6 : Below wr.heap.size wr w6 := ((Below.refl wr.heap.size wr).alloc (Nat.le_refl _) _).grown hg6 (by simp) (fun k hk => by cases hk; exact Nat.le_refl _); obtain ⟨a6, cap6, rfl, hc6, hm6, hnm6⟩ := (show OwnI w6 wr.heap.size v6 P from ⟨HPI.out.1, by rw [HP.out.1]; simpa [BI] using ho6⟩).shape; clear ho6 hg6; rw [HP.out.1]; have HB6 : Hid (Below w.heap.size w w6) := bnx HB5'.out hb6; have HI6 : Hid (Ints w6 a6 P) := hnm6; have HP6 : Hid (Ints w6 (some ⟨b, 0, none⟩) P) := HPI.out.keep hb6; clear hb6 hnm6 hc6 hm6)
          | (go_at_call 10; refine (sum_any P k a6 _ w6 HP.out.1 HI6.out (by unfold maxLen; omega)).mono ?_; rw [HP.out.2.2.1.1, HP.out.2.2.1.2]; rintro e w7 ⟨rfl, hb7⟩; have HB7 : Hid (Below w.heap.size w w7) := bnx HB6.out hb7; have HP7 : Hid (Ints w7 (some ⟨b, 0, none⟩) P) := HP6.out.keep hb7; clear hb7))
        go_loopw [87] (fun vi wr2 => ∃ j : Nat, vi = .int .i64 j ∧ j ≤ k ∧ wr2 = w7) (fun vi _ => k - (intOf vi).toNat)
        case atStart => exact ⟨0, rfl, Nat.zero_le _, rfl⟩
        case round =>
          obtain ⟨j, rfl, hj, hw8⟩ := hrel
          obtain rfl := hw8.symm
          by_cases hjk : j < k
          · obtain ⟨b0, off, ha, hx⟩ : ∃ b0 off, x = (⟨b0, off, none⟩ : Addr) ∧ w7.cell? ⟨b0, off + j, none⟩ = some (.int .i64 (l.getD j 0)) := by
              rcases (HI.out.keep HB7.out).2 with h | ⟨b0, off, ha, _, hc⟩
              · have := HN.out; rw [h] at this; simp at this; omega
              · cases ha; exact ⟨b0, off, rfl, hc j (by rw [HN.out]; exact hjk)⟩
            subst ha
            have hu : w7.cell? ⟨b, j, none⟩ = some (.int .i64 (P.getD j 0)) := by
              rcases HP7.out.2 with h | ⟨b1, off1, ha1, _, hc⟩
              · have := HP.out.1; rw [h] at this; simp at this; omega
              · cases ha1
                have := hc j (by rw [HP.out.1]; exact hjk)
                rw [Nat.zero_add] at this
                exact this
            obtain ⟨y, ey⟩ : ∃ y, l.getD j 0 = y := ⟨_, rfl⟩
            obtain ⟨u, eu⟩ : ∃ u, P.getD j 0 = u := ⟨_, rfl⟩
            have hpj := HPin.out j hjk
            rw [ey, eu] at hpj
            rw [ey] at hx
            rw [eu] at hu
            have hu0 : ¬ u < 0 := by omega
            have hu0' : 0 ≤ u := hpj.1
            have hjz : (j : Int) < (k : Int) := by omega
            clear ey eu
            by_cases hy : y = 0
            · have hu1 := hpj.2 hy
              subst hy hu1
              clear hpj
              go_wp2
              go_roundw
              case rel => exact ⟨j + 1, by go_num, by omega, by first | rfl | trivial⟩
              case measure => first | (simp [intOf]; done) | (simp [intOf]; omega)
            · have hyb : (y == 0) = false := by simpa using hy
              clear hpj
              go_wp2
              go_roundw
              case rel => exact ⟨j + 1, by go_num, by omega, by first | rfl | trivial⟩
              case measure => first | (simp [intOf]; done) | (simp [intOf]; omega)
          · obtain rfl : j = k := by omega
            go_wp2
            go_ret
            exact ⟨ret_bool (by simp), HB7.out⟩
set_option maxRecDepth 20000 in
set_option maxHeartbeats 8000000 in
theorem walk_none (t : Int) (l : List Int) (w : World) (HT : Hid (inI t)) (HN0 : Hid (l = [])) (HI : Hid (Ints w none l)) :
    Calls Try.prog 4 #[.int .i64 t, .slice none 0 0] w fun e w' => e = .returned (.bool true) ∧ Below w.heap.size w w' := by
  obtain ⟨i0, hi, hz0, hz1, hz2⟩ := info_parts Try.infoI
  have HN : Hid (l.length = 0) := by rw [HN0.out]; rfl
  have HM : Hid (0 ≤ maxLen) := Nat.zero_le _
  have HNS : Hid (shB t l = false) := by show _ = _; rw [HN0.out]; unfold shB wgB; simp
  go_enter Try.func4, Try.ntmps4
  go_upto_region 6 with (first
    | (go_at_call 6; refine (shares_any w).mono ?_; rintro e w2 ⟨rfl, hb2⟩; have HB2 : Hid (Below w.heap.size w w2) := hb2; clear hb2)
    | (at_builtin; refine wpList_append_own_none rfl _ _ 22 rfl w2.heap.size 2 i0 1 Try.underlying22 hi _ _ _ rfl (litI w2).2 rfl ?_; obtain ⟨w3, hw3⟩ : ∃ w3, w3 = w2.alloc (.cells #[] 2) := ⟨_, rfl⟩; rw [← hw3]; have HB3 : Hid (Below w.heap.size w w3) := (by rw [hw3]; exact bnx HB2.out ((Below.refl w2.heap.size w2).alloc (Nat.le_refl _) _)); clear hw3; obtain ⟨a3, ha3⟩ : ∃ a3 : Option Addr, a3 = some ⟨w2.heap.size, 0, none⟩ := ⟨_, rfl⟩; rw [← ha3]; have HI3 : Hid (Ints w3 a3 l) := ⟨by rw [HN0.out]; simp, .inl HN0.out⟩; clear ha3)
    | (go_at_call 8; refine (share_any t l 0 a3 _ w3 HT.out HI3.out HN.out).mono ?_; rintro e w4 ⟨v, rfl, hb4, hv1, hv2⟩; obtain ⟨sb, hsb⟩ : ∃ sb, shB t l = sb := ⟨_, rfl⟩; rw [hsb]; have HSB : Hid (shB t l = sb) := hsb; have HV : Hid ((shB t l = false → v = .slice none 0 0) ∧ (shB t l = true → ∃ b, v = .slice (some ⟨b, 0, none⟩) 0 0 ∧ w3.heap.size ≤ b ∧ Dealt w4 l 0 t b)) := ⟨hv1, hv2⟩; have HB4 : Hid (Below w.heap.size w w4) := bnx HB3.out hb4; have HI4 : Hid (Ints w4 a3 l) := HI3.out.keep hb4; clear hv1 hv2 hb4 hsb)
    | (go_at_call 10; refine (sum_any l 0 a3 _ w4 HN.out HI4.out HM.out).mono ?_; obtain ⟨fv, hfv⟩ : ∃ fv, fitV l.sum = fv := ⟨_, rfl⟩; obtain ⟨fb, hfb⟩ : ∃ fb, fitB l.sum = fb := ⟨_, rfl⟩; rw [hfv, hfb]; have HF : Hid (fitV l.sum = fv ∧ fitB l.sum = fb) := ⟨hfv, hfb⟩; rintro e w5 ⟨rfl, hb5⟩; have HB5 : Hid (Below w.heap.size w w5) := bnx HB4.out hb5; have HV5 : Hid ((shB t l = false → v = .slice none 0 0) ∧ (shB t l = true → ∃ b, v = .slice (some ⟨b, 0, none⟩) 0 0 ∧ Dealt w5 l 0 t b)) := ⟨HV.out.1, fun h => by obtain ⟨b, g1, _, g2⟩ := HV.out.2 h; exact ⟨b, g1, g2.keep hb5⟩⟩; clear hb5 hfv hfb))
  clear HV HI3 HI4 HB2 HB3 HB4
  go_cut [10] (fun v10 wx => v10 = .bool (decide (0 ≤ t) && decide (0 ≤ 64) && fb && decide (0 < fv)) ∧ wx = w5)
  case first =>
    by_cases h1 : 0 ≤ t
    · have d1 : decide (0 ≤ t) = true := decide_eq_true h1
      cases fb with
      | true =>
        by_cases h3 : 0 < fv
        · have d3 : decide (0 < fv) = true := decide_eq_true h3
          go_wp2
          go_meet
          exact ⟨congrArg Value.bool (by first | (simp_all; done) | (simp_all; intros; omega)), rfl⟩
        · have d3 : decide (0 < fv) = false := decide_eq_false h3
          go_wp2
          go_meet
          exact ⟨congrArg Value.bool (by first | (simp_all; done) | (simp_all; intros; omega)), rfl⟩
      | false =>
        go_wp2
        go_meet
        exact ⟨congrArg Value.bool (by first | (simp_all; done) | (simp_all; intros; omega)), rfl⟩
    · have d1 : decide (0 ≤ t) = false := decide_eq_false h1
      go_wp2
      go_meet
      exact ⟨congrArg Value.bool (by first | (simp_all; done) | (simp_all; intros; omega)), rfl⟩
  case rest =>
  obtain ⟨rfl, hwx⟩ := hcut
  obtain rfl := hwx.symm
  obtain ⟨r0, hr0⟩ : ∃ r0, (decide (0 ≤ t) && decide (0 ≤ 64) && fb && decide (0 < fv)) = r0 := ⟨_, rfl⟩
  rw [hr0]
  have HSA : Hid (shB t l = (r0 && decide (∀ x ∈ l, 0 ≤ x))) := by show _ = _; rw [← hr0, ← HF.out.1, ← HF.out.2]; exact shB_all t l 0 HN.out
  clear hr0 HF
  go_wp2
  go_loopw [10, 48] (fun vb vi wr => ∃ (k : Nat) (r : Bool), vb = .bool r ∧ vi = .int .i64 k ∧ k ≤ 0 ∧ wr = w5 ∧ Hid (r = (r0 && decide (∀ j, j < k → 0 ≤ l.getD j 0)))) (fun _ vi _ => 0 - (intOf vi).toNat)
  case atStart => exact ⟨0, r0, rfl, rfl, Nat.zero_le _, rfl, by show _ = _; rw [decide_eq_true (fun j hj => by omega)]; simp⟩
  case round =>
    obtain ⟨k, r, rfl, rfl, hk, rfl, HJ⟩ := hrel
    by_cases hkn : k < 0
    · omega
    · obtain rfl : k = 0 := by omega
      have HR : Hid (r = shB t l) := by
        show _ = _
        rw [HSA.out, HJ.out]
        congr 1
        refine decide_eq_decide.2 ⟨fun h y hy => ?_, fun h j hj => ?_⟩
        · obtain ⟨j, hj, rfl⟩ := List.getElem_of_mem hy
          have := h j (by rw [← HN.out]; exact hj)
          rw [List.getD_eq_getElem?_getD, List.getElem?_eq_getElem hj] at this
          simpa using this
        · rw [List.getD_eq_getElem?_getD, List.getElem?_eq_getElem (by rw [HN.out]; exact hj)]
          exact h _ (List.getElem_mem _)
      obtain rfl : r = sb := HR.out.trans HSB.out
      cases r with
      | false =>
        obtain rfl := HV5.out.1 HSB.out
        go_wp2
        go_ret
        exact ⟨ret_bool (by simp), HB5.out⟩
      | true =>
        exact absurd HSB.out (by rw [HNS.out]; simp)
set_option maxRecDepth 20000 in
theorem walk (t : Int) (l : List Int) (a : Option Addr) (cap : Nat) (w : World) (w0 : (Lit.int .i64 t).wf = true) (hb : Ints w a l) (hc : Came w a l.length cap 8) :
    Calls Try.prog 4 #[.int .i64 t, .slice a l.length cap] w fun e w' => e = .returned (.bool true) ∧ Below w.heap.size w w' := by
  obtain ⟨hf, hr, hn⟩ := hc
  have HT : Hid (inI t) := wf_i64 _ w0
  cases a with
  | some x => exact walk_some t l _ x cap w HT rfl hb hf hr
  | none =>
    obtain rfl := hn rfl
    obtain rfl : l = [] := List.length_eq_zero_iff.1 (by omega)
    exact walk_none t [] w HT rfl hb
theorem own : ownKnob Try.prog.godebug = none := by kernel_rfl
theorem laidOut : laidOutB Try.prog = true := by kernel_rfl
set_option maxRecDepth 100000 in
theorem contract (H : Type) (enc : TypeId × Value → H) (W : World) (base : Nat) (args : Array Value) (ds gs : List (DataW H)) (before : List MemPlace)
    (hval : ∀ (j : Nat) t v, Try.f4.params[j]? = some t → args[j]? = some v → Value.okWide Try.prog W .any base t v)
    (hW : DataW.Whole enc Try.prog Try.f4.params.toList Rows.numShareWholeSpec.vars false W args.toList ds gs before)
    (hsz : (DataW.weightsEach Try.prog (Try.f4.params.toList ++ Rows.numShareWholeSpec.plain.varTypes Try.prog) (ds ++ gs)).all (· ≤ reachBytes) = true) :
    Calls Try.prog 4 args W fun e W' => ∃ v, e = .returned v ∧ Rows.numShareWholeSpec.post enc Try.prog Try.f4 false true false false W args v W' := by
  have hW' := hW
  obtain ⟨p, q, hA0, hV, rfl, hfz, hnd⟩ := hW
  have hA : DataW.TrodAll enc Try.prog W 0 (fun _ => true) true Try.f4.params.toList args.toList ds p := hA0
  rw [Try.params4] at hA hval hsz
  obtain ⟨v0, vs0, d0, ds0, p0, q0, hargs, rfl, rfl, h0, r0⟩ := trodAll_cons hA
  obtain ⟨v1, vs1, d1, ds1, p1, q1, rfl, rfl, rfl, h1, r1⟩ := trodAll_cons r0
  obtain ⟨rfl, rfl, rfl⟩ := trodAll_nil r1
  obtain rfl : args = #[v0, v1] := by cases args; simp_all
  obtain ⟨rfl, rfl⟩ := trodVars_none hV
  obtain ⟨a0, rfl, rfl, rfl, w0⟩ := open_int Try.underlying2 (hval 0 2 v0 rfl rfl) h0
  obtain ⟨a1, len1, cap1, rfl⟩ := okWide_slice Try.underlying22 (hval 1 22 v1 rfl rfl)
  have k1 := h1
  have lt1 : ∀ x ∈ p1, x.block < W.heap.size := by obtain ⟨m, hm⟩ := k1; exact DataW.trod_lt m _ _ _ hm
  obtain ⟨l1, hlen1, w1, c1⟩ : ∃ l : List Int, l.length = len1 ∧ Ints W a1 l ∧ Came W a1 len1 cap1 8 := by
    obtain ⟨fuel, hf⟩ := h1
    rcases open_ints Try.underlying22 Try.underlying2 (by kernel_rfl) hf with ⟨hcs, hx⟩ | ⟨x, l, c, zs, hcs, _, hl, hm, hz, hx, hcell, hwz⟩
    · simp [Value.cells] at hcs
      obtain ⟨rfl, rfl, rfl⟩ := hcs
      exact ⟨[], rfl, ⟨by simp, .inl rfl⟩, ⟨Nat.le_refl _, by simp, fun _ => rfl⟩⟩
    · simp [Value.cells] at hcs
      obtain ⟨rfl, rfl, rfl⟩ := hcs
      have hz2 : zs.length = cap1 := by simpa using hz
      obtain ⟨ll, e1, e2, e3⟩ := row_ints W x zs len1 (by omega) hcell hwz
      have hd : d1 = .slice (lits .i64 (zs.take len1)) (lits .i64 (zs.drop len1)) := (Prod.mk.inj hx).1
      have hreach : cap1 * 8 ≤ 140737488351232 := by
        have := sized_slice hsz (j := 1) (t := 22) (e := 2) rfl (by rw [hd]; rfl) Try.underlying22
        rw [show Try.prog.bytesOf 2 = 8 from by kernel_rfl] at this
        simp only [lits, List.length_map, List.length_take, List.length_drop, reachBytes] at this
        have hmin : min len1 zs.length = len1 := Nat.min_eq_left (by omega)
        rw [hmin] at this
        have hcap : len1 + (zs.length - len1) = cap1 := by omega
        rw [hcap] at this
        exact this
      exact ⟨ll, e1, ⟨e2, e3⟩, ⟨hl, hreach, fun h => by cases h⟩⟩
  subst hlen1
  clear hA0
  refine (walk a0 l1 a1 cap1 W w0 w1 c1).mono fun e W' ⟨he, bel⟩ => ?_
  subst he
  exact ⟨_, rfl, _, _, _, [], _, [], hW', trodAll_mk1 (shut_bool Try.underlying4 _), (trodAll_cons_mk (shut_int Try.underlying2 w0) (trodAll_cons_mk (Below.trod laidOut (by kernel_rfl) (of_decide_eq_true (by kernel_rfl)) k1 bel lt1) trodAll_mk0)), rfl, bel.frame _, fun h => by cases h⟩
set_option maxRecDepth 100000 in
theorem lifted (os : Os) (started : os.Started) (H : Type) (enc : TypeId × Value → H) :
    ReturnsInHanded {} Try.checked os 4 .any (Rows.numShareWholeSpec.pre6 enc Try.prog Try.f4 Rows.numShareWholeRow.domain false) (Rows.numShareWholeSpec.post enc Try.prog Try.f4 false true false false) := by
  refine returnsInHanded_of_change_sized (C := Try.checked) own started (by kernel_rfl) Try.func4
    (ChangeSpec.witness6 (enc := enc) (C := Try.checked) false ⟨#[], #[.int .i64 0, .slice none 0 0], []⟩ 8 (by kernel_rfl) (by kernel_rfl) (by kernel_rfl) (by kernel_rfl)) ?_
  intro W base args ds gs before hval hW _ hsz _
  exact contract H enc W base args ds gs before hval hW hsz
theorem over : Rows.numShareWholeRow.holds Try.pinned (OpenSpec.ofChange Rows.numShareWholeSpec) :=
  OpenClaim.holds_of_wide 4 Try.f4 rfl rfl rfl rfl rfl rfl rfl ⟨rfl, rfl, rfl, rfl, rfl⟩ rfl rfl rfl rfl rfl (by kernel_rfl) Try.func4 (by kernel_rfl)
    (of_decide_eq_true (by kernel_rfl)) (by unfold Func.isWrapper; first | (rw [if_pos (by decide +kernel)]; kernel_rfl) | (rw [if_neg (by decide +kernel)]; exact ⟨rfl, rfl⟩))
    (fun os started H enc _ => lifted os started H enc)
theorem proved : Rows.NumShareWholeSaid := over
end Go.Proofs.Ytapbceeiehiikaa.numShareWhole
