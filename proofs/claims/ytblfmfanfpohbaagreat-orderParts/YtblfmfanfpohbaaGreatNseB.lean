/- slices' merge in place: one half of the ways. -/
import Derived.Test.YtblfmfanfpohbaaGreatNse
set_option linter.unusedVariables false
namespace Go.Proofs.YtblfmfanfpohbaaGreat
open Go.ChangeShapes Go.WideShapes Go.ChangeAt Go.RowKit Go.Sort
set_option maxRecDepth 20000 in
set_option maxHeartbeats 40000000 in
theorem sym_mainB (k : Nat → Nat) (a m c q cap N : Nat) (cb : Array Value) (d d0 : Array Nat) (w : World) (b : Nat) (hH : Hid (Holds eN w b 0 d0)) (hN : d0.size = N) (hd : d.size = N) (hN2 : N ≤ 64) (ham : a < m) (hmc : m < c) (hc : c ≤ N)
    (HC : Hid (CmpR w b N 83 cb k)) (HB : Hid (Bnd d ∧ Stb k d ∧ Srt k a m d ∧ Srt k m c d)) (h1 : a + 2 ≤ m) (h2 : m + 2 ≤ c) (h3 : m ≤ (a + c) / 2) (HIH : Hid (SymOK w b N cap cb k (c - a - 1))) :
    Calls Tryz.prog 115 (SymArgs b N cap a m c cb) (rowW w b d q) fun e w' => e = .returned (.tuple #[]) ∧ SymPost w b k a c d w' := by
  have HD : Hid (d.size = N ∧ d0.size = N ∧ a + 2 ≤ m ∧ m + 2 ≤ c) := ⟨hd, hN, h1, h2⟩
  obtain ⟨f, hf⟩ : ∃ f, f = m - a := ⟨_, rfl⟩
  have hfz : (m : Int) - (a : Int) = (f : Int) := by omega
  have hfw : IntKind.i64.wrap (f : Int) = (f : Int) := by rw [IntKind.wrap_i64]; omega
  have hfe : ((f : Int) == 1) = false := by simp; omega
  obtain ⟨g, hg⟩ : ∃ g, g = c - m := ⟨_, rfl⟩
  have hgz : (c : Int) - (m : Int) = (g : Int) := by omega
  have hgw : IntKind.i64.wrap (g : Int) = (g : Int) := by rw [IntKind.wrap_i64]; omega
  have hge : ((g : Int) == 1) = false := by simp; omega
  obtain ⟨u, mid, hu, huw, hum, hmw, hmu, ham2, hmc2, hmid⟩ := halves a c (by omega) (by omega)
  obtain ⟨n, hn⟩ : ∃ n, n = mid + m := ⟨_, rfl⟩
  have hnz : (mid : Int) + (m : Int) = (n : Int) := by omega
  have hnw : IntKind.i64.wrap (n : Int) = (n : Int) := by rw [IntKind.wrap_i64]; omega
  obtain ⟨p, hp⟩ : ∃ p, p = n - 1 := ⟨_, rfl⟩
  have hpz : (n : Int) - 1 = (p : Int) := by omega
  have hpw : IntKind.i64.wrap (p : Int) = (p : Int) := by rw [IntKind.wrap_i64]; omega
  obtain ⟨lo, hi, hlim⟩ : ∃ lo hi, Lim a m c mid lo hi := ⟨_, _, hmid, .inr ⟨by omega, rfl, rfl⟩⟩
  have HL : Hid (Lim a m c mid lo hi ∧ n = mid + m ∧ p = n - 1) := ⟨hlim, hn, hp⟩
  have hlohi : lo < hi ∧ hi ≤ 64 := by have := hlim.one; omega
  obtain ⟨hq0, hq1, hq2, hq3⟩ : (decide ((m : Int) > (mid : Int)) = false ∧ ¬ (mid : Int) < (m : Int) ∧ lo = a ∧ hi = m) := by
    rcases hlim.one with ⟨x1, x2, x3⟩ | ⟨x1, x2, x3⟩
    · omega
    · exact ⟨decide_eq_false (by omega), by omega, x2, x3⟩
  clear hd hN hf hg h1 h2 h3 hmid hn hp hlim ham2 hmc2
  go_enter Tryz.func115, Tryz.ntmps115
  go_wp2
  go_loopw [20, 21] (fun vi vj wr => ∃ (i j q' : Nat), lo ≤ i ∧ i ≤ j ∧ j ≤ hi ∧ vi = .int .i64 i ∧ vj = .int .i64 j ∧ Hid ((lo < i → k d[mid + m - 1 - (i - 1)]! ≤ k d[i - 1]!) ∧ (j < hi → k d[j]! < k d[mid + m - 1 - j]!)) ∧ wr = rowW w b d q') (fun vi vj _ => (intOf vj).toNat - (intOf vi).toNat)
  case atStart => exact ⟨lo, hi, q, Nat.le_refl _, by omega, Nat.le_refl _, by rw [hq2], by rw [hq3], ⟨fun h => absurd h (by omega), fun h => absurd h (by omega)⟩, rfl⟩
  case round =>
    obtain ⟨i, j, q', hi1, hij, hj, rfl, rfl, HS, rfl⟩ := hrel
    clear hfz hfw hfe hgz hgw hge hu huw hum hmw hmu hnz hnw hpz hpw
    by_cases hlt : i < j
    · obtain ⟨t, h, ht, htw, hth, hhw, hhu, hih, hhj, heq⟩ := halves i j hlt (by omega)
      clear heq
      obtain ⟨y, hy⟩ : ∃ y, y = p - h := ⟨_, rfl⟩
      have hbn : h < N ∧ y < N ∧ h ≤ p := by
        obtain ⟨g1, g2, g3⟩ := HL.out
        obtain ⟨g4, g5⟩ := g1
        have := HD.out
        omega
      have hyz : (p : Int) - (h : Int) = (y : Int) := by omega
      have hyw : IntKind.i64.wrap (y : Int) = (y : Int) := by rw [IntKind.wrap_i64]; omega
      have hhN : (h : Int) < (N : Int) := by omega
      have hyN : (y : Int) < (N : Int) := by omega
      obtain ⟨ch, fh⟩ := rowW_cell hH.out (by rw [HD.out.1]; exact HD.out.2.1.symm) q' h (d := d) (by rw [HD.out.1]; omega)
      obtain ⟨cy, fy⟩ := rowW_cell hH.out (by rw [HD.out.1]; exact HD.out.2.1.symm) q' y (d := d) (by rw [HD.out.1]; omega)
      obtain ⟨X, eX⟩ : ∃ X, d[y]! = X := ⟨_, rfl⟩
      obtain ⟨Y, eY⟩ : ∃ Y, d[h]! = Y := ⟨_, rfl⟩
      rw [eY] at ch
      rw [eX] at cy
      have hXN : X < N := by have := HB.out.1 y (by rw [HD.out.1]; omega); rw [HD.out.1, eX] at this; exact this
      have hYN : Y < N := by have := HB.out.1 h (by rw [HD.out.1]; omega); rw [HD.out.1, eY] at this; exact this
      have hcall := HC.out.at d X Y q' HD.out.1 hXN hYN
      obtain ⟨v, ev⟩ : ∃ v, cfk k X Y = v := ⟨_, rfl⟩
      have hvn := cfk_neg k X Y
      rw [ev] at hvn hcall
      have HE : Hid (d[mid + m - 1 - h]! = X ∧ d[h]! = Y ∧ (v < 0 ↔ k Y < k X)) := ⟨by rw [← eX, hy, HL.out.2.2, HL.out.2.1], eY, hvn⟩
      clear eX eY hvn hXN hYN ev hy hbn
      generalize hwq : rowW w b d q' = wq at ch cy fh fy hcall ⊢
      have HW : Hid (rowW w b d q' = wq) := hwq
      clear hwq
      by_cases hlv : v < 0
      · go_wp2_with fail
        go_quiet (first | (go_at_call 83; refine Calls.quiet_of (hcall _)))
        go_wp2
        go_roundw
        case rel =>
          obtain ⟨e1, e2, e3⟩ := HE.out
          exact ⟨i, h, q' + nq, hi1, by omega, by omega, rfl, rfl, ⟨HS.out.1, fun _ => by rw [e1, e2]; exact e3.1 hlv⟩, by rw [← HW.out, rowW_drewN]⟩
        case measure => first | (simp [intOf]; done) | (simp [intOf]; omega)
      · have hlv0 : (0 : Int) ≤ v := by omega
        have hlvd : decide (v < 0) = false := decide_eq_false hlv
        have hlvn : (!decide (v < 0)) = true := by rw [hlvd]; rfl
        go_wp2_with fail
        go_quiet (first | (go_at_call 83; refine Calls.quiet_of (hcall _)))
        go_wp2
        go_roundw
        case rel =>
          obtain ⟨e1, e2, e3⟩ := HE.out
          exact ⟨h + 1, j, q' + nq, by omega, by omega, hj, by go_num, rfl, ⟨fun _ => by rw [Nat.add_sub_cancel, e1, e2]; have : ¬ k Y < k X := (fun hh => by have := e3.2 hh; omega); omega, HS.out.2⟩, by rw [← HW.out, rowW_drewN]⟩
        case measure => first | (simp [intOf]; done) | (simp [intOf]; omega)
    · obtain rfl : i = j := by omega
      obtain ⟨e, he⟩ : ∃ e, e = n - i := ⟨_, rfl⟩
      have hin : i ≤ n ∧ n ≤ 128 := by have := HL.out.1.one; have := HL.out.1.hmid; have := HL.out.2.1; have := HD.out; omega
      have hez : (n : Int) - (i : Int) = (e : Int) := by omega
      have hew : IntKind.i64.wrap (e : Int) = (e : Int) := by rw [IntKind.wrap_i64]; omega
      have HF : Hid (Fnd k a m c mid i e d) := HL.out.1.found HD.out.2.2.1 HD.out.2.2.2 (by have := HL.out.2.1; omega) hi1 hj HS.out.1 HS.out.2
      have HBR : Hid (Bnd d ∧ Stb k d ∧ Srt k a m d ∧ Srt k m c d ∧ c ≤ d.size) := ⟨HB.out.1, HB.out.2.1, HB.out.2.2.1, HB.out.2.2.2, by rw [HD.out.1]; exact hc⟩
      clear he HS hi1 hij hj hlt hin
      obtain ⟨f0, f1, f2, f3, f4, f5, f6, f7, _, _⟩ := HF.out
      have hDD := HD.out
      by_cases c1 : i < m
      · by_cases c2 : m < e
        · by_cases c3 : a < i <;> by_cases c4 : e < c
          · have _g_im : (i : Int) < (m : Int) := by omega
            have _g_me : (m : Int) < (e : Int) := by omega
            have _g_ai : (a : Int) < (i : Int) := by omega
            have _g_imid : (i : Int) < (mid : Int) := by omega
            have _g_mide : (mid : Int) < (e : Int) := by omega
            have _g_ec : (e : Int) < (c : Int) := by omega
            have c5 : i < mid := by omega
            have c6 : mid < e := by omega
            clear f0 f1 f2 f3 f4 f5 f6 f7 hDD
            go_wp2_with (first
              | (go_at_call 121; refine (rotate_any i m e q' cap N _ cb d d0 w b hH HD.out.2.1 HD.out.1 hN2 (by omega) (by omega) (by have := HF.out.e2; omega)).mono ?_; rintro e1 w1 ⟨rfl, d1, q1, hr, rfl⟩; have HR : Hid (Rot i m e d d1) := hr; clear hr)
              | (go_at_call_of 115 (i); refine (HIH.out a i mid q1 d1 (by omega) (by omega) (by have := HF.out.hmid; omega) (by have := HF.out.hmid; omega) (by rw [HR.out.size]; exact HD.out.1) ⟨(HF.out.cut HB.out.2.2.1 HB.out.2.2.2 HB.out.2.1 (by rw [HD.out.1]; exact hc) HR.out).2.2.bnd (by rw [HD.out.1]; exact hc) HB.out.1, (HF.out.cut HB.out.2.2.1 HB.out.2.2.2 HB.out.2.1 (by rw [HD.out.1]; exact hc) HR.out).2.1, (HF.out.cut HB.out.2.2.1 HB.out.2.2.2 HB.out.2.1 (by rw [HD.out.1]; exact hc) HR.out).1.s1, (HF.out.cut HB.out.2.2.1 HB.out.2.2.2 HB.out.2.1 (by rw [HD.out.1]; exact hc) HR.out).1.s2⟩).mono ?_; rintro e2 w2 ⟨rfl, d2, hp2, q2, rfl⟩; have H2 : Hid (Mv a mid d1 d2 ∧ Srt k a mid d2 ∧ Stb k d2) := hp2; clear hp2)
              | (go_at_call_of 115 (e); refine (HIH.out mid e c q2 d2 (by omega) (by omega) hc (by have := HF.out.hmid; have := HD.out; omega) (H2.out.1.size.trans (HR.out.size.trans HD.out.1)) ⟨H2.out.1.bnd (by rw [HR.out.size, HD.out.1]; have := HF.out.hmid; omega) ((HF.out.cut HB.out.2.2.1 HB.out.2.2.2 HB.out.2.1 (by rw [HD.out.1]; exact hc) HR.out).2.2.bnd (by rw [HD.out.1]; exact hc) HB.out.1), H2.out.2.2, H2.out.1.srt_out (HF.out.cut HB.out.2.2.1 HB.out.2.2.2 HB.out.2.1 (by rw [HD.out.1]; exact hc) HR.out).1.s3 (.inr (Nat.le_refl _)), H2.out.1.srt_out (HF.out.cut HB.out.2.2.1 HB.out.2.2.2 HB.out.2.1 (by rw [HD.out.1]; exact hc) HR.out).1.s4 (.inr HF.out.e3)⟩).mono ?_; rintro e3 w3 ⟨rfl, d3, hp3, q3, rfl⟩; have H3 : Hid (Mv mid c d2 d3 ∧ Srt k mid c d3 ∧ Stb k d3) := hp3; clear hp3))
            go_end0
            obtain ⟨hm, hm1, hm2, hm3, hm4, hm5, hm6, hm7, _, _⟩ := HF.out
            exact ⟨rfl, d3, ⟨((HF.out.cut HB.out.2.2.1 HB.out.2.2.2 HB.out.2.1 (by rw [HD.out.1]; exact hc) HR.out).2.2.trans (H2.out.1.mono (Nat.le_refl _) (by omega))).trans (H3.out.1.mono (by omega) (Nat.le_refl _)), (HF.out.cut HB.out.2.2.1 HB.out.2.2.2 HB.out.2.1 (by rw [HD.out.1]; exact hc) HR.out).1.done H2.out.1 H3.out.1 H2.out.2.1 H3.out.2.1, H3.out.2.2⟩, q3, rfl⟩
          · have _g_im : (i : Int) < (m : Int) := by omega
            have _g_me : (m : Int) < (e : Int) := by omega
            have _g_ai : (a : Int) < (i : Int) := by omega
            have _g_imid : (i : Int) < (mid : Int) := by omega
            have _g_mide : (mid : Int) < (e : Int) := by omega
            have _g_ec : ¬ (e : Int) < (c : Int) := by omega
            have c5 : i < mid := by omega
            have c6 : mid < e := by omega
            clear f0 f1 f2 f3 f4 f5 f6 f7 hDD
            go_wp2_with (first
              | (go_at_call 121; refine (rotate_any i m e q' cap N _ cb d d0 w b hH HD.out.2.1 HD.out.1 hN2 (by omega) (by omega) (by have := HF.out.e2; omega)).mono ?_; rintro e1 w1 ⟨rfl, d1, q1, hr, rfl⟩; have HR : Hid (Rot i m e d d1) := hr; clear hr)
              | (go_at_call_of 115 (i); refine (HIH.out a i mid q1 d1 (by omega) (by omega) (by have := HF.out.hmid; omega) (by have := HF.out.hmid; omega) (by rw [HR.out.size]; exact HD.out.1) ⟨(HF.out.cut HB.out.2.2.1 HB.out.2.2.2 HB.out.2.1 (by rw [HD.out.1]; exact hc) HR.out).2.2.bnd (by rw [HD.out.1]; exact hc) HB.out.1, (HF.out.cut HB.out.2.2.1 HB.out.2.2.2 HB.out.2.1 (by rw [HD.out.1]; exact hc) HR.out).2.1, (HF.out.cut HB.out.2.2.1 HB.out.2.2.2 HB.out.2.1 (by rw [HD.out.1]; exact hc) HR.out).1.s1, (HF.out.cut HB.out.2.2.1 HB.out.2.2.2 HB.out.2.1 (by rw [HD.out.1]; exact hc) HR.out).1.s2⟩).mono ?_; rintro e2 w2 ⟨rfl, d2, hp2, q2, rfl⟩; have H2 : Hid (Mv a mid d1 d2 ∧ Srt k a mid d2 ∧ Stb k d2) := hp2; clear hp2))
            go_end0
            obtain ⟨hm, hm1, hm2, hm3, hm4, hm5, hm6, hm7, _, _⟩ := HF.out
            exact ⟨rfl, d2, ⟨((HF.out.cut HB.out.2.2.1 HB.out.2.2.2 HB.out.2.1 (by rw [HD.out.1]; exact hc) HR.out).2.2.trans (H2.out.1.mono (Nat.le_refl _) (by omega))).trans ((Mv.refl mid c d2).mono (by omega) (Nat.le_refl _)), (HF.out.cut HB.out.2.2.1 HB.out.2.2.2 HB.out.2.1 (by rw [HD.out.1]; exact hc) HR.out).1.done H2.out.1 (Mv.refl mid c d2) H2.out.2.1 (H2.out.1.srt_out ((HF.out.cut HB.out.2.2.1 HB.out.2.2.2 HB.out.2.1 (by rw [HD.out.1]; exact hc) HR.out).1.right1 (by omega)) (.inr (Nat.le_refl _))), H2.out.2.2⟩, q2, rfl⟩
          · have _g_im : (i : Int) < (m : Int) := by omega
            have _g_me : (m : Int) < (e : Int) := by omega
            have _g_ai : ¬ (a : Int) < (i : Int) := by omega
            have _g_imid : (i : Int) < (mid : Int) := by omega
            have _g_mide : (mid : Int) < (e : Int) := by omega
            have _g_ec : (e : Int) < (c : Int) := by omega
            have c5 : i < mid := by omega
            have c6 : mid < e := by omega
            clear f0 f1 f2 f3 f4 f5 f6 f7 hDD
            go_wp2_with (first
              | (go_at_call 121; refine (rotate_any i m e q' cap N _ cb d d0 w b hH HD.out.2.1 HD.out.1 hN2 (by omega) (by omega) (by have := HF.out.e2; omega)).mono ?_; rintro e1 w1 ⟨rfl, d1, q1, hr, rfl⟩; have HR : Hid (Rot i m e d d1) := hr; clear hr)
              | (go_at_call_of 115 (e); refine (HIH.out mid e c q1 d1 (by omega) (by omega) hc (by have := HF.out.hmid; have := HD.out; omega) ((Mv.refl a mid d1).size.trans (HR.out.size.trans HD.out.1)) ⟨(Mv.refl a mid d1).bnd (by rw [HR.out.size, HD.out.1]; have := HF.out.hmid; omega) ((HF.out.cut HB.out.2.2.1 HB.out.2.2.2 HB.out.2.1 (by rw [HD.out.1]; exact hc) HR.out).2.2.bnd (by rw [HD.out.1]; exact hc) HB.out.1), (HF.out.cut HB.out.2.2.1 HB.out.2.2.2 HB.out.2.1 (by rw [HD.out.1]; exact hc) HR.out).2.1, (Mv.refl a mid d1).srt_out (HF.out.cut HB.out.2.2.1 HB.out.2.2.2 HB.out.2.1 (by rw [HD.out.1]; exact hc) HR.out).1.s3 (.inr (Nat.le_refl _)), (Mv.refl a mid d1).srt_out (HF.out.cut HB.out.2.2.1 HB.out.2.2.2 HB.out.2.1 (by rw [HD.out.1]; exact hc) HR.out).1.s4 (.inr HF.out.e3)⟩).mono ?_; rintro e3 w3 ⟨rfl, d3, hp3, q3, rfl⟩; have H3 : Hid (Mv mid c d1 d3 ∧ Srt k mid c d3 ∧ Stb k d3) := hp3; clear hp3))
            go_end0
            obtain ⟨hm, hm1, hm2, hm3, hm4, hm5, hm6, hm7, _, _⟩ := HF.out
            exact ⟨rfl, d3, ⟨((HF.out.cut HB.out.2.2.1 HB.out.2.2.2 HB.out.2.1 (by rw [HD.out.1]; exact hc) HR.out).2.2.trans ((Mv.refl a mid d1).mono (Nat.le_refl _) (by omega))).trans (H3.out.1.mono (by omega) (Nat.le_refl _)), (HF.out.cut HB.out.2.2.1 HB.out.2.2.2 HB.out.2.1 (by rw [HD.out.1]; exact hc) HR.out).1.done (Mv.refl a mid d1) H3.out.1 ((HF.out.cut HB.out.2.2.1 HB.out.2.2.2 HB.out.2.1 (by rw [HD.out.1]; exact hc) HR.out).1.left1 (by omega)) H3.out.2.1, H3.out.2.2⟩, q3, rfl⟩
          · have _g_im : (i : Int) < (m : Int) := by omega
            have _g_me : (m : Int) < (e : Int) := by omega
            have _g_ai : ¬ (a : Int) < (i : Int) := by omega
            have _g_imid : (i : Int) < (mid : Int) := by omega
            have _g_mide : (mid : Int) < (e : Int) := by omega
            have _g_ec : ¬ (e : Int) < (c : Int) := by omega
            have c5 : i < mid := by omega
            have c6 : mid < e := by omega
            clear f0 f1 f2 f3 f4 f5 f6 f7 hDD
            go_wp2_with (first
              | (go_at_call 121; refine (rotate_any i m e q' cap N _ cb d d0 w b hH HD.out.2.1 HD.out.1 hN2 (by omega) (by omega) (by have := HF.out.e2; omega)).mono ?_; rintro e1 w1 ⟨rfl, d1, q1, hr, rfl⟩; have HR : Hid (Rot i m e d d1) := hr; clear hr))
            go_end0
            obtain ⟨hm, hm1, hm2, hm3, hm4, hm5, hm6, hm7, _, _⟩ := HF.out
            exact ⟨rfl, d1, ⟨((HF.out.cut HB.out.2.2.1 HB.out.2.2.2 HB.out.2.1 (by rw [HD.out.1]; exact hc) HR.out).2.2.trans ((Mv.refl a mid d1).mono (Nat.le_refl _) (by omega))).trans ((Mv.refl mid c d1).mono (by omega) (Nat.le_refl _)), (HF.out.cut HB.out.2.2.1 HB.out.2.2.2 HB.out.2.1 (by rw [HD.out.1]; exact hc) HR.out).1.done (Mv.refl a mid d1) (Mv.refl mid c d1) ((HF.out.cut HB.out.2.2.1 HB.out.2.2.2 HB.out.2.1 (by rw [HD.out.1]; exact hc) HR.out).1.left1 (by omega)) ((Mv.refl a mid d1).srt_out ((HF.out.cut HB.out.2.2.1 HB.out.2.2.2 HB.out.2.1 (by rw [HD.out.1]; exact hc) HR.out).1.right1 (by omega)) (.inr (Nat.le_refl _))), (HF.out.cut HB.out.2.2.1 HB.out.2.2.2 HB.out.2.1 (by rw [HD.out.1]; exact hc) HR.out).2.1⟩, q1, rfl⟩
        · exfalso
          have := HL.out.1.one
          omega
      · have HQ : Hid (i = m ∧ e = mid) := ⟨by omega, by omega⟩
        by_cases c4 : i < mid
        · have _g_im : ¬ (i : Int) < (m : Int) := by omega
          have _g_ai : (a : Int) < (i : Int) := by omega
          have _g_imid : (i : Int) < (mid : Int) := by omega
          have _g_mide : ¬ (mid : Int) < (e : Int) := by omega
          have c5 : a < i := by omega
          have c6 : m ≤ e := by omega
          clear f0 f1 f2 f3 f4 f5 f6 f7 hDD
          have HR : Hid (Rot i m e d d) := (by rw [HQ.out.1]; exact rot_none' _ _ _ c6)
          go_wp2_with (first
            | (go_at_call_of 115 (i); refine (HIH.out a i mid q' d (by omega) (by omega) (by have := HF.out.hmid; omega) (by have := HF.out.hmid; omega) (by rw [HR.out.size]; exact HD.out.1) ⟨(HF.out.cut HB.out.2.2.1 HB.out.2.2.2 HB.out.2.1 (by rw [HD.out.1]; exact hc) HR.out).2.2.bnd (by rw [HD.out.1]; exact hc) HB.out.1, (HF.out.cut HB.out.2.2.1 HB.out.2.2.2 HB.out.2.1 (by rw [HD.out.1]; exact hc) HR.out).2.1, (HF.out.cut HB.out.2.2.1 HB.out.2.2.2 HB.out.2.1 (by rw [HD.out.1]; exact hc) HR.out).1.s1, (HF.out.cut HB.out.2.2.1 HB.out.2.2.2 HB.out.2.1 (by rw [HD.out.1]; exact hc) HR.out).1.s2⟩).mono ?_; rintro e2 w2 ⟨rfl, d2, hp2, q2, rfl⟩; have H2 : Hid (Mv a mid d d2 ∧ Srt k a mid d2 ∧ Stb k d2) := hp2; clear hp2))
          go_end0
          obtain ⟨hm, hm1, hm2, hm3, hm4, hm5, hm6, hm7, _, _⟩ := HF.out
          have hqq := HQ.out
          exact ⟨rfl, d2, ⟨((HF.out.cut HB.out.2.2.1 HB.out.2.2.2 HB.out.2.1 (by rw [HD.out.1]; exact hc) HR.out).2.2.trans (H2.out.1.mono (Nat.le_refl _) (by omega))).trans ((Mv.refl mid c d2).mono (by omega) (Nat.le_refl _)), (HF.out.cut HB.out.2.2.1 HB.out.2.2.2 HB.out.2.1 (by rw [HD.out.1]; exact hc) HR.out).1.done H2.out.1 (Mv.refl mid c d2) H2.out.2.1 (H2.out.1.srt_out ((HF.out.cut HB.out.2.2.1 HB.out.2.2.2 HB.out.2.1 (by rw [HD.out.1]; exact hc) HR.out).1.right1 (by omega)) (.inr (Nat.le_refl _))), H2.out.2.2⟩, q2, rfl⟩
        · have _g_im : ¬ (i : Int) < (m : Int) := by omega
          have _g_ai : (a : Int) < (i : Int) := by omega
          have _g_imid : ¬ (i : Int) < (mid : Int) := by omega
          have _g_mide : ¬ (mid : Int) < (e : Int) := by omega
          have c5 : a < i := by omega
          have c6 : m ≤ e := by omega
          clear f0 f1 f2 f3 f4 f5 f6 f7 hDD
          have HR : Hid (Rot i m e d d) := (by rw [HQ.out.1]; exact rot_none' _ _ _ c6)
          go_wp2
          go_end0
          obtain ⟨hm, hm1, hm2, hm3, hm4, hm5, hm6, hm7, _, _⟩ := HF.out
          have hqq := HQ.out
          exact ⟨rfl, d, ⟨((HF.out.cut HB.out.2.2.1 HB.out.2.2.2 HB.out.2.1 (by rw [HD.out.1]; exact hc) HR.out).2.2.trans ((Mv.refl a mid d).mono (Nat.le_refl _) (by omega))).trans ((Mv.refl mid c d).mono (by omega) (Nat.le_refl _)), (HF.out.cut HB.out.2.2.1 HB.out.2.2.2 HB.out.2.1 (by rw [HD.out.1]; exact hc) HR.out).1.done (Mv.refl a mid d) (Mv.refl mid c d) ((HF.out.cut HB.out.2.2.1 HB.out.2.2.2 HB.out.2.1 (by rw [HD.out.1]; exact hc) HR.out).1.left1 (by omega)) ((Mv.refl a mid d).srt_out ((HF.out.cut HB.out.2.2.1 HB.out.2.2.2 HB.out.2.1 (by rw [HD.out.1]; exact hc) HR.out).1.right1 (by omega)) (.inr (Nat.le_refl _))), (HF.out.cut HB.out.2.2.1 HB.out.2.2.2 HB.out.2.1 (by rw [HD.out.1]; exact hc) HR.out).2.1⟩, q', rfl⟩
end Go.Proofs.YtblfmfanfpohbaaGreat
