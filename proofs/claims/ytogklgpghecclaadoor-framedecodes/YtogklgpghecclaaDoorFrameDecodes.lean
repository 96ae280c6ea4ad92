/- For every text: at each of its first 200 places frame.Peek and frame.Decode answer as the document says, leave the text as it was and share nothing. No condition. -/
import Derived.Test.YtogklgpghecclaaDoorCrcTie
import Derived.Test.YtogklgpghecclaaDoorFr5
import Derived.Test.YtogklgpghecclaaDoorFrd
import Derived.SizedLaws
import Derived.ChangeOld
namespace Go.Proofs.YtogklgpghecclaaDoor.frameDecodes
open Go.ChangeShapes Go.WideShapes Go.ChangeAt Go.RowKit
set_option linter.unusedVariables false
set_option maxRecDepth 20000 in
set_option maxHeartbeats 4000000 in
theorem walk (l : List Nat) (a : Option Addr) (cap : Nat) (w : World) (hb : Bytes w a l) (hc : Came w a l.length cap 1) (ht : Tab w) :
    Calls Tryd.prog 4 #[.slice a l.length cap] w fun e w' => e = .returned (.bool true) ∧ Below w.heap.size w w' := by
  obtain ⟨i0, hi, hz0, hz1, hz2⟩ := info_parts Tryd.info5f
  obtain ⟨hf, hr, hn⟩ := hc
  have hl : l.length ≤ 140737488351232 := by omega
  have HB : Hid (Bytes w a l) := hb
  have HT : Hid (Tab w) := ht
  obtain ⟨n, hN⟩ : ∃ n, l.length = n := ⟨_, rfl⟩
  have HN : Hid (l.length = n) := hN
  have HCP : Hid (∀ w1, Below w.heap.size w w1 → Calls Tryd.prog 11 #[.slice a n cap] w1 fun e w' => ∃ v, e = .returned v ∧ Own w' w1.heap.size v l ∧ Below w1.heap.size w1 w') := fun w1 hb1 => by
    have := copy_any l a cap w1 (hb.keep hb1) (by rw [hN]; omega)
    rw [hN] at this
    exact this
  rw [hN] at hl hf ⊢
  have hnI : (n : Int) ≤ 140737488351232 := by omega
  clear hb ht hN hn hr
  go_enter Tryd.func4, Tryd.ntmps4
  go_wp2_with (first
    | (go_at_call 9; refine (head11_any w HT.out).mono ?_; rintro e w1 ⟨rfl, hb1⟩; have HB1 : Hid (Below w.heap.size w w1) := hb1; clear hb1)
    | (go_at_call 11; refine (HCP.out _ HB1.out).mono ?_; rintro r w2 ⟨v2, rfl, ho2, hb2⟩; obtain ⟨a2, c2, hv2, hc2, _, hy2, _⟩ := ho2.shape; rw [HN.out] at hv2 hc2; subst hv2; have HB2 : Hid (Below w.heap.size w w2) := below_next HB1.out hb2; have HY2 : Hid (Bytes w2 a2 l) := hy2; clear ho2 hb2 hy2))
  clear HCP HB1
  go_loopw [4] (fun vi wr => ∃ i : Nat, i ≤ 200 ∧ i ≤ n + 1 ∧ vi = .int .i64 i ∧ Below w2.heap.size w2 wr) (fun vi _ => 201 - (intOf vi).toNat)
  case atStart => exact ⟨0, by omega, by omega, rfl, Below.refl _ _⟩
  case round =>
    rename World => wo
    obtain ⟨i, hi200, hin, rfl, hbr⟩ := hrel
    have HBR : Hid (Below w2.heap.size w2 wo) := hbr
    have HW : Hid (Below w.heap.size w wo) := below_next HB2.out hbr
    clear hbr
    have hi2I : (i : Int) ≤ 200 := by omega
    by_cases hgo : i ≤ n ∧ i < 200
    · obtain ⟨hin2, hi3⟩ := hgo
      have d1 : decide ((i : Int) ≤ (n : Int)) = true := by simp; omega
      have d2 : decide ((i : Int) < 200) = true := by simp; omega
      have e1 : (i : Int) ≤ (n : Int) := by omega
      have e2 : (i : Int) < 200 := by omega
      obtain ⟨L, hL⟩ : ∃ L, l.drop i = L := ⟨_, rfl⟩
      obtain ⟨m, hM⟩ : ∃ m, (decB L).length = m := ⟨_, rfl⟩
      have HM : Hid ((decB L).length = m) := hM
      have hm1 : m ≤ 16384 := by rw [← hM]; exact decB_le L
      have HLL : Hid (L.length = n - i) := by show _ = _; rw [← hL, List.length_drop, HN.out]
      have HL : Hid (l.drop i = L) := hL
      obtain ⟨pK, hpK⟩ : ∃ x : Int, ((peekK L : Nat) : Int) = x := ⟨_, rfl⟩
      obtain ⟨pS, hpS⟩ : ∃ x : Int, ((peekS L : Nat) : Int) = x := ⟨_, rfl⟩
      obtain ⟨pN, hpN⟩ : ∃ x : Int, ((peekN L : Nat) : Int) = x := ⟨_, rfl⟩
      obtain ⟨pE, hpE⟩ : ∃ x : Int, ((peekE L : Nat) : Int) = x := ⟨_, rfl⟩
      have HPV : Hid (PV L = .tuple #[.int .i64 pK, .int .i64 pS, .int .i64 pN, .int .i64 pE]) := by show _ = _; rw [← hpK, ← hpS, ← hpN, ← hpE]
      obtain ⟨dK, hdK⟩ : ∃ x : Int, ((decK L : Nat) : Int) = x := ⟨_, rfl⟩
      obtain ⟨dS, hdS⟩ : ∃ x : Int, ((decS L : Nat) : Int) = x := ⟨_, rfl⟩
      obtain ⟨dN, hdN⟩ : ∃ x : Int, ((decN L : Nat) : Int) = x := ⟨_, rfl⟩
      obtain ⟨dE, hdE⟩ : ∃ x : Int, ((decE L : Nat) : Int) = x := ⟨_, rfl⟩
      have HDV : Hid (∀ v, DV L v = .tuple #[FrV dK dS v, .int .i64 dN, .int .i64 dE]) := fun v => by rw [← hdK, ← hdS, ← hdN, ← hdE]
      have HRP : Hid (∀ w1 x c, Bytes w1 x L → n - i ≤ c → Calls Tryd.prog 15 #[.slice x (n - i) c] w1 fun e w' => e = .returned (PV L) ∧ Below w1.heap.size w1 w') := fun w1 x c hy hc1 => rpeek_any L (n - i) x c w1 HLL.out hy (by rw [HLL.out]; omega) (by rw [HLL.out]; omega)
      have HFP : Hid (∀ w1 x c, Below w.heap.size w w1 → Bytes w1 x L → n - i ≤ c → Calls Tryd.prog 16 #[.slice x (n - i) c] w1 fun e w' => e = .returned (PV L) ∧ Below w1.heap.size w1 w') := fun w1 x c hb1 hy hc1 => peek_any L (n - i) x c w1 HLL.out hy (by rw [HLL.out]; omega) (by rw [HLL.out]; omega) (HT.out.keep hb1)
      have HRD : Hid (∀ w1 x c, Bytes w1 x L → n - i ≤ c → Calls Tryd.prog 17 #[.slice x (n - i) c] w1 fun r w' => ∃ v, r = .returned (DV L v) ∧ Own w' w1.heap.size v (decB L) ∧ Below w1.heap.size w1 w') := fun w1 x c hy hc1 => rfdec_any L (n - i) x c w1 HLL.out hy (by rw [HLL.out]; omega) (by rw [HLL.out]; omega)
      have HFD : Hid (∀ w1 x c, Below w.heap.size w w1 → Bytes w1 x L → n - i ≤ c → Calls Tryd.prog 18 #[.slice x (n - i) c] w1 fun r w' => ∃ v, r = .returned (DV L v) ∧ Own w' w1.heap.size v (decB L) ∧ Below w1.heap.size w1 w') := fun w1 x c hb1 hy hc1 => fdec_any L (n - i) x c w1 HLL.out hy (by rw [HLL.out]; omega) (by rw [HLL.out]; omega) (HT.out.keep hb1)
      have HBB : Hid (∀ w1, Below wo.heap.size wo w1 → Below w.heap.size w w1 ∧ Bytes w1 a l ∧ Bytes w1 a2 l) := fun w1 h1 => ⟨below_next HW.out h1, HB.out.keep (below_next HW.out h1), HY2.out.keep (below_next HBR.out h1)⟩
      have T1 : Hid True := trivial
      have T2 : Hid True := trivial
      have T3 : Hid True := trivial
      have T4 : Hid True := trivial
      have HR0 : Hid (Below wo.heap.size wo wo) := Below.refl _ _
      have hci : n - i ≤ cap - i := by omega
      have hci2 : n - i ≤ c2 - i := by omega
      have hmm : m ≤ maxLen := by unfold maxLen; omega
      clear hL hM hpK hpS hpN hpE hdK hdS hdN hdE
      go_wp2_with (first
        | ((with_reducible refine at_slice ?_); clear T1; refine wpList_slice_l rfl _ _ rfl rfl rfl hin2 hf HN.out (HBB.out _ HR0.out).2.1 ?_; rw [HL.out]; intro x1 hx1; have HX1 : Hid (Bytes wo x1 L) := hx1; clear hx1)
        | (go_at_call 15; refine (HRP.out _ x1 _ HX1.out hci).mono ?_; rw [HPV.out]; rintro r w3 ⟨rfl, hb3⟩; have HR3 : Hid (Below wo.heap.size wo w3) := hb3; clear hb3)
        | ((with_reducible refine at_slice ?_); clear T2; refine wpList_slice_l rfl _ _ rfl rfl rfl hin2 hc2 HN.out (HBB.out _ HR3.out).2.2 ?_; rw [HL.out]; intro x2 hx2; have HX2 : Hid (Bytes w3 x2 L) := hx2; clear hx2)
        | (go_at_call 16; refine (HFP.out _ x2 _ (HBB.out _ HR3.out).1 HX2.out hci2).mono ?_; rw [HPV.out]; rintro r w4 ⟨rfl, hb4⟩; have HR4 : Hid (Below wo.heap.size wo w4) := below_next HR3.out hb4; clear hb4)
        | ((with_reducible refine at_slice ?_); clear T3; refine wpList_slice_l rfl _ _ rfl rfl rfl hin2 hf HN.out (HBB.out _ HR4.out).2.1 ?_; rw [HL.out]; intro x3 hx3; have HX3 : Hid (Bytes w4 x3 L) := hx3; clear hx3)
        | (go_at_call 17; refine (HRD.out _ x3 _ HX3.out hci).mono ?_; rintro r w5 ⟨v5, rfl, ho5, hb5⟩; rw [HDV.out v5]; obtain ⟨a5, c5, hv5, _, _, hy5, _⟩ := ho5.shape; rw [HM.out] at hv5; subst hv5; have HR5 : Hid (Below wo.heap.size wo (w5.alloc (.cells #[.int .i64 dK, .int .i64 dS, .slice a5 m c5] 29))) := (below_next HR4.out hb5).alloc (below_next HR4.out hb5).size _; have HY5 : Hid (Bytes (w5.alloc (.cells #[.int .i64 dK, .int .i64 dS, .slice a5 m c5] 29)) a5 (decB L)) := hy5.keep ((Below.refl _ _).alloc (Nat.le_refl _) _); have HF5 : Hid (FrmAt (w5.alloc (.cells #[.int .i64 dK, .int .i64 dS, .slice a5 m c5] 29)) w5.heap.size dK dS (.slice a5 m c5)) := FrmAt.new _ _ _ _; clear ho5 hb5 hy5)
        | ((with_reducible refine at_slice ?_); clear T4; refine wpList_slice_l rfl _ _ rfl rfl rfl hin2 hc2 HN.out (HBB.out _ HR5.out).2.2 ?_; rw [HL.out]; intro x4 hx4; have HX4 : Hid (Bytes (w5.alloc (.cells #[.int .i64 dK, .int .i64 dS, .slice a5 m c5] 29)) x4 L) := hx4; clear hx4)
        | (go_at_call 18; refine (HFD.out _ x4 _ (HBB.out _ HR5.out).1 HX4.out hci2).mono ?_; rintro r w6 ⟨v6, rfl, ho6, hb6⟩; rw [HDV.out v6]; obtain ⟨a6, c6, hv6, _, _, hy6, _⟩ := ho6.shape; rw [HM.out] at hv6; subst hv6; have HR6 : Hid (Below wo.heap.size wo w6) := below_next HR5.out hb6; have HO6 : Hid (Own w6 (w5.heap.size + 1) (.slice a6 m c6) (decB L)) := (by have h := ho6; rw [alloc_size1] at h; exact h); have HY56 : Hid (Bytes (w6.alloc (.cells #[.int .i64 dK, .int .i64 dS, .slice a6 m c6] 29)) a5 (decB L)) := (HY5.out.keep hb6).keep ((Below.refl _ _).alloc (Nat.le_refl _) _); have HF56 : Hid (FrmAt (w6.alloc (.cells #[.int .i64 dK, .int .i64 dS, .slice a6 m c6] 29)) w5.heap.size dK dS (.slice a5 m c5)) := (HF5.out.keep hb6).keep ((Below.refl _ _).alloc (Nat.le_refl _) _); have HY66 : Hid (Bytes (w6.alloc (.cells #[.int .i64 dK, .int .i64 dS, .slice a6 m c6] 29)) a6 (decB L)) := hy6.keep ((Below.refl _ _).alloc (Nat.le_refl _) _); have HF66 : Hid (FrmAt (w6.alloc (.cells #[.int .i64 dK, .int .i64 dS, .slice a6 m c6] 29)) w6.heap.size dK dS (.slice a6 m c6)) := FrmAt.new _ _ _ _; have hw5 : wo.heap.size ≤ w5.heap.size + 1 := (by have := HR5.out.size; rw [alloc_size1] at this; exact this); have HMB : Hid (∀ x ∈ decB L, x < 256) := hy6.mem; have hw6 : wo.heap.size ≤ w6.heap.size := HR6.out.size; have hw56 : w5.heap.size + 1 ≤ w6.heap.size := (by have := hb6.size; rw [alloc_size1] at this; exact this); clear ho6 hb6 hy6)
        | ((with_reducible refine frm_load 29 ?_); first | refine wpList_load_frm rfl _ rfl HF56.out rfl ?_ | refine wpList_load_frm rfl _ rfl HF66.out rfl ?_)
        | (go_at_call 19; refine (fsame_any dK dS dK dS (decB L) (decB L) m m a5 a6 c5 c6 _ HM.out HM.out HY56.out HY66.out hmm hmm rfl rfl).mono ?_; simp only [decide_true]; rintro r w8 ⟨rfl, hb8⟩; have HR8 : Hid (Below wo.heap.size wo w8) := below_next (HR6.out.alloc HR6.out.size _) hb8; have HF8 : Hid (FrmAt w8 w6.heap.size dK dS (.slice a6 m c6)) := HF66.out.keep hb8; have HO8 : Hid (w8.ownsRow (w5.heap.size + 1) 5 1 (.slice a6 m c6) m (B8 (decB L))) := (by have h := own_below (own_below HO6.out.2 ((Below.refl w6.heap.size w6).alloc (Nat.le_refl _) _)) hb8; rw [HM.out] at h; exact h); obtain ⟨y0, y1, y2⟩ := HF8.out.cells; clear hb8))
      have hmI : (m : Int) ≤ 16384 := by omega
      clear HRP HFP HRD HFD HBB HPV HDV HR0 HR3 HR4 HR5 HR6 HX1 HX2 HX3 HX4 HY5 HF5 HO6 HY56 HF56 HY66 HF66 y0 y1 y2 hci hci2
      go_loopw [103] (fun vj wa => ∃ (j : Nat) (t : List Nat), j ≤ m ∧ vj = .int .i64 j ∧ t.length = m ∧ (∀ x ∈ t, x < 256) ∧ wa.ownsRow (w5.heap.size + 1) 5 1 (.slice a6 m c6) m (B8 t) ∧ FrmAt wa w6.heap.size dK dS (.slice a6 m c6) ∧ Below wo.heap.size wo wa) (fun vj _ => m - (intOf vj).toNat)
      case atStart => exact ⟨0, decB L, Nat.zero_le _, rfl, HM.out, HMB.out, HO8.out, HF8.out, HR8.out⟩
      case round =>
        rename World => wa
        obtain ⟨j, t, hj, rfl, htl, htb, ho, hfr, hba⟩ := hrel
        have HBA : Hid (Below wo.heap.size wo wa) := hba
        have HFA : Hid (FrmAt wa w6.heap.size dK dS (.slice a6 m c6)) := hfr
        have HTB : Hid (∀ x ∈ t, x < 256) := htb
        have HTL : Hid (t.length = m) := htl
        obtain ⟨y0, y1, y2⟩ := hfr.cells
        clear hba htb HO8 HF8 HR8 hfr
        by_cases hjl : j < m
        · obtain ⟨g6, c6', hv6, hg6, hg6l⟩ := ho.form (by omega)
          cases hv6
          obtain ⟨x, hx⟩ : ∃ x, x = t.getD j 0 := ⟨_, rfl⟩
          have hx256 : x < 256 := by rw [hx]; exact getD_lt HTB.out j
          obtain ⟨e9, hlt9⟩ := xor255 x hx256
          have q2 := ho.cellAt j (by omega)
          rw [B8_get t j (by omega), ← hx] at q2
          have q3 := ho.frozenAt j
          have hst := ho.stored j (.int .u8 ((x ^^^ 255 : Nat) : Int))
          have hfr2 := FrmAt.grown HFA.out ho hst.2
          have hba2 := HBA.out.grown hst.2 HBA.out.size (fun k hk => by cases hk; omega)
          rw [← B8_set] at hst
          have HS : Hid (_ ∧ _ ∧ _) := ⟨hst.1, hfr2, hba2⟩
          have HTB2 : Hid (∀ y ∈ t.set j (x ^^^ 255), y < 256) := by
            intro y hy
            rcases List.mem_or_eq_of_mem_set hy with h | h
            · exact HTB.out y h
            · rw [h]; exact hlt9
          generalize x ^^^ 255 = z at *
          have d3 : decide ((j : Int) < (m : Int)) = true := by simp; omega
          clear hst ho hx htl hlt9 hfr2 hba2
          go_wp2
          go_roundw
          case rel => exact ⟨j + 1, t.set j z, by omega, by go_num, by rw [List.length_set]; exact HTL.out, HTB2.out, HS.out.1, HS.out.2.1, HS.out.2.2⟩
          case measure => simp [intOf]; omega
        · have HOA : Hid (wa.ownsRow (w5.heap.size + 1) 5 1 (.slice a6 m c6) m (B8 t)) := ho
          have d3 : decide ((j : Int) < (m : Int)) = false := by simp; omega
          clear ho htl y0 y1 y2
          go_wp2
          go_loopw [19] (fun vq wb => ∃ (q : Nat) (v : Value) (u : List Nat), q ≤ 32 ∧ vq = .int .i64 q ∧ u.length = m + q ∧ wb.ownsRow (w5.heap.size + 1) 5 1 v (m + q) (B8 u) ∧ FrmAt wb w6.heap.size dK dS v ∧ Below wo.heap.size wo wb) (fun vq _ => 32 - (intOf vq).toNat)
          case atStart => exact ⟨0, .slice a6 m c6, t, by omega, rfl, HTL.out, HOA.out, HFA.out, HBA.out⟩
          case round =>
            rename World => wb
            obtain ⟨q, v, u, hq, rfl, hul, ho, hfr, hbb⟩ := hrel
            have HUL : Hid (u.length = m + q) := hul
            have HFB : Hid (FrmAt wb w6.heap.size dK dS v) := hfr
            have HOB : Hid (wb.ownsRow (w5.heap.size + 1) 5 1 v (m + q) (B8 u)) := ho
            have HBB : Hid (Below wo.heap.size wo wb) := hbb
            obtain ⟨y0, y1, y2⟩ := hfr.cells
            clear hul hfr ho hbb HOA HFA HBA
            by_cases hq32 : q < 32
            · have d4 : decide ((q : Int) < 32) = true := by simp; omega
              have hmx1 : m + q + 1 ≤ maxLen := by unfold maxLen; omega
              have hmx2 : (m + q + 1) * 1 ≤ 140737488355328 := by omega
              have HHS : Hid (w5.heap.size + 1 ≤ (wb.alloc (.cells #[.int .u8 204] 5)).heap.size) := by show _ ≤ _; have h2 := lt_of_heap HFB.out; rw [alloc_size1]; omega
              go_wp2_with (at_builtin; refine wpList_append_own _ rfl _ _ 22 rfl (w5.heap.size + 1) 5 i0 (.int .u8 0) 1 1 Tryd.underlying22 hi hz0 hz1 hz2 rfl (by decide) _ _ _ rfl (World.ownsRow.alloc HOB.out _) ⟨wb.heap.size, 0, none⟩ 1 1 [.int .u8 204] rfl rfl (cell_new _ _ _) (one_new _) hmx1 hmx2 HHS.out ?_; intro v9 w9 ho9 hg9 _; obtain ⟨g9, c9, hv9, hf9, z3, hs9⟩ := body_grown HOB.out HFB.out HBB.out hw5 hw6 ho9 hg9; subst hv9; obtain ⟨z0, z1, z2⟩ := FrmAt.cells hf9; have HS9 : Hid (_ ∧ _ ∧ _) := hs9; clear ho9 hg9 hf9 hs9 y0 y1 y2)
              go_roundw
              case rel => exact ⟨q + 1, .slice (some ⟨g9, 0, none⟩) (m + q + 1) c9, u ++ [204], by omega, by go_num, by rw [List.length_append, HUL.out]; rfl, HS9.out.1, HS9.out.2.1, HS9.out.2.2⟩
              case measure => simp [intOf]; omega
            · have d4 : decide ((q : Int) < 32) = false := by simp; omega
              go_wp2
              go_roundw
              case rel => exact ⟨i + 1, by omega, by omega, by go_num, below_next HBR.out HBB.out⟩
              case measure => simp [intOf]; omega
    · have HD : Hid (¬ (i ≤ n ∧ i < 200)) := hgo
      clear hgo
      by_cases hin2 : i ≤ n
      · have d1 : decide ((i : Int) ≤ (n : Int)) = true := by simp; omega
        have d2 : decide ((i : Int) < 200) = false := by have := HD.out; simp; omega
        go_wp2_with (go_at_call 14; refine (same_at l l _ _ _ _ _ _ _ HN.out HN.out (HY2.out.keep HBR.out) (HB.out.keep HW.out) (by rw [HN.out]; unfold maxLen; omega) (by rw [HN.out]; unfold maxLen; omega)).mono ?_; simp only [decide_true]; rintro r w7 ⟨rfl, q7, rfl⟩)
        go_ret
        exact ⟨rfl, below_drewN HW.out q7⟩
      · have d1 : decide ((i : Int) ≤ (n : Int)) = false := by simp; omega
        go_wp2_with (go_at_call 14; refine (same_at l l _ _ _ _ _ _ _ HN.out HN.out (HY2.out.keep HBR.out) (HB.out.keep HW.out) (by rw [HN.out]; unfold maxLen; omega) (by rw [HN.out]; unfold maxLen; omega)).mono ?_; simp only [decide_true]; rintro r w7 ⟨rfl, q7, rfl⟩)
        go_ret
        exact ⟨rfl, below_drewN HW.out q7⟩
theorem own : ownKnob Tryd.prog.godebug = none := by kernel_rfl
theorem laidOut : laidOutB Tryd.prog = true := by kernel_rfl
set_option maxRecDepth 100000 in
theorem contract (H : Type) (enc : TypeId × Value → H) (W : World) (base : Nat) (args : Array Value) (ds gs : List (DataW H)) (before : List MemPlace)
    (hval : ∀ (j : Nat) t v, Tryd.f4.params[j]? = some t → args[j]? = some v → Value.okWide Tryd.prog W .any base t v)
    (hW : DataW.Whole enc Tryd.prog Tryd.f4.params.toList Rows.frameDecodesSpec.vars false W args.toList ds gs before)
    (hsz : (DataW.weightsEach Tryd.prog (Tryd.f4.params.toList ++ Rows.frameDecodesSpec.plain.varTypes Tryd.prog) (ds ++ gs)).all (· ≤ reachBytes) = true) (hL : laidMetH Tryd.prog ([("daybook/crc.halves", Rows.laid_daybook_crc_halves)]) W) :
    Calls Tryd.prog 4 args W fun e W' => ∃ v, e = .returned v ∧ Rows.frameDecodesSpec.post enc Tryd.prog Tryd.f4 false true false false W args v W' := by
  have hW' := hW
  obtain ⟨p, q, hA0, hV, rfl, hfz, hnd⟩ := hW
  have hA : DataW.TrodAll enc Tryd.prog W 0 (fun _ => true) true Tryd.f4.params.toList args.toList ds p := hA0
  rw [Tryd.params4] at hA hval hsz
  obtain ⟨v0, vs0, d0, ds0, p0, q0, hargs, rfl, rfl, h0, r0⟩ := trodAll_cons hA
  obtain ⟨rfl, rfl, rfl⟩ := trodAll_nil r0
  obtain rfl : args = #[v0] := by cases args; simp_all
  obtain ⟨rfl, rfl⟩ := trodVars_none hV
  obtain ⟨a0, len0, cap0, rfl⟩ := okWide_slice Tryd.underlying22 (hval 0 22 v0 rfl rfl)
  have k0 := h0
  have lt0 : ∀ x ∈ p0, x.block < W.heap.size := by obtain ⟨m, hm⟩ := k0; exact DataW.trod_lt m _ _ _ hm
  obtain ⟨l0, hlen0, w0, c0⟩ : ∃ l : List Nat, l.length = len0 ∧ Bytes W a0 l ∧ Came W a0 len0 cap0 1 := by
    obtain ⟨fuel, hf⟩ := h0
    rcases open_ints Tryd.underlying22 Tryd.underlying5 (by kernel_rfl) hf with ⟨hcs, hx⟩ | ⟨x, l, c, zs, hcs, _, hl, hm, hz, hx, hcell, hwz⟩
    · simp [Value.cells] at hcs
      obtain ⟨rfl, rfl, rfl⟩ := hcs
      exact ⟨[], rfl, ⟨by simp, .inl rfl⟩, ⟨Nat.le_refl _, by simp, fun _ => rfl⟩⟩
    · simp [Value.cells] at hcs
      obtain ⟨rfl, rfl, rfl⟩ := hcs
      have hz2 : zs.length = cap0 := by simpa using hz
      obtain ⟨ll, e1, e2, e3⟩ := row_nats .u8 256 (by decide) wf_u8 W x zs len0 (by omega) hcell hwz
      have hd : d0 = .slice (lits .u8 (zs.take len0)) (lits .u8 (zs.drop len0)) := (Prod.mk.inj hx).1
      have hreach : cap0 * 1 ≤ 140737488351232 := by
        have := sized_slice hsz (j := 0) (t := 22) (e := 5) rfl (by rw [hd]; rfl) Tryd.underlying22
        rw [show Tryd.prog.bytesOf 5 = 1 from by kernel_rfl] at this
        simp only [lits, List.length_map, List.length_take, List.length_drop, reachBytes] at this
        have hmin : min len0 zs.length = len0 := Nat.min_eq_left (by omega)
        rw [hmin] at this
        have hcap : len0 + (zs.length - len0) = cap0 := by omega
        rw [hcap] at this
        exact this
      exact ⟨ll, e1, ⟨e2, e3⟩, ⟨hl, hreach, fun h => by cases h⟩⟩
  subst hlen0
  clear hA0
  refine (walk l0 a0 cap0 W w0 c0 (tab_of hL)).mono fun e W' ⟨he, bel⟩ => ?_
  subst he
  exact ⟨_, rfl, _, _, _, [], _, [], hW', trodAll_mk1 (shut_bool Tryd.underlying4 _), (trodAll_cons_mk (Below.trod laidOut (by kernel_rfl) (of_decide_eq_true (by kernel_rfl)) k0 bel lt0) trodAll_mk0), rfl, bel.frame _, fun h => by cases h⟩
set_option maxRecDepth 100000 in
theorem start (os : Os) : ∃ w0 : World, w0.os = os ∧ (w0.forCall (fun _ _ => 0) ⟨#[], #[.slice none 0 0], []⟩).variablesB Tryd.prog = true ∧
    ((w0.forCall (fun _ _ => 0) ⟨#[], #[.slice none 0 0], []⟩).heap.toList.drop Tryd.prog.globals.size).take ((begin Tryd.prog (fun _ _ => 0) default).world.heap.size - Tryd.prog.globals.size) = (begin Tryd.prog (fun _ _ => 0) default).world.heap.toList.drop Tryd.prog.globals.size ∧
    Input.okWideB Tryd.prog (w0.forCall (fun _ _ => 0) ⟨#[], #[.slice none 0 0], []⟩) 4 ⟨#[], #[.slice none 0 0], []⟩ = true ∧
    laidMet Tryd.prog Rows.frameDecodesRow.laid (w0.forCall (fun _ _ => 0) ⟨#[], #[.slice none 0 0], []⟩).memory ∧
    ∀ (H : Type) (enc : TypeId × Value → H), DataW.whole enc Tryd.prog (w0.forCall (fun _ _ => 0) ⟨#[], #[.slice none 0 0], []⟩).memory Tryd.f4.params.toList Rows.frameDecodesSpec.vars false (#[.slice none 0 0] : Array Value).toList 8 = some ([.nil], [], []) :=
  ⟨{ World.holding Tryd.prog os ⟨#[], #[], []⟩ with heap := (World.holding Tryd.prog os ⟨#[], #[], []⟩).heap.modify 0 fun
      | .cells _ t frozen => .cells #[.int .u32 0, .int .u32 498536548, .int .u32 997073096, .int .u32 651767980, .int .u32 1994146192, .int .u32 1802195444, .int .u32 1303535960, .int .u32 1342533948, .int .u32 3988292384, .int .u32 4027552580, .int .u32 3604390888, .int .u32 3412177804, .int .u32 2607071920, .int .u32 2262029012, .int .u32 2685067896, .int .u32 3183342108] t frozen
      | o => o }, rfl, by kernel_rfl, by kernel_rfl, by kernel_rfl, laidMet_of_run' 8 (by kernel_rfl) (by kernel_rfl), fun _ _ => by kernel_rfl⟩
set_option maxRecDepth 100000 in
theorem lifted (os : Os) (started : os.Started) (H : Type) (enc : TypeId × Value → H) (F : Stop.Interp) :
    ReturnsInHanded {} Tryd.checked os 4 .any ((OpenSpec.ofChange Rows.frameDecodesSpec).preRow enc Tryd.prog Tryd.f4 Rows.frameDecodesRow.domain false Rows.frameDecodesRow.laid) (((OpenSpec.ofChange Rows.frameDecodesSpec).at F).post enc Tryd.prog Tryd.f4 false true false false) := by
  obtain ⟨w0, h1, h2, h3, h4, h5, h6⟩ := start os
  refine returnsInHanded_of_row (C := Tryd.checked) (s := OpenSpec.ofChange Rows.frameDecodesSpec) own started (by kernel_rfl) Tryd.func4
    (witness_row_at (enc := enc) (C := Tryd.checked) false w0 #[.slice none 0 0] h1 h2 h3 h4
      (OpenSpec.preRow_of_cond 8 (h6 H enc) (by kernel_rfl) (fun k hk => by cases hk) (by kernel_rfl) h5)) ?_
  intro W base args ds gs before hval hW _ hcond hsz hL _ _
  exact contract H enc W base args ds gs before hval hW hsz hL
theorem said : Rows.FrameDecodesSaid :=
  OpenClaim.holds_of_cond 4 Tryd.f4 rfl rfl rfl rfl rfl rfl rfl ⟨rfl, rfl, rfl, rfl, rfl⟩ rfl rfl rfl rfl rfl (by kernel_rfl) Tryd.func4 (by kernel_rfl)
    (of_decide_eq_true (by kernel_rfl)) (by unfold Func.isWrapper; first | (rw [if_pos (by decide +kernel)]; kernel_rfl) | (rw [if_neg (by decide +kernel)]; exact ⟨rfl, rfl⟩))
    (fun os started H enc _ F => by rw [OpenClaim.pre_eq_preRow]; exact lifted os started H enc F)
theorem plain (f : FuncId) (fn : Func) (hf : Tryd.pinned.checked.prog.funcNamed "daybook/daybooklaw11.FrameDecodes" = some f) (hfn : Tryd.pinned.checked.prog.funcs[f]? = some fn) :
    false = Tryd.pinned.checked.prog.looks [] ∧ ∀ (j : Nat) t, fn.params[j]? = some t → Tryd.pinned.checked.prog.wantsStandIn t = false := by
  obtain rfl : f = 4 := Option.some.inj ((show Tryd.prog.funcNamed "daybook/daybooklaw11.FrameDecodes" = some 4 by kernel_rfl).symm.trans hf) |>.symm
  obtain rfl : fn = Tryd.f4 := (Option.some.inj (Tryd.func4.symm.trans hfn)).symm
  refine ⟨by kernel_rfl, fun j t ht => ?_⟩
  rw [Tryd.params4] at ht
  have hm := Array.mem_of_getElem? ht
  have hall : ∀ t ∈ (#[22] : Array TypeId), Tryd.prog.wantsStandIn t = false := by
    intro t ht
    simp only [List.mem_toArray, List.mem_cons, List.not_mem_nil, or_false] at ht
    rcases ht with rfl <;> kernel_rfl
  exact hall t hm
theorem card : Rows.FrameDecodesCardSaid :=
  Claim7.holds_tied_plain_at .later [] _ _ _ _ said (fun _ h => by cases h) (by kernel_rfl) (fun _ h => by cases h) frameDecodes_row_tie rfl ⟨rfl, rfl⟩ (by kernel_rfl) rfl plain (by kernel_rfl)
end Go.Proofs.YtogklgpghecclaaDoor.frameDecodes
