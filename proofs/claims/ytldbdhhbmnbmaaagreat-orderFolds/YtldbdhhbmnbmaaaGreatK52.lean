/- Own texts, joined: RChk3, RChk4. -/
import Derived.Test.YtldbdhhbmnbmaaaGreatK49
namespace Go.Proofs.YtldbdhhbmnbmaaaGreat
open Go.ChangeShapes Go.WideShapes Go.ChangeAt Go.RowKit
set_option linter.unusedSimpArgs false
set_option linter.unusedVariables false
set_option maxRecDepth 20000 in
set_option maxHeartbeats 8000000 in
theorem rcheck3 (k o i q p c t : Int) (wh : ByteArray) (s : Int) (n : ByteArray) (w : World) :
    Calls Tryz.prog 30 #[.int .i64 3, .agg #[.int .i64 k, .int .i64 o, .int .i64 i, .int .i64 q, .int .i64 p, .int .i64 c, .int .i64 t, .string wh, .int .i64 s, .string n]] w fun e w' => e = .returned (.int .i64 (chk 3 ⟨k, o, i, q, p, c, t, wh, s, n⟩)) ∧ Below w.heap.size w w' := by
  obtain ⟨E, _, hE, hn, hbel, hsize, r0, r1, r2, r3, r4, r5, r6, r7, r8, r9⟩ := ev_held w k o i q p c t wh s n
  have HN : Hid (∀ w1 w2, E w1 → Below w1.heap.size w1 w2 → E w2) := hn
  have HB : Hid (∀ w2, E w2 → Below w.heap.size w w2) := hbel
  have HZ : Hid (∀ w2, E w2 → w.heap.size < w2.heap.size) := hsize
  have R : Hid (∀ w2, E w2 → _ ∧ _ ∧ _ ∧ _ ∧ _ ∧ _ ∧ _ ∧ _ ∧ _ ∧ _) := fun w2 h => ⟨r0 w2 h, r1 w2 h, r2 w2 h, r3 w2 h, r4 w2 h, r5 w2 h, r6 w2 h, r7 w2 h, r8 w2 h, r9 w2 h⟩
  clear hn hbel hsize r0 r1 r2 r3 r4 r5 r6 r7 r8 r9
  have CK : ∀ w2, E w2 → Calls Tryz.prog 67 #[.int .i64 3] w2 fun e w' => e = .returned (.int .i64 7) ∧ E w' := fun w2 h => (rlast_any 3 w2 (by omega) (by omega)).mono fun e w' ⟨h1, h2⟩ => ⟨h1, HN.out _ _ h h2⟩
  have HCK : Hid (_) := CK
  clear CK
  have hk : k < 1 ∨ (1 ≤ k ∧ 7 < k) ∨ (1 ≤ k ∧ k ≤ 7) := by omega
  rcases hk with hk | ⟨hk, hk2⟩ | ⟨hk, hk2⟩
  · have HR : Hid (chk 3 ⟨k, o, i, q, p, c, t, wh, s, n⟩ = 31) := chk_31 (by omega) (by omega) (.inl hk)
    have hd : decide (k < 1) = true := by simpa using hk
    go_enter Tryz.func30, Tryz.ntmps30
    go_wp2
    refine wp_region_quiet (C := E) (by kernel_rfl) (by kernel_rfl) hE ?_
    simp only [List.toList_toArray]
    repeat (first
      | go_big_quiet_skip
      | (go_big_quiet_want
         first
         | (refine quiet_val (v := ?_) (fun w2 hw2 => ?_) ?_
            rotate_left
            · (first | (go_simp; with_reducible rfl) | (obtain ⟨q0, _⟩ := R.out w2 hw2; go_simp; with_reducible rfl))
            go_big_quiet_on; simp only [Act.put, List.setIfInBounds_toArray, List.set_cons_zero, List.set_cons_succ])
         | (refine quiet_call (v := ?_) (f := ?_) (args := ?_) (fun w2 hw2 => ?_) (fun w2 hw2 => ?_) ?_
            rotate_left 3
            · (go_simp; refine ⟨?_, ?_⟩ <;> with_reducible rfl)
            · (go_at_call 67; exact HCK.out _ hw2)
            go_big_quiet_on; simp only [Act.put, List.setIfInBounds_toArray, List.set_cons_zero, List.set_cons_succ])))
    refine wpQuiet_nil ?_
    intro w3 hw3'
    have HW3 : Hid (E w3) := hw3'
    clear hw3' hE
    go_wp2
    go_ret
    exact ⟨ret_int HR.out.symm, HB.out _ HW3.out⟩
  · have HR : Hid (chk 3 ⟨k, o, i, q, p, c, t, wh, s, n⟩ = 31) := chk_31 (by omega) (by omega) (.inr hk2)
    have hd : decide (k < 1) = false := by simp; omega
    have hd2 : decide (7 < k) = true := by simpa using hk2
    go_enter Tryz.func30, Tryz.ntmps30
    go_wp2
    refine wp_region_quiet (C := E) (by kernel_rfl) (by kernel_rfl) hE ?_
    simp only [List.toList_toArray]
    repeat (first
      | go_big_quiet_skip
      | (go_big_quiet_want
         first
         | (refine quiet_val (v := ?_) (fun w2 hw2 => ?_) ?_
            rotate_left
            · (first | (go_simp; with_reducible rfl) | (obtain ⟨q0, _⟩ := R.out w2 hw2; go_simp; with_reducible rfl))
            go_big_quiet_on; simp only [Act.put, List.setIfInBounds_toArray, List.set_cons_zero, List.set_cons_succ])
         | (refine quiet_call (v := ?_) (f := ?_) (args := ?_) (fun w2 hw2 => ?_) (fun w2 hw2 => ?_) ?_
            rotate_left 3
            · (go_simp; refine ⟨?_, ?_⟩ <;> with_reducible rfl)
            · (go_at_call 67; exact HCK.out _ hw2)
            go_big_quiet_on; simp only [Act.put, List.setIfInBounds_toArray, List.set_cons_zero, List.set_cons_succ])))
    refine wpQuiet_nil ?_
    intro w3 hw3'
    have HW3 : Hid (E w3) := hw3'
    clear hw3' hE
    go_wp2
    go_ret
    exact ⟨ret_int HR.out.symm, HB.out _ HW3.out⟩
  · have HK : Hid (¬ (k < 1 ∨ 7 < k)) := by show ¬ _; omega
    have hd : decide (k < 1) = false := by simp; omega
    have hd2 : decide (7 < k) = false := by simp; omega
    go_enter Tryz.func30, Tryz.ntmps30
    go_wp2
    refine wp_region_quiet (C := E) (by kernel_rfl) (by kernel_rfl) hE ?_
    simp only [List.toList_toArray]
    repeat (first
      | go_big_quiet_skip
      | (go_big_quiet_want
         first
         | (refine quiet_val (v := ?_) (fun w2 hw2 => ?_) ?_
            rotate_left
            · (first | (go_simp; with_reducible rfl) | (obtain ⟨q0, _⟩ := R.out w2 hw2; go_simp; with_reducible rfl))
            go_big_quiet_on; simp only [Act.put, List.setIfInBounds_toArray, List.set_cons_zero, List.set_cons_succ])
         | (refine quiet_call (v := ?_) (f := ?_) (args := ?_) (fun w2 hw2 => ?_) (fun w2 hw2 => ?_) ?_
            rotate_left 3
            · (go_simp; refine ⟨?_, ?_⟩ <;> with_reducible rfl)
            · (go_at_call 67; exact HCK.out _ hw2)
            go_big_quiet_on; simp only [Act.put, List.setIfInBounds_toArray, List.set_cons_zero, List.set_cons_succ])))
    refine wpQuiet_nil ?_
    intro w3 hw3'
    have HW3 : Hid (E w3) := hw3'
    clear hw3' hE
    obtain ⟨q0, q1, q2, q3, q4, q5, q6, q7, q8, q9⟩ := R.out w3 HW3.out
    by_cases hs1 : 16 < wh.size
    · have HR : Hid (chk 3 ⟨k, o, i, q, p, c, t, wh, s, n⟩ = 24) := chk_24 (by omega) (by omega) hk hk2 (.inl hs1)
      have hs1' : (16 : Int) < (wh.size : Int) := by omega
      go_wp2
      go_ret
      exact ⟨ret_int HR.out.symm, HB.out _ HW3.out⟩
    by_cases hs2 : 120 < n.size
    · have HR : Hid (chk 3 ⟨k, o, i, q, p, c, t, wh, s, n⟩ = 24) := chk_24 (by omega) (by omega) hk hk2 (.inr hs2)
      have hs1' : (wh.size : Int) ≤ 16 := by omega
      have hs2' : (120 : Int) < (n.size : Int) := by omega
      have hd3 : decide ((16 : Int) < (wh.size : Int)) = false := by simp; omega
      go_wp2
      go_ret
      exact ⟨ret_int HR.out.symm, HB.out _ HW3.out⟩
    have H32 : Hid (¬ Right 3 ⟨k, o, i, q, p, c, t, wh, s, n⟩ → chk 3 ⟨k, o, i, q, p, c, t, wh, s, n⟩ = 32) := fun h => chk_32 (by omega) (by omega) hk hk2 (by show wh.size ≤ 16; omega) (by show n.size ≤ 120; omega) h
    have HALL : Hid ((∀ j, 1 ≤ j → j < 11 → okT 3 ⟨k, o, i, q, p, c, t, wh, s, n⟩ j) → (3 < (3 : Int) ∨ nilB wh = true) → (4 < (3 : Int) ∨ nilB n = true) → plainB wh.data.toList = true → chk 3 ⟨k, o, i, q, p, c, t, wh, s, n⟩ = 0) :=
      fun a b c d => chk_of (right_tags (by omega) (by omega) hk hk2 (by show wh.size ≤ 16; omega) (by show n.size ≤ 120; omega) a b c d)
    have HT : Hid (∀ j, 1 ≤ j → j ≤ 10 → ¬ okT 3 ⟨k, o, i, q, p, c, t, wh, s, n⟩ j → chk 3 ⟨k, o, i, q, p, c, t, wh, s, n⟩ = 32) := fun j a b c => H32.out fun r => c (okT_of r j a b)
    have hs1' : (wh.size : Int) ≤ 16 := by omega
    have hs2' : (n.size : Int) ≤ 120 := by omega
    have HS1 : Hid (wh.size ≤ 16) := by show _ ≤ _; omega
    have hd3 : decide ((16 : Int) < (wh.size : Int)) = false := by simp; omega
    have hd4 : decide ((120 : Int) < (n.size : Int)) = false := by simp; omega
    have hz3 := HZ.out _ HW3.out
    clear hs1 hs2 hd hd2
    go_wp2_with (go_at_call 68; refine (rnums_any k o i q p c t wh s n _).mono ?_; rintro _ w4 ⟨rfl, hrn, hb4⟩; obtain ⟨m1, m2, m3⟩ := two_new hb4; have HRC : Hid (RC E w3.heap.size 3 ⟨k, o, i, q, p, c, t, wh, s, n⟩ w4) := ⟨HN.out _ _ HW3.out m1, row_of m2, row_of m3, by simpa using hrn⟩; clear m1 m2 m3 hrn hb4 q0 q1 q2 q3 q4 q5 q6 q7 q8 q9 hz3)
    go_loopw [8] (fun vi wr => ∃ j : Nat, 1 ≤ j ∧ j ≤ 11 ∧ vi = .int .i64 j ∧ Hid (RC E w3.heap.size 3 ⟨k, o, i, q, p, c, t, wh, s, n⟩ wr) ∧ Hid (∀ x, 1 ≤ x → x < j → okT 3 ⟨k, o, i, q, p, c, t, wh, s, n⟩ x)) (fun vi _ => 11 - (intOf vi).toNat)
    case atStart => exact ⟨1, by omega, by omega, rfl, HRC, fun x h1 h2 => by omega⟩
    case round =>
      clear HRC
      obtain ⟨j, j1, j2, rfl, HRC, HJ⟩ := hrel
      by_cases hlt : j ≤ 10
      · obtain ⟨x, HX⟩ : ∃ x, Hid ((numL ⟨k, o, i, q, p, c, t, wh, s, n⟩).getD j 0 = x) := ⟨_, rfl⟩
        obtain ⟨l, HL⟩ : ∃ x, Hid ((lowL 3).getD j 0 = x) := ⟨_, rfl⟩
        obtain ⟨h, HH⟩ : ∃ x, Hid ((highL 3).getD j 0 = x) := ⟨_, rfl⟩
        have HO : Hid (okT 3 ⟨k, o, i, q, p, c, t, wh, s, n⟩ j ↔ (7 < j → x = 0) ∧ l ≤ x ∧ x ≤ h) := by show _ ↔ _; unfold okT; rw [HX.out, HL.out, HH.out]; exact Iff.rfl
        have HTJ : Hid (¬ ((7 < j → x = 0) ∧ l ≤ x ∧ x ≤ h) → chk 3 ⟨k, o, i, q, p, c, t, wh, s, n⟩ = 32) := fun hno => HT.out j j1 hlt fun ho => hno (HO.out.1 ho)
        have hj0 : (0 : Int) ≤ (j : Int) := by omega
        have hj1 : (j : Int) < 11 := by omega
        clear HT HALL H32
        by_cases hgt : 7 < j
        · have hgt' : (7 : Int) < (j : Int) := by omega
          by_cases hx0 : x = 0
          · have hx1 : (x != 0) = false := by simpa using hx0
            have HX0 : Hid (x = 0) := hx0
            clear hx0
            by_cases hc : x < l
            · have HR : Hid (chk 3 ⟨k, o, i, q, p, c, t, wh, s, n⟩ = 32) := HTJ.out fun hno => by have := hno.2.1; omega
              have hc1 : decide (x < l) = true := by simpa using hc
              go_wp2_with (go_at_call 69; refine (rhas_any 3 _ (by omega) (by omega)).mono ?_; rw [show ((hasK 3 : Nat) : Int) = 7 from rfl]; rintro _ w5 ⟨rfl, hb5⟩; have HRQ := HRC.out.keep HN.out hb5; clear HRC hb5; have HRC := HRQ; clear HRQ; obtain ⟨cl, ch, cn⟩ := HRC.out.cells j (by omega); rw [HL.out] at cl; rw [HH.out] at ch; rw [HX.out] at cn)
              go_quiet (fail)
              go_wp2
              go_ret
              exact ⟨ret_int HR.out.symm, HB.out _ (HRC.out.drewN HN.out _).out.1⟩
            · have hc1 : decide (x < l) = false := by simp; omega
              by_cases hc2 : h < x
              · have HR : Hid (chk 3 ⟨k, o, i, q, p, c, t, wh, s, n⟩ = 32) := HTJ.out fun hno => by have := hno.2.2; omega
                have hc3 : decide (h < x) = true := by simpa using hc2
                go_wp2_with (go_at_call 69; refine (rhas_any 3 _ (by omega) (by omega)).mono ?_; rw [show ((hasK 3 : Nat) : Int) = 7 from rfl]; rintro _ w5 ⟨rfl, hb5⟩; have HRQ := HRC.out.keep HN.out hb5; clear HRC hb5; have HRC := HRQ; clear HRQ; obtain ⟨cl, ch, cn⟩ := HRC.out.cells j (by omega); rw [HL.out] at cl; rw [HH.out] at ch; rw [HX.out] at cn)
                go_quiet (fail)
                go_wp2
                go_ret
                exact ⟨ret_int HR.out.symm, HB.out _ (HRC.out.drewN HN.out _).out.1⟩
              · have hc3 : decide (h < x) = false := by simp; omega
                have HJ2 : Hid (∀ y, 1 ≤ y → y < j + 1 → okT 3 ⟨k, o, i, q, p, c, t, wh, s, n⟩ y) := fun y y1 y2 => by
                  by_cases hy : y < j
                  · exact HJ.out y y1 hy
                  · rw [show y = j from by omega]; exact HO.out.2 ⟨fun _ => HX0.out, by omega, by omega⟩
                clear HJ
                go_wp2_with (go_at_call 69; refine (rhas_any 3 _ (by omega) (by omega)).mono ?_; rw [show ((hasK 3 : Nat) : Int) = 7 from rfl]; rintro _ w5 ⟨rfl, hb5⟩; have HRQ := HRC.out.keep HN.out hb5; clear HRC hb5; have HRC := HRQ; clear HRQ; obtain ⟨cl, ch, cn⟩ := HRC.out.cells j (by omega); rw [HL.out] at cl; rw [HH.out] at ch; rw [HX.out] at cn)
                go_quiet (fail)
                go_wp2
                go_roundw
                case rel => exact ⟨j + 1, by omega, by omega, by go_num, HRC.out.drewN HN.out _, HJ2⟩
                case measure => simp [intOf]; omega
          · have hx1 : (x != 0) = true := by simpa using hx0
            have HR : Hid (chk 3 ⟨k, o, i, q, p, c, t, wh, s, n⟩ = 32) := HTJ.out fun hno => hx0 (hno.1 hgt)
            clear hx0
            go_wp2_with (go_at_call 69; refine (rhas_any 3 _ (by omega) (by omega)).mono ?_; rw [show ((hasK 3 : Nat) : Int) = 7 from rfl]; rintro _ w5 ⟨rfl, hb5⟩; have HRQ := HRC.out.keep HN.out hb5; clear HRC hb5; have HRC := HRQ; clear HRQ; obtain ⟨cl, ch, cn⟩ := HRC.out.cells j (by omega); rw [HL.out] at cl; rw [HH.out] at ch; rw [HX.out] at cn)
            go_ret
            exact ⟨ret_int HR.out.symm, HB.out _ HRC.out.1⟩
        · have hgt' : (j : Int) ≤ 7 := by omega
          have HX0 : Hid (7 < j → x = 0) := fun h => absurd h hgt
          by_cases hc : x < l
          · have HR : Hid (chk 3 ⟨k, o, i, q, p, c, t, wh, s, n⟩ = 32) := HTJ.out fun hno => by have := hno.2.1; omega
            have hc1 : decide (x < l) = true := by simpa using hc
            go_wp2_with (go_at_call 69; refine (rhas_any 3 _ (by omega) (by omega)).mono ?_; rw [show ((hasK 3 : Nat) : Int) = 7 from rfl]; rintro _ w5 ⟨rfl, hb5⟩; have HRQ := HRC.out.keep HN.out hb5; clear HRC hb5; have HRC := HRQ; clear HRQ; obtain ⟨cl, ch, cn⟩ := HRC.out.cells j (by omega); rw [HL.out] at cl; rw [HH.out] at ch; rw [HX.out] at cn)
            go_quiet (fail)
            go_wp2
            go_ret
            exact ⟨ret_int HR.out.symm, HB.out _ (HRC.out.drewN HN.out _).out.1⟩
          · have hc1 : decide (x < l) = false := by simp; omega
            by_cases hc2 : h < x
            · have HR : Hid (chk 3 ⟨k, o, i, q, p, c, t, wh, s, n⟩ = 32) := HTJ.out fun hno => by have := hno.2.2; omega
              have hc3 : decide (h < x) = true := by simpa using hc2
              go_wp2_with (go_at_call 69; refine (rhas_any 3 _ (by omega) (by omega)).mono ?_; rw [show ((hasK 3 : Nat) : Int) = 7 from rfl]; rintro _ w5 ⟨rfl, hb5⟩; have HRQ := HRC.out.keep HN.out hb5; clear HRC hb5; have HRC := HRQ; clear HRQ; obtain ⟨cl, ch, cn⟩ := HRC.out.cells j (by omega); rw [HL.out] at cl; rw [HH.out] at ch; rw [HX.out] at cn)
              go_quiet (fail)
              go_wp2
              go_ret
              exact ⟨ret_int HR.out.symm, HB.out _ (HRC.out.drewN HN.out _).out.1⟩
            · have hc3 : decide (h < x) = false := by simp; omega
              have HJ2 : Hid (∀ y, 1 ≤ y → y < j + 1 → okT 3 ⟨k, o, i, q, p, c, t, wh, s, n⟩ y) := fun y y1 y2 => by
                by_cases hy : y < j
                · exact HJ.out y y1 hy
                · rw [show y = j from by omega]; exact HO.out.2 ⟨HX0.out, by omega, by omega⟩
              clear HJ
              go_wp2_with (go_at_call 69; refine (rhas_any 3 _ (by omega) (by omega)).mono ?_; rw [show ((hasK 3 : Nat) : Int) = 7 from rfl]; rintro _ w5 ⟨rfl, hb5⟩; have HRQ := HRC.out.keep HN.out hb5; clear HRC hb5; have HRC := HRQ; clear HRQ; obtain ⟨cl, ch, cn⟩ := HRC.out.cells j (by omega); rw [HL.out] at cl; rw [HH.out] at ch; rw [HX.out] at cn)
              go_quiet (fail)
              go_wp2
              go_roundw
              case rel => exact ⟨j + 1, by omega, by omega, by go_num, HRC.out.drewN HN.out _, HJ2⟩
              case measure => simp [intOf]; omega
      · have hj11 : j = 11 := by omega
        subst hj11
        obtain ⟨q0, q1, q2, q3, q4, q5, q6, q7, q8, q9⟩ := R.out _ HRC.out.1
        have HBW := HB.out _ HRC.out.1
        have HBE : Hid (_) := HBW
        have HAL := HALL.out HJ.out
        have HAL2 : Hid (_) := HAL
        clear HBW HAL HRC HALL HT HJ q0 q1 q2 q3 q4 q5 q6 q8
        cases hw : nilB wh with
        | false =>
          have hw1 : wh.toList.isEmpty = false := hw
          have HR : Hid (chk 3 ⟨k, o, i, q, p, c, t, wh, s, n⟩ = 32) := H32.out fun r => by have := r.own3; rcases this with h | h <;> first | omega | (rw [hw] at h; cases h)
          clear HAL2 H32
          go_wp2
          go_ret
          exact ⟨ret_int HR.out.symm, HBE.out⟩
        | true =>
          have hw1 : wh.toList.isEmpty = true := hw
          cases hnn : nilB n with
          | false =>
            have hn1 : n.toList.isEmpty = false := hnn
            have HR : Hid (chk 3 ⟨k, o, i, q, p, c, t, wh, s, n⟩ = 32) := H32.out fun r => by have := r.own4; rcases this with h | h <;> first | omega | (have h2 := h.2; rw [hnn] at h2; cases h2)
            clear HAL2 H32
            go_wp2
            go_ret
            exact ⟨ret_int HR.out.symm, HBE.out⟩
          | true =>
            have hn1 : n.toList.isEmpty = true := hnn
            have HP0 : Hid (plainB wh.data.toList = true → chk 3 ⟨k, o, i, q, p, c, t, wh, s, n⟩ = 0) := fun hp => HAL2.out (.inr hw) (.inr hnn) hp
            have HPN : Hid (plainB wh.data.toList = false → chk 3 ⟨k, o, i, q, p, c, t, wh, s, n⟩ = 32) := fun hp => H32.out fun r => by have := r.plain; rw [hp] at this; cases this
            have HLEN : Hid (wh.data.toList.length = wh.size) := by show _ = _; simp
            clear HAL2 H32
            go_wp2
            go_loop [9] (fun vi => ∃ y : Nat, y ≤ wh.size ∧ vi = .int .i64 y ∧ Hid (plainB (wh.data.toList.take y) = true)) (fun vi => wh.size - (intOf vi).toNat)
            case atStart => exact ⟨0, by omega, rfl, rfl⟩
            case round =>
              obtain ⟨y, hy, rfl, HP⟩ := hrel
              by_cases hlt2 : y < wh.size
              · have HK2 : Hid (y < wh.data.toList.length) := by show _ < _; rw [HLEN.out]; exact hlt2
                have HX2 : Hid (((wh[y].toNat : Nat) : Int) = ((wh.data.toList.getD y 0).toNat : Int)) := by
                  show _ = _
                  rw [List.getD_eq_getElem?_getD, List.getElem?_eq_getElem HK2.out]
                  rfl
                have hx0 : 0 ≤ ((wh[y].toNat : Nat) : Int) ∧ ((wh[y].toNat : Nat) : Int) < 256 := by have := (wh[y]).toNat_lt; omega
                cases ho : okC ((wh[y].toNat : Nat) : Int) with
                | true =>
                  have hoc := okC_yes ho
                  have HO : Hid (plainB (wh.data.toList.take (y + 1)) = true) := plain_more _ y ((wh[y].toNat : Nat) : Int) HK2.out HX2.out HP.out ho
                  clear ho
                  rcases hoc with hoc | hoc | hoc
                  · obtain ⟨o1, o2⟩ := hoc
                    have e1 : (((wh[y].toNat : Nat) : Int) == 45) = false := by simp; omega
                    have e2 : decide (((wh[y].toNat : Nat) : Int) ≤ 57) = false := by simp; omega
                    go_wp2
                    all_goals first
                      | (go_round
                         case rel => exact ⟨y + 1, by omega, by go_num, HO⟩
                         case measure => simp [intOf]; omega)
                      | (exfalso; clear HBE HN HB HZ R HCK; simp at *; omega)
                  · obtain ⟨o1, o2⟩ := hoc
                    have e1 : (((wh[y].toNat : Nat) : Int) == 45) = false := by simp; omega
                    go_wp2
                    all_goals first
                      | (go_round
                         case rel => exact ⟨y + 1, by omega, by go_num, HO⟩
                         case measure => simp [intOf]; omega)
                      | (exfalso; clear HBE HN HB HZ R HCK; simp at *; omega)
                  · have e1 : (((wh[y].toNat : Nat) : Int) == 45) = true := by simpa using hoc
                    go_wp2
                    all_goals first
                      | (go_round
                         case rel => exact ⟨y + 1, by omega, by go_num, HO⟩
                         case measure => simp [intOf]; omega)
                      | (exfalso; clear HBE HN HB HZ R HCK; simp at *; omega)
                | false =>
                  obtain ⟨hn1, hn2, hn3⟩ := okC_no ho
                  have HR : Hid (chk 3 ⟨k, o, i, q, p, c, t, wh, s, n⟩ = 32) := HPN.out (plain_not _ y ((wh[y].toNat : Nat) : Int) HK2.out HX2.out ho)
                  have e1 : (((wh[y].toNat : Nat) : Int) == 45) = false := by simpa using hn3
                  have hr : ((wh[y].toNat : Nat) : Int) < 48 ∨ (57 < ((wh[y].toNat : Nat) : Int) ∧ ((wh[y].toNat : Nat) : Int) < 97) ∨ 122 < ((wh[y].toNat : Nat) : Int) := by omega
                  clear ho hn1 hn2 hn3
                  rcases hr with hr | ⟨hr, hr'⟩ | hr
                  · have e2 : decide (48 ≤ ((wh[y].toNat : Nat) : Int)) = false := by simp; omega
                    have e3 : decide (97 ≤ ((wh[y].toNat : Nat) : Int)) = false := by simp; omega
                    go_wp2
                    all_goals first
                      | (go_ret; exact ⟨ret_int HR.out.symm, HBE.out⟩)
                      | (exfalso; clear HBE HN HB HZ R HCK; simp at *; omega)
                  · have e2 : decide (((wh[y].toNat : Nat) : Int) ≤ 57) = false := by simp; omega
                    have e3 : decide (97 ≤ ((wh[y].toNat : Nat) : Int)) = false := by simp; omega
                    go_wp2
                    all_goals first
                      | (go_ret; exact ⟨ret_int HR.out.symm, HBE.out⟩)
                      | (exfalso; clear HBE HN HB HZ R HCK; simp at *; omega)
                  · have e2 : decide (((wh[y].toNat : Nat) : Int) ≤ 57) = false := by simp; omega
                    have e3 : decide (((wh[y].toNat : Nat) : Int) ≤ 122) = false := by simp; omega
                    go_wp2
                    all_goals first
                      | (go_ret; exact ⟨ret_int HR.out.symm, HBE.out⟩)
                      | (exfalso; clear HBE HN HB HZ R HCK; simp at *; omega)
              · have HR : Hid (chk 3 ⟨k, o, i, q, p, c, t, wh, s, n⟩ = 0) := HP0.out (by have := HP.out; rwa [List.take_of_length_le (by rw [HLEN.out]; omega)] at this)
                go_wp2
                go_ret
                exact ⟨ret_int HR.out.symm, HBE.out⟩
end Go.Proofs.YtldbdhhbmnbmaaaGreat
namespace Go.Proofs.YtldbdhhbmnbmaaaGreat
open Go.ChangeShapes Go.WideShapes Go.ChangeAt Go.RowKit
set_option linter.unusedSimpArgs false
set_option linter.unusedVariables false
set_option maxRecDepth 20000 in
set_option maxHeartbeats 8000000 in
theorem rcheck4 (k o i q p c t : Int) (wh : ByteArray) (s : Int) (n : ByteArray) (w : World) :
    Calls Tryz.prog 30 #[.int .i64 4, .agg #[.int .i64 k, .int .i64 o, .int .i64 i, .int .i64 q, .int .i64 p, .int .i64 c, .int .i64 t, .string wh, .int .i64 s, .string n]] w fun e w' => e = .returned (.int .i64 (chk 4 ⟨k, o, i, q, p, c, t, wh, s, n⟩)) ∧ Below w.heap.size w w' := by
  obtain ⟨E, _, hE, hn, hbel, hsize, r0, r1, r2, r3, r4, r5, r6, r7, r8, r9⟩ := ev_held w k o i q p c t wh s n
  have HN : Hid (∀ w1 w2, E w1 → Below w1.heap.size w1 w2 → E w2) := hn
  have HB : Hid (∀ w2, E w2 → Below w.heap.size w w2) := hbel
  have HZ : Hid (∀ w2, E w2 → w.heap.size < w2.heap.size) := hsize
  have R : Hid (∀ w2, E w2 → _ ∧ _ ∧ _ ∧ _ ∧ _ ∧ _ ∧ _ ∧ _ ∧ _ ∧ _) := fun w2 h => ⟨r0 w2 h, r1 w2 h, r2 w2 h, r3 w2 h, r4 w2 h, r5 w2 h, r6 w2 h, r7 w2 h, r8 w2 h, r9 w2 h⟩
  clear hn hbel hsize r0 r1 r2 r3 r4 r5 r6 r7 r8 r9
  have CK : ∀ w2, E w2 → Calls Tryz.prog 67 #[.int .i64 4] w2 fun e w' => e = .returned (.int .i64 9) ∧ E w' := fun w2 h => (rlast_any 4 w2 (by omega) (by omega)).mono fun e w' ⟨h1, h2⟩ => ⟨h1, HN.out _ _ h h2⟩
  have HCK : Hid (_) := CK
  clear CK
  have hk : k < 1 ∨ (1 ≤ k ∧ 9 < k) ∨ (1 ≤ k ∧ k ≤ 9) := by omega
  rcases hk with hk | ⟨hk, hk2⟩ | ⟨hk, hk2⟩
  · have HR : Hid (chk 4 ⟨k, o, i, q, p, c, t, wh, s, n⟩ = 31) := chk_31 (by omega) (by omega) (.inl hk)
    have hd : decide (k < 1) = true := by simpa using hk
    go_enter Tryz.func30, Tryz.ntmps30
    go_wp2
    refine wp_region_quiet (C := E) (by kernel_rfl) (by kernel_rfl) hE ?_
    simp only [List.toList_toArray]
    repeat (first
      | go_big_quiet_skip
      | (go_big_quiet_want
         first
         | (refine quiet_val (v := ?_) (fun w2 hw2 => ?_) ?_
            rotate_left
            · (first | (go_simp; with_reducible rfl) | (obtain ⟨q0, _⟩ := R.out w2 hw2; go_simp; with_reducible rfl))
            go_big_quiet_on; simp only [Act.put, List.setIfInBounds_toArray, List.set_cons_zero, List.set_cons_succ])
         | (refine quiet_call (v := ?_) (f := ?_) (args := ?_) (fun w2 hw2 => ?_) (fun w2 hw2 => ?_) ?_
            rotate_left 3
            · (go_simp; refine ⟨?_, ?_⟩ <;> with_reducible rfl)
            · (go_at_call 67; exact HCK.out _ hw2)
            go_big_quiet_on; simp only [Act.put, List.setIfInBounds_toArray, List.set_cons_zero, List.set_cons_succ])))
    refine wpQuiet_nil ?_
    intro w3 hw3'
    have HW3 : Hid (E w3) := hw3'
    clear hw3' hE
    go_wp2
    go_ret
    exact ⟨ret_int HR.out.symm, HB.out _ HW3.out⟩
  · have HR : Hid (chk 4 ⟨k, o, i, q, p, c, t, wh, s, n⟩ = 31) := chk_31 (by omega) (by omega) (.inr hk2)
    have hd : decide (k < 1) = false := by simp; omega
    have hd2 : decide (9 < k) = true := by simpa using hk2
    go_enter Tryz.func30, Tryz.ntmps30
    go_wp2
    refine wp_region_quiet (C := E) (by kernel_rfl) (by kernel_rfl) hE ?_
    simp only [List.toList_toArray]
    repeat (first
      | go_big_quiet_skip
      | (go_big_quiet_want
         first
         | (refine quiet_val (v := ?_) (fun w2 hw2 => ?_) ?_
            rotate_left
            · (first | (go_simp; with_reducible rfl) | (obtain ⟨q0, _⟩ := R.out w2 hw2; go_simp; with_reducible rfl))
            go_big_quiet_on; simp only [Act.put, List.setIfInBounds_toArray, List.set_cons_zero, List.set_cons_succ])
         | (refine quiet_call (v := ?_) (f := ?_) (args := ?_) (fun w2 hw2 => ?_) (fun w2 hw2 => ?_) ?_
            rotate_left 3
            · (go_simp; refine ⟨?_, ?_⟩ <;> with_reducible rfl)
            · (go_at_call 67; exact HCK.out _ hw2)
            go_big_quiet_on; simp only [Act.put, List.setIfInBounds_toArray, List.set_cons_zero, List.set_cons_succ])))
    refine wpQuiet_nil ?_
    intro w3 hw3'
    have HW3 : Hid (E w3) := hw3'
    clear hw3' hE
    go_wp2
    go_ret
    exact ⟨ret_int HR.out.symm, HB.out _ HW3.out⟩
  · have HK : Hid (¬ (k < 1 ∨ 9 < k)) := by show ¬ _; omega
    have hd : decide (k < 1) = false := by simp; omega
    have hd2 : decide (9 < k) = false := by simp; omega
    go_enter Tryz.func30, Tryz.ntmps30
    go_wp2
    refine wp_region_quiet (C := E) (by kernel_rfl) (by kernel_rfl) hE ?_
    simp only [List.toList_toArray]
    repeat (first
      | go_big_quiet_skip
      | (go_big_quiet_want
         first
         | (refine quiet_val (v := ?_) (fun w2 hw2 => ?_) ?_
            rotate_left
            · (first | (go_simp; with_reducible rfl) | (obtain ⟨q0, _⟩ := R.out w2 hw2; go_simp; with_reducible rfl))
            go_big_quiet_on; simp only [Act.put, List.setIfInBounds_toArray, List.set_cons_zero, List.set_cons_succ])
         | (refine quiet_call (v := ?_) (f := ?_) (args := ?_) (fun w2 hw2 => ?_) (fun w2 hw2 => ?_) ?_
            rotate_left 3
            · (go_simp; refine ⟨?_, ?_⟩ <;> with_reducible rfl)
            · (go_at_call 67; exact HCK.out _ hw2)
            go_big_quiet_on; simp only [Act.put, List.setIfInBounds_toArray, List.set_cons_zero, List.set_cons_succ])))
    refine wpQuiet_nil ?_
    intro w3 hw3'
    have HW3 : Hid (E w3) := hw3'
    clear hw3' hE
    obtain ⟨q0, q1, q2, q3, q4, q5, q6, q7, q8, q9⟩ := R.out w3 HW3.out
    by_cases hs1 : 16 < wh.size
    · have HR : Hid (chk 4 ⟨k, o, i, q, p, c, t, wh, s, n⟩ = 24) := chk_24 (by omega) (by omega) hk hk2 (.inl hs1)
      have hs1' : (16 : Int) < (wh.size : Int) := by omega
      go_wp2
      go_ret
      exact ⟨ret_int HR.out.symm, HB.out _ HW3.out⟩
    by_cases hs2 : 120 < n.size
    · have HR : Hid (chk 4 ⟨k, o, i, q, p, c, t, wh, s, n⟩ = 24) := chk_24 (by omega) (by omega) hk hk2 (.inr hs2)
      have hs1' : (wh.size : Int) ≤ 16 := by omega
      have hs2' : (120 : Int) < (n.size : Int) := by omega
      have hd3 : decide ((16 : Int) < (wh.size : Int)) = false := by simp; omega
      go_wp2
      go_ret
      exact ⟨ret_int HR.out.symm, HB.out _ HW3.out⟩
    have H32 : Hid (¬ Right 4 ⟨k, o, i, q, p, c, t, wh, s, n⟩ → chk 4 ⟨k, o, i, q, p, c, t, wh, s, n⟩ = 32) := fun h => chk_32 (by omega) (by omega) hk hk2 (by show wh.size ≤ 16; omega) (by show n.size ≤ 120; omega) h
    have HALL : Hid ((∀ j, 1 ≤ j → j < 11 → okT 4 ⟨k, o, i, q, p, c, t, wh, s, n⟩ j) → (3 < (4 : Int) ∨ nilB wh = true) → (4 < (4 : Int) ∨ nilB n = true) → plainB wh.data.toList = true → chk 4 ⟨k, o, i, q, p, c, t, wh, s, n⟩ = 0) :=
      fun a b c d => chk_of (right_tags (by omega) (by omega) hk hk2 (by show wh.size ≤ 16; omega) (by show n.size ≤ 120; omega) a b c d)
    have HT : Hid (∀ j, 1 ≤ j → j ≤ 10 → ¬ okT 4 ⟨k, o, i, q, p, c, t, wh, s, n⟩ j → chk 4 ⟨k, o, i, q, p, c, t, wh, s, n⟩ = 32) := fun j a b c => H32.out fun r => c (okT_of r j a b)
    have hs1' : (wh.size : Int) ≤ 16 := by omega
    have hs2' : (n.size : Int) ≤ 120 := by omega
    have HS1 : Hid (wh.size ≤ 16) := by show _ ≤ _; omega
    have hd3 : decide ((16 : Int) < (wh.size : Int)) = false := by simp; omega
    have hd4 : decide ((120 : Int) < (n.size : Int)) = false := by simp; omega
    have hz3 := HZ.out _ HW3.out
    clear hs1 hs2 hd hd2
    go_wp2_with (go_at_call 68; refine (rnums_any k o i q p c t wh s n _).mono ?_; rintro _ w4 ⟨rfl, hrn, hb4⟩; obtain ⟨m1, m2, m3⟩ := two_new hb4; have HRC : Hid (RC E w3.heap.size 4 ⟨k, o, i, q, p, c, t, wh, s, n⟩ w4) := ⟨HN.out _ _ HW3.out m1, row_of m2, row_of m3, by simpa using hrn⟩; clear m1 m2 m3 hrn hb4 q0 q1 q2 q3 q4 q5 q6 q7 q8 q9 hz3)
    go_loopw [8] (fun vi wr => ∃ j : Nat, 1 ≤ j ∧ j ≤ 11 ∧ vi = .int .i64 j ∧ Hid (RC E w3.heap.size 4 ⟨k, o, i, q, p, c, t, wh, s, n⟩ wr) ∧ Hid (∀ x, 1 ≤ x → x < j → okT 4 ⟨k, o, i, q, p, c, t, wh, s, n⟩ x)) (fun vi _ => 11 - (intOf vi).toNat)
    case atStart => exact ⟨1, by omega, by omega, rfl, HRC, fun x h1 h2 => by omega⟩
    case round =>
      clear HRC
      obtain ⟨j, j1, j2, rfl, HRC, HJ⟩ := hrel
      by_cases hlt : j ≤ 10
      · obtain ⟨x, HX⟩ : ∃ x, Hid ((numL ⟨k, o, i, q, p, c, t, wh, s, n⟩).getD j 0 = x) := ⟨_, rfl⟩
        obtain ⟨l, HL⟩ : ∃ x, Hid ((lowL 4).getD j 0 = x) := ⟨_, rfl⟩
        obtain ⟨h, HH⟩ : ∃ x, Hid ((highL 4).getD j 0 = x) := ⟨_, rfl⟩
        have HO : Hid (okT 4 ⟨k, o, i, q, p, c, t, wh, s, n⟩ j ↔ (8 < j → x = 0) ∧ l ≤ x ∧ x ≤ h) := by show _ ↔ _; unfold okT; rw [HX.out, HL.out, HH.out]; exact Iff.rfl
        have HTJ : Hid (¬ ((8 < j → x = 0) ∧ l ≤ x ∧ x ≤ h) → chk 4 ⟨k, o, i, q, p, c, t, wh, s, n⟩ = 32) := fun hno => HT.out j j1 hlt fun ho => hno (HO.out.1 ho)
        have hj0 : (0 : Int) ≤ (j : Int) := by omega
        have hj1 : (j : Int) < 11 := by omega
        clear HT HALL H32
        by_cases hgt : 8 < j
        · have hgt' : (8 : Int) < (j : Int) := by omega
          by_cases hx0 : x = 0
          · have hx1 : (x != 0) = false := by simpa using hx0
            have HX0 : Hid (x = 0) := hx0
            clear hx0
            by_cases hc : x < l
            · have HR : Hid (chk 4 ⟨k, o, i, q, p, c, t, wh, s, n⟩ = 32) := HTJ.out fun hno => by have := hno.2.1; omega
              have hc1 : decide (x < l) = true := by simpa using hc
              go_wp2_with (go_at_call 69; refine (rhas_any 4 _ (by omega) (by omega)).mono ?_; rw [show ((hasK 4 : Nat) : Int) = 8 from rfl]; rintro _ w5 ⟨rfl, hb5⟩; have HRQ := HRC.out.keep HN.out hb5; clear HRC hb5; have HRC := HRQ; clear HRQ; obtain ⟨cl, ch, cn⟩ := HRC.out.cells j (by omega); rw [HL.out] at cl; rw [HH.out] at ch; rw [HX.out] at cn)
              go_quiet (fail)
              go_wp2
              go_ret
              exact ⟨ret_int HR.out.symm, HB.out _ (HRC.out.drewN HN.out _).out.1⟩
            · have hc1 : decide (x < l) = false := by simp; omega
              by_cases hc2 : h < x
              · have HR : Hid (chk 4 ⟨k, o, i, q, p, c, t, wh, s, n⟩ = 32) := HTJ.out fun hno => by have := hno.2.2; omega
                have hc3 : decide (h < x) = true := by simpa using hc2
                go_wp2_with (go_at_call 69; refine (rhas_any 4 _ (by omega) (by omega)).mono ?_; rw [show ((hasK 4 : Nat) : Int) = 8 from rfl]; rintro _ w5 ⟨rfl, hb5⟩; have HRQ := HRC.out.keep HN.out hb5; clear HRC hb5; have HRC := HRQ; clear HRQ; obtain ⟨cl, ch, cn⟩ := HRC.out.cells j (by omega); rw [HL.out] at cl; rw [HH.out] at ch; rw [HX.out] at cn)
                go_quiet (fail)
                go_wp2
                go_ret
                exact ⟨ret_int HR.out.symm, HB.out _ (HRC.out.drewN HN.out _).out.1⟩
              · have hc3 : decide (h < x) = false := by simp; omega
                have HJ2 : Hid (∀ y, 1 ≤ y → y < j + 1 → okT 4 ⟨k, o, i, q, p, c, t, wh, s, n⟩ y) := fun y y1 y2 => by
                  by_cases hy : y < j
                  · exact HJ.out y y1 hy
                  · rw [show y = j from by omega]; exact HO.out.2 ⟨fun _ => HX0.out, by omega, by omega⟩
                clear HJ
                go_wp2_with (go_at_call 69; refine (rhas_any 4 _ (by omega) (by omega)).mono ?_; rw [show ((hasK 4 : Nat) : Int) = 8 from rfl]; rintro _ w5 ⟨rfl, hb5⟩; have HRQ := HRC.out.keep HN.out hb5; clear HRC hb5; have HRC := HRQ; clear HRQ; obtain ⟨cl, ch, cn⟩ := HRC.out.cells j (by omega); rw [HL.out] at cl; rw [HH.out] at ch; rw [HX.out] at cn)
                go_quiet (fail)
                go_wp2
                go_roundw
                case rel => exact ⟨j + 1, by omega, by omega, by go_num, HRC.out.drewN HN.out _, HJ2⟩
                case measure => simp [intOf]; omega
          · have hx1 : (x != 0) = true := by simpa using hx0
            have HR : Hid (chk 4 ⟨k, o, i, q, p, c, t, wh, s, n⟩ = 32) := HTJ.out fun hno => hx0 (hno.1 hgt)
            clear hx0
            go_wp2_with (go_at_call 69; refine (rhas_any 4 _ (by omega) (by omega)).mono ?_; rw [show ((hasK 4 : Nat) : Int) = 8 from rfl]; rintro _ w5 ⟨rfl, hb5⟩; have HRQ := HRC.out.keep HN.out hb5; clear HRC hb5; have HRC := HRQ; clear HRQ; obtain ⟨cl, ch, cn⟩ := HRC.out.cells j (by omega); rw [HL.out] at cl; rw [HH.out] at ch; rw [HX.out] at cn)
            go_ret
            exact ⟨ret_int HR.out.symm, HB.out _ HRC.out.1⟩
        · have hgt' : (j : Int) ≤ 8 := by omega
          have HX0 : Hid (8 < j → x = 0) := fun h => absurd h hgt
          by_cases hc : x < l
          · have HR : Hid (chk 4 ⟨k, o, i, q, p, c, t, wh, s, n⟩ = 32) := HTJ.out fun hno => by have := hno.2.1; omega
            have hc1 : decide (x < l) = true := by simpa using hc
            go_wp2_with (go_at_call 69; refine (rhas_any 4 _ (by omega) (by omega)).mono ?_; rw [show ((hasK 4 : Nat) : Int) = 8 from rfl]; rintro _ w5 ⟨rfl, hb5⟩; have HRQ := HRC.out.keep HN.out hb5; clear HRC hb5; have HRC := HRQ; clear HRQ; obtain ⟨cl, ch, cn⟩ := HRC.out.cells j (by omega); rw [HL.out] at cl; rw [HH.out] at ch; rw [HX.out] at cn)
            go_quiet (fail)
            go_wp2
            go_ret
            exact ⟨ret_int HR.out.symm, HB.out _ (HRC.out.drewN HN.out _).out.1⟩
          · have hc1 : decide (x < l) = false := by simp; omega
            by_cases hc2 : h < x
            · have HR : Hid (chk 4 ⟨k, o, i, q, p, c, t, wh, s, n⟩ = 32) := HTJ.out fun hno => by have := hno.2.2; omega
              have hc3 : decide (h < x) = true := by simpa using hc2
              go_wp2_with (go_at_call 69; refine (rhas_any 4 _ (by omega) (by omega)).mono ?_; rw [show ((hasK 4 : Nat) : Int) = 8 from rfl]; rintro _ w5 ⟨rfl, hb5⟩; have HRQ := HRC.out.keep HN.out hb5; clear HRC hb5; have HRC := HRQ; clear HRQ; obtain ⟨cl, ch, cn⟩ := HRC.out.cells j (by omega); rw [HL.out] at cl; rw [HH.out] at ch; rw [HX.out] at cn)
              go_quiet (fail)
              go_wp2
              go_ret
              exact ⟨ret_int HR.out.symm, HB.out _ (HRC.out.drewN HN.out _).out.1⟩
            · have hc3 : decide (h < x) = false := by simp; omega
              have HJ2 : Hid (∀ y, 1 ≤ y → y < j + 1 → okT 4 ⟨k, o, i, q, p, c, t, wh, s, n⟩ y) := fun y y1 y2 => by
                by_cases hy : y < j
                · exact HJ.out y y1 hy
                · rw [show y = j from by omega]; exact HO.out.2 ⟨HX0.out, by omega, by omega⟩
              clear HJ
              go_wp2_with (go_at_call 69; refine (rhas_any 4 _ (by omega) (by omega)).mono ?_; rw [show ((hasK 4 : Nat) : Int) = 8 from rfl]; rintro _ w5 ⟨rfl, hb5⟩; have HRQ := HRC.out.keep HN.out hb5; clear HRC hb5; have HRC := HRQ; clear HRQ; obtain ⟨cl, ch, cn⟩ := HRC.out.cells j (by omega); rw [HL.out] at cl; rw [HH.out] at ch; rw [HX.out] at cn)
              go_quiet (fail)
              go_wp2
              go_roundw
              case rel => exact ⟨j + 1, by omega, by omega, by go_num, HRC.out.drewN HN.out _, HJ2⟩
              case measure => simp [intOf]; omega
      · have hj11 : j = 11 := by omega
        subst hj11
        obtain ⟨q0, q1, q2, q3, q4, q5, q6, q7, q8, q9⟩ := R.out _ HRC.out.1
        have HBW := HB.out _ HRC.out.1
        have HBE : Hid (_) := HBW
        have HAL := HALL.out HJ.out
        have HAL2 : Hid (_) := HAL
        clear HBW HAL HRC HALL HT HJ q0 q1 q2 q3 q4 q5 q6 q8
        cases hnn : nilB n with
        | false =>
          have hn1 : n.toList.isEmpty = false := hnn
          have HR : Hid (chk 4 ⟨k, o, i, q, p, c, t, wh, s, n⟩ = 32) := H32.out fun r => by have := r.own4; rcases this with h | h <;> first | omega | (have h2 := h.2; rw [hnn] at h2; cases h2)
          clear HAL2 H32
          go_wp2
          go_ret
          exact ⟨ret_int HR.out.symm, HBE.out⟩
        | true =>
          have hn1 : n.toList.isEmpty = true := hnn
          have HP0 : Hid (plainB wh.data.toList = true → chk 4 ⟨k, o, i, q, p, c, t, wh, s, n⟩ = 0) := fun hp => HAL2.out (.inl (by omega)) (.inr hnn) hp
          have HPN : Hid (plainB wh.data.toList = false → chk 4 ⟨k, o, i, q, p, c, t, wh, s, n⟩ = 32) := fun hp => H32.out fun r => by have := r.plain; rw [hp] at this; cases this
          have HLEN : Hid (wh.data.toList.length = wh.size) := by show _ = _; simp
          clear HAL2 H32
          go_wp2
          go_loop [9] (fun vi => ∃ y : Nat, y ≤ wh.size ∧ vi = .int .i64 y ∧ Hid (plainB (wh.data.toList.take y) = true)) (fun vi => wh.size - (intOf vi).toNat)
          case atStart => exact ⟨0, by omega, rfl, rfl⟩
          case round =>
            obtain ⟨y, hy, rfl, HP⟩ := hrel
            by_cases hlt2 : y < wh.size
            · have HK2 : Hid (y < wh.data.toList.length) := by show _ < _; rw [HLEN.out]; exact hlt2
              have HX2 : Hid (((wh[y].toNat : Nat) : Int) = ((wh.data.toList.getD y 0).toNat : Int)) := by
                show _ = _
                rw [List.getD_eq_getElem?_getD, List.getElem?_eq_getElem HK2.out]
                rfl
              have hx0 : 0 ≤ ((wh[y].toNat : Nat) : Int) ∧ ((wh[y].toNat : Nat) : Int) < 256 := by have := (wh[y]).toNat_lt; omega
              cases ho : okC ((wh[y].toNat : Nat) : Int) with
              | true =>
                have hoc := okC_yes ho
                have HO : Hid (plainB (wh.data.toList.take (y + 1)) = true) := plain_more _ y ((wh[y].toNat : Nat) : Int) HK2.out HX2.out HP.out ho
                clear ho
                rcases hoc with hoc | hoc | hoc
                · obtain ⟨o1, o2⟩ := hoc
                  have e1 : (((wh[y].toNat : Nat) : Int) == 45) = false := by simp; omega
                  have e2 : decide (((wh[y].toNat : Nat) : Int) ≤ 57) = false := by simp; omega
                  go_wp2
                  all_goals first
                    | (go_round
                       case rel => exact ⟨y + 1, by omega, by go_num, HO⟩
                       case measure => simp [intOf]; omega)
                    | (exfalso; clear HBE HN HB HZ R HCK; simp at *; omega)
                · obtain ⟨o1, o2⟩ := hoc
                  have e1 : (((wh[y].toNat : Nat) : Int) == 45) = false := by simp; omega
                  go_wp2
                  all_goals first
                    | (go_round
                       case rel => exact ⟨y + 1, by omega, by go_num, HO⟩
                       case measure => simp [intOf]; omega)
                    | (exfalso; clear HBE HN HB HZ R HCK; simp at *; omega)
                · have e1 : (((wh[y].toNat : Nat) : Int) == 45) = true := by simpa using hoc
                  go_wp2
                  all_goals first
                    | (go_round
                       case rel => exact ⟨y + 1, by omega, by go_num, HO⟩
                       case measure => simp [intOf]; omega)
                    | (exfalso; clear HBE HN HB HZ R HCK; simp at *; omega)
              | false =>
                obtain ⟨hn1, hn2, hn3⟩ := okC_no ho
                have HR : Hid (chk 4 ⟨k, o, i, q, p, c, t, wh, s, n⟩ = 32) := HPN.out (plain_not _ y ((wh[y].toNat : Nat) : Int) HK2.out HX2.out ho)
                have e1 : (((wh[y].toNat : Nat) : Int) == 45) = false := by simpa using hn3
                have hr : ((wh[y].toNat : Nat) : Int) < 48 ∨ (57 < ((wh[y].toNat : Nat) : Int) ∧ ((wh[y].toNat : Nat) : Int) < 97) ∨ 122 < ((wh[y].toNat : Nat) : Int) := by omega
                clear ho hn1 hn2 hn3
                rcases hr with hr | ⟨hr, hr'⟩ | hr
                · have e2 : decide (48 ≤ ((wh[y].toNat : Nat) : Int)) = false := by simp; omega
                  have e3 : decide (97 ≤ ((wh[y].toNat : Nat) : Int)) = false := by simp; omega
                  go_wp2
                  all_goals first
                    | (go_ret; exact ⟨ret_int HR.out.symm, HBE.out⟩)
                    | (exfalso; clear HBE HN HB HZ R HCK; simp at *; omega)
                · have e2 : decide (((wh[y].toNat : Nat) : Int) ≤ 57) = false := by simp; omega
                  have e3 : decide (97 ≤ ((wh[y].toNat : Nat) : Int)) = false := by simp; omega
                  go_wp2
                  all_goals first
                    | (go_ret; exact ⟨ret_int HR.out.symm, HBE.out⟩)
                    | (exfalso; clear HBE HN HB HZ R HCK; simp at *; omega)
                · have e2 : decide (((wh[y].toNat : Nat) : Int) ≤ 57) = false := by simp; omega
                  have e3 : decide (((wh[y].toNat : Nat) : Int) ≤ 122) = false := by simp; omega
                  go_wp2
                  all_goals first
                    | (go_ret; exact ⟨ret_int HR.out.symm, HBE.out⟩)
                    | (exfalso; clear HBE HN HB HZ R HCK; simp at *; omega)
            · have HR : Hid (chk 4 ⟨k, o, i, q, p, c, t, wh, s, n⟩ = 0) := HP0.out (by have := HP.out; rwa [List.take_of_length_le (by rw [HLEN.out]; omega)] at this)
              go_wp2
              go_ret
              exact ⟨ret_int HR.out.symm, HBE.out⟩
end Go.Proofs.YtldbdhhbmnbmaaaGreat
