/- Own texts, joined: Od11, Od12. -/
import Derived.Test.YtmjppeljpifjpaaGreatK23
import Derived.Test.YtmjppeljpifjpaaGreatK10
import Derived.Deep.RegionWith
namespace Go.Proofs.YtmjppeljpifjpaaGreat
open Go.ChangeShapes Go.WideShapes Go.ChangeAt Go.RowKit
set_option linter.unusedVariables false
set_option linter.unusedSimpArgs false
set_option maxRecDepth 20000 in
set_option maxHeartbeats 8000000 in
theorem judge_any (lo b : Nat) (s : St) (e : Ev) (a : Option Addr) (n cap : Nat) (w : World) (hd : DeedsAt lo w b) (hn : s.lines.length = n) (hl : Lns w a s.lines) (hm : n ≤ maxLen) :
    Calls Tryz.prog 45 #[.slice (some ⟨b, 0, none⟩) 11 11, .agg (stA s (.slice a n cap)), .agg (evA e)] w fun r w' => r = .returned (.int .i64 (judS s e)) ∧ Below w.heap.size w w' := by
  obtain ⟨W, hW, HS⟩ := se_new w s e a n cap hl
  have HS1 : Hid (SE w s e a n cap W) := HS
  have HN : Hid (s.lines.length = n) := hn
  have HD : Hid (DeedsAt lo w b) := hd
  cases hv : vldB s with
  | false =>
    rw [show judS s e = 1 from if_pos (.inl hv)]
    have HV : Hid (vldB s = false) := hv
    clear hd hn hl hv HS
    go_enter Tryz.func45, Tryz.ntmps45
    go_wp2_with (first
      | ((with_reducible refine guard_load 25 ?_); refine wpList_load_st rfl _ rfl HS1.out.st rfl ?_)
      | (go_at_call 17; refine (valid_st s a n cap _ HN.out HS1.out.ln hm).mono ?_; rw [HV.out]; rintro _ x1 ⟨rfl, hb1⟩; have HS2 : Hid (SE w s e a n cap x1) := SE.keep HS1.out hb1; clear hb1))
    go_ret
    exact ⟨rfl, HS2.out.bel⟩
  | true =>
    have HV : Hid (vldB s = true) := hv
    obtain ⟨c, hc⟩ : ∃ c, chk 5 e = c := ⟨_, rfl⟩
    have HCK : Hid (chk 5 e = c) := hc
    by_cases c0 : c = 0
    · subst c0
      by_cases he : s.events = 1099511627776
      · rw [show judS s e = 1 from if_pos (.inr (.inr he))]
        have he' : (s.events == 1099511627776) = true := by simpa using he
        clear hd hn hl hv HS hc he
        go_enter Tryz.func45, Tryz.ntmps45
        go_wp2_with (first
          | ((with_reducible refine guard_load 25 ?_); refine wpList_load_st rfl _ rfl HS1.out.st rfl ?_)
          | ((with_reducible refine guard_loadg 37 ?_); refine wpList_load_evg rfl _ rfl HS2.out.ev rfl ?_)
          | (go_at_call 17; refine (valid_st s a n cap _ HN.out HS1.out.ln hm).mono ?_; rw [HV.out]; rintro _ x1 ⟨rfl, hb1⟩; have HS2 : Hid (SE w s e a n cap x1) := SE.keep HS1.out hb1; clear hb1)
          | (go_at_call 90; refine (check_ev 5 e _).mono ?_; rw [HCK.out]; rintro _ x2 ⟨rfl, hb2⟩; have HS3 : Hid (SE w s e a n cap x2) := SE.keep HS2.out hb2; have c8 := HS3.out.st.cell 8 (.int .i64 s.events) rfl; clear hb2))
        go_ret
        exact ⟨rfl, HS3.out.bel⟩
      · have he' : (s.events == 1099511627776) = false := by simpa using he
        have hj0 : judS s e = if e.order ≠ s.order then 2 else if stdR s e.kind ≠ 0 then stdR s e.kind else refR s e := by
          unfold judS
          rw [if_neg]
          rintro (h | h | h)
          · rw [hv] at h; cases h
          · exact h hc
          · exact he h
        cases ho : (e.order != s.order) with
        | true =>
          rw [hj0, if_pos (by simpa using ho)]
          clear hd hn hl hv HS hc he hj0
          go_enter Tryz.func45, Tryz.ntmps45
          go_wp2_with (first
            | ((with_reducible refine guard_load 25 ?_); refine wpList_load_st rfl _ rfl HS1.out.st rfl ?_)
            | ((with_reducible refine guard_loadg 37 ?_); refine wpList_load_evg rfl _ rfl HS2.out.ev rfl ?_)
            | (go_at_call 17; refine (valid_st s a n cap _ HN.out HS1.out.ln hm).mono ?_; rw [HV.out]; rintro _ x1 ⟨rfl, hb1⟩; have HS2 : Hid (SE w s e a n cap x1) := SE.keep HS1.out hb1; clear hb1)
            | (go_at_call 90; refine (check_ev 5 e _).mono ?_; rw [HCK.out]; rintro _ x2 ⟨rfl, hb2⟩; have HS3 : Hid (SE w s e a n cap x2) := SE.keep HS2.out hb2; have c8 := HS3.out.st.cell 8 (.int .i64 s.events) rfl; have k0 := HS3.out.st.cell 0 (.int .i64 s.order) rfl; have k1 := HS3.out.ev.cell 1 (.int .i64 e.order) rfl; clear hb2))
          go_ret
          exact ⟨rfl, HS3.out.bel⟩
        | false =>
          rw [hj0, if_neg (by simpa using ho)]
          have hR := right_of hc
          have kk1 := hR.kind0
          have kk2 : e.kind ≤ lastK 5 := hR.kind1
          simp [lastK] at kk2
          obtain ⟨k, hk⟩ : ∃ k : Nat, e.kind = k := ⟨e.kind.toNat, by omega⟩
          have hk1 : 1 ≤ k := by omega
          have hk10 : k ≤ 10 := by omega
          obtain ⟨S, hS⟩ : ∃ S, stdR s k = S := ⟨_, rfl⟩
          have HST : Hid (stdR s k = S) := hS
          rw [hk, hS]
          by_cases hS0 : S = 0
          · subst hS0
            rw [if_neg (by simp)]
            obtain ⟨vs, vr, q0, q1, q2, hs, hr⟩ := hd.2.2 k hk1 hk10
            obtain ⟨g, cb, rfl, eg, C⟩ := hr
            have hblt := hd.1
            obtain ⟨E, hE⟩ : ∃ E, SE w s e a n cap = E := ⟨_, rfl⟩
            have R : Hid (∀ w2, E w2 → w2.cell? ⟨b, k * 3 + 1, none⟩ = some (.func (Fn.func g) #[] cb) ∧ w2.cell? ⟨w.heap.size + 1, 0, none⟩ = some (.int .i64 (k : Int))) := fun w2 h => by rw [← hE] at h; exact ⟨(h.bel.cell (p := ⟨b, k * 3 + 1, none⟩) hblt).trans q1, h.ev.cell 0 _ (by rw [← hk]; rfl)⟩
            have RS : Hid (∀ w2, E w2 → StAt w2 w.heap.size s (.slice a n cap)) := fun w2 h => by rw [← hE] at h; exact h.st
            have RE : Hid (∀ w2, E w2 → EvAt w2 (w.heap.size + 1) e) := fun w2 h => by rw [← hE] at h; exact h.ev
            have HBel : Hid (∀ w2, E w2 → Below w.heap.size w w2) := fun w2 h => by rw [← hE] at h; exact h.bel
            have HKE : Hid (∀ w2, SE w s e a n cap w2 → E w2.drew) := fun w2 h => by rw [← hE]; exact h.drew
            have CD : Hid (∀ w2, E w2 → Calls Tryz.prog g (#[.agg (stA s (.slice a n cap)), .agg (evA e)] ++ cb) w2 fun r w' => r = .returned (.int .i64 (refR s e)) ∧ E w') := fun w2 h => by
              rw [← hE] at h ⊢
              exact (C w2 s e a n cap (same_of h.bel) hn h.ln hv hc hk).mono fun r w' ⟨h1, h2⟩ => ⟨h1, h.keep h2⟩
            obtain ⟨D, hDD⟩ : ∃ D, refR s e = D := ⟨_, rfl⟩
            rw [hDD] at CD ⊢
            have hk11 : (k : Int) < 11 := by omega
            have HKK : Hid (e.kind = k) := hk
            clear hd hn hl hv HS hc he hj0 hk hS hDD hE C q0 q1 q2 hs hblt hR kk1 kk2
            go_enter Tryz.func45, Tryz.ntmps45
            go_wp2_with (first
              | ((with_reducible refine guard_load 25 ?_); first | refine wpList_load_st rfl _ rfl HS3.out.st rfl ?_ | refine wpList_load_st rfl _ rfl HS1.out.st rfl ?_)
              | ((with_reducible refine guard_loadg 37 ?_); refine wpList_load_evg rfl _ rfl HS2.out.ev rfl ?_)
              | (go_at_call 17; refine (valid_st s a n cap _ HN.out HS1.out.ln hm).mono ?_; rw [HV.out]; rintro _ x1 ⟨rfl, hb1⟩; have HS2 : Hid (SE w s e a n cap x1) := SE.keep HS1.out hb1; clear hb1)
              | (go_at_call 90; refine (check_ev 5 e _).mono ?_; rw [HCK.out]; rintro _ x2 ⟨rfl, hb2⟩; have HS3 : Hid (SE w s e a n cap x2) := SE.keep HS2.out hb2; have c8 := HS3.out.st.cell 8 (.int .i64 s.events) rfl; have k0 := HS3.out.st.cell 0 (.int .i64 s.order) rfl; have k1 := HS3.out.ev.cell 1 (.int .i64 e.order) rfl; have k2 := HS3.out.ev.cell 0 (.int .i64 (k : Int)) (by rw [← HKK.out]; rfl); clear hb2)
              | (go_at_call 51; refine (standing_any lo b k s a n cap _ (HD.out.keep HS3.out.bel) hk1 hk10 HN.out HS3.out.ln hm).mono ?_; rw [HST.out]; rintro _ x3 ⟨rfl, hb3⟩; have HS4 : Hid (SE w s e a n cap x3) := SE.keep HS3.out hb3; clear hb3))
            refine wp_region_quiet (C := E) (by kernel_rfl) (by kernel_rfl) (HKE.out _ HS4.out) ?_
            simp only [List.toList_toArray]
            repeat (any_goals (first
              | go_big_quiet_skip
              | (go_big_quiet_want
                 first
                 | (refine quiet_val (v := .agg (stA s (.slice a n cap))) (fun w2 hw2 => exec_load_st (.tmp 4) rfl rfl (RS.out w2 hw2)) ?_
                    go_big_quiet_on
                    simp only [Act.put, List.setIfInBounds_toArray, List.set_cons_zero, List.set_cons_succ])
                 | (refine quiet_val (v := .agg (evA e)) (fun w2 hw2 => exec_load_ev (.tmp 5) rfl rfl (RE.out w2 hw2)) ?_
                    go_big_quiet_on
                    simp only [Act.put, List.setIfInBounds_toArray, List.set_cons_zero, List.set_cons_succ])
                 | (refine quiet_val (v := ?_) (fun w2 hw2 => ?_) ?_
                    rotate_left
                    · (first | (go_simp; with_reducible rfl) | (obtain ⟨q1, q2⟩ := R.out w2 hw2; go_simp; with_reducible rfl))
                    go_big_quiet_on
                    simp only [Act.put, List.setIfInBounds_toArray, List.set_cons_zero, List.set_cons_succ])
                 | (refine quiet_call (v := ?_) (f := ?_) (args := ?_) (fun w2 hw2 => ?_) (fun w2 hw2 => ?_) ?_
                    rotate_left 3
                    · (go_simp; refine ⟨?_, ?_⟩ <;> with_reducible rfl)
                    · (skip; exact CD.out _ hw2)
                    (go_big_quiet_on; simp only [Act.put, List.setIfInBounds_toArray, List.set_cons_zero, List.set_cons_succ])))))
            all_goals
              refine wpQuiet_nil ?_
              intro w3 hw3
              go_wp2
              go_ret
              exact ⟨rfl, HBel.out _ hw3⟩
          · rw [if_pos hS0]
            have hS' : (S != 0) = true := by simpa using hS0
            have HKK : Hid (e.kind = k) := hk
            clear hd hn hl hv HS hc he hj0 hk hS hR kk1 kk2 hS0
            go_enter Tryz.func45, Tryz.ntmps45
            go_wp2_with (first
              | ((with_reducible refine guard_load 25 ?_); first | refine wpList_load_st rfl _ rfl HS3.out.st rfl ?_ | refine wpList_load_st rfl _ rfl HS1.out.st rfl ?_)
              | ((with_reducible refine guard_loadg 37 ?_); refine wpList_load_evg rfl _ rfl HS2.out.ev rfl ?_)
              | (go_at_call 17; refine (valid_st s a n cap _ HN.out HS1.out.ln hm).mono ?_; rw [HV.out]; rintro _ x1 ⟨rfl, hb1⟩; have HS2 : Hid (SE w s e a n cap x1) := SE.keep HS1.out hb1; clear hb1)
              | (go_at_call 90; refine (check_ev 5 e _).mono ?_; rw [HCK.out]; rintro _ x2 ⟨rfl, hb2⟩; have HS3 : Hid (SE w s e a n cap x2) := SE.keep HS2.out hb2; have c8 := HS3.out.st.cell 8 (.int .i64 s.events) rfl; have k0 := HS3.out.st.cell 0 (.int .i64 s.order) rfl; have k1 := HS3.out.ev.cell 1 (.int .i64 e.order) rfl; have k2 := HS3.out.ev.cell 0 (.int .i64 (k : Int)) (by rw [← HKK.out]; rfl); clear hb2)
              | (go_at_call 51; refine (standing_any lo b k s a n cap _ (HD.out.keep HS3.out.bel) hk1 hk10 HN.out HS3.out.ln hm).mono ?_; rw [HST.out]; rintro _ x3 ⟨rfl, hb3⟩; have HS4 : Hid (SE w s e a n cap x3) := SE.keep HS3.out hb3; clear hb3))
            go_ret
            exact ⟨rfl, HS4.out.bel⟩
    · rw [show judS s e = 1 from if_pos (.inr (.inl (by rw [hc]; exact c0)))]
      have hc' : (c != 0) = true := by simpa using c0
      clear hd hn hl hv HS hc c0
      go_enter Tryz.func45, Tryz.ntmps45
      go_wp2_with (first
        | ((with_reducible refine guard_load 25 ?_); refine wpList_load_st rfl _ rfl HS1.out.st rfl ?_)
        | ((with_reducible refine guard_loadg 37 ?_); refine wpList_load_evg rfl _ rfl HS2.out.ev rfl ?_)
        | (go_at_call 17; refine (valid_st s a n cap _ HN.out HS1.out.ln hm).mono ?_; rw [HV.out]; rintro _ x1 ⟨rfl, hb1⟩; have HS2 : Hid (SE w s e a n cap x1) := SE.keep HS1.out hb1; clear hb1)
        | (go_at_call 90; refine (check_ev 5 e _).mono ?_; rw [HCK.out]; rintro _ x2 ⟨rfl, hb2⟩; have HS3 : Hid (SE w s e a n cap x2) := SE.keep HS2.out hb2; clear hb2))
      go_ret
      exact ⟨rfl, HS3.out.bel⟩
end Go.Proofs.YtmjppeljpifjpaaGreat
namespace Go.Proofs.YtmjppeljpifjpaaGreat
open Go.ChangeShapes Go.WideShapes Go.ChangeAt Go.RowKit
set_option linter.unusedVariables false
set_option linter.unusedSimpArgs false
theorem StAt.cells {w : World} {b : Nat} {s : St} {v : Value} (h : StAt w b s v) : w.cell? ⟨b, 0, none⟩ = some (.int .i64 s.order) ∧ w.cell? ⟨b, 1, none⟩ = some (.int .i64 s.status) ∧ w.cell? ⟨b, 2, none⟩ = some (.int .i64 s.prior) ∧ w.cell? ⟨b, 3, none⟩ = some (.int .i64 s.cur) ∧ w.cell? ⟨b, 4, none⟩ = some (.int .i64 s.tax) ∧ w.cell? ⟨b, 5, none⟩ = some v ∧ w.cell? ⟨b, 6, none⟩ = some (.int .i64 s.paid) ∧ w.cell? ⟨b, 7, none⟩ = some (.int .i64 s.refunded) ∧ w.cell? ⟨b, 8, none⟩ = some (.int .i64 s.events) ∧ w.cell? ⟨b, 9, none⟩ = some (.int .i64 s.refused) ∧ w.cell? ⟨b, 10, none⟩ = some (.int .i64 s.stamp) ∧ w.cell? ⟨b, 11, none⟩ = some (.string s.who) :=
  ⟨h.cell 0 _ rfl, h.cell 1 _ rfl, h.cell 2 _ rfl, h.cell 3 _ rfl, h.cell 4 _ rfl, h.cell 5 _ rfl, h.cell 6 _ rfl, h.cell 7 _ rfl, h.cell 8 _ rfl, h.cell 9 _ rfl, h.cell 10 _ rfl, h.cell 11 _ rfl⟩
theorem EvAt.cells10 {w : World} {b : Nat} {e : Ev} (h : EvAt w b e) : w.cell? ⟨b, 0, none⟩ = some (.int .i64 e.kind) ∧ w.cell? ⟨b, 1, none⟩ = some (.int .i64 e.order) ∧ w.cell? ⟨b, 2, none⟩ = some (.int .i64 e.item) ∧ w.cell? ⟨b, 3, none⟩ = some (.int .i64 e.qty) ∧ w.cell? ⟨b, 4, none⟩ = some (.int .i64 e.price) ∧ w.cell? ⟨b, 5, none⟩ = some (.int .i64 e.cur) ∧ w.cell? ⟨b, 6, none⟩ = some (.int .i64 e.tax) ∧ w.cell? ⟨b, 7, none⟩ = some (.string e.who) ∧ w.cell? ⟨b, 8, none⟩ = some (.int .i64 e.stamp) ∧ w.cell? ⟨b, 9, none⟩ = some (.string e.note) :=
  ⟨h.cell 0 _ rfl, h.cell 1 _ rfl, h.cell 2 _ rfl, h.cell 3 _ rfl, h.cell 4 _ rfl, h.cell 5 _ rfl, h.cell 6 _ rfl, h.cell 7 _ rfl, h.cell 8 _ rfl, h.cell 9 _ rfl⟩
set_option maxRecDepth 20000 in
set_option maxHeartbeats 8000000 in
theorem ojudge_any (s : St) (e : Ev) (a : Option Addr) (n cap : Nat) (w : World) (hn : s.lines.length = n) (hl : Lns w a s.lines) (hm : n ≤ maxLen) :
    Calls Tryz.prog 21 #[.agg (stA s (.slice a n cap)), .agg (evA e)] w fun r w' => r = .returned (.int .i64 (judS s e)) ∧ Below w.heap.size w w' := by
  obtain ⟨W, hW, HS⟩ := se_new w s e a n cap hl
  have HS1 : Hid (SE w s e a n cap W) := HS
  have HN : Hid (s.lines.length = n) := hn
  obtain ⟨c0, c1, c2, c3, c4, c5, c6, c7, c8, c9, c10, c11⟩ := HS.st.cells
  obtain ⟨d0, d1, d2, d3, d4, d5, d6, d7, d8, d9⟩ := HS.ev.cells10
  have HJ : Hid (∀ (lo b : Nat) (x : World), DeedsAt lo x b → Lns x a s.lines → Calls Tryz.prog 45 #[.slice (some ⟨b, 0, none⟩) 11 11, .agg #[.int .i64 s.order, .int .i64 s.status, .int .i64 s.prior, .int .i64 s.cur, .int .i64 s.tax, .slice a n cap, .int .i64 s.paid, .int .i64 s.refunded, .int .i64 s.events, .int .i64 s.refused, .int .i64 s.stamp, .string s.who], .agg #[.int .i64 e.kind, .int .i64 e.order, .int .i64 e.item, .int .i64 e.qty, .int .i64 e.price, .int .i64 e.cur, .int .i64 e.tax, .string e.who, .int .i64 e.stamp, .string e.note]] x fun r w' => r = .returned (.int .i64 (judS s e)) ∧ Below x.heap.size x w') := fun lo b x hd hx => judge_any lo b s e a n cap x hd hn hx hm
  clear HS hn hl
  go_enter Tryz.func21, Tryz.ntmps21
  go_wp2
  go_region_with (first
    | (go_at_call 44; refine (deeds_any _).mono ?_; rintro _ x1 ⟨b, rfl, hd, hb⟩; have HD : Hid (DeedsAt _ x1 b) := hd; have HS2 : Hid (SE w s e a n cap x1) := SE.keep (SE.drew HS1.out) hb; clear hd hb; obtain ⟨k0, k1, k2, k3, k4, k5, k6, k7, k8, k9, k10, k11⟩ := HS2.out.st.cells; obtain ⟨l0, l1, l2, l3, l4, l5, l6, l7, l8, l9⟩ := HS2.out.ev.cells10)
    | (go_at_call 45; refine (HJ.out _ b _ HD.out HS2.out.ln).mono ?_; rintro _ x2 ⟨rfl, hb2⟩; have HS3 : Hid (SE w s e a n cap x2) := SE.keep HS2.out hb2; clear hb2))
  all_goals
    go_wp2
    go_ret
    exact ⟨rfl, HS3.out.bel⟩
end Go.Proofs.YtmjppeljpifjpaaGreat
