/- A fold goes on from any cut: for every state, every list of events, every cut. -/
import Derived.Test.YtmjppeljpifjpaaGreatM39
import Derived.Test.YtmjppeljpifjpaaGreatK41
import Derived.Test.YtmjppeljpifjpaaGreatM42
import Derived.SizedLaws
import Derived.ChangeOld
import Derived.Deep.DeepCutAuto
namespace Go.Proofs.YtmjppeljpifjpaaGreat.orderCut
open Go.ChangeShapes Go.WideShapes Go.ChangeAt Go.RowKit
set_option linter.unusedVariables false
set_option linter.unusedSimpArgs false
theorem next_broken {s : St} {e : Ev} (h : vldB s = false) : nextS s e = s := by
  have h1 : judS s e = 1 := by unfold judS; rw [if_pos (.inl h)]
  unfold nextS
  rw [if_pos (.inl h1)]
theorem fold_broken {s : St} (h : vldB s = false) : ∀ es : List Ev, foldS s es = s
  | [] => rfl
  | e :: r => by
    show foldS (nextS s e) r = s
    rw [next_broken h]
    exact fold_broken h r
theorem fold_len (s : St) (es : List Ev) (n : Nat) (hn : s.lines.length = n) : (foldS s es).lines.length ≤ n ∨ (foldS s es).lines.length ≤ 16 := by
  cases hv : vldB s with
  | false => left; rw [fold_broken hv, hn]; exact Nat.le_refl _
  | true => exact .inr (linesB_from (vl_of (fold_valid s es hv)).lines).1
set_option maxRecDepth 20000 in
set_option maxHeartbeats 16000000 in
theorem walk (s : St) (a : Option Addr) (n cap : Nat) (es : List Ev) (ea : Option Addr) (m ecap : Nat) (cut : Int) (w : World) (hn : s.lines.length = n) (hl : Lns w a s.lines) (hc : n ≤ cap) (hm : n * 32 ≤ 140737488351232)
    (hme : es.length = m) (hes : EvsIn w ea es) (hec : m ≤ ecap ∧ ecap * 96 ≤ 140737488351232 ∧ (ea = none → ecap = 0)) (hcw : (Lit.int .i64 cut).wf = true) :
    Calls Tryz.prog 8 #[.agg (stA s (.slice a n cap)), .slice ea m ecap, .int .i64 cut] w fun r w' => r = .returned (.bool true) ∧ Below w.heap.size w w' := by
  have HN : Hid (s.lines.length = n) := hn
  have HM : Hid (es.length = m) := hme
  have HES : Hid (EvsIn w ea es) := hes
  have HAC : Hid (ea = none → ecap = 0) := hec.2.2
  have hmc : m ≤ ecap := hec.1
  have hm96 : m * 96 ≤ 140737488351232 := by omega
  have hml : m ≤ maxLen := by unfold maxLen; omega
  have hlm : n ≤ maxLen := by unfold maxLen; omega
  have hmm : m ≤ 140737488351232 := by omega
  have HC0 : Hid (StC w w.heap.size s a n cap (w.alloc (.cells (stA s (.slice a n cap)) 25))) := StC.new w s a n cap hl
  clear hn hl hme hes hec hcw
  go_enter Tryz.func8, Tryz.ntmps8
  go_upto_region 3 with (go_at_call 13; refine (head08_any _).mono ?_; rintro _ x1 ⟨rfl, hb1⟩; have HC1 : Hid (StC w w.heap.size s a n cap x1) := StC.keep HC0.out hb1; clear hb1)
  go_cut [18] (fun v18 wx => v18 = .bool (decide (cut < 0 ∨ (m : Int) < cut)) ∧ wx = x1)
  case first =>
    by_cases h1 : cut < 0
    · have d1 : decide (cut < 0) = true := by simpa using h1
      go_wp2
      go_meet
      exact ⟨congrArg Value.bool (decide_eq_true (p := cut < 0 ∨ (m : Int) < cut) (.inl h1)).symm, rfl⟩
    · have d1 : decide (cut < 0) = false := by simpa using h1
      by_cases h2 : (m : Int) < cut
      · have d2 : decide ((m : Int) < cut) = true := by simpa using h2
        go_wp2
        go_meet
        exact ⟨congrArg Value.bool (decide_eq_true (p := cut < 0 ∨ (m : Int) < cut) (.inr h2)).symm, rfl⟩
      · have d2 : decide ((m : Int) < cut) = false := by simpa using h2
        go_wp2
        go_meet
        exact ⟨congrArg Value.bool (decide_eq_false (p := cut < 0 ∨ (m : Int) < cut) (by omega)).symm, rfl⟩
  case rest =>
  obtain ⟨rfl, rfl⟩ := hcut
  go_upto_if 18 with fail
  go_cut [2] (fun v2 wx => ∃ i : Nat, i ≤ m ∧ v2 = .int .i64 (i : Int) ∧ wx = wc)
  case first =>
    by_cases h1 : cut < 0 ∨ (m : Int) < cut
    · have d1 : decide (cut < 0 ∨ (m : Int) < cut) = true := decide_eq_true h1
      rw [d1]
      have hq : ((m : Int).tdiv 2) = ((m / 2 : Nat) : Int) := by rw [Int.tdiv_eq_ediv_of_nonneg (by omega)]; omega
      go_wp2
      go_meet
      exact ⟨m / 2, by omega, by first | rfl | (simp only [hq]) | (congr 1; omega), rfl⟩
    · have d1 : decide (cut < 0 ∨ (m : Int) < cut) = false := decide_eq_false h1
      rw [d1]
      go_wp2
      go_meet
      exact ⟨cut.toNat, by omega, by congr 1; omega, rfl⟩
  case rest =>
    obtain ⟨i, hi, rfl, rfl⟩ := hcut
    clear HC0
    obtain ⟨FW, hFW⟩ : ∃ F, foldS s es = F := ⟨_, rfl⟩
    obtain ⟨FH, hFH⟩ : ∃ F, foldS s (es.take i) = F := ⟨_, rfl⟩
    have HFW : Hid (foldS s es = FW) := hFW
    have HFH : Hid (foldS s (es.take i) = FH) := hFH
    have HFF : Hid (foldS FH (es.drop i) = FW) := by show _ = _; rw [← hFH, ← foldS_append, List.take_append_drop, hFW]
    have HTK : Hid ((es.take i).length = i) := by show _ = _; rw [List.length_take, HM.out]; omega
    have HDL : Hid ((es.drop i).length = m - i) := by show _ = _; rw [List.length_drop, HM.out]
    have HL8 : Hid (FH.lines.length ≤ n ∨ FH.lines.length ≤ 16) := by show _ ∨ _; rw [← hFH]; exact fold_len s _ n HN.out
    have HL7 : Hid (FW.lines.length ≤ n ∨ FW.lines.length ≤ 16) := by show _ ∨ _; rw [← hFW]; exact fold_len s _ n HN.out
    have HLE : Hid (es.length ≤ ecap) := by show _ ≤ _; rw [HM.out]; exact hmc
    have HAD : Hid ((if ecap = i then ea else ea.map (·.add (i * 10))) = none → ecap - i = 0) := by
      intro h
      split at h
      · have := HAC.out h; omega
      · cases hea : ea with
        | none => have := HAC.out hea; omega
        | some b => rw [hea] at h; cases h
    have hic : i ≤ ecap := by omega
    have him : i ≤ maxLen := by unfold maxLen at hml ⊢; omega
    have hmi : m - i ≤ maxLen := by unfold maxLen at hml ⊢; omega
    clear hFW hFH
    go_upto_region 6 with (first
      | ((with_reducible refine guard_load 25 ?_); refine wpList_load_st rfl _ rfl HC1.out.1 rfl ?_)
      | (go_at_call 14; refine (scopy_any s a n cap _ HN.out HC1.out.2.1 hm).mono ?_; rintro _ x2 ⟨v2, rfl, ho2, hb2⟩; obtain ⟨a2, c2, hv2, _, _, hl2, _⟩ := ho2.shape; simp only [HN.out] at hv2; subst hv2; have HL2 : Hid (Lns x2 a2 s.lines) := hl2; have HC2 : Hid (StC w w.heap.size s a n cap x2) := StC.keep HC1.out hb2; have HA2 : Hid (Below x2.heap.size x2 (x2.alloc (.cells #[] 37))) := (Below.refl _ _).alloc (Nat.le_refl _) _; clear hb2 ho2 hl2)
      | (at_builtin; refine wpList_append_fresh rfl _ _ rfl ⟨x2.heap.size, 0, none⟩ ea m ecap es rfl rfl HM.out (HES.out.keep (below_next HC2.out.2.2 HA2.out)) HAC.out (by omega) ?_; intro a6 c6 x3 he6 hb6; have HE3 : Hid (EvsIn x3 a6 es) := he6; have HQ3 : Hid (Below x2.heap.size x2 x3) := below_next HA2.out hb6; clear he6 hb6)
      | (go_at_call 25; refine (fold_any s es a2 a6 n c2 m c6 _ HN.out (HL2.out.keep HQ3.out) hm HM.out HE3.out hml).mono ?_; rw [HFW.out]; rintro _ x4 ⟨a7, n7, c7, rfl, ho7, hb7⟩; have HL4 : Hid (Lns x4 a7 FW.lines) := ownl_lns ho7; have HN7 : Hid (FW.lines.length = n7) := ho7.len; have HC4 : Hid (StC w w.heap.size s a n cap x4) := StC.keep HC2.out (below_next HQ3.out hb7); clear ho7 hb7)
      | ((with_reducible refine guard_store 25 ?_); refine wpList_store_st (s := zeroS) (s2 := FW) (a2 := a7) (n2 := n7) (c2 := c7) rfl _ _ rfl (StAt.new x4 zeroS (.slice none 0 0)) rfl rfl ?_; intro x5 z1 z2 z3 z4; have hu := (z2 _ _ ((Below.refl x4.heap.size x4).alloc (Nat.le_refl _) _) (Nat.le_refl _)); have HC5 : Hid (StC w w.heap.size s a n cap x5) := StC.keep HC4.out hu; have HW5 : Hid (StAt x5 x4.heap.size FW (.slice a7 n7 c7) ∧ Lns x5 a7 FW.lines) := ⟨z1, HL4.out.keep hu⟩; clear z1 z2 z3 z4 hu))
    try simp only [Act.put]
    obtain ⟨b7, hb7⟩ : ∃ b7, x4.heap.size = b7 := ⟨_, rfl⟩
    rw [hb7] at HW5 ⊢
    clear HC1 HC2 HC4 HL2 HL4 HQ3 HE3 HA2 hb7
    go_cut [8] (fun v8 wx => ∃ b a8 n8 c8, v8 = .pointer (some ⟨b, 0, none⟩) ∧ Hid (StAt wx b FH (.slice a8 n8 c8) ∧ Lns wx a8 FH.lines ∧ FH.lines.length = n8 ∧ Below x5.heap.size x5 wx))
    case first =>
      refine wp_region_held (S := fun y => StAt y w.heap.size s (.slice a n cap)) (by kernel_rfl) ?_
      change wpAnyH _ _ _ _ _ _ _ _ (World.drew _)
      obtain ⟨D, hD⟩ : ∃ D, x5.drew = D := ⟨_, rfl⟩
      have HB0 : Hid (Below x5.heap.size x5 D) := by rw [← hD]; exact (Below.refl _ _).drew
      rw [hD]
      clear hD
      refine wpAnyH_take (i := 0) (oi := { dst := some 28, op := Op.load 25 (Operand.tmp 3), type := 25, pos := "law.go:111", after := #[], guard := none }) (v := .agg (stA s (.slice a n cap))) rfl (by kernel_rfl) (by kernel_rfl) (by kernel_rfl) (fun _ _ _ h => h) (Or.inl ⟨by rfl, fun y hy => exec_load_st (.tmp 3) rfl rfl hy⟩) (HC5.out.1.after HB0.out) ?_
      simp only [Act.put, List.setIfInBounds_toArray, List.set_cons_zero, List.set_cons_succ]
      refine wpAnyH_take (i := 3) (oi := { dst := some 31, op := Op.move (Operand.tmp 1), type := 45, pos := "law.go:111", after := #[], guard := none }) (v := ?_) rfl (by kernel_rfl) (by kernel_rfl) (by kernel_rfl) (fun _ _ _ h => h) (Or.inl ⟨by rfl, ?_⟩) (HC5.out.1.after HB0.out) ?_
      rotate_left
      · (intro y hy; go_simp; try (with_reducible rfl))
      simp only [Act.put, List.setIfInBounds_toArray, List.set_cons_zero, List.set_cons_succ]
      refine wpAnyH_take (i := 4) (oi := { dst := some 32, op := Op.move (Operand.tmp 2), type := 3, pos := "law.go:111", after := #[], guard := none }) (v := ?_) rfl (by kernel_rfl) (by kernel_rfl) (by kernel_rfl) (fun _ _ _ h => h) (Or.inl ⟨by rfl, ?_⟩) (HC5.out.1.after HB0.out) ?_
      rotate_left
      · (intro y hy; go_simp; try (with_reducible rfl))
      simp only [Act.put, List.setIfInBounds_toArray, List.set_cons_zero, List.set_cons_succ]
      refine wpAnyH_take (i := 5) (oi := { dst := some 33, op := Op.slice 45 (Operand.tmp 31) none (some (Operand.tmp 32)) none, type := 45, pos := "law.go:111", after := #[{ on := 3, ground := Ground.data }, { on := 4, ground := Ground.data }], guard := none }) (v := .slice ea i ecap) rfl (by kernel_rfl) (by kernel_rfl) (by kernel_rfl) (fun _ _ _ h => h) (Or.inl ⟨by rfl, fun y hy => exec_slice_eh (.tmp 31) (.tmp 32) rfl rfl rfl hic HAC.out⟩) (HC5.out.1.after HB0.out) ?_
      simp only [Act.put, List.setIfInBounds_toArray, List.set_cons_zero, List.set_cons_succ]
      refine wpAnyH_ready (rs := [1, 2, 8]) (by kernel_rfl) (by simp) ?_
      refine AllReadyH.cons (o := { dst := some 29, op := Op.call { callee := Callee.value (Operand.func 14), args := #[Operand.tmp 28], argTypes := #[25] }, type := 25, pos := "law.go:111", after := #[{ on := 0, ground := Ground.data }], guard := none }) rfl (fun K hK => ?_) (AllReadyH.cons (o := { dst := some 30, op := Op.buildSlice 45 0 #[], type := 45, pos := "law.go:111", after := #[], guard := none }) rfl (fun K hK => ?_) (AllReadyH.cons (o := { dst := some 8, op := Op.alloc 25, type := 0, pos := "law.go:111", after := #[], guard := none }) rfl (fun K hK => ?_) AllReadyH.nil))
      · go_simp
        refine (scopy_any s a n cap _ HN.out (HC5.out.2.1.keep HB0.out) hm).mono ?_
        rintro _ y1 ⟨v2, rfl, ho2, hb2⟩
        obtain ⟨a2, c2, hv2, _, _, hl2, _⟩ := ho2.shape
        simp only [HN.out] at hv2
        subst hv2
        have HB2 : Hid (Below x5.heap.size x5 y1) := below_next HB0.out hb2
        have HL3 : Hid (Lns y1 a2 s.lines) := hl2
        clear hb2 ho2 hl2
        (refine hK _ _ (HC5.out.1.after HB2.out) ?_; clear hK K; intro _)
        try simp only [Act.put, List.setIfInBounds_toArray, List.set_cons_zero, List.set_cons_succ]
        refine wpAnyH_ready (rs := [2, 8]) (by kernel_rfl) (by simp) ?_
        refine AllReadyH.cons (o := { dst := some 30, op := Op.buildSlice 45 0 #[], type := 45, pos := "law.go:111", after := #[], guard := none }) rfl (fun K hK => ?_) (AllReadyH.cons (o := { dst := some 8, op := Op.alloc 25, type := 0, pos := "law.go:111", after := #[], guard := none }) rfl (fun K hK => ?_) AllReadyH.nil)
        · go_simp
          obtain ⟨y4, hY⟩ : ∃ Y, y1.alloc (.cells #[] 37) = Y := ⟨_, rfl⟩
          rw [hY]
          have hb : Below y1.heap.size y1 y4 := by rw [← hY]; exact (Below.refl _ _).alloc (Nat.le_refl _) _
          have HB5 : Hid (Below x5.heap.size x5 y4) := below_next HB2.out hb
          have HL5 : Hid (Lns y4 a2 s.lines) := HL3.out.keep hb
          clear hY hb
          (refine hK _ _ (HC5.out.1.after HB5.out) ?_; clear hK K; intro _)
          try simp only [Act.put, List.setIfInBounds_toArray, List.set_cons_zero, List.set_cons_succ]
          refine wpAnyH_ready (rs := [6, 8]) (by kernel_rfl) (by simp) ?_
          refine AllReadyH.cons (o := { dst := some 34, op := Op.call { callee := Callee.builtin Builtin.append, args := #[Operand.tmp 30, Operand.tmp 33], argTypes := #[45, 45] }, type := 45, pos := "law.go:111", after := #[{ on := 2, ground := Ground.data }, { on := 5, ground := Ground.data }, { on := 1, ground := Ground.chain }], guard := none }) rfl (fun K hK => ?_) (AllReadyH.cons (o := { dst := some 8, op := Op.alloc 25, type := 0, pos := "law.go:111", after := #[], guard := none }) rfl (fun K hK => ?_) AllReadyH.nil)
          · refine step_append_fresh rfl _ _ rfl ⟨y1.heap.size, 0, none⟩ ea i ecap (es.take i) rfl rfl HTK.out ((HES.out.keep (below_next HC5.out.2.2 HB5.out)).take i) HAC.out (by omega) ?_
            intro a6 c6 y6 he6 hb6
            have HB7 : Hid (Below x5.heap.size x5 y6) := below_next HB5.out hb6
            have HL7 : Hid (Lns y6 a2 s.lines) := HL5.out.keep hb6
            have HE8 : Hid (EvsIn y6 a6 (es.take i)) := he6
            clear he6 hb6
            (refine hK _ _ (HC5.out.1.after HB7.out) ?_; clear hK K; intro _)
            try simp only [Act.put, List.setIfInBounds_toArray, List.set_cons_zero, List.set_cons_succ]
            refine wpAnyH_ready (rs := [7, 8]) (by kernel_rfl) (by simp) ?_
            refine AllReadyH.cons (o := { dst := some 35, op := Op.call { callee := Callee.value (Operand.func 25), args := #[Operand.tmp 29, Operand.tmp 34], argTypes := #[25, 45] }, type := 25, pos := "law.go:111", after := #[{ on := 1, ground := Ground.data }, { on := 6, ground := Ground.data }, { on := 6, ground := Ground.chain }], guard := none }) rfl (fun K hK => ?_) (AllReadyH.cons (o := { dst := some 8, op := Op.alloc 25, type := 0, pos := "law.go:111", after := #[], guard := none }) rfl (fun K hK => ?_) AllReadyH.nil)
            · go_simp
              refine (fold_any s (es.take i) a2 a6 n c2 i c6 _ HN.out HL7.out hm HTK.out HE8.out him).mono ?_
              rw [HFH.out]
              rintro _ y9 ⟨a8, n8, c8, rfl, ho8, hb8⟩
              have HB10 : Hid (Below x5.heap.size x5 y9) := below_next HB7.out hb8
              have HL10 : Hid (Lns y9 a2 s.lines) := HL7.out.keep hb8
              have HE10 : Hid (EvsIn y9 a6 (es.take i)) := HE8.out.keep hb8
              have HO11 : Hid (OwnL y9 y6.heap.size (.slice a8 n8 c8) FH.lines) := ho8
              clear ho8 hb8
              (refine hK _ _ (HC5.out.1.after HB10.out) ?_; clear hK K; intro _)
              try simp only [Act.put, List.setIfInBounds_toArray, List.set_cons_zero, List.set_cons_succ]
              refine wpAnyH_ready (rs := [8]) (by kernel_rfl) (by simp) ?_
              refine AllReadyH.cons (o := { dst := some 8, op := Op.alloc 25, type := 0, pos := "law.go:111", after := #[], guard := none }) rfl (fun K hK => ?_) AllReadyH.nil
              go_simp
              obtain ⟨y12, hY⟩ : ∃ Y, y9.alloc (.cells #[.int .i64 0, .int .i64 0, .int .i64 0, .int .i64 0, .int .i64 0, .slice none 0 0, .int .i64 0, .int .i64 0, .int .i64 0, .int .i64 0, .int .i64 0, .string ⟨#[]⟩] 25) = Y := ⟨_, rfl⟩
              rw [hY]
              have hb : Below y9.heap.size y9 y12 := by rw [← hY]; exact (Below.refl _ _).alloc (Nat.le_refl _) _
              have HLO13 : Hid (x5.heap.size ≤ y9.heap.size) := HB10.out.size
              have HB14 : Hid (Below x5.heap.size x5 y12) := below_next HB10.out hb
              have HL14 : Hid (Lns y12 a2 s.lines) := HL10.out.keep hb
              have HE14 : Hid (EvsIn y12 a6 (es.take i)) := HE10.out.keep hb
              have HO14 : Hid (OwnL y12 y6.heap.size (.slice a8 n8 c8) FH.lines) := HO11.out.keep hb
              have HZ15 : Hid (StAt y12 y9.heap.size zeroS (.slice none 0 0)) := by rw [← hY]; exact StAt.new y9 zeroS _
              clear hY hb
              (refine hK _ _ (HC5.out.1.after HB14.out) ?_; clear hK K; intro _)
              try simp only [Act.put, List.setIfInBounds_toArray, List.set_cons_zero, List.set_cons_succ]
              refine wpAnyH_ready (rs := [9]) (by kernel_rfl) (by simp) ?_
              refine AllReadyH.cons (o := { dst := none, op := Op.store 25 (Operand.tmp 8) (Operand.tmp 35), type := 0, pos := "law.go:111", after := #[{ on := 8, ground := Ground.data }, { on := 7, ground := Ground.data }, { on := 7, ground := Ground.chain }, { on := 0, ground := Ground.phase }, { on := 1, ground := Ground.phase }, { on := 2, ground := Ground.phase }, { on := 3, ground := Ground.phase }, { on := 4, ground := Ground.phase }, { on := 5, ground := Ground.phase }, { on := 6, ground := Ground.phase }, { on := 7, ground := Ground.phase }, { on := 8, ground := Ground.phase }], guard := none }) rfl (fun K hK => ?_) AllReadyH.nil
              refine step_store_st (s := zeroS) (s2 := FH) (a2 := a8) (n2 := n8) (c2 := c8) rfl _ _ rfl HZ15.out rfl rfl ?_
              intro y16 z1 z2 z3 z4
              have HB17 : Hid (Below x5.heap.size x5 y16) := z2 _ _ HB14.out HLO13.out
              have HR9 : Hid (StAt y16 y9.heap.size FH (.slice a8 n8 c8) ∧ Lns y16 a8 FH.lines ∧ FH.lines.length = n8 ∧ Below x5.heap.size x5 y16) := ⟨z1, ownl_lns (HO14.out.keepOther (fun g hg => z3 g (fun hh => own_st_ne HO14.out (hh ▸ HZ15.out) hg.symm))), HO14.out.len, HB17.out⟩
              clear z1 z2 z3 z4
              (refine hK _ _ (HC5.out.1.after HB17.out) ?_; clear hK K; intro _)
              try simp only [Act.put, List.setIfInBounds_toArray, List.set_cons_zero, List.set_cons_succ]
              refine wpAnyH_done (by kernel_rfl) ?_ _
              go_wp2
              go_meet
              exact ⟨y9.heap.size, a8, n8, c8, rfl, HR9.out⟩
            · go_simp
              obtain ⟨y18, hY⟩ : ∃ Y, y6.alloc (.cells #[.int .i64 0, .int .i64 0, .int .i64 0, .int .i64 0, .int .i64 0, .slice none 0 0, .int .i64 0, .int .i64 0, .int .i64 0, .int .i64 0, .int .i64 0, .string ⟨#[]⟩] 25) = Y := ⟨_, rfl⟩
              rw [hY]
              have hb : Below y6.heap.size y6 y18 := by rw [← hY]; exact (Below.refl _ _).alloc (Nat.le_refl _) _
              have HLO19 : Hid (x5.heap.size ≤ y6.heap.size) := HB7.out.size
              have HB20 : Hid (Below x5.heap.size x5 y18) := below_next HB7.out hb
              have HL20 : Hid (Lns y18 a2 s.lines) := HL7.out.keep hb
              have HE20 : Hid (EvsIn y18 a6 (es.take i)) := HE8.out.keep hb
              have HZ21 : Hid (StAt y18 y6.heap.size zeroS (.slice none 0 0)) := by rw [← hY]; exact StAt.new y6 zeroS _
              clear hY hb
              (refine hK _ _ (HC5.out.1.after HB20.out) ?_; clear hK K; intro _)
              try simp only [Act.put, List.setIfInBounds_toArray, List.set_cons_zero, List.set_cons_succ]
              refine wpAnyH_ready (rs := [7]) (by kernel_rfl) (by simp) ?_
              refine AllReadyH.cons (o := { dst := some 35, op := Op.call { callee := Callee.value (Operand.func 25), args := #[Operand.tmp 29, Operand.tmp 34], argTypes := #[25, 45] }, type := 25, pos := "law.go:111", after := #[{ on := 1, ground := Ground.data }, { on := 6, ground := Ground.data }, { on := 6, ground := Ground.chain }], guard := none }) rfl (fun K hK => ?_) AllReadyH.nil
              go_simp
              refine (fold_any s (es.take i) a2 a6 n c2 i c6 _ HN.out HL20.out hm HTK.out HE20.out him).mono ?_
              rw [HFH.out]
              rintro _ y22 ⟨a8, n8, c8, rfl, ho8, hb8⟩
              have HB23 : Hid (Below x5.heap.size x5 y22) := below_next HB20.out hb8
              have HL23 : Hid (Lns y22 a2 s.lines) := HL20.out.keep hb8
              have HE23 : Hid (EvsIn y22 a6 (es.take i)) := HE20.out.keep hb8
              have HZ23 : Hid (StAt y22 y6.heap.size zeroS (.slice none 0 0)) := HZ21.out.after hb8
              have HO24 : Hid (OwnL y22 y18.heap.size (.slice a8 n8 c8) FH.lines) := ho8
              clear ho8 hb8
              (refine hK _ _ (HC5.out.1.after HB23.out) ?_; clear hK K; intro _)
              try simp only [Act.put, List.setIfInBounds_toArray, List.set_cons_zero, List.set_cons_succ]
              refine wpAnyH_ready (rs := [9]) (by kernel_rfl) (by simp) ?_
              refine AllReadyH.cons (o := { dst := none, op := Op.store 25 (Operand.tmp 8) (Operand.tmp 35), type := 0, pos := "law.go:111", after := #[{ on := 8, ground := Ground.data }, { on := 7, ground := Ground.data }, { on := 7, ground := Ground.chain }, { on := 0, ground := Ground.phase }, { on := 1, ground := Ground.phase }, { on := 2, ground := Ground.phase }, { on := 3, ground := Ground.phase }, { on := 4, ground := Ground.phase }, { on := 5, ground := Ground.phase }, { on := 6, ground := Ground.phase }, { on := 7, ground := Ground.phase }, { on := 8, ground := Ground.phase }], guard := none }) rfl (fun K hK => ?_) AllReadyH.nil
              refine step_store_st (s := zeroS) (s2 := FH) (a2 := a8) (n2 := n8) (c2 := c8) rfl _ _ rfl HZ23.out rfl rfl ?_
              intro y25 z1 z2 z3 z4
              have HB26 : Hid (Below x5.heap.size x5 y25) := z2 _ _ HB23.out HLO19.out
              have HR9 : Hid (StAt y25 y6.heap.size FH (.slice a8 n8 c8) ∧ Lns y25 a8 FH.lines ∧ FH.lines.length = n8 ∧ Below x5.heap.size x5 y25) := ⟨z1, ownl_lns (HO24.out.keepOther (fun g hg => z3 g (fun hh => own_st_ne HO24.out (hh ▸ HZ23.out) hg.symm))), HO24.out.len, HB26.out⟩
              clear z1 z2 z3 z4
              (refine hK _ _ (HC5.out.1.after HB26.out) ?_; clear hK K; intro _)
              try simp only [Act.put, List.setIfInBounds_toArray, List.set_cons_zero, List.set_cons_succ]
              refine wpAnyH_done (by kernel_rfl) ?_ _
              go_wp2
              go_meet
              exact ⟨y6.heap.size, a8, n8, c8, rfl, HR9.out⟩
          · go_simp
            obtain ⟨y27, hY⟩ : ∃ Y, y4.alloc (.cells #[.int .i64 0, .int .i64 0, .int .i64 0, .int .i64 0, .int .i64 0, .slice none 0 0, .int .i64 0, .int .i64 0, .int .i64 0, .int .i64 0, .int .i64 0, .string ⟨#[]⟩] 25) = Y := ⟨_, rfl⟩
            rw [hY]
            have hb : Below y4.heap.size y4 y27 := by rw [← hY]; exact (Below.refl _ _).alloc (Nat.le_refl _) _
            have HLO28 : Hid (x5.heap.size ≤ y4.heap.size) := HB5.out.size
            have HB29 : Hid (Below x5.heap.size x5 y27) := below_next HB5.out hb
            have HL29 : Hid (Lns y27 a2 s.lines) := HL5.out.keep hb
            have HZ30 : Hid (StAt y27 y4.heap.size zeroS (.slice none 0 0)) := by rw [← hY]; exact StAt.new y4 zeroS _
            clear hY hb
            (refine hK _ _ (HC5.out.1.after HB29.out) ?_; clear hK K; intro _)
            try simp only [Act.put, List.setIfInBounds_toArray, List.set_cons_zero, List.set_cons_succ]
            refine wpAnyH_ready (rs := [6]) (by kernel_rfl) (by simp) ?_
            refine AllReadyH.cons (o := { dst := some 34, op := Op.call { callee := Callee.builtin Builtin.append, args := #[Operand.tmp 30, Operand.tmp 33], argTypes := #[45, 45] }, type := 45, pos := "law.go:111", after := #[{ on := 2, ground := Ground.data }, { on := 5, ground := Ground.data }, { on := 1, ground := Ground.chain }], guard := none }) rfl (fun K hK => ?_) AllReadyH.nil
            refine step_append_fresh rfl _ _ rfl ⟨y1.heap.size, 0, none⟩ ea i ecap (es.take i) rfl rfl HTK.out ((HES.out.keep (below_next HC5.out.2.2 HB29.out)).take i) HAC.out (by omega) ?_
            intro a6 c6 y31 he6 hb6
            have HB32 : Hid (Below x5.heap.size x5 y31) := below_next HB29.out hb6
            have HL32 : Hid (Lns y31 a2 s.lines) := HL29.out.keep hb6
            have HZ32 : Hid (StAt y31 y4.heap.size zeroS (.slice none 0 0)) := HZ30.out.after hb6
            have HE33 : Hid (EvsIn y31 a6 (es.take i)) := he6
            clear he6 hb6
            (refine hK _ _ (HC5.out.1.after HB32.out) ?_; clear hK K; intro _)
            try simp only [Act.put, List.setIfInBounds_toArray, List.set_cons_zero, List.set_cons_succ]
            refine wpAnyH_ready (rs := [7]) (by kernel_rfl) (by simp) ?_
            refine AllReadyH.cons (o := { dst := some 35, op := Op.call { callee := Callee.value (Operand.func 25), args := #[Operand.tmp 29, Operand.tmp 34], argTypes := #[25, 45] }, type := 25, pos := "law.go:111", after := #[{ on := 1, ground := Ground.data }, { on := 6, ground := Ground.data }, { on := 6, ground := Ground.chain }], guard := none }) rfl (fun K hK => ?_) AllReadyH.nil
            go_simp
            refine (fold_any s (es.take i) a2 a6 n c2 i c6 _ HN.out HL32.out hm HTK.out HE33.out him).mono ?_
            rw [HFH.out]
            rintro _ y34 ⟨a8, n8, c8, rfl, ho8, hb8⟩
            have HB35 : Hid (Below x5.heap.size x5 y34) := below_next HB32.out hb8
            have HL35 : Hid (Lns y34 a2 s.lines) := HL32.out.keep hb8
            have HZ35 : Hid (StAt y34 y4.heap.size zeroS (.slice none 0 0)) := HZ32.out.after hb8
            have HE35 : Hid (EvsIn y34 a6 (es.take i)) := HE33.out.keep hb8
            have HO36 : Hid (OwnL y34 y31.heap.size (.slice a8 n8 c8) FH.lines) := ho8
            clear ho8 hb8
            (refine hK _ _ (HC5.out.1.after HB35.out) ?_; clear hK K; intro _)
            try simp only [Act.put, List.setIfInBounds_toArray, List.set_cons_zero, List.set_cons_succ]
            refine wpAnyH_ready (rs := [9]) (by kernel_rfl) (by simp) ?_
            refine AllReadyH.cons (o := { dst := none, op := Op.store 25 (Operand.tmp 8) (Operand.tmp 35), type := 0, pos := "law.go:111", after := #[{ on := 8, ground := Ground.data }, { on := 7, ground := Ground.data }, { on := 7, ground := Ground.chain }, { on := 0, ground := Ground.phase }, { on := 1, ground := Ground.phase }, { on := 2, ground := Ground.phase }, { on := 3, ground := Ground.phase }, { on := 4, ground := Ground.phase }, { on := 5, ground := Ground.phase }, { on := 6, ground := Ground.phase }, { on := 7, ground := Ground.phase }, { on := 8, ground := Ground.phase }], guard := none }) rfl (fun K hK => ?_) AllReadyH.nil
            refine step_store_st (s := zeroS) (s2 := FH) (a2 := a8) (n2 := n8) (c2 := c8) rfl _ _ rfl HZ35.out rfl rfl ?_
            intro y37 z1 z2 z3 z4
            have HB38 : Hid (Below x5.heap.size x5 y37) := z2 _ _ HB35.out HLO28.out
            have HR9 : Hid (StAt y37 y4.heap.size FH (.slice a8 n8 c8) ∧ Lns y37 a8 FH.lines ∧ FH.lines.length = n8 ∧ Below x5.heap.size x5 y37) := ⟨z1, ownl_lns (HO36.out.keepOther (fun g hg => z3 g (fun hh => own_st_ne HO36.out (hh ▸ HZ35.out) hg.symm))), HO36.out.len, HB38.out⟩
            clear z1 z2 z3 z4
            (refine hK _ _ (HC5.out.1.after HB38.out) ?_; clear hK K; intro _)
            try simp only [Act.put, List.setIfInBounds_toArray, List.set_cons_zero, List.set_cons_succ]
            refine wpAnyH_done (by kernel_rfl) ?_ _
            go_wp2
            go_meet
            exact ⟨y4.heap.size, a8, n8, c8, rfl, HR9.out⟩
        · go_simp
          obtain ⟨y39, hY⟩ : ∃ Y, y1.alloc (.cells #[.int .i64 0, .int .i64 0, .int .i64 0, .int .i64 0, .int .i64 0, .slice none 0 0, .int .i64 0, .int .i64 0, .int .i64 0, .int .i64 0, .int .i64 0, .string ⟨#[]⟩] 25) = Y := ⟨_, rfl⟩
          rw [hY]
          have hb : Below y1.heap.size y1 y39 := by rw [← hY]; exact (Below.refl _ _).alloc (Nat.le_refl _) _
          have HLO40 : Hid (x5.heap.size ≤ y1.heap.size) := HB2.out.size
          have HB41 : Hid (Below x5.heap.size x5 y39) := below_next HB2.out hb
          have HL41 : Hid (Lns y39 a2 s.lines) := HL3.out.keep hb
          have HZ42 : Hid (StAt y39 y1.heap.size zeroS (.slice none 0 0)) := by rw [← hY]; exact StAt.new y1 zeroS _
          clear hY hb
          (refine hK _ _ (HC5.out.1.after HB41.out) ?_; clear hK K; intro _)
          try simp only [Act.put, List.setIfInBounds_toArray, List.set_cons_zero, List.set_cons_succ]
          refine wpAnyH_ready (rs := [2]) (by kernel_rfl) (by simp) ?_
          refine AllReadyH.cons (o := { dst := some 30, op := Op.buildSlice 45 0 #[], type := 45, pos := "law.go:111", after := #[], guard := none }) rfl (fun K hK => ?_) AllReadyH.nil
          go_simp
          obtain ⟨y43, hY⟩ : ∃ Y, y39.alloc (.cells #[] 37) = Y := ⟨_, rfl⟩
          rw [hY]
          have hb : Below y39.heap.size y39 y43 := by rw [← hY]; exact (Below.refl _ _).alloc (Nat.le_refl _) _
          have HB44 : Hid (Below x5.heap.size x5 y43) := below_next HB41.out hb
          have HL44 : Hid (Lns y43 a2 s.lines) := HL41.out.keep hb
          have HZ44 : Hid (StAt y43 y1.heap.size zeroS (.slice none 0 0)) := HZ42.out.after hb
          clear hY hb
          (refine hK _ _ (HC5.out.1.after HB44.out) ?_; clear hK K; intro _)
          try simp only [Act.put, List.setIfInBounds_toArray, List.set_cons_zero, List.set_cons_succ]
          refine wpAnyH_ready (rs := [6]) (by kernel_rfl) (by simp) ?_
          refine AllReadyH.cons (o := { dst := some 34, op := Op.call { callee := Callee.builtin Builtin.append, args := #[Operand.tmp 30, Operand.tmp 33], argTypes := #[45, 45] }, type := 45, pos := "law.go:111", after := #[{ on := 2, ground := Ground.data }, { on := 5, ground := Ground.data }, { on := 1, ground := Ground.chain }], guard := none }) rfl (fun K hK => ?_) AllReadyH.nil
          refine step_append_fresh rfl _ _ rfl ⟨y39.heap.size, 0, none⟩ ea i ecap (es.take i) rfl rfl HTK.out ((HES.out.keep (below_next HC5.out.2.2 HB44.out)).take i) HAC.out (by omega) ?_
          intro a6 c6 y45 he6 hb6
          have HB46 : Hid (Below x5.heap.size x5 y45) := below_next HB44.out hb6
          have HL46 : Hid (Lns y45 a2 s.lines) := HL44.out.keep hb6
          have HZ46 : Hid (StAt y45 y1.heap.size zeroS (.slice none 0 0)) := HZ44.out.after hb6
          have HE47 : Hid (EvsIn y45 a6 (es.take i)) := he6
          clear he6 hb6
          (refine hK _ _ (HC5.out.1.after HB46.out) ?_; clear hK K; intro _)
          try simp only [Act.put, List.setIfInBounds_toArray, List.set_cons_zero, List.set_cons_succ]
          refine wpAnyH_ready (rs := [7]) (by kernel_rfl) (by simp) ?_
          refine AllReadyH.cons (o := { dst := some 35, op := Op.call { callee := Callee.value (Operand.func 25), args := #[Operand.tmp 29, Operand.tmp 34], argTypes := #[25, 45] }, type := 25, pos := "law.go:111", after := #[{ on := 1, ground := Ground.data }, { on := 6, ground := Ground.data }, { on := 6, ground := Ground.chain }], guard := none }) rfl (fun K hK => ?_) AllReadyH.nil
          go_simp
          refine (fold_any s (es.take i) a2 a6 n c2 i c6 _ HN.out HL46.out hm HTK.out HE47.out him).mono ?_
          rw [HFH.out]
          rintro _ y48 ⟨a8, n8, c8, rfl, ho8, hb8⟩
          have HB49 : Hid (Below x5.heap.size x5 y48) := below_next HB46.out hb8
          have HL49 : Hid (Lns y48 a2 s.lines) := HL46.out.keep hb8
          have HZ49 : Hid (StAt y48 y1.heap.size zeroS (.slice none 0 0)) := HZ46.out.after hb8
          have HE49 : Hid (EvsIn y48 a6 (es.take i)) := HE47.out.keep hb8
          have HO50 : Hid (OwnL y48 y45.heap.size (.slice a8 n8 c8) FH.lines) := ho8
          clear ho8 hb8
          (refine hK _ _ (HC5.out.1.after HB49.out) ?_; clear hK K; intro _)
          try simp only [Act.put, List.setIfInBounds_toArray, List.set_cons_zero, List.set_cons_succ]
          refine wpAnyH_ready (rs := [9]) (by kernel_rfl) (by simp) ?_
          refine AllReadyH.cons (o := { dst := none, op := Op.store 25 (Operand.tmp 8) (Operand.tmp 35), type := 0, pos := "law.go:111", after := #[{ on := 8, ground := Ground.data }, { on := 7, ground := Ground.data }, { on := 7, ground := Ground.chain }, { on := 0, ground := Ground.phase }, { on := 1, ground := Ground.phase }, { on := 2, ground := Ground.phase }, { on := 3, ground := Ground.phase }, { on := 4, ground := Ground.phase }, { on := 5, ground := Ground.phase }, { on := 6, ground := Ground.phase }, { on := 7, ground := Ground.phase }, { on := 8, ground := Ground.phase }], guard := none }) rfl (fun K hK => ?_) AllReadyH.nil
          refine step_store_st (s := zeroS) (s2 := FH) (a2 := a8) (n2 := n8) (c2 := c8) rfl _ _ rfl HZ49.out rfl rfl ?_
          intro y51 z1 z2 z3 z4
          have HB52 : Hid (Below x5.heap.size x5 y51) := z2 _ _ HB49.out HLO40.out
          have HR9 : Hid (StAt y51 y1.heap.size FH (.slice a8 n8 c8) ∧ Lns y51 a8 FH.lines ∧ FH.lines.length = n8 ∧ Below x5.heap.size x5 y51) := ⟨z1, ownl_lns (HO50.out.keepOther (fun g hg => z3 g (fun hh => own_st_ne HO50.out (hh ▸ HZ49.out) hg.symm))), HO50.out.len, HB52.out⟩
          clear z1 z2 z3 z4
          (refine hK _ _ (HC5.out.1.after HB52.out) ?_; clear hK K; intro _)
          try simp only [Act.put, List.setIfInBounds_toArray, List.set_cons_zero, List.set_cons_succ]
          refine wpAnyH_done (by kernel_rfl) ?_ _
          go_wp2
          go_meet
          exact ⟨y1.heap.size, a8, n8, c8, rfl, HR9.out⟩
      · go_simp
        obtain ⟨y53, hY⟩ : ∃ Y, D.alloc (.cells #[] 37) = Y := ⟨_, rfl⟩
        rw [hY]
        have hb : Below D.heap.size D y53 := by rw [← hY]; exact (Below.refl _ _).alloc (Nat.le_refl _) _
        have HB54 : Hid (Below x5.heap.size x5 y53) := below_next HB0.out hb
        clear hY hb
        (refine hK _ _ (HC5.out.1.after HB54.out) ?_; clear hK K; intro _)
        try simp only [Act.put, List.setIfInBounds_toArray, List.set_cons_zero, List.set_cons_succ]
        refine wpAnyH_ready (rs := [1, 8]) (by kernel_rfl) (by simp) ?_
        refine AllReadyH.cons (o := { dst := some 29, op := Op.call { callee := Callee.value (Operand.func 14), args := #[Operand.tmp 28], argTypes := #[25] }, type := 25, pos := "law.go:111", after := #[{ on := 0, ground := Ground.data }], guard := none }) rfl (fun K hK => ?_) (AllReadyH.cons (o := { dst := some 8, op := Op.alloc 25, type := 0, pos := "law.go:111", after := #[], guard := none }) rfl (fun K hK => ?_) AllReadyH.nil)
        · go_simp
          refine (scopy_any s a n cap _ HN.out (HC5.out.2.1.keep HB54.out) hm).mono ?_
          rintro _ y55 ⟨v2, rfl, ho2, hb2⟩
          obtain ⟨a2, c2, hv2, _, _, hl2, _⟩ := ho2.shape
          simp only [HN.out] at hv2
          subst hv2
          have HB56 : Hid (Below x5.heap.size x5 y55) := below_next HB54.out hb2
          have HL57 : Hid (Lns y55 a2 s.lines) := hl2
          clear hb2 ho2 hl2
          (refine hK _ _ (HC5.out.1.after HB56.out) ?_; clear hK K; intro _)
          try simp only [Act.put, List.setIfInBounds_toArray, List.set_cons_zero, List.set_cons_succ]
          refine wpAnyH_ready (rs := [6, 8]) (by kernel_rfl) (by simp) ?_
          refine AllReadyH.cons (o := { dst := some 34, op := Op.call { callee := Callee.builtin Builtin.append, args := #[Operand.tmp 30, Operand.tmp 33], argTypes := #[45, 45] }, type := 45, pos := "law.go:111", after := #[{ on := 2, ground := Ground.data }, { on := 5, ground := Ground.data }, { on := 1, ground := Ground.chain }], guard := none }) rfl (fun K hK => ?_) (AllReadyH.cons (o := { dst := some 8, op := Op.alloc 25, type := 0, pos := "law.go:111", after := #[], guard := none }) rfl (fun K hK => ?_) AllReadyH.nil)
          · refine step_append_fresh rfl _ _ rfl ⟨D.heap.size, 0, none⟩ ea i ecap (es.take i) rfl rfl HTK.out ((HES.out.keep (below_next HC5.out.2.2 HB56.out)).take i) HAC.out (by omega) ?_
            intro a6 c6 y58 he6 hb6
            have HB59 : Hid (Below x5.heap.size x5 y58) := below_next HB56.out hb6
            have HL59 : Hid (Lns y58 a2 s.lines) := HL57.out.keep hb6
            have HE60 : Hid (EvsIn y58 a6 (es.take i)) := he6
            clear he6 hb6
            (refine hK _ _ (HC5.out.1.after HB59.out) ?_; clear hK K; intro _)
            try simp only [Act.put, List.setIfInBounds_toArray, List.set_cons_zero, List.set_cons_succ]
            refine wpAnyH_ready (rs := [7, 8]) (by kernel_rfl) (by simp) ?_
            refine AllReadyH.cons (o := { dst := some 35, op := Op.call { callee := Callee.value (Operand.func 25), args := #[Operand.tmp 29, Operand.tmp 34], argTypes := #[25, 45] }, type := 25, pos := "law.go:111", after := #[{ on := 1, ground := Ground.data }, { on := 6, ground := Ground.data }, { on := 6, ground := Ground.chain }], guard := none }) rfl (fun K hK => ?_) (AllReadyH.cons (o := { dst := some 8, op := Op.alloc 25, type := 0, pos := "law.go:111", after := #[], guard := none }) rfl (fun K hK => ?_) AllReadyH.nil)
            · go_simp
              refine (fold_any s (es.take i) a2 a6 n c2 i c6 _ HN.out HL59.out hm HTK.out HE60.out him).mono ?_
              rw [HFH.out]
              rintro _ y61 ⟨a8, n8, c8, rfl, ho8, hb8⟩
              have HB62 : Hid (Below x5.heap.size x5 y61) := below_next HB59.out hb8
              have HL62 : Hid (Lns y61 a2 s.lines) := HL59.out.keep hb8
              have HE62 : Hid (EvsIn y61 a6 (es.take i)) := HE60.out.keep hb8
              have HO63 : Hid (OwnL y61 y58.heap.size (.slice a8 n8 c8) FH.lines) := ho8
              clear ho8 hb8
              (refine hK _ _ (HC5.out.1.after HB62.out) ?_; clear hK K; intro _)
              try simp only [Act.put, List.setIfInBounds_toArray, List.set_cons_zero, List.set_cons_succ]
              refine wpAnyH_ready (rs := [8]) (by kernel_rfl) (by simp) ?_
              refine AllReadyH.cons (o := { dst := some 8, op := Op.alloc 25, type := 0, pos := "law.go:111", after := #[], guard := none }) rfl (fun K hK => ?_) AllReadyH.nil
              go_simp
              obtain ⟨y64, hY⟩ : ∃ Y, y61.alloc (.cells #[.int .i64 0, .int .i64 0, .int .i64 0, .int .i64 0, .int .i64 0, .slice none 0 0, .int .i64 0, .int .i64 0, .int .i64 0, .int .i64 0, .int .i64 0, .string ⟨#[]⟩] 25) = Y := ⟨_, rfl⟩
              rw [hY]
              have hb : Below y61.heap.size y61 y64 := by rw [← hY]; exact (Below.refl _ _).alloc (Nat.le_refl _) _
              have HLO65 : Hid (x5.heap.size ≤ y61.heap.size) := HB62.out.size
              have HB66 : Hid (Below x5.heap.size x5 y64) := below_next HB62.out hb
              have HL66 : Hid (Lns y64 a2 s.lines) := HL62.out.keep hb
              have HE66 : Hid (EvsIn y64 a6 (es.take i)) := HE62.out.keep hb
              have HO66 : Hid (OwnL y64 y58.heap.size (.slice a8 n8 c8) FH.lines) := HO63.out.keep hb
              have HZ67 : Hid (StAt y64 y61.heap.size zeroS (.slice none 0 0)) := by rw [← hY]; exact StAt.new y61 zeroS _
              clear hY hb
              (refine hK _ _ (HC5.out.1.after HB66.out) ?_; clear hK K; intro _)
              try simp only [Act.put, List.setIfInBounds_toArray, List.set_cons_zero, List.set_cons_succ]
              refine wpAnyH_ready (rs := [9]) (by kernel_rfl) (by simp) ?_
              refine AllReadyH.cons (o := { dst := none, op := Op.store 25 (Operand.tmp 8) (Operand.tmp 35), type := 0, pos := "law.go:111", after := #[{ on := 8, ground := Ground.data }, { on := 7, ground := Ground.data }, { on := 7, ground := Ground.chain }, { on := 0, ground := Ground.phase }, { on := 1, ground := Ground.phase }, { on := 2, ground := Ground.phase }, { on := 3, ground := Ground.phase }, { on := 4, ground := Ground.phase }, { on := 5, ground := Ground.phase }, { on := 6, ground := Ground.phase }, { on := 7, ground := Ground.phase }, { on := 8, ground := Ground.phase }], guard := none }) rfl (fun K hK => ?_) AllReadyH.nil
              refine step_store_st (s := zeroS) (s2 := FH) (a2 := a8) (n2 := n8) (c2 := c8) rfl _ _ rfl HZ67.out rfl rfl ?_
              intro y68 z1 z2 z3 z4
              have HB69 : Hid (Below x5.heap.size x5 y68) := z2 _ _ HB66.out HLO65.out
              have HR9 : Hid (StAt y68 y61.heap.size FH (.slice a8 n8 c8) ∧ Lns y68 a8 FH.lines ∧ FH.lines.length = n8 ∧ Below x5.heap.size x5 y68) := ⟨z1, ownl_lns (HO66.out.keepOther (fun g hg => z3 g (fun hh => own_st_ne HO66.out (hh ▸ HZ67.out) hg.symm))), HO66.out.len, HB69.out⟩
              clear z1 z2 z3 z4
              (refine hK _ _ (HC5.out.1.after HB69.out) ?_; clear hK K; intro _)
              try simp only [Act.put, List.setIfInBounds_toArray, List.set_cons_zero, List.set_cons_succ]
              refine wpAnyH_done (by kernel_rfl) ?_ _
              go_wp2
              go_meet
              exact ⟨y61.heap.size, a8, n8, c8, rfl, HR9.out⟩
            · go_simp
              obtain ⟨y70, hY⟩ : ∃ Y, y58.alloc (.cells #[.int .i64 0, .int .i64 0, .int .i64 0, .int .i64 0, .int .i64 0, .slice none 0 0, .int .i64 0, .int .i64 0, .int .i64 0, .int .i64 0, .int .i64 0, .string ⟨#[]⟩] 25) = Y := ⟨_, rfl⟩
              rw [hY]
              have hb : Below y58.heap.size y58 y70 := by rw [← hY]; exact (Below.refl _ _).alloc (Nat.le_refl _) _
              have HLO71 : Hid (x5.heap.size ≤ y58.heap.size) := HB59.out.size
              have HB72 : Hid (Below x5.heap.size x5 y70) := below_next HB59.out hb
              have HL72 : Hid (Lns y70 a2 s.lines) := HL59.out.keep hb
              have HE72 : Hid (EvsIn y70 a6 (es.take i)) := HE60.out.keep hb
              have HZ73 : Hid (StAt y70 y58.heap.size zeroS (.slice none 0 0)) := by rw [← hY]; exact StAt.new y58 zeroS _
              clear hY hb
              (refine hK _ _ (HC5.out.1.after HB72.out) ?_; clear hK K; intro _)
              try simp only [Act.put, List.setIfInBounds_toArray, List.set_cons_zero, List.set_cons_succ]
              refine wpAnyH_ready (rs := [7]) (by kernel_rfl) (by simp) ?_
              refine AllReadyH.cons (o := { dst := some 35, op := Op.call { callee := Callee.value (Operand.func 25), args := #[Operand.tmp 29, Operand.tmp 34], argTypes := #[25, 45] }, type := 25, pos := "law.go:111", after := #[{ on := 1, ground := Ground.data }, { on := 6, ground := Ground.data }, { on := 6, ground := Ground.chain }], guard := none }) rfl (fun K hK => ?_) AllReadyH.nil
              go_simp
              refine (fold_any s (es.take i) a2 a6 n c2 i c6 _ HN.out HL72.out hm HTK.out HE72.out him).mono ?_
              rw [HFH.out]
              rintro _ y74 ⟨a8, n8, c8, rfl, ho8, hb8⟩
              have HB75 : Hid (Below x5.heap.size x5 y74) := below_next HB72.out hb8
              have HL75 : Hid (Lns y74 a2 s.lines) := HL72.out.keep hb8
              have HE75 : Hid (EvsIn y74 a6 (es.take i)) := HE72.out.keep hb8
              have HZ75 : Hid (StAt y74 y58.heap.size zeroS (.slice none 0 0)) := HZ73.out.after hb8
              have HO76 : Hid (OwnL y74 y70.heap.size (.slice a8 n8 c8) FH.lines) := ho8
              clear ho8 hb8
              (refine hK _ _ (HC5.out.1.after HB75.out) ?_; clear hK K; intro _)
              try simp only [Act.put, List.setIfInBounds_toArray, List.set_cons_zero, List.set_cons_succ]
              refine wpAnyH_ready (rs := [9]) (by kernel_rfl) (by simp) ?_
              refine AllReadyH.cons (o := { dst := none, op := Op.store 25 (Operand.tmp 8) (Operand.tmp 35), type := 0, pos := "law.go:111", after := #[{ on := 8, ground := Ground.data }, { on := 7, ground := Ground.data }, { on := 7, ground := Ground.chain }, { on := 0, ground := Ground.phase }, { on := 1, ground := Ground.phase }, { on := 2, ground := Ground.phase }, { on := 3, ground := Ground.phase }, { on := 4, ground := Ground.phase }, { on := 5, ground := Ground.phase }, { on := 6, ground := Ground.phase }, { on := 7, ground := Ground.phase }, { on := 8, ground := Ground.phase }], guard := none }) rfl (fun K hK => ?_) AllReadyH.nil
              refine step_store_st (s := zeroS) (s2 := FH) (a2 := a8) (n2 := n8) (c2 := c8) rfl _ _ rfl HZ75.out rfl rfl ?_
              intro y77 z1 z2 z3 z4
              have HB78 : Hid (Below x5.heap.size x5 y77) := z2 _ _ HB75.out HLO71.out
              have HR9 : Hid (StAt y77 y58.heap.size FH (.slice a8 n8 c8) ∧ Lns y77 a8 FH.lines ∧ FH.lines.length = n8 ∧ Below x5.heap.size x5 y77) := ⟨z1, ownl_lns (HO76.out.keepOther (fun g hg => z3 g (fun hh => own_st_ne HO76.out (hh ▸ HZ75.out) hg.symm))), HO76.out.len, HB78.out⟩
              clear z1 z2 z3 z4
              (refine hK _ _ (HC5.out.1.after HB78.out) ?_; clear hK K; intro _)
              try simp only [Act.put, List.setIfInBounds_toArray, List.set_cons_zero, List.set_cons_succ]
              refine wpAnyH_done (by kernel_rfl) ?_ _
              go_wp2
              go_meet
              exact ⟨y58.heap.size, a8, n8, c8, rfl, HR9.out⟩
          · go_simp
            obtain ⟨y79, hY⟩ : ∃ Y, y55.alloc (.cells #[.int .i64 0, .int .i64 0, .int .i64 0, .int .i64 0, .int .i64 0, .slice none 0 0, .int .i64 0, .int .i64 0, .int .i64 0, .int .i64 0, .int .i64 0, .string ⟨#[]⟩] 25) = Y := ⟨_, rfl⟩
            rw [hY]
            have hb : Below y55.heap.size y55 y79 := by rw [← hY]; exact (Below.refl _ _).alloc (Nat.le_refl _) _
            have HLO80 : Hid (x5.heap.size ≤ y55.heap.size) := HB56.out.size
            have HB81 : Hid (Below x5.heap.size x5 y79) := below_next HB56.out hb
            have HL81 : Hid (Lns y79 a2 s.lines) := HL57.out.keep hb
            have HZ82 : Hid (StAt y79 y55.heap.size zeroS (.slice none 0 0)) := by rw [← hY]; exact StAt.new y55 zeroS _
            clear hY hb
            (refine hK _ _ (HC5.out.1.after HB81.out) ?_; clear hK K; intro _)
            try simp only [Act.put, List.setIfInBounds_toArray, List.set_cons_zero, List.set_cons_succ]
            refine wpAnyH_ready (rs := [6]) (by kernel_rfl) (by simp) ?_
            refine AllReadyH.cons (o := { dst := some 34, op := Op.call { callee := Callee.builtin Builtin.append, args := #[Operand.tmp 30, Operand.tmp 33], argTypes := #[45, 45] }, type := 45, pos := "law.go:111", after := #[{ on := 2, ground := Ground.data }, { on := 5, ground := Ground.data }, { on := 1, ground := Ground.chain }], guard := none }) rfl (fun K hK => ?_) AllReadyH.nil
            refine step_append_fresh rfl _ _ rfl ⟨D.heap.size, 0, none⟩ ea i ecap (es.take i) rfl rfl HTK.out ((HES.out.keep (below_next HC5.out.2.2 HB81.out)).take i) HAC.out (by omega) ?_
            intro a6 c6 y83 he6 hb6
            have HB84 : Hid (Below x5.heap.size x5 y83) := below_next HB81.out hb6
            have HL84 : Hid (Lns y83 a2 s.lines) := HL81.out.keep hb6
            have HZ84 : Hid (StAt y83 y55.heap.size zeroS (.slice none 0 0)) := HZ82.out.after hb6
            have HE85 : Hid (EvsIn y83 a6 (es.take i)) := he6
            clear he6 hb6
            (refine hK _ _ (HC5.out.1.after HB84.out) ?_; clear hK K; intro _)
            try simp only [Act.put, List.setIfInBounds_toArray, List.set_cons_zero, List.set_cons_succ]
            refine wpAnyH_ready (rs := [7]) (by kernel_rfl) (by simp) ?_
            refine AllReadyH.cons (o := { dst := some 35, op := Op.call { callee := Callee.value (Operand.func 25), args := #[Operand.tmp 29, Operand.tmp 34], argTypes := #[25, 45] }, type := 25, pos := "law.go:111", after := #[{ on := 1, ground := Ground.data }, { on := 6, ground := Ground.data }, { on := 6, ground := Ground.chain }], guard := none }) rfl (fun K hK => ?_) AllReadyH.nil
            go_simp
            refine (fold_any s (es.take i) a2 a6 n c2 i c6 _ HN.out HL84.out hm HTK.out HE85.out him).mono ?_
            rw [HFH.out]
            rintro _ y86 ⟨a8, n8, c8, rfl, ho8, hb8⟩
            have HB87 : Hid (Below x5.heap.size x5 y86) := below_next HB84.out hb8
            have HL87 : Hid (Lns y86 a2 s.lines) := HL84.out.keep hb8
            have HZ87 : Hid (StAt y86 y55.heap.size zeroS (.slice none 0 0)) := HZ84.out.after hb8
            have HE87 : Hid (EvsIn y86 a6 (es.take i)) := HE85.out.keep hb8
            have HO88 : Hid (OwnL y86 y83.heap.size (.slice a8 n8 c8) FH.lines) := ho8
            clear ho8 hb8
            (refine hK _ _ (HC5.out.1.after HB87.out) ?_; clear hK K; intro _)
            try simp only [Act.put, List.setIfInBounds_toArray, List.set_cons_zero, List.set_cons_succ]
            refine wpAnyH_ready (rs := [9]) (by kernel_rfl) (by simp) ?_
            refine AllReadyH.cons (o := { dst := none, op := Op.store 25 (Operand.tmp 8) (Operand.tmp 35), type := 0, pos := "law.go:111", after := #[{ on := 8, ground := Ground.data }, { on := 7, ground := Ground.data }, { on := 7, ground := Ground.chain }, { on := 0, ground := Ground.phase }, { on := 1, ground := Ground.phase }, { on := 2, ground := Ground.phase }, { on := 3, ground := Ground.phase }, { on := 4, ground := Ground.phase }, { on := 5, ground := Ground.phase }, { on := 6, ground := Ground.phase }, { on := 7, ground := Ground.phase }, { on := 8, ground := Ground.phase }], guard := none }) rfl (fun K hK => ?_) AllReadyH.nil
            refine step_store_st (s := zeroS) (s2 := FH) (a2 := a8) (n2 := n8) (c2 := c8) rfl _ _ rfl HZ87.out rfl rfl ?_
            intro y89 z1 z2 z3 z4
            have HB90 : Hid (Below x5.heap.size x5 y89) := z2 _ _ HB87.out HLO80.out
            have HR9 : Hid (StAt y89 y55.heap.size FH (.slice a8 n8 c8) ∧ Lns y89 a8 FH.lines ∧ FH.lines.length = n8 ∧ Below x5.heap.size x5 y89) := ⟨z1, ownl_lns (HO88.out.keepOther (fun g hg => z3 g (fun hh => own_st_ne HO88.out (hh ▸ HZ87.out) hg.symm))), HO88.out.len, HB90.out⟩
            clear z1 z2 z3 z4
            (refine hK _ _ (HC5.out.1.after HB90.out) ?_; clear hK K; intro _)
            try simp only [Act.put, List.setIfInBounds_toArray, List.set_cons_zero, List.set_cons_succ]
            refine wpAnyH_done (by kernel_rfl) ?_ _
            go_wp2
            go_meet
            exact ⟨y55.heap.size, a8, n8, c8, rfl, HR9.out⟩
        · go_simp
          obtain ⟨y91, hY⟩ : ∃ Y, y53.alloc (.cells #[.int .i64 0, .int .i64 0, .int .i64 0, .int .i64 0, .int .i64 0, .slice none 0 0, .int .i64 0, .int .i64 0, .int .i64 0, .int .i64 0, .int .i64 0, .string ⟨#[]⟩] 25) = Y := ⟨_, rfl⟩
          rw [hY]
          have hb : Below y53.heap.size y53 y91 := by rw [← hY]; exact (Below.refl _ _).alloc (Nat.le_refl _) _
          have HLO92 : Hid (x5.heap.size ≤ y53.heap.size) := HB54.out.size
          have HB93 : Hid (Below x5.heap.size x5 y91) := below_next HB54.out hb
          have HZ94 : Hid (StAt y91 y53.heap.size zeroS (.slice none 0 0)) := by rw [← hY]; exact StAt.new y53 zeroS _
          clear hY hb
          (refine hK _ _ (HC5.out.1.after HB93.out) ?_; clear hK K; intro _)
          try simp only [Act.put, List.setIfInBounds_toArray, List.set_cons_zero, List.set_cons_succ]
          refine wpAnyH_ready (rs := [1]) (by kernel_rfl) (by simp) ?_
          refine AllReadyH.cons (o := { dst := some 29, op := Op.call { callee := Callee.value (Operand.func 14), args := #[Operand.tmp 28], argTypes := #[25] }, type := 25, pos := "law.go:111", after := #[{ on := 0, ground := Ground.data }], guard := none }) rfl (fun K hK => ?_) AllReadyH.nil
          go_simp
          refine (scopy_any s a n cap _ HN.out (HC5.out.2.1.keep HB93.out) hm).mono ?_
          rintro _ y95 ⟨v2, rfl, ho2, hb2⟩
          obtain ⟨a2, c2, hv2, _, _, hl2, _⟩ := ho2.shape
          simp only [HN.out] at hv2
          subst hv2
          have HB96 : Hid (Below x5.heap.size x5 y95) := below_next HB93.out hb2
          have HZ96 : Hid (StAt y95 y53.heap.size zeroS (.slice none 0 0)) := HZ94.out.after hb2
          have HL97 : Hid (Lns y95 a2 s.lines) := hl2
          clear hb2 ho2 hl2
          (refine hK _ _ (HC5.out.1.after HB96.out) ?_; clear hK K; intro _)
          try simp only [Act.put, List.setIfInBounds_toArray, List.set_cons_zero, List.set_cons_succ]
          refine wpAnyH_ready (rs := [6]) (by kernel_rfl) (by simp) ?_
          refine AllReadyH.cons (o := { dst := some 34, op := Op.call { callee := Callee.builtin Builtin.append, args := #[Operand.tmp 30, Operand.tmp 33], argTypes := #[45, 45] }, type := 45, pos := "law.go:111", after := #[{ on := 2, ground := Ground.data }, { on := 5, ground := Ground.data }, { on := 1, ground := Ground.chain }], guard := none }) rfl (fun K hK => ?_) AllReadyH.nil
          refine step_append_fresh rfl _ _ rfl ⟨D.heap.size, 0, none⟩ ea i ecap (es.take i) rfl rfl HTK.out ((HES.out.keep (below_next HC5.out.2.2 HB96.out)).take i) HAC.out (by omega) ?_
          intro a6 c6 y98 he6 hb6
          have HB99 : Hid (Below x5.heap.size x5 y98) := below_next HB96.out hb6
          have HZ99 : Hid (StAt y98 y53.heap.size zeroS (.slice none 0 0)) := HZ96.out.after hb6
          have HL99 : Hid (Lns y98 a2 s.lines) := HL97.out.keep hb6
          have HE100 : Hid (EvsIn y98 a6 (es.take i)) := he6
          clear he6 hb6
          (refine hK _ _ (HC5.out.1.after HB99.out) ?_; clear hK K; intro _)
          try simp only [Act.put, List.setIfInBounds_toArray, List.set_cons_zero, List.set_cons_succ]
          refine wpAnyH_ready (rs := [7]) (by kernel_rfl) (by simp) ?_
          refine AllReadyH.cons (o := { dst := some 35, op := Op.call { callee := Callee.value (Operand.func 25), args := #[Operand.tmp 29, Operand.tmp 34], argTypes := #[25, 45] }, type := 25, pos := "law.go:111", after := #[{ on := 1, ground := Ground.data }, { on := 6, ground := Ground.data }, { on := 6, ground := Ground.chain }], guard := none }) rfl (fun K hK => ?_) AllReadyH.nil
          go_simp
          refine (fold_any s (es.take i) a2 a6 n c2 i c6 _ HN.out HL99.out hm HTK.out HE100.out him).mono ?_
          rw [HFH.out]
          rintro _ y101 ⟨a8, n8, c8, rfl, ho8, hb8⟩
          have HB102 : Hid (Below x5.heap.size x5 y101) := below_next HB99.out hb8
          have HZ102 : Hid (StAt y101 y53.heap.size zeroS (.slice none 0 0)) := HZ99.out.after hb8
          have HL102 : Hid (Lns y101 a2 s.lines) := HL99.out.keep hb8
          have HE102 : Hid (EvsIn y101 a6 (es.take i)) := HE100.out.keep hb8
          have HO103 : Hid (OwnL y101 y98.heap.size (.slice a8 n8 c8) FH.lines) := ho8
          clear ho8 hb8
          (refine hK _ _ (HC5.out.1.after HB102.out) ?_; clear hK K; intro _)
          try simp only [Act.put, List.setIfInBounds_toArray, List.set_cons_zero, List.set_cons_succ]
          refine wpAnyH_ready (rs := [9]) (by kernel_rfl) (by simp) ?_
          refine AllReadyH.cons (o := { dst := none, op := Op.store 25 (Operand.tmp 8) (Operand.tmp 35), type := 0, pos := "law.go:111", after := #[{ on := 8, ground := Ground.data }, { on := 7, ground := Ground.data }, { on := 7, ground := Ground.chain }, { on := 0, ground := Ground.phase }, { on := 1, ground := Ground.phase }, { on := 2, ground := Ground.phase }, { on := 3, ground := Ground.phase }, { on := 4, ground := Ground.phase }, { on := 5, ground := Ground.phase }, { on := 6, ground := Ground.phase }, { on := 7, ground := Ground.phase }, { on := 8, ground := Ground.phase }], guard := none }) rfl (fun K hK => ?_) AllReadyH.nil
          refine step_store_st (s := zeroS) (s2 := FH) (a2 := a8) (n2 := n8) (c2 := c8) rfl _ _ rfl HZ102.out rfl rfl ?_
          intro y104 z1 z2 z3 z4
          have HB105 : Hid (Below x5.heap.size x5 y104) := z2 _ _ HB102.out HLO92.out
          have HR9 : Hid (StAt y104 y53.heap.size FH (.slice a8 n8 c8) ∧ Lns y104 a8 FH.lines ∧ FH.lines.length = n8 ∧ Below x5.heap.size x5 y104) := ⟨z1, ownl_lns (HO103.out.keepOther (fun g hg => z3 g (fun hh => own_st_ne HO103.out (hh ▸ HZ102.out) hg.symm))), HO103.out.len, HB105.out⟩
          clear z1 z2 z3 z4
          (refine hK _ _ (HC5.out.1.after HB105.out) ?_; clear hK K; intro _)
          try simp only [Act.put, List.setIfInBounds_toArray, List.set_cons_zero, List.set_cons_succ]
          refine wpAnyH_done (by kernel_rfl) ?_ _
          go_wp2
          go_meet
          exact ⟨y53.heap.size, a8, n8, c8, rfl, HR9.out⟩
      · go_simp
        obtain ⟨y106, hY⟩ : ∃ Y, D.alloc (.cells #[.int .i64 0, .int .i64 0, .int .i64 0, .int .i64 0, .int .i64 0, .slice none 0 0, .int .i64 0, .int .i64 0, .int .i64 0, .int .i64 0, .int .i64 0, .string ⟨#[]⟩] 25) = Y := ⟨_, rfl⟩
        rw [hY]
        have hb : Below D.heap.size D y106 := by rw [← hY]; exact (Below.refl _ _).alloc (Nat.le_refl _) _
        have HLO107 : Hid (x5.heap.size ≤ D.heap.size) := HB0.out.size
        have HB108 : Hid (Below x5.heap.size x5 y106) := below_next HB0.out hb
        have HZ109 : Hid (StAt y106 D.heap.size zeroS (.slice none 0 0)) := by rw [← hY]; exact StAt.new D zeroS _
        clear hY hb
        (refine hK _ _ (HC5.out.1.after HB108.out) ?_; clear hK K; intro _)
        try simp only [Act.put, List.setIfInBounds_toArray, List.set_cons_zero, List.set_cons_succ]
        refine wpAnyH_ready (rs := [1, 2]) (by kernel_rfl) (by simp) ?_
        refine AllReadyH.cons (o := { dst := some 29, op := Op.call { callee := Callee.value (Operand.func 14), args := #[Operand.tmp 28], argTypes := #[25] }, type := 25, pos := "law.go:111", after := #[{ on := 0, ground := Ground.data }], guard := none }) rfl (fun K hK => ?_) (AllReadyH.cons (o := { dst := some 30, op := Op.buildSlice 45 0 #[], type := 45, pos := "law.go:111", after := #[], guard := none }) rfl (fun K hK => ?_) AllReadyH.nil)
        · go_simp
          refine (scopy_any s a n cap _ HN.out (HC5.out.2.1.keep HB108.out) hm).mono ?_
          rintro _ y110 ⟨v2, rfl, ho2, hb2⟩
          obtain ⟨a2, c2, hv2, _, _, hl2, _⟩ := ho2.shape
          simp only [HN.out] at hv2
          subst hv2
          have HB111 : Hid (Below x5.heap.size x5 y110) := below_next HB108.out hb2
          have HZ111 : Hid (StAt y110 D.heap.size zeroS (.slice none 0 0)) := HZ109.out.after hb2
          have HL112 : Hid (Lns y110 a2 s.lines) := hl2
          clear hb2 ho2 hl2
          (refine hK _ _ (HC5.out.1.after HB111.out) ?_; clear hK K; intro _)
          try simp only [Act.put, List.setIfInBounds_toArray, List.set_cons_zero, List.set_cons_succ]
          refine wpAnyH_ready (rs := [2]) (by kernel_rfl) (by simp) ?_
          refine AllReadyH.cons (o := { dst := some 30, op := Op.buildSlice 45 0 #[], type := 45, pos := "law.go:111", after := #[], guard := none }) rfl (fun K hK => ?_) AllReadyH.nil
          go_simp
          obtain ⟨y113, hY⟩ : ∃ Y, y110.alloc (.cells #[] 37) = Y := ⟨_, rfl⟩
          rw [hY]
          have hb : Below y110.heap.size y110 y113 := by rw [← hY]; exact (Below.refl _ _).alloc (Nat.le_refl _) _
          have HB114 : Hid (Below x5.heap.size x5 y113) := below_next HB111.out hb
          have HZ114 : Hid (StAt y113 D.heap.size zeroS (.slice none 0 0)) := HZ111.out.after hb
          have HL114 : Hid (Lns y113 a2 s.lines) := HL112.out.keep hb
          clear hY hb
          (refine hK _ _ (HC5.out.1.after HB114.out) ?_; clear hK K; intro _)
          try simp only [Act.put, List.setIfInBounds_toArray, List.set_cons_zero, List.set_cons_succ]
          refine wpAnyH_ready (rs := [6]) (by kernel_rfl) (by simp) ?_
          refine AllReadyH.cons (o := { dst := some 34, op := Op.call { callee := Callee.builtin Builtin.append, args := #[Operand.tmp 30, Operand.tmp 33], argTypes := #[45, 45] }, type := 45, pos := "law.go:111", after := #[{ on := 2, ground := Ground.data }, { on := 5, ground := Ground.data }, { on := 1, ground := Ground.chain }], guard := none }) rfl (fun K hK => ?_) AllReadyH.nil
          refine step_append_fresh rfl _ _ rfl ⟨y110.heap.size, 0, none⟩ ea i ecap (es.take i) rfl rfl HTK.out ((HES.out.keep (below_next HC5.out.2.2 HB114.out)).take i) HAC.out (by omega) ?_
          intro a6 c6 y115 he6 hb6
          have HB116 : Hid (Below x5.heap.size x5 y115) := below_next HB114.out hb6
          have HZ116 : Hid (StAt y115 D.heap.size zeroS (.slice none 0 0)) := HZ114.out.after hb6
          have HL116 : Hid (Lns y115 a2 s.lines) := HL114.out.keep hb6
          have HE117 : Hid (EvsIn y115 a6 (es.take i)) := he6
          clear he6 hb6
          (refine hK _ _ (HC5.out.1.after HB116.out) ?_; clear hK K; intro _)
          try simp only [Act.put, List.setIfInBounds_toArray, List.set_cons_zero, List.set_cons_succ]
          refine wpAnyH_ready (rs := [7]) (by kernel_rfl) (by simp) ?_
          refine AllReadyH.cons (o := { dst := some 35, op := Op.call { callee := Callee.value (Operand.func 25), args := #[Operand.tmp 29, Operand.tmp 34], argTypes := #[25, 45] }, type := 25, pos := "law.go:111", after := #[{ on := 1, ground := Ground.data }, { on := 6, ground := Ground.data }, { on := 6, ground := Ground.chain }], guard := none }) rfl (fun K hK => ?_) AllReadyH.nil
          go_simp
          refine (fold_any s (es.take i) a2 a6 n c2 i c6 _ HN.out HL116.out hm HTK.out HE117.out him).mono ?_
          rw [HFH.out]
          rintro _ y118 ⟨a8, n8, c8, rfl, ho8, hb8⟩
          have HB119 : Hid (Below x5.heap.size x5 y118) := below_next HB116.out hb8
          have HZ119 : Hid (StAt y118 D.heap.size zeroS (.slice none 0 0)) := HZ116.out.after hb8
          have HL119 : Hid (Lns y118 a2 s.lines) := HL116.out.keep hb8
          have HE119 : Hid (EvsIn y118 a6 (es.take i)) := HE117.out.keep hb8
          have HO120 : Hid (OwnL y118 y115.heap.size (.slice a8 n8 c8) FH.lines) := ho8
          clear ho8 hb8
          (refine hK _ _ (HC5.out.1.after HB119.out) ?_; clear hK K; intro _)
          try simp only [Act.put, List.setIfInBounds_toArray, List.set_cons_zero, List.set_cons_succ]
          refine wpAnyH_ready (rs := [9]) (by kernel_rfl) (by simp) ?_
          refine AllReadyH.cons (o := { dst := none, op := Op.store 25 (Operand.tmp 8) (Operand.tmp 35), type := 0, pos := "law.go:111", after := #[{ on := 8, ground := Ground.data }, { on := 7, ground := Ground.data }, { on := 7, ground := Ground.chain }, { on := 0, ground := Ground.phase }, { on := 1, ground := Ground.phase }, { on := 2, ground := Ground.phase }, { on := 3, ground := Ground.phase }, { on := 4, ground := Ground.phase }, { on := 5, ground := Ground.phase }, { on := 6, ground := Ground.phase }, { on := 7, ground := Ground.phase }, { on := 8, ground := Ground.phase }], guard := none }) rfl (fun K hK => ?_) AllReadyH.nil
          refine step_store_st (s := zeroS) (s2 := FH) (a2 := a8) (n2 := n8) (c2 := c8) rfl _ _ rfl HZ119.out rfl rfl ?_
          intro y121 z1 z2 z3 z4
          have HB122 : Hid (Below x5.heap.size x5 y121) := z2 _ _ HB119.out HLO107.out
          have HR9 : Hid (StAt y121 D.heap.size FH (.slice a8 n8 c8) ∧ Lns y121 a8 FH.lines ∧ FH.lines.length = n8 ∧ Below x5.heap.size x5 y121) := ⟨z1, ownl_lns (HO120.out.keepOther (fun g hg => z3 g (fun hh => own_st_ne HO120.out (hh ▸ HZ119.out) hg.symm))), HO120.out.len, HB122.out⟩
          clear z1 z2 z3 z4
          (refine hK _ _ (HC5.out.1.after HB122.out) ?_; clear hK K; intro _)
          try simp only [Act.put, List.setIfInBounds_toArray, List.set_cons_zero, List.set_cons_succ]
          refine wpAnyH_done (by kernel_rfl) ?_ _
          go_wp2
          go_meet
          exact ⟨D.heap.size, a8, n8, c8, rfl, HR9.out⟩
        · go_simp
          obtain ⟨y123, hY⟩ : ∃ Y, y106.alloc (.cells #[] 37) = Y := ⟨_, rfl⟩
          rw [hY]
          have hb : Below y106.heap.size y106 y123 := by rw [← hY]; exact (Below.refl _ _).alloc (Nat.le_refl _) _
          have HB124 : Hid (Below x5.heap.size x5 y123) := below_next HB108.out hb
          have HZ124 : Hid (StAt y123 D.heap.size zeroS (.slice none 0 0)) := HZ109.out.after hb
          clear hY hb
          (refine hK _ _ (HC5.out.1.after HB124.out) ?_; clear hK K; intro _)
          try simp only [Act.put, List.setIfInBounds_toArray, List.set_cons_zero, List.set_cons_succ]
          refine wpAnyH_ready (rs := [1]) (by kernel_rfl) (by simp) ?_
          refine AllReadyH.cons (o := { dst := some 29, op := Op.call { callee := Callee.value (Operand.func 14), args := #[Operand.tmp 28], argTypes := #[25] }, type := 25, pos := "law.go:111", after := #[{ on := 0, ground := Ground.data }], guard := none }) rfl (fun K hK => ?_) AllReadyH.nil
          go_simp
          refine (scopy_any s a n cap _ HN.out (HC5.out.2.1.keep HB124.out) hm).mono ?_
          rintro _ y125 ⟨v2, rfl, ho2, hb2⟩
          obtain ⟨a2, c2, hv2, _, _, hl2, _⟩ := ho2.shape
          simp only [HN.out] at hv2
          subst hv2
          have HB126 : Hid (Below x5.heap.size x5 y125) := below_next HB124.out hb2
          have HZ126 : Hid (StAt y125 D.heap.size zeroS (.slice none 0 0)) := HZ124.out.after hb2
          have HL127 : Hid (Lns y125 a2 s.lines) := hl2
          clear hb2 ho2 hl2
          (refine hK _ _ (HC5.out.1.after HB126.out) ?_; clear hK K; intro _)
          try simp only [Act.put, List.setIfInBounds_toArray, List.set_cons_zero, List.set_cons_succ]
          refine wpAnyH_ready (rs := [6]) (by kernel_rfl) (by simp) ?_
          refine AllReadyH.cons (o := { dst := some 34, op := Op.call { callee := Callee.builtin Builtin.append, args := #[Operand.tmp 30, Operand.tmp 33], argTypes := #[45, 45] }, type := 45, pos := "law.go:111", after := #[{ on := 2, ground := Ground.data }, { on := 5, ground := Ground.data }, { on := 1, ground := Ground.chain }], guard := none }) rfl (fun K hK => ?_) AllReadyH.nil
          refine step_append_fresh rfl _ _ rfl ⟨y106.heap.size, 0, none⟩ ea i ecap (es.take i) rfl rfl HTK.out ((HES.out.keep (below_next HC5.out.2.2 HB126.out)).take i) HAC.out (by omega) ?_
          intro a6 c6 y128 he6 hb6
          have HB129 : Hid (Below x5.heap.size x5 y128) := below_next HB126.out hb6
          have HZ129 : Hid (StAt y128 D.heap.size zeroS (.slice none 0 0)) := HZ126.out.after hb6
          have HL129 : Hid (Lns y128 a2 s.lines) := HL127.out.keep hb6
          have HE130 : Hid (EvsIn y128 a6 (es.take i)) := he6
          clear he6 hb6
          (refine hK _ _ (HC5.out.1.after HB129.out) ?_; clear hK K; intro _)
          try simp only [Act.put, List.setIfInBounds_toArray, List.set_cons_zero, List.set_cons_succ]
          refine wpAnyH_ready (rs := [7]) (by kernel_rfl) (by simp) ?_
          refine AllReadyH.cons (o := { dst := some 35, op := Op.call { callee := Callee.value (Operand.func 25), args := #[Operand.tmp 29, Operand.tmp 34], argTypes := #[25, 45] }, type := 25, pos := "law.go:111", after := #[{ on := 1, ground := Ground.data }, { on := 6, ground := Ground.data }, { on := 6, ground := Ground.chain }], guard := none }) rfl (fun K hK => ?_) AllReadyH.nil
          go_simp
          refine (fold_any s (es.take i) a2 a6 n c2 i c6 _ HN.out HL129.out hm HTK.out HE130.out him).mono ?_
          rw [HFH.out]
          rintro _ y131 ⟨a8, n8, c8, rfl, ho8, hb8⟩
          have HB132 : Hid (Below x5.heap.size x5 y131) := below_next HB129.out hb8
          have HZ132 : Hid (StAt y131 D.heap.size zeroS (.slice none 0 0)) := HZ129.out.after hb8
          have HL132 : Hid (Lns y131 a2 s.lines) := HL129.out.keep hb8
          have HE132 : Hid (EvsIn y131 a6 (es.take i)) := HE130.out.keep hb8
          have HO133 : Hid (OwnL y131 y128.heap.size (.slice a8 n8 c8) FH.lines) := ho8
          clear ho8 hb8
          (refine hK _ _ (HC5.out.1.after HB132.out) ?_; clear hK K; intro _)
          try simp only [Act.put, List.setIfInBounds_toArray, List.set_cons_zero, List.set_cons_succ]
          refine wpAnyH_ready (rs := [9]) (by kernel_rfl) (by simp) ?_
          refine AllReadyH.cons (o := { dst := none, op := Op.store 25 (Operand.tmp 8) (Operand.tmp 35), type := 0, pos := "law.go:111", after := #[{ on := 8, ground := Ground.data }, { on := 7, ground := Ground.data }, { on := 7, ground := Ground.chain }, { on := 0, ground := Ground.phase }, { on := 1, ground := Ground.phase }, { on := 2, ground := Ground.phase }, { on := 3, ground := Ground.phase }, { on := 4, ground := Ground.phase }, { on := 5, ground := Ground.phase }, { on := 6, ground := Ground.phase }, { on := 7, ground := Ground.phase }, { on := 8, ground := Ground.phase }], guard := none }) rfl (fun K hK => ?_) AllReadyH.nil
          refine step_store_st (s := zeroS) (s2 := FH) (a2 := a8) (n2 := n8) (c2 := c8) rfl _ _ rfl HZ132.out rfl rfl ?_
          intro y134 z1 z2 z3 z4
          have HB135 : Hid (Below x5.heap.size x5 y134) := z2 _ _ HB132.out HLO107.out
          have HR9 : Hid (StAt y134 D.heap.size FH (.slice a8 n8 c8) ∧ Lns y134 a8 FH.lines ∧ FH.lines.length = n8 ∧ Below x5.heap.size x5 y134) := ⟨z1, ownl_lns (HO133.out.keepOther (fun g hg => z3 g (fun hh => own_st_ne HO133.out (hh ▸ HZ132.out) hg.symm))), HO133.out.len, HB135.out⟩
          clear z1 z2 z3 z4
          (refine hK _ _ (HC5.out.1.after HB135.out) ?_; clear hK K; intro _)
          try simp only [Act.put, List.setIfInBounds_toArray, List.set_cons_zero, List.set_cons_succ]
          refine wpAnyH_done (by kernel_rfl) ?_ _
          go_wp2
          go_meet
          exact ⟨D.heap.size, a8, n8, c8, rfl, HR9.out⟩
    case rest =>
      obtain ⟨b, a8, n8, c8, rfl, HR⟩ := hcut
      have HW : Hid (StAt wc b7 FW (.slice a7 n7 c7) ∧ Lns wc a7 FW.lines) := ⟨HW5.out.1.after HR.out.2.2.2, HW5.out.2.keep HR.out.2.2.2⟩
      have HBW : Hid (Below w.heap.size w wc) := below_next HC5.out.2.2 HR.out.2.2.2
      have HM8 : Hid (n8 * 32 ≤ 140737488351232) := by have h1 := HL8.out; rw [HR.out.2.2.1] at h1; show _ ≤ _; omega
      have HN7M : Hid (n7 ≤ maxLen) := by have h1 := HL7.out; rw [HN7.out] at h1; show _ ≤ _; unfold maxLen; omega
      clear HW5 HC5
      go_wp2_with fail
      refine wp_region_held (S := fun y => StAt y b7 FW (.slice a7 n7 c7) ∧ StAt y b FH (.slice a8 n8 c8)) (by kernel_rfl) ?_
      change wpAnyH _ _ _ _ _ _ _ _ (World.drew _)
      obtain ⟨D, hD⟩ : ∃ D, wc.drew = D := ⟨_, rfl⟩
      have HB0 : Hid (Below wc.heap.size wc D) := by rw [← hD]; exact (Below.refl _ _).drew
      rw [hD]
      clear hD
      refine wpAnyH_take (i := 0) (oi := { dst := some 36, op := Op.load 25 (Operand.tmp 8), type := 25, pos := "law.go:112", after := #[], guard := none }) (v := .agg (stA FH (.slice a8 n8 c8))) rfl (by kernel_rfl) (by kernel_rfl) (by kernel_rfl) (fun _ _ _ h => h) (Or.inl ⟨by rfl, fun y hy => exec_load_st (.tmp 8) rfl rfl hy.2⟩) ⟨HW.out.1.after HB0.out, HR.out.1.after HB0.out⟩ ?_
      simp only [Act.put, List.setIfInBounds_toArray, List.set_cons_zero, List.set_cons_succ]
      refine wpAnyH_take (i := 2) (oi := { dst := some 38, op := Op.move (Operand.tmp 1), type := 45, pos := "law.go:112", after := #[], guard := none }) (v := ?_) rfl (by kernel_rfl) (by kernel_rfl) (by kernel_rfl) (fun _ _ _ h => h) (Or.inl ⟨by rfl, ?_⟩) ⟨HW.out.1.after HB0.out, HR.out.1.after HB0.out⟩ ?_
      rotate_left
      · (intro y hy; go_simp; try (with_reducible rfl))
      simp only [Act.put, List.setIfInBounds_toArray, List.set_cons_zero, List.set_cons_succ]
      refine wpAnyH_take (i := 3) (oi := { dst := some 39, op := Op.move (Operand.tmp 2), type := 3, pos := "law.go:112", after := #[], guard := none }) (v := ?_) rfl (by kernel_rfl) (by kernel_rfl) (by kernel_rfl) (fun _ _ _ h => h) (Or.inl ⟨by rfl, ?_⟩) ⟨HW.out.1.after HB0.out, HR.out.1.after HB0.out⟩ ?_
      rotate_left
      · (intro y hy; go_simp; try (with_reducible rfl))
      simp only [Act.put, List.setIfInBounds_toArray, List.set_cons_zero, List.set_cons_succ]
      refine wpAnyH_take (i := 4) (oi := { dst := some 40, op := Op.slice 45 (Operand.tmp 38) (some (Operand.tmp 39)) none none, type := 45, pos := "law.go:112", after := #[{ on := 2, ground := Ground.data }, { on := 3, ground := Ground.data }], guard := none }) (v := .slice (if ecap = i then ea else ea.map (·.add (i * 10))) (m - i) (ecap - i)) rfl (by kernel_rfl) (by kernel_rfl) (by kernel_rfl) (fun _ _ _ h => h) (Or.inl ⟨by rfl, fun y hy => exec_slice_el (.tmp 38) (.tmp 39) rfl rfl rfl hi⟩) ⟨HW.out.1.after HB0.out, HR.out.1.after HB0.out⟩ ?_
      simp only [Act.put, List.setIfInBounds_toArray, List.set_cons_zero, List.set_cons_succ]
      refine wpAnyH_take (i := 7) (oi := { dst := some 43, op := Op.load 25 (Operand.tmp 7), type := 25, pos := "law.go:112", after := #[], guard := none }) (v := .agg (stA FW (.slice a7 n7 c7))) rfl (by kernel_rfl) (by kernel_rfl) (by kernel_rfl) (fun _ _ _ h => h) (Or.inl ⟨by rfl, fun y hy => exec_load_st (.tmp 7) rfl rfl hy.1⟩) ⟨HW.out.1.after HB0.out, HR.out.1.after HB0.out⟩ ?_
      simp only [Act.put, List.setIfInBounds_toArray, List.set_cons_zero, List.set_cons_succ]
      refine wpAnyH_ready (rs := [1]) (by kernel_rfl) (by simp) ?_
      refine AllReadyH.cons (o := { dst := some 37, op := Op.buildSlice 45 0 #[], type := 45, pos := "law.go:112", after := #[], guard := none }) rfl (fun K hK => ?_) AllReadyH.nil
      go_simp
      obtain ⟨y1, hY⟩ : ∃ Y, D.alloc (.cells #[] 37) = Y := ⟨_, rfl⟩
      rw [hY]
      have hb : Below D.heap.size D y1 := by rw [← hY]; exact (Below.refl _ _).alloc (Nat.le_refl _) _
      have HB2 : Hid (Below wc.heap.size wc y1) := below_next HB0.out hb
      clear hY hb
      (refine hK _ _ ⟨HW.out.1.after HB2.out, HR.out.1.after HB2.out⟩ ?_; clear hK K; intro _)
      try simp only [Act.put, List.setIfInBounds_toArray, List.set_cons_zero, List.set_cons_succ]
      refine wpAnyH_ready (rs := [5]) (by kernel_rfl) (by simp) ?_
      refine AllReadyH.cons (o := { dst := some 41, op := Op.call { callee := Callee.builtin Builtin.append, args := #[Operand.tmp 37, Operand.tmp 40], argTypes := #[45, 45] }, type := 45, pos := "law.go:112", after := #[{ on := 1, ground := Ground.data }, { on := 4, ground := Ground.data }], guard := none }) rfl (fun K hK => ?_) AllReadyH.nil
      refine step_append_fresh rfl _ _ rfl ⟨D.heap.size, 0, none⟩ (if ecap = i then ea else ea.map (·.add (i * 10))) (m - i) (ecap - i) (es.drop i) rfl rfl HDL.out (evs_cut (HES.out.keep (below_next HBW.out HB2.out)) i ecap HLE.out) HAD.out (by omega) ?_
      intro a6 c6 y3 he6 hb6
      have HB4 : Hid (Below wc.heap.size wc y3) := below_next HB2.out hb6
      have HE5 : Hid (EvsIn y3 a6 (es.drop i)) := he6
      clear he6 hb6
      (refine hK _ _ ⟨HW.out.1.after HB4.out, HR.out.1.after HB4.out⟩ ?_; clear hK K; intro _)
      try simp only [Act.put, List.setIfInBounds_toArray, List.set_cons_zero, List.set_cons_succ]
      refine wpAnyH_ready (rs := [6]) (by kernel_rfl) (by simp) ?_
      refine AllReadyH.cons (o := { dst := some 42, op := Op.call { callee := Callee.value (Operand.func 25), args := #[Operand.tmp 36, Operand.tmp 41], argTypes := #[25, 45] }, type := 25, pos := "law.go:112", after := #[{ on := 0, ground := Ground.data }, { on := 5, ground := Ground.data }, { on := 5, ground := Ground.chain }], guard := none }) rfl (fun K hK => ?_) AllReadyH.nil
      go_simp
      refine (fold_any FH (es.drop i) a8 a6 n8 c8 (m - i) c6 _ HR.out.2.2.1 (HR.out.2.1.keep HB4.out) HM8.out HDL.out HE5.out hmi).mono ?_
      rw [HFF.out]
      rintro _ y6 ⟨a9, n9, c9, rfl, ho9, hb9⟩
      obtain rfl : n7 = n9 := HN7.out.symm.trans ho9.len
      have hl9 := ownl_lns ho9
      have HB7 : Hid (Below wc.heap.size wc y6) := below_next HB4.out hb9
      have HE7 : Hid (EvsIn y6 a6 (es.drop i)) := HE5.out.keep hb9
      have HF8 : Hid (Lns y6 a9 FW.lines) := hl9
      clear ho9 hb9 hl9
      (refine hK _ _ ⟨HW.out.1.after HB7.out, HR.out.1.after HB7.out⟩ ?_; clear hK K; intro _)
      try simp only [Act.put, List.setIfInBounds_toArray, List.set_cons_zero, List.set_cons_succ]
      refine wpAnyH_ready (rs := [8]) (by kernel_rfl) (by simp) ?_
      refine AllReadyH.cons (o := { dst := some 44, op := Op.call { callee := Callee.value (Operand.func 18), args := #[Operand.tmp 42, Operand.tmp 43], argTypes := #[25, 25] }, type := 4, pos := "law.go:112", after := #[{ on := 6, ground := Ground.data }, { on := 7, ground := Ground.data }, { on := 6, ground := Ground.chain }], guard := none }) rfl (fun K hK => ?_) AllReadyH.nil
      go_simp
      refine (ssame_yes FW a9 a7 n7 c9 c7 _ HN7.out HF8.out (HW.out.2.keep HB7.out) HN7M.out).mono ?_
      rintro _ y9 ⟨rfl, hb10⟩
      have HB10 : Hid (Below wc.heap.size wc y9) := below_next HB7.out hb10
      have HE10 : Hid (EvsIn y9 a6 (es.drop i)) := HE7.out.keep hb10
      have HF10 : Hid (Lns y9 a9 FW.lines) := HF8.out.keep hb10
      clear hb10
      (refine hK _ _ ⟨HW.out.1.after HB10.out, HR.out.1.after HB10.out⟩ ?_; clear hK K; intro _)
      try simp only [Act.put, List.setIfInBounds_toArray, List.set_cons_zero, List.set_cons_succ]
      refine wpAnyH_ready (rs := [9]) (by kernel_rfl) (by simp) ?_
      refine AllReadyH.cons (o := { dst := some 6, op := Op.assign (Operand.tmp 44), type := 4, pos := "law.go:112", after := #[{ on := 8, ground := Ground.data }, { on := 8, ground := Ground.chain }, { on := 0, ground := Ground.phase }, { on := 1, ground := Ground.phase }, { on := 2, ground := Ground.phase }, { on := 3, ground := Ground.phase }, { on := 4, ground := Ground.phase }, { on := 5, ground := Ground.phase }, { on := 6, ground := Ground.phase }, { on := 7, ground := Ground.phase }, { on := 8, ground := Ground.phase }], guard := none }) rfl (fun K hK => ?_) AllReadyH.nil
      go_simp
      (refine hK _ _ ⟨HW.out.1.after HB10.out, HR.out.1.after HB10.out⟩ ?_; clear hK K; intro _)
      try simp only [Act.put, List.setIfInBounds_toArray, List.set_cons_zero, List.set_cons_succ]
      refine wpAnyH_done (by kernel_rfl) ?_ _
      go_wp2
      all_goals (go_ret; exact ⟨rfl, below_next HBW.out HB10.out⟩)
theorem own : ownKnob Tryz.prog.godebug = none := by kernel_rfl
theorem laidOut : laidOutB Tryz.prog = true := by kernel_rfl
set_option maxRecDepth 100000 in
theorem contract (H : Type) (enc : TypeId × Value → H) (W : World) (base : Nat) (args : Array Value) (ds gs : List (DataW H)) (before : List MemPlace)
    (hval : ∀ (j : Nat) t v, Tryz.f8.params[j]? = some t → args[j]? = some v → Value.okWide Tryz.prog W .any base t v)
    (hW : DataW.Whole enc Tryz.prog Tryz.f8.params.toList Rows.orderCutSpec.vars false W args.toList ds gs before)
    (hsz : (DataW.weightsEach Tryz.prog (Tryz.f8.params.toList ++ Rows.orderCutSpec.plain.varTypes Tryz.prog) (ds ++ gs)).all (· ≤ reachBytes) = true) :
    Calls Tryz.prog 8 args W fun e W' => ∃ v, e = .returned v ∧ Rows.orderCutSpec.post enc Tryz.prog Tryz.f8 false true false false W args v W' := by
  have hW' := hW
  obtain ⟨p, q, hA0, hV, rfl, hfz, hnd⟩ := hW
  have hA : DataW.TrodAll enc Tryz.prog W 0 (fun _ => true) true Tryz.f8.params.toList args.toList ds p := hA0
  rw [Tryz.params8] at hA hval hsz
  obtain ⟨v0, vs0, d0, ds0, p0, q0, hargs, rfl, rfl, h0, r0⟩ := trodAll_cons hA
  obtain ⟨v1, vs1, d1, ds1, p1, q1, rfl, rfl, rfl, h1, r1⟩ := trodAll_cons r0
  obtain ⟨v2, vs2, d2, ds2, p2, q2, rfl, rfl, rfl, h2, r2⟩ := trodAll_cons r1
  obtain ⟨rfl, rfl, rfl⟩ := trodAll_nil r2
  obtain rfl : args = #[v0, v1, v2] := by cases args; simp_all
  obtain ⟨rfl, rfl⟩ := trodVars_none hV
  have k0 := h0
  have lt0 : ∀ x ∈ p0, x.block < W.heap.size := by obtain ⟨m, hm⟩ := k0; exact DataW.trod_lt m _ _ _ hm
  obtain ⟨st0, a0, n0, cap0, rfl, hlen0, w0, c0, m0⟩ := open_state (hval 0 25 v0 rfl rfl) h0 hsz (j := 0) rfl rfl
  obtain ⟨a1, len1, cap1, rfl⟩ := okWide_slice Tryz.underlying45 (hval 1 45 v1 rfl rfl)
  have k1 := h1
  have lt1 : ∀ x ∈ p1, x.block < W.heap.size := by obtain ⟨m, hm⟩ := k1; exact DataW.trod_lt m _ _ _ hm
  obtain ⟨l1, hlen1, w1, c1⟩ : ∃ L : List Ev, L.length = len1 ∧ EvsIn W a1 L ∧ (len1 ≤ cap1 ∧ cap1 * 96 ≤ 140737488351232 ∧ (a1 = none → cap1 = 0)) := by
    obtain ⟨fuel, hf⟩ := h1
    obtain ⟨a', l', c', L, hcs, hl, hm, hLl, hfs, hn0, hx⟩ := open_evs hf
    simp [Value.cells] at hcs
    obtain ⟨rfl, rfl, rfl⟩ := hcs
    refine ⟨L, hLl, hfs, hl, ?_, hn0⟩
    rcases hx with hx | ⟨e, s, hx, hes⟩
    · omega
    · have hd : d1 = _ := hx
      have := sized_evs hsz (j := 1) (e := e) (s := s) rfl (by rw [hd]; rfl)
      omega
  obtain ⟨a2, rfl, rfl, rfl, w2⟩ := open_int Tryz.underlying3 (hval 2 3 v2 rfl rfl) h2
  clear hA0
  refine (walk st0 a0 n0 cap0 l1 a1 len1 cap1 a2 W hlen0 w0 c0 m0 hlen1 w1 c1 w2).mono fun e W' ⟨he, bel⟩ => ?_
  subst he
  exact ⟨_, rfl, _, _, _, [], _, [], hW', trodAll_mk1 (shut_bool Tryz.underlying4 _), (trodAll_cons_mk (Below.trod laidOut (by kernel_rfl) (of_decide_eq_true (by kernel_rfl)) k0 bel lt0) (trodAll_cons_mk (Below.trod laidOut (by kernel_rfl) (of_decide_eq_true (by kernel_rfl)) k1 bel lt1) (trodAll_cons_mk (shut_int Tryz.underlying3 w2) trodAll_mk0))), rfl, bel.frame _, fun h => by cases h⟩
set_option maxRecDepth 100000 in
theorem lifted (os : Os) (started : os.Started) (H : Type) (enc : TypeId × Value → H) :
    ReturnsInHanded {} Tryz.checked os 8 .any (Rows.orderCutSpec.pre6 enc Tryz.prog Tryz.f8 Rows.orderCutRow.domain false) (Rows.orderCutSpec.post enc Tryz.prog Tryz.f8 false true false false) := by
  refine returnsInHanded_of_change_sized (C := Tryz.checked) own started (by kernel_rfl) Tryz.func8
    (ChangeSpec.witness6 (enc := enc) (C := Tryz.checked) false ⟨#[], #[.agg #[.int .i64 0, .int .i64 0, .int .i64 0, .int .i64 0, .int .i64 0, .slice none 0 0, .int .i64 0, .int .i64 0, .int .i64 0, .int .i64 0, .int .i64 0, .string ⟨#[]⟩], .slice none 0 0, .int .i64 0], []⟩ 8 (by kernel_rfl) (by kernel_rfl) (by kernel_rfl) (by kernel_rfl)) ?_
  intro W base args ds gs before hval hW _ hsz _
  exact contract H enc W base args ds gs before hval hW hsz
theorem over : Rows.orderCutRow.holds Tryz.pinned (OpenSpec.ofChange Rows.orderCutSpec) :=
  OpenClaim.holds_of_wide 8 Tryz.f8 rfl rfl rfl rfl rfl rfl rfl ⟨rfl, rfl, rfl, rfl, rfl⟩ rfl rfl rfl rfl rfl (by kernel_rfl) Tryz.func8 (by kernel_rfl)
    (of_decide_eq_true (by kernel_rfl)) (by unfold Func.isWrapper; first | (rw [if_pos (by decide +kernel)]; kernel_rfl) | (rw [if_neg (by decide +kernel)]; exact ⟨rfl, rfl⟩))
    (fun os started H enc _ => lifted os started H enc)
theorem proved : Rows.OrderCutSaid := over
end Go.Proofs.YtmjppeljpifjpaaGreat.orderCut
