/- Written, read and gone on, an order is as it was: for every order, every list of events, every cut. -/
import Derived.Test.YtdmncbeloenihaaGreatM39
import Derived.Test.YtdmncbeloenihaaGreatM42
import Derived.Test.YtdmncbeloenihaaGreatC11
import Derived.Test.YtdmncbeloenihaaGreatC10
import Derived.Test.YtdmncbeloenihaaGreatK38
import Derived.SizedLaws
import Derived.ChangeOld
import Derived.Deep.DeepCutAuto
namespace Go.Proofs.YtdmncbeloenihaaGreat.canonThrough
open Go.ChangeShapes Go.WideShapes Go.ChangeAt Go.RowKit
set_option linter.unusedVariables false
set_option linter.unusedSimpArgs false
theorem few {t : St} (h : vldB t = true) : t.lines.length ≤ 16 := (linesB_from (vl_of h).lines).1
set_option maxRecDepth 20000 in
set_option maxHeartbeats 16000000 in
theorem walk (id : Int) (es : List Ev) (ea : Option Addr) (m ecap : Nat) (cut : Int) (w : World) (hid : (Lit.int .i64 id).wf = true)
    (hme : es.length = m) (hes : EvsIn w ea es) (hec : m ≤ ecap ∧ ecap * 96 ≤ 140737488351232 ∧ (ea = none → ecap = 0)) (hcw : (Lit.int .i64 cut).wf = true) :
    Calls Tryz.prog 3 #[.int .i64 id, .slice ea m ecap, .int .i64 cut] w fun r w' => r = .returned (.bool true) ∧ Below w.heap.size w w' := by
  have HM : Hid (es.length = m) := hme
  have HES : Hid (EvsIn w ea es) := hes
  have HAC : Hid (ea = none → ecap = 0) := hec.2.2
  have hmc : m ≤ ecap := hec.1
  have hm96 : m * 96 ≤ 140737488351232 := by omega
  have hml : m ≤ maxLen := by unfold maxLen; omega
  have hmm : m ≤ 140737488351232 := by omega
  have T1 : Hid True := trivial
  clear hme hes hec hcw hid
  by_cases h1 : id < 1
  · have d1 : decide (id < 1) = true := by simpa using h1
    go_enter Tryz.func3, Tryz.ntmps3
    go_wp2_with (first
      | (go_at_call 4; clear T1; refine (head09_any _).mono ?_; rintro _ x1 ⟨rfl, hb1⟩; have HB1 : Hid (Below w.heap.size w x1) := hb1; clear hb1)
      | (go_at_call 4; refine (head09_any _).mono ?_; rintro _ x2 ⟨rfl, hb2⟩; have HB2 : Hid (Below w.heap.size w x2) := below_next HB1.out hb2; clear hb2))
    go_ret
    exact ⟨rfl, HB2.out⟩
  have d1 : decide (id < 1) = false := by simpa using h1
  by_cases h2 : 1099511627776 < id
  · have d2 : decide (1099511627776 < id) = true := by simpa using h2
    go_enter Tryz.func3, Tryz.ntmps3
    go_wp2_with (first
      | (go_at_call 4; clear T1; refine (head09_any _).mono ?_; rintro _ x1 ⟨rfl, hb1⟩; have HB1 : Hid (Below w.heap.size w x1) := hb1; clear hb1)
      | (go_at_call 4; refine (head09_any _).mono ?_; rintro _ x2 ⟨rfl, hb2⟩; have HB2 : Hid (Below w.heap.size w x2) := below_next HB1.out hb2; clear hb2))
    go_ret
    exact ⟨rfl, HB2.out⟩
  have d2 : decide (1099511627776 < id) = false := by simpa using h2
  have HVE : Hid (vldB (empS id) = true) := emp_valid (by omega) (by omega)
  go_enter Tryz.func3, Tryz.ntmps3
  go_upto_region 3 with (go_at_call 4; refine (head09_any _).mono ?_; rintro _ x1 ⟨rfl, hb1⟩; have HB1 : Hid (Below w.heap.size w x1) := hb1; clear hb1)
  go_cut [31] (fun v31 wx => v31 = .bool (decide (cut < 0 ∨ (m : Int) < cut)) ∧ wx = x1)
  case first =>
    by_cases h3 : cut < 0
    · have d3 : decide (cut < 0) = true := by simpa using h3
      go_wp2
      go_meet
      exact ⟨congrArg Value.bool (decide_eq_true (p := cut < 0 ∨ (m : Int) < cut) (.inl h3)).symm, rfl⟩
    · have d3 : decide (cut < 0) = false := by simpa using h3
      by_cases h4 : (m : Int) < cut
      · have d4 : decide ((m : Int) < cut) = true := by simpa using h4
        go_wp2
        go_meet
        exact ⟨congrArg Value.bool (decide_eq_true (p := cut < 0 ∨ (m : Int) < cut) (.inr h4)).symm, rfl⟩
      · have d4 : decide ((m : Int) < cut) = false := by simpa using h4
        go_wp2
        go_meet
        exact ⟨congrArg Value.bool (decide_eq_false (p := cut < 0 ∨ (m : Int) < cut) (by omega)).symm, rfl⟩
  case rest =>
  obtain ⟨rfl, rfl⟩ := hcut
  go_upto_if 31 with fail
  go_cut [2] (fun v2 wx => ∃ i : Nat, i ≤ m ∧ v2 = .int .i64 (i : Int) ∧ wx = wc)
  case first =>
    by_cases h3 : cut < 0 ∨ (m : Int) < cut
    · have d3 : decide (cut < 0 ∨ (m : Int) < cut) = true := decide_eq_true h3
      rw [d3]
      go_wp2
      go_meet
      exact ⟨m, Nat.le_refl _, rfl, rfl⟩
    · have d3 : decide (cut < 0 ∨ (m : Int) < cut) = false := decide_eq_false h3
      rw [d3]
      go_wp2
      go_meet
      exact ⟨cut.toNat, by omega, by congr 1; omega, rfl⟩
  case rest =>
    obtain ⟨i, hi, rfl, rfl⟩ := hcut
    rename World => x1
    obtain ⟨FW, hFW⟩ : ∃ F, foldS (empS id) es = F := ⟨_, rfl⟩
    obtain ⟨FH, hFH⟩ : ∃ F, foldS (empS id) (es.take i) = F := ⟨_, rfl⟩
    have HFW : Hid (foldS (empS id) es = FW) := hFW
    have HFH : Hid (foldS (empS id) (es.take i) = FH) := hFH
    have HFF : Hid (foldS FH (es.drop i) = FW) := by show _ = _; rw [← hFH, ← foldS_append, List.take_append_drop, hFW]
    have hv8 : vldB FH = true := by rw [← hFH]; exact fold_valid _ _ HVE.out
    have hv7 : vldB FW = true := by rw [← hFW]; exact fold_valid _ _ HVE.out
    have HL8 : Hid (FH.lines.length ≤ 16) := few hv8
    have HL7 : Hid (FW.lines.length ≤ 16) := few hv7
    obtain ⟨l, hE⟩ : ∃ l, cenc FH = (l, 0) := ⟨_, if_pos hv8⟩
    have HE : Hid (cenc FH = (l, 0)) := hE
    have HD : Hid (cdec l = (FH, 0)) := by
      have h3 := cdec_back hv8
      have h4 : cenc FH = (ones (sfs FH), 0) := if_pos hv8
      rw [hE] at h4
      rw [(Prod.mk.inj h4).1]; exact h3
    obtain ⟨k, hk⟩ : ∃ k, l.length = k := ⟨_, rfl⟩
    have HKL : Hid (l.length = k) := hk
    have hkm : k ≤ maxLen := by have := cenc_len FH; rw [hE] at this; simp only at this; unfold maxLen; omega
    have HTK : Hid ((es.take i).length = i) := by show _ = _; rw [List.length_take, HM.out]; omega
    have HDL : Hid ((es.drop i).length = m - i) := by show _ = _; rw [List.length_drop, HM.out]
    have HLE : Hid (es.length ≤ ecap) := by show _ ≤ _; rw [HM.out]; exact hmc
    have HAD : Hid ((if ecap = i then ea else ea.map (·.add (i * 10))) = none → ecap - i = 0) := by
      intro h
      split at h
      · have := HAC.out h; omega
      · cases hea : ea with
        | none => have := HAC.out hea; omega
        | some b => rw [hea] at h; cases h
    have hic : i ≤ ecap := by omega
    have him : i ≤ maxLen := by unfold maxLen at hml ⊢; omega
    have hmi : m - i ≤ maxLen := by unfold maxLen at hml ⊢; omega
    have hmi96 : (m - i) * 96 ≤ 140737488355328 := by omega
    clear hFW hFH hE hk hv7 hv8 h1 h2 d1 d2
    go_upto_region 5 with fail
    go_cut [7] (fun v7 wx => ∃ b a8 n8 c8, v7 = .pointer (some ⟨b, 0, none⟩) ∧ Hid (StAt wx b FH (.slice a8 n8 c8) ∧ Lns wx a8 FH.lines ∧ FH.lines.length = n8 ∧ Below x1.heap.size x1 wx))
    case first =>
      refine wp_region_held (S := fun _ => True) (by kernel_rfl) ?_
      change wpAnyH _ _ _ _ _ _ _ _ (World.drew _)
      obtain ⟨D, hD⟩ : ∃ D, x1.drew = D := ⟨_, rfl⟩
      have HB0 : Hid (Below x1.heap.size x1 D) := by rw [← hD]; exact (Below.refl _ _).drew
      rw [hD]
      clear hD
      refine wpAnyH_take (i := 0) (oi := { dst := some 34, op := Op.move (Operand.tmp 0), type := 3, pos := "law.go:106", after := #[], guard := none }) (v := ?_) rfl (by kernel_rfl) (by kernel_rfl) (by kernel_rfl) (fun _ _ _ h => h) (Or.inl ⟨by rfl, ?_⟩) trivial ?_
      rotate_left
      · (intro y hy; go_simp; try (with_reducible rfl))
      simp only [Act.put, List.setIfInBounds_toArray, List.set_cons_zero, List.set_cons_succ]
      refine wpAnyH_take (i := 3) (oi := { dst := some 37, op := Op.move (Operand.tmp 1), type := 22, pos := "law.go:106", after := #[], guard := none }) (v := ?_) rfl (by kernel_rfl) (by kernel_rfl) (by kernel_rfl) (fun _ _ _ h => h) (Or.inl ⟨by rfl, ?_⟩) trivial ?_
      rotate_left
      · (intro y hy; go_simp; try (with_reducible rfl))
      simp only [Act.put, List.setIfInBounds_toArray, List.set_cons_zero, List.set_cons_succ]
      refine wpAnyH_take (i := 4) (oi := { dst := some 38, op := Op.move (Operand.tmp 2), type := 3, pos := "law.go:106", after := #[], guard := none }) (v := ?_) rfl (by kernel_rfl) (by kernel_rfl) (by kernel_rfl) (fun _ _ _ h => h) (Or.inl ⟨by rfl, ?_⟩) trivial ?_
      rotate_left
      · (intro y hy; go_simp; try (with_reducible rfl))
      simp only [Act.put, List.setIfInBounds_toArray, List.set_cons_zero, List.set_cons_succ]
      refine wpAnyH_take (i := 5) (oi := { dst := some 39, op := Op.slice 22 (Operand.tmp 37) none (some (Operand.tmp 38)) none, type := 22, pos := "law.go:106", after := #[{ on := 3, ground := Ground.data }, { on := 4, ground := Ground.data }], guard := none }) (v := .slice ea i ecap) rfl (by kernel_rfl) (by kernel_rfl) (by kernel_rfl) (fun _ _ _ h => h) (Or.inl ⟨by rfl, fun y hy => exec_slice_eh (.tmp 37) (.tmp 38) rfl rfl rfl hic HAC.out⟩) trivial ?_
      simp only [Act.put, List.setIfInBounds_toArray, List.set_cons_zero, List.set_cons_succ]
      refine wpAnyH_ready (rs := [1, 2, 8]) (by kernel_rfl) (by simp) ?_
      refine AllReadyH.cons (o := { dst := some 35, op := Op.call { callee := Callee.value (Operand.func 6), args := #[Operand.tmp 34], argTypes := #[3] }, type := 27, pos := "law.go:106", after := #[{ on := 0, ground := Ground.data }], guard := none }) rfl (fun K hK => ?_) (AllReadyH.cons (o := { dst := some 36, op := Op.buildSlice 22 0 #[], type := 22, pos := "law.go:106", after := #[], guard := none }) rfl (fun K hK => ?_) (AllReadyH.cons (o := { dst := some 7, op := Op.alloc 27, type := 0, pos := "law.go:106", after := #[], guard := none }) rfl (fun K hK => ?_) AllReadyH.nil))
      · go_simp
        refine (empty_any id _).mono ?_
        rintro _ y1 ⟨rfl, hb2⟩
        have HB2 : Hid (Below x1.heap.size x1 y1) := below_next HB0.out hb2
        clear hb2
        (refine hK _ _ trivial ?_; clear hK K; intro _)
        try simp only [Act.put, List.setIfInBounds_toArray, List.set_cons_zero, List.set_cons_succ]
        refine wpAnyH_ready (rs := [2, 8]) (by kernel_rfl) (by simp) ?_
        refine AllReadyH.cons (o := { dst := some 36, op := Op.buildSlice 22 0 #[], type := 22, pos := "law.go:106", after := #[], guard := none }) rfl (fun K hK => ?_) (AllReadyH.cons (o := { dst := some 7, op := Op.alloc 27, type := 0, pos := "law.go:106", after := #[], guard := none }) rfl (fun K hK => ?_) AllReadyH.nil)
        · go_simp
          obtain ⟨y3, hY⟩ : ∃ Y, y1.alloc (.cells #[] 48) = Y := ⟨_, rfl⟩
          rw [hY]
          have hb : Below y1.heap.size y1 y3 := by rw [← hY]; exact (Below.refl _ _).alloc (Nat.le_refl _) _
          have HB4 : Hid (Below x1.heap.size x1 y3) := below_next HB2.out hb
          clear hY hb
          (refine hK _ _ trivial ?_; clear hK K; intro _)
          try simp only [Act.put, List.setIfInBounds_toArray, List.set_cons_zero, List.set_cons_succ]
          refine wpAnyH_ready (rs := [6, 8]) (by kernel_rfl) (by simp) ?_
          refine AllReadyH.cons (o := { dst := some 40, op := Op.call { callee := Callee.builtin Builtin.append, args := #[Operand.tmp 36, Operand.tmp 39], argTypes := #[22, 22] }, type := 22, pos := "law.go:106", after := #[{ on := 2, ground := Ground.data }, { on := 5, ground := Ground.data }, { on := 1, ground := Ground.chain }], guard := none }) rfl (fun K hK => ?_) (AllReadyH.cons (o := { dst := some 7, op := Op.alloc 27, type := 0, pos := "law.go:106", after := #[], guard := none }) rfl (fun K hK => ?_) AllReadyH.nil)
          · refine step_append_fresh rfl _ _ rfl ⟨y1.heap.size, 0, none⟩ ea i ecap (es.take i) rfl rfl HTK.out ((HES.out.keep (below_next HB1.out HB4.out)).take i) HAC.out (by omega) ?_
            intro a6 c6 y5 he6 hb6
            have HB6 : Hid (Below x1.heap.size x1 y5) := below_next HB4.out hb6
            have HE7 : Hid (EvsIn y5 a6 (es.take i)) := he6
            clear he6 hb6
            (refine hK _ _ trivial ?_; clear hK K; intro _)
            try simp only [Act.put, List.setIfInBounds_toArray, List.set_cons_zero, List.set_cons_succ]
            refine wpAnyH_ready (rs := [7, 8]) (by kernel_rfl) (by simp) ?_
            refine AllReadyH.cons (o := { dst := some 41, op := Op.call { callee := Callee.value (Operand.func 5), args := #[Operand.tmp 35, Operand.tmp 40], argTypes := #[27, 22] }, type := 27, pos := "law.go:106", after := #[{ on := 1, ground := Ground.data }, { on := 6, ground := Ground.data }, { on := 6, ground := Ground.chain }], guard := none }) rfl (fun K hK => ?_) (AllReadyH.cons (o := { dst := some 7, op := Op.alloc 27, type := 0, pos := "law.go:106", after := #[], guard := none }) rfl (fun K hK => ?_) AllReadyH.nil)
            · go_simp
              refine (fold_any (empS id) (es.take i) none a6 0 0 i c6 _ rfl (.inl rfl) (by decide) HTK.out HE7.out him).mono ?_
              rw [HFH.out]
              rintro _ y8 ⟨a8, n8, c8, rfl, ho8, hb8⟩
              have HB9 : Hid (Below x1.heap.size x1 y8) := below_next HB6.out hb8
              have HE9 : Hid (EvsIn y8 a6 (es.take i)) := HE7.out.keep hb8
              have HO10 : Hid (OwnL y8 y5.heap.size (.slice a8 n8 c8) FH.lines) := ho8
              clear ho8 hb8
              (refine hK _ _ trivial ?_; clear hK K; intro _)
              try simp only [Act.put, List.setIfInBounds_toArray, List.set_cons_zero, List.set_cons_succ]
              refine wpAnyH_ready (rs := [8]) (by kernel_rfl) (by simp) ?_
              refine AllReadyH.cons (o := { dst := some 7, op := Op.alloc 27, type := 0, pos := "law.go:106", after := #[], guard := none }) rfl (fun K hK => ?_) AllReadyH.nil
              go_simp
              obtain ⟨y11, hY⟩ : ∃ Y, y8.alloc (.cells #[.int .i64 0, .int .i64 0, .int .i64 0, .int .i64 0, .int .i64 0, .slice none 0 0, .int .i64 0, .int .i64 0, .int .i64 0, .int .i64 0, .int .i64 0, .string ⟨#[]⟩] 27) = Y := ⟨_, rfl⟩
              rw [hY]
              have hb : Below y8.heap.size y8 y11 := by rw [← hY]; exact (Below.refl _ _).alloc (Nat.le_refl _) _
              have HLO12 : Hid (x1.heap.size ≤ y8.heap.size) := HB9.out.size
              have HB13 : Hid (Below x1.heap.size x1 y11) := below_next HB9.out hb
              have HE13 : Hid (EvsIn y11 a6 (es.take i)) := HE9.out.keep hb
              have HO13 : Hid (OwnL y11 y5.heap.size (.slice a8 n8 c8) FH.lines) := HO10.out.keep hb
              have HZ14 : Hid (StAt y11 y8.heap.size zeroS (.slice none 0 0)) := by rw [← hY]; exact StAt.new y8 zeroS _
              clear hY hb
              (refine hK _ _ trivial ?_; clear hK K; intro _)
              try simp only [Act.put, List.setIfInBounds_toArray, List.set_cons_zero, List.set_cons_succ]
              refine wpAnyH_ready (rs := [9]) (by kernel_rfl) (by simp) ?_
              refine AllReadyH.cons (o := { dst := none, op := Op.store 27 (Operand.tmp 7) (Operand.tmp 41), type := 0, pos := "law.go:106", after := #[{ on := 8, ground := Ground.data }, { on := 7, ground := Ground.data }, { on := 7, ground := Ground.chain }, { on := 0, ground := Ground.phase }, { on := 1, ground := Ground.phase }, { on := 2, ground := Ground.phase }, { on := 3, ground := Ground.phase }, { on := 4, ground := Ground.phase }, { on := 5, ground := Ground.phase }, { on := 6, ground := Ground.phase }, { on := 7, ground := Ground.phase }, { on := 8, ground := Ground.phase }], guard := none }) rfl (fun K hK => ?_) AllReadyH.nil
              refine step_store_st (s := zeroS) (s2 := FH) (a2 := a8) (n2 := n8) (c2 := c8) rfl _ _ rfl HZ14.out rfl rfl ?_
              intro y15 z1 z2 z3 z4
              have HB16 : Hid (Below x1.heap.size x1 y15) := z2 _ _ HB13.out HLO12.out
              have HR9 : Hid (StAt y15 y8.heap.size FH (.slice a8 n8 c8) ∧ Lns y15 a8 FH.lines ∧ FH.lines.length = n8 ∧ Below x1.heap.size x1 y15) := ⟨z1, ownl_lns (HO13.out.keepOther (fun g hg => z3 g (fun hh => own_st_ne HO13.out (hh ▸ HZ14.out) hg.symm))), HO13.out.len, HB16.out⟩
              clear z1 z2 z3 z4
              (refine hK _ _ trivial ?_; clear hK K; intro _)
              try simp only [Act.put, List.setIfInBounds_toArray, List.set_cons_zero, List.set_cons_succ]
              refine wpAnyH_done (by kernel_rfl) ?_ _
              go_wp2
              go_meet
              exact ⟨y8.heap.size, a8, n8, c8, rfl, HR9.out⟩
            · go_simp
              obtain ⟨y17, hY⟩ : ∃ Y, y5.alloc (.cells #[.int .i64 0, .int .i64 0, .int .i64 0, .int .i64 0, .int .i64 0, .slice none 0 0, .int .i64 0, .int .i64 0, .int .i64 0, .int .i64 0, .int .i64 0, .string ⟨#[]⟩] 27) = Y := ⟨_, rfl⟩
              rw [hY]
              have hb : Below y5.heap.size y5 y17 := by rw [← hY]; exact (Below.refl _ _).alloc (Nat.le_refl _) _
              have HLO18 : Hid (x1.heap.size ≤ y5.heap.size) := HB6.out.size
              have HB19 : Hid (Below x1.heap.size x1 y17) := below_next HB6.out hb
              have HE19 : Hid (EvsIn y17 a6 (es.take i)) := HE7.out.keep hb
              have HZ20 : Hid (StAt y17 y5.heap.size zeroS (.slice none 0 0)) := by rw [← hY]; exact StAt.new y5 zeroS _
              clear hY hb
              (refine hK _ _ trivial ?_; clear hK K; intro _)
              try simp only [Act.put, List.setIfInBounds_toArray, List.set_cons_zero, List.set_cons_succ]
              refine wpAnyH_ready (rs := [7]) (by kernel_rfl) (by simp) ?_
              refine AllReadyH.cons (o := { dst := some 41, op := Op.call { callee := Callee.value (Operand.func 5), args := #[Operand.tmp 35, Operand.tmp 40], argTypes := #[27, 22] }, type := 27, pos := "law.go:106", after := #[{ on := 1, ground := Ground.data }, { on := 6, ground := Ground.data }, { on := 6, ground := Ground.chain }], guard := none }) rfl (fun K hK => ?_) AllReadyH.nil
              go_simp
              refine (fold_any (empS id) (es.take i) none a6 0 0 i c6 _ rfl (.inl rfl) (by decide) HTK.out HE19.out him).mono ?_
              rw [HFH.out]
              rintro _ y21 ⟨a8, n8, c8, rfl, ho8, hb8⟩
              have HB22 : Hid (Below x1.heap.size x1 y21) := below_next HB19.out hb8
              have HE22 : Hid (EvsIn y21 a6 (es.take i)) := HE19.out.keep hb8
              have HZ22 : Hid (StAt y21 y5.heap.size zeroS (.slice none 0 0)) := HZ20.out.after hb8
              have HO23 : Hid (OwnL y21 y17.heap.size (.slice a8 n8 c8) FH.lines) := ho8
              clear ho8 hb8
              (refine hK _ _ trivial ?_; clear hK K; intro _)
              try simp only [Act.put, List.setIfInBounds_toArray, List.set_cons_zero, List.set_cons_succ]
              refine wpAnyH_ready (rs := [9]) (by kernel_rfl) (by simp) ?_
              refine AllReadyH.cons (o := { dst := none, op := Op.store 27 (Operand.tmp 7) (Operand.tmp 41), type := 0, pos := "law.go:106", after := #[{ on := 8, ground := Ground.data }, { on := 7, ground := Ground.data }, { on := 7, ground := Ground.chain }, { on := 0, ground := Ground.phase }, { on := 1, ground := Ground.phase }, { on := 2, ground := Ground.phase }, { on := 3, ground := Ground.phase }, { on := 4, ground := Ground.phase }, { on := 5, ground := Ground.phase }, { on := 6, ground := Ground.phase }, { on := 7, ground := Ground.phase }, { on := 8, ground := Ground.phase }], guard := none }) rfl (fun K hK => ?_) AllReadyH.nil
              refine step_store_st (s := zeroS) (s2 := FH) (a2 := a8) (n2 := n8) (c2 := c8) rfl _ _ rfl HZ22.out rfl rfl ?_
              intro y24 z1 z2 z3 z4
              have HB25 : Hid (Below x1.heap.size x1 y24) := z2 _ _ HB22.out HLO18.out
              have HR9 : Hid (StAt y24 y5.heap.size FH (.slice a8 n8 c8) ∧ Lns y24 a8 FH.lines ∧ FH.lines.length = n8 ∧ Below x1.heap.size x1 y24) := ⟨z1, ownl_lns (HO23.out.keepOther (fun g hg => z3 g (fun hh => own_st_ne HO23.out (hh ▸ HZ22.out) hg.symm))), HO23.out.len, HB25.out⟩
              clear z1 z2 z3 z4
              (refine hK _ _ trivial ?_; clear hK K; intro _)
              try simp only [Act.put, List.setIfInBounds_toArray, List.set_cons_zero, List.set_cons_succ]
              refine wpAnyH_done (by kernel_rfl) ?_ _
              go_wp2
              go_meet
              exact ⟨y5.heap.size, a8, n8, c8, rfl, HR9.out⟩
          · go_simp
            obtain ⟨y26, hY⟩ : ∃ Y, y3.alloc (.cells #[.int .i64 0, .int .i64 0, .int .i64 0, .int .i64 0, .int .i64 0, .slice none 0 0, .int .i64 0, .int .i64 0, .int .i64 0, .int .i64 0, .int .i64 0, .string ⟨#[]⟩] 27) = Y := ⟨_, rfl⟩
            rw [hY]
            have hb : Below y3.heap.size y3 y26 := by rw [← hY]; exact (Below.refl _ _).alloc (Nat.le_refl _) _
            have HLO27 : Hid (x1.heap.size ≤ y3.heap.size) := HB4.out.size
            have HB28 : Hid (Below x1.heap.size x1 y26) := below_next HB4.out hb
            have HZ29 : Hid (StAt y26 y3.heap.size zeroS (.slice none 0 0)) := by rw [← hY]; exact StAt.new y3 zeroS _
            clear hY hb
            (refine hK _ _ trivial ?_; clear hK K; intro _)
            try simp only [Act.put, List.setIfInBounds_toArray, List.set_cons_zero, List.set_cons_succ]
            refine wpAnyH_ready (rs := [6]) (by kernel_rfl) (by simp) ?_
            refine AllReadyH.cons (o := { dst := some 40, op := Op.call { callee := Callee.builtin Builtin.append, args := #[Operand.tmp 36, Operand.tmp 39], argTypes := #[22, 22] }, type := 22, pos := "law.go:106", after := #[{ on := 2, ground := Ground.data }, { on := 5, ground := Ground.data }, { on := 1, ground := Ground.chain }], guard := none }) rfl (fun K hK => ?_) AllReadyH.nil
            refine step_append_fresh rfl _ _ rfl ⟨y1.heap.size, 0, none⟩ ea i ecap (es.take i) rfl rfl HTK.out ((HES.out.keep (below_next HB1.out HB28.out)).take i) HAC.out (by omega) ?_
            intro a6 c6 y30 he6 hb6
            have HB31 : Hid (Below x1.heap.size x1 y30) := below_next HB28.out hb6
            have HZ31 : Hid (StAt y30 y3.heap.size zeroS (.slice none 0 0)) := HZ29.out.after hb6
            have HE32 : Hid (EvsIn y30 a6 (es.take i)) := he6
            clear he6 hb6
            (refine hK _ _ trivial ?_; clear hK K; intro _)
            try simp only [Act.put, List.setIfInBounds_toArray, List.set_cons_zero, List.set_cons_succ]
            refine wpAnyH_ready (rs := [7]) (by kernel_rfl) (by simp) ?_
            refine AllReadyH.cons (o := { dst := some 41, op := Op.call { callee := Callee.value (Operand.func 5), args := #[Operand.tmp 35, Operand.tmp 40], argTypes := #[27, 22] }, type := 27, pos := "law.go:106", after := #[{ on := 1, ground := Ground.data }, { on := 6, ground := Ground.data }, { on := 6, ground := Ground.chain }], guard := none }) rfl (fun K hK => ?_) AllReadyH.nil
            go_simp
            refine (fold_any (empS id) (es.take i) none a6 0 0 i c6 _ rfl (.inl rfl) (by decide) HTK.out HE32.out him).mono ?_
            rw [HFH.out]
            rintro _ y33 ⟨a8, n8, c8, rfl, ho8, hb8⟩
            have HB34 : Hid (Below x1.heap.size x1 y33) := below_next HB31.out hb8
            have HZ34 : Hid (StAt y33 y3.heap.size zeroS (.slice none 0 0)) := HZ31.out.after hb8
            have HE34 : Hid (EvsIn y33 a6 (es.take i)) := HE32.out.keep hb8
            have HO35 : Hid (OwnL y33 y30.heap.size (.slice a8 n8 c8) FH.lines) := ho8
            clear ho8 hb8
            (refine hK _ _ trivial ?_; clear hK K; intro _)
            try simp only [Act.put, List.setIfInBounds_toArray, List.set_cons_zero, List.set_cons_succ]
            refine wpAnyH_ready (rs := [9]) (by kernel_rfl) (by simp) ?_
            refine AllReadyH.cons (o := { dst := none, op := Op.store 27 (Operand.tmp 7) (Operand.tmp 41), type := 0, pos := "law.go:106", after := #[{ on := 8, ground := Ground.data }, { on := 7, ground := Ground.data }, { on := 7, ground := Ground.chain }, { on := 0, ground := Ground.phase }, { on := 1, ground := Ground.phase }, { on := 2, ground := Ground.phase }, { on := 3, ground := Ground.phase }, { on := 4, ground := Ground.phase }, { on := 5, ground := Ground.phase }, { on := 6, ground := Ground.phase }, { on := 7, ground := Ground.phase }, { on := 8, ground := Ground.phase }], guard := none }) rfl (fun K hK => ?_) AllReadyH.nil
            refine step_store_st (s := zeroS) (s2 := FH) (a2 := a8) (n2 := n8) (c2 := c8) rfl _ _ rfl HZ34.out rfl rfl ?_
            intro y36 z1 z2 z3 z4
            have HB37 : Hid (Below x1.heap.size x1 y36) := z2 _ _ HB34.out HLO27.out
            have HR9 : Hid (StAt y36 y3.heap.size FH (.slice a8 n8 c8) ∧ Lns y36 a8 FH.lines ∧ FH.lines.length = n8 ∧ Below x1.heap.size x1 y36) := ⟨z1, ownl_lns (HO35.out.keepOther (fun g hg => z3 g (fun hh => own_st_ne HO35.out (hh ▸ HZ34.out) hg.symm))), HO35.out.len, HB37.out⟩
            clear z1 z2 z3 z4
            (refine hK _ _ trivial ?_; clear hK K; intro _)
            try simp only [Act.put, List.setIfInBounds_toArray, List.set_cons_zero, List.set_cons_succ]
            refine wpAnyH_done (by kernel_rfl) ?_ _
            go_wp2
            go_meet
            exact ⟨y3.heap.size, a8, n8, c8, rfl, HR9.out⟩
        · go_simp
          obtain ⟨y38, hY⟩ : ∃ Y, y1.alloc (.cells #[.int .i64 0, .int .i64 0, .int .i64 0, .int .i64 0, .int .i64 0, .slice none 0 0, .int .i64 0, .int .i64 0, .int .i64 0, .int .i64 0, .int .i64 0, .string ⟨#[]⟩] 27) = Y := ⟨_, rfl⟩
          rw [hY]
          have hb : Below y1.heap.size y1 y38 := by rw [← hY]; exact (Below.refl _ _).alloc (Nat.le_refl _) _
          have HLO39 : Hid (x1.heap.size ≤ y1.heap.size) := HB2.out.size
          have HB40 : Hid (Below x1.heap.size x1 y38) := below_next HB2.out hb
          have HZ41 : Hid (StAt y38 y1.heap.size zeroS (.slice none 0 0)) := by rw [← hY]; exact StAt.new y1 zeroS _
          clear hY hb
          (refine hK _ _ trivial ?_; clear hK K; intro _)
          try simp only [Act.put, List.setIfInBounds_toArray, List.set_cons_zero, List.set_cons_succ]
          refine wpAnyH_ready (rs := [2]) (by kernel_rfl) (by simp) ?_
          refine AllReadyH.cons (o := { dst := some 36, op := Op.buildSlice 22 0 #[], type := 22, pos := "law.go:106", after := #[], guard := none }) rfl (fun K hK => ?_) AllReadyH.nil
          go_simp
          obtain ⟨y42, hY⟩ : ∃ Y, y38.alloc (.cells #[] 48) = Y := ⟨_, rfl⟩
          rw [hY]
          have hb : Below y38.heap.size y38 y42 := by rw [← hY]; exact (Below.refl _ _).alloc (Nat.le_refl _) _
          have HB43 : Hid (Below x1.heap.size x1 y42) := below_next HB40.out hb
          have HZ43 : Hid (StAt y42 y1.heap.size zeroS (.slice none 0 0)) := HZ41.out.after hb
          clear hY hb
          (refine hK _ _ trivial ?_; clear hK K; intro _)
          try simp only [Act.put, List.setIfInBounds_toArray, List.set_cons_zero, List.set_cons_succ]
          refine wpAnyH_ready (rs := [6]) (by kernel_rfl) (by simp) ?_
          refine AllReadyH.cons (o := { dst := some 40, op := Op.call { callee := Callee.builtin Builtin.append, args := #[Operand.tmp 36, Operand.tmp 39], argTypes := #[22, 22] }, type := 22, pos := "law.go:106", after := #[{ on := 2, ground := Ground.data }, { on := 5, ground := Ground.data }, { on := 1, ground := Ground.chain }], guard := none }) rfl (fun K hK => ?_) AllReadyH.nil
          refine step_append_fresh rfl _ _ rfl ⟨y38.heap.size, 0, none⟩ ea i ecap (es.take i) rfl rfl HTK.out ((HES.out.keep (below_next HB1.out HB43.out)).take i) HAC.out (by omega) ?_
          intro a6 c6 y44 he6 hb6
          have HB45 : Hid (Below x1.heap.size x1 y44) := below_next HB43.out hb6
          have HZ45 : Hid (StAt y44 y1.heap.size zeroS (.slice none 0 0)) := HZ43.out.after hb6
          have HE46 : Hid (EvsIn y44 a6 (es.take i)) := he6
          clear he6 hb6
          (refine hK _ _ trivial ?_; clear hK K; intro _)
          try simp only [Act.put, List.setIfInBounds_toArray, List.set_cons_zero, List.set_cons_succ]
          refine wpAnyH_ready (rs := [7]) (by kernel_rfl) (by simp) ?_
          refine AllReadyH.cons (o := { dst := some 41, op := Op.call { callee := Callee.value (Operand.func 5), args := #[Operand.tmp 35, Operand.tmp 40], argTypes := #[27, 22] }, type := 27, pos := "law.go:106", after := #[{ on := 1, ground := Ground.data }, { on := 6, ground := Ground.data }, { on := 6, ground := Ground.chain }], guard := none }) rfl (fun K hK => ?_) AllReadyH.nil
          go_simp
          refine (fold_any (empS id) (es.take i) none a6 0 0 i c6 _ rfl (.inl rfl) (by decide) HTK.out HE46.out him).mono ?_
          rw [HFH.out]
          rintro _ y47 ⟨a8, n8, c8, rfl, ho8, hb8⟩
          have HB48 : Hid (Below x1.heap.size x1 y47) := below_next HB45.out hb8
          have HZ48 : Hid (StAt y47 y1.heap.size zeroS (.slice none 0 0)) := HZ45.out.after hb8
          have HE48 : Hid (EvsIn y47 a6 (es.take i)) := HE46.out.keep hb8
          have HO49 : Hid (OwnL y47 y44.heap.size (.slice a8 n8 c8) FH.lines) := ho8
          clear ho8 hb8
          (refine hK _ _ trivial ?_; clear hK K; intro _)
          try simp only [Act.put, List.setIfInBounds_toArray, List.set_cons_zero, List.set_cons_succ]
          refine wpAnyH_ready (rs := [9]) (by kernel_rfl) (by simp) ?_
          refine AllReadyH.cons (o := { dst := none, op := Op.store 27 (Operand.tmp 7) (Operand.tmp 41), type := 0, pos := "law.go:106", after := #[{ on := 8, ground := Ground.data }, { on := 7, ground := Ground.data }, { on := 7, ground := Ground.chain }, { on := 0, ground := Ground.phase }, { on := 1, ground := Ground.phase }, { on := 2, ground := Ground.phase }, { on := 3, ground := Ground.phase }, { on := 4, ground := Ground.phase }, { on := 5, ground := Ground.phase }, { on := 6, ground := Ground.phase }, { on := 7, ground := Ground.phase }, { on := 8, ground := Ground.phase }], guard := none }) rfl (fun K hK => ?_) AllReadyH.nil
          refine step_store_st (s := zeroS) (s2 := FH) (a2 := a8) (n2 := n8) (c2 := c8) rfl _ _ rfl HZ48.out rfl rfl ?_
          intro y50 z1 z2 z3 z4
          have HB51 : Hid (Below x1.heap.size x1 y50) := z2 _ _ HB48.out HLO39.out
          have HR9 : Hid (StAt y50 y1.heap.size FH (.slice a8 n8 c8) ∧ Lns y50 a8 FH.lines ∧ FH.lines.length = n8 ∧ Below x1.heap.size x1 y50) := ⟨z1, ownl_lns (HO49.out.keepOther (fun g hg => z3 g (fun hh => own_st_ne HO49.out (hh ▸ HZ48.out) hg.symm))), HO49.out.len, HB51.out⟩
          clear z1 z2 z3 z4
          (refine hK _ _ trivial ?_; clear hK K; intro _)
          try simp only [Act.put, List.setIfInBounds_toArray, List.set_cons_zero, List.set_cons_succ]
          refine wpAnyH_done (by kernel_rfl) ?_ _
          go_wp2
          go_meet
          exact ⟨y1.heap.size, a8, n8, c8, rfl, HR9.out⟩
      · go_simp
        obtain ⟨y52, hY⟩ : ∃ Y, D.alloc (.cells #[] 48) = Y := ⟨_, rfl⟩
        rw [hY]
        have hb : Below D.heap.size D y52 := by rw [← hY]; exact (Below.refl _ _).alloc (Nat.le_refl _) _
        have HB53 : Hid (Below x1.heap.size x1 y52) := below_next HB0.out hb
        clear hY hb
        (refine hK _ _ trivial ?_; clear hK K; intro _)
        try simp only [Act.put, List.setIfInBounds_toArray, List.set_cons_zero, List.set_cons_succ]
        refine wpAnyH_ready (rs := [1, 8]) (by kernel_rfl) (by simp) ?_
        refine AllReadyH.cons (o := { dst := some 35, op := Op.call { callee := Callee.value (Operand.func 6), args := #[Operand.tmp 34], argTypes := #[3] }, type := 27, pos := "law.go:106", after := #[{ on := 0, ground := Ground.data }], guard := none }) rfl (fun K hK => ?_) (AllReadyH.cons (o := { dst := some 7, op := Op.alloc 27, type := 0, pos := "law.go:106", after := #[], guard := none }) rfl (fun K hK => ?_) AllReadyH.nil)
        · go_simp
          refine (empty_any id _).mono ?_
          rintro _ y54 ⟨rfl, hb2⟩
          have HB55 : Hid (Below x1.heap.size x1 y54) := below_next HB53.out hb2
          clear hb2
          (refine hK _ _ trivial ?_; clear hK K; intro _)
          try simp only [Act.put, List.setIfInBounds_toArray, List.set_cons_zero, List.set_cons_succ]
          refine wpAnyH_ready (rs := [6, 8]) (by kernel_rfl) (by simp) ?_
          refine AllReadyH.cons (o := { dst := some 40, op := Op.call { callee := Callee.builtin Builtin.append, args := #[Operand.tmp 36, Operand.tmp 39], argTypes := #[22, 22] }, type := 22, pos := "law.go:106", after := #[{ on := 2, ground := Ground.data }, { on := 5, ground := Ground.data }, { on := 1, ground := Ground.chain }], guard := none }) rfl (fun K hK => ?_) (AllReadyH.cons (o := { dst := some 7, op := Op.alloc 27, type := 0, pos := "law.go:106", after := #[], guard := none }) rfl (fun K hK => ?_) AllReadyH.nil)
          · refine step_append_fresh rfl _ _ rfl ⟨D.heap.size, 0, none⟩ ea i ecap (es.take i) rfl rfl HTK.out ((HES.out.keep (below_next HB1.out HB55.out)).take i) HAC.out (by omega) ?_
            intro a6 c6 y56 he6 hb6
            have HB57 : Hid (Below x1.heap.size x1 y56) := below_next HB55.out hb6
            have HE58 : Hid (EvsIn y56 a6 (es.take i)) := he6
            clear he6 hb6
            (refine hK _ _ trivial ?_; clear hK K; intro _)
            try simp only [Act.put, List.setIfInBounds_toArray, List.set_cons_zero, List.set_cons_succ]
            refine wpAnyH_ready (rs := [7, 8]) (by kernel_rfl) (by simp) ?_
            refine AllReadyH.cons (o := { dst := some 41, op := Op.call { callee := Callee.value (Operand.func 5), args := #[Operand.tmp 35, Operand.tmp 40], argTypes := #[27, 22] }, type := 27, pos := "law.go:106", after := #[{ on := 1, ground := Ground.data }, { on := 6, ground := Ground.data }, { on := 6, ground := Ground.chain }], guard := none }) rfl (fun K hK => ?_) (AllReadyH.cons (o := { dst := some 7, op := Op.alloc 27, type := 0, pos := "law.go:106", after := #[], guard := none }) rfl (fun K hK => ?_) AllReadyH.nil)
            · go_simp
              refine (fold_any (empS id) (es.take i) none a6 0 0 i c6 _ rfl (.inl rfl) (by decide) HTK.out HE58.out him).mono ?_
              rw [HFH.out]
              rintro _ y59 ⟨a8, n8, c8, rfl, ho8, hb8⟩
              have HB60 : Hid (Below x1.heap.size x1 y59) := below_next HB57.out hb8
              have HE60 : Hid (EvsIn y59 a6 (es.take i)) := HE58.out.keep hb8
              have HO61 : Hid (OwnL y59 y56.heap.size (.slice a8 n8 c8) FH.lines) := ho8
              clear ho8 hb8
              (refine hK _ _ trivial ?_; clear hK K; intro _)
              try simp only [Act.put, List.setIfInBounds_toArray, List.set_cons_zero, List.set_cons_succ]
              refine wpAnyH_ready (rs := [8]) (by kernel_rfl) (by simp) ?_
              refine AllReadyH.cons (o := { dst := some 7, op := Op.alloc 27, type := 0, pos := "law.go:106", after := #[], guard := none }) rfl (fun K hK => ?_) AllReadyH.nil
              go_simp
              obtain ⟨y62, hY⟩ : ∃ Y, y59.alloc (.cells #[.int .i64 0, .int .i64 0, .int .i64 0, .int .i64 0, .int .i64 0, .slice none 0 0, .int .i64 0, .int .i64 0, .int .i64 0, .int .i64 0, .int .i64 0, .string ⟨#[]⟩] 27) = Y := ⟨_, rfl⟩
              rw [hY]
              have hb : Below y59.heap.size y59 y62 := by rw [← hY]; exact (Below.refl _ _).alloc (Nat.le_refl _) _
              have HLO63 : Hid (x1.heap.size ≤ y59.heap.size) := HB60.out.size
              have HB64 : Hid (Below x1.heap.size x1 y62) := below_next HB60.out hb
              have HE64 : Hid (EvsIn y62 a6 (es.take i)) := HE60.out.keep hb
              have HO64 : Hid (OwnL y62 y56.heap.size (.slice a8 n8 c8) FH.lines) := HO61.out.keep hb
              have HZ65 : Hid (StAt y62 y59.heap.size zeroS (.slice none 0 0)) := by rw [← hY]; exact StAt.new y59 zeroS _
              clear hY hb
              (refine hK _ _ trivial ?_; clear hK K; intro _)
              try simp only [Act.put, List.setIfInBounds_toArray, List.set_cons_zero, List.set_cons_succ]
              refine wpAnyH_ready (rs := [9]) (by kernel_rfl) (by simp) ?_
              refine AllReadyH.cons (o := { dst := none, op := Op.store 27 (Operand.tmp 7) (Operand.tmp 41), type := 0, pos := "law.go:106", after := #[{ on := 8, ground := Ground.data }, { on := 7, ground := Ground.data }, { on := 7, ground := Ground.chain }, { on := 0, ground := Ground.phase }, { on := 1, ground := Ground.phase }, { on := 2, ground := Ground.phase }, { on := 3, ground := Ground.phase }, { on := 4, ground := Ground.phase }, { on := 5, ground := Ground.phase }, { on := 6, ground := Ground.phase }, { on := 7, ground := Ground.phase }, { on := 8, ground := Ground.phase }], guard := none }) rfl (fun K hK => ?_) AllReadyH.nil
              refine step_store_st (s := zeroS) (s2 := FH) (a2 := a8) (n2 := n8) (c2 := c8) rfl _ _ rfl HZ65.out rfl rfl ?_
              intro y66 z1 z2 z3 z4
              have HB67 : Hid (Below x1.heap.size x1 y66) := z2 _ _ HB64.out HLO63.out
              have HR9 : Hid (StAt y66 y59.heap.size FH (.slice a8 n8 c8) ∧ Lns y66 a8 FH.lines ∧ FH.lines.length = n8 ∧ Below x1.heap.size x1 y66) := ⟨z1, ownl_lns (HO64.out.keepOther (fun g hg => z3 g (fun hh => own_st_ne HO64.out (hh ▸ HZ65.out) hg.symm))), HO64.out.len, HB67.out⟩
              clear z1 z2 z3 z4
              (refine hK _ _ trivial ?_; clear hK K; intro _)
              try simp only [Act.put, List.setIfInBounds_toArray, List.set_cons_zero, List.set_cons_succ]
              refine wpAnyH_done (by kernel_rfl) ?_ _
              go_wp2
              go_meet
              exact ⟨y59.heap.size, a8, n8, c8, rfl, HR9.out⟩
            · go_simp
              obtain ⟨y68, hY⟩ : ∃ Y, y56.alloc (.cells #[.int .i64 0, .int .i64 0, .int .i64 0, .int .i64 0, .int .i64 0, .slice none 0 0, .int .i64 0, .int .i64 0, .int .i64 0, .int .i64 0, .int .i64 0, .string ⟨#[]⟩] 27) = Y := ⟨_, rfl⟩
              rw [hY]
              have hb : Below y56.heap.size y56 y68 := by rw [← hY]; exact (Below.refl _ _).alloc (Nat.le_refl _) _
              have HLO69 : Hid (x1.heap.size ≤ y56.heap.size) := HB57.out.size
              have HB70 : Hid (Below x1.heap.size x1 y68) := below_next HB57.out hb
              have HE70 : Hid (EvsIn y68 a6 (es.take i)) := HE58.out.keep hb
              have HZ71 : Hid (StAt y68 y56.heap.size zeroS (.slice none 0 0)) := by rw [← hY]; exact StAt.new y56 zeroS _
              clear hY hb
              (refine hK _ _ trivial ?_; clear hK K; intro _)
              try simp only [Act.put, List.setIfInBounds_toArray, List.set_cons_zero, List.set_cons_succ]
              refine wpAnyH_ready (rs := [7]) (by kernel_rfl) (by simp) ?_
              refine AllReadyH.cons (o := { dst := some 41, op := Op.call { callee := Callee.value (Operand.func 5), args := #[Operand.tmp 35, Operand.tmp 40], argTypes := #[27, 22] }, type := 27, pos := "law.go:106", after := #[{ on := 1, ground := Ground.data }, { on := 6, ground := Ground.data }, { on := 6, ground := Ground.chain }], guard := none }) rfl (fun K hK => ?_) AllReadyH.nil
              go_simp
              refine (fold_any (empS id) (es.take i) none a6 0 0 i c6 _ rfl (.inl rfl) (by decide) HTK.out HE70.out him).mono ?_
              rw [HFH.out]
              rintro _ y72 ⟨a8, n8, c8, rfl, ho8, hb8⟩
              have HB73 : Hid (Below x1.heap.size x1 y72) := below_next HB70.out hb8
              have HE73 : Hid (EvsIn y72 a6 (es.take i)) := HE70.out.keep hb8
              have HZ73 : Hid (StAt y72 y56.heap.size zeroS (.slice none 0 0)) := HZ71.out.after hb8
              have HO74 : Hid (OwnL y72 y68.heap.size (.slice a8 n8 c8) FH.lines) := ho8
              clear ho8 hb8
              (refine hK _ _ trivial ?_; clear hK K; intro _)
              try simp only [Act.put, List.setIfInBounds_toArray, List.set_cons_zero, List.set_cons_succ]
              refine wpAnyH_ready (rs := [9]) (by kernel_rfl) (by simp) ?_
              refine AllReadyH.cons (o := { dst := none, op := Op.store 27 (Operand.tmp 7) (Operand.tmp 41), type := 0, pos := "law.go:106", after := #[{ on := 8, ground := Ground.data }, { on := 7, ground := Ground.data }, { on := 7, ground := Ground.chain }, { on := 0, ground := Ground.phase }, { on := 1, ground := Ground.phase }, { on := 2, ground := Ground.phase }, { on := 3, ground := Ground.phase }, { on := 4, ground := Ground.phase }, { on := 5, ground := Ground.phase }, { on := 6, ground := Ground.phase }, { on := 7, ground := Ground.phase }, { on := 8, ground := Ground.phase }], guard := none }) rfl (fun K hK => ?_) AllReadyH.nil
              refine step_store_st (s := zeroS) (s2 := FH) (a2 := a8) (n2 := n8) (c2 := c8) rfl _ _ rfl HZ73.out rfl rfl ?_
              intro y75 z1 z2 z3 z4
              have HB76 : Hid (Below x1.heap.size x1 y75) := z2 _ _ HB73.out HLO69.out
              have HR9 : Hid (StAt y75 y56.heap.size FH (.slice a8 n8 c8) ∧ Lns y75 a8 FH.lines ∧ FH.lines.length = n8 ∧ Below x1.heap.size x1 y75) := ⟨z1, ownl_lns (HO74.out.keepOther (fun g hg => z3 g (fun hh => own_st_ne HO74.out (hh ▸ HZ73.out) hg.symm))), HO74.out.len, HB76.out⟩
              clear z1 z2 z3 z4
              (refine hK _ _ trivial ?_; clear hK K; intro _)
              try simp only [Act.put, List.setIfInBounds_toArray, List.set_cons_zero, List.set_cons_succ]
              refine wpAnyH_done (by kernel_rfl) ?_ _
              go_wp2
              go_meet
              exact ⟨y56.heap.size, a8, n8, c8, rfl, HR9.out⟩
          · go_simp
            obtain ⟨y77, hY⟩ : ∃ Y, y54.alloc (.cells #[.int .i64 0, .int .i64 0, .int .i64 0, .int .i64 0, .int .i64 0, .slice none 0 0, .int .i64 0, .int .i64 0, .int .i64 0, .int .i64 0, .int .i64 0, .string ⟨#[]⟩] 27) = Y := ⟨_, rfl⟩
            rw [hY]
            have hb : Below y54.heap.size y54 y77 := by rw [← hY]; exact (Below.refl _ _).alloc (Nat.le_refl _) _
            have HLO78 : Hid (x1.heap.size ≤ y54.heap.size) := HB55.out.size
            have HB79 : Hid (Below x1.heap.size x1 y77) := below_next HB55.out hb
            have HZ80 : Hid (StAt y77 y54.heap.size zeroS (.slice none 0 0)) := by rw [← hY]; exact StAt.new y54 zeroS _
            clear hY hb
            (refine hK _ _ trivial ?_; clear hK K; intro _)
            try simp only [Act.put, List.setIfInBounds_toArray, List.set_cons_zero, List.set_cons_succ]
            refine wpAnyH_ready (rs := [6]) (by kernel_rfl) (by simp) ?_
            refine AllReadyH.cons (o := { dst := some 40, op := Op.call { callee := Callee.builtin Builtin.append, args := #[Operand.tmp 36, Operand.tmp 39], argTypes := #[22, 22] }, type := 22, pos := "law.go:106", after := #[{ on := 2, ground := Ground.data }, { on := 5, ground := Ground.data }, { on := 1, ground := Ground.chain }], guard := none }) rfl (fun K hK => ?_) AllReadyH.nil
            refine step_append_fresh rfl _ _ rfl ⟨D.heap.size, 0, none⟩ ea i ecap (es.take i) rfl rfl HTK.out ((HES.out.keep (below_next HB1.out HB79.out)).take i) HAC.out (by omega) ?_
            intro a6 c6 y81 he6 hb6
            have HB82 : Hid (Below x1.heap.size x1 y81) := below_next HB79.out hb6
            have HZ82 : Hid (StAt y81 y54.heap.size zeroS (.slice none 0 0)) := HZ80.out.after hb6
            have HE83 : Hid (EvsIn y81 a6 (es.take i)) := he6
            clear he6 hb6
            (refine hK _ _ trivial ?_; clear hK K; intro _)
            try simp only [Act.put, List.setIfInBounds_toArray, List.set_cons_zero, List.set_cons_succ]
            refine wpAnyH_ready (rs := [7]) (by kernel_rfl) (by simp) ?_
            refine AllReadyH.cons (o := { dst := some 41, op := Op.call { callee := Callee.value (Operand.func 5), args := #[Operand.tmp 35, Operand.tmp 40], argTypes := #[27, 22] }, type := 27, pos := "law.go:106", after := #[{ on := 1, ground := Ground.data }, { on := 6, ground := Ground.data }, { on := 6, ground := Ground.chain }], guard := none }) rfl (fun K hK => ?_) AllReadyH.nil
            go_simp
            refine (fold_any (empS id) (es.take i) none a6 0 0 i c6 _ rfl (.inl rfl) (by decide) HTK.out HE83.out him).mono ?_
            rw [HFH.out]
            rintro _ y84 ⟨a8, n8, c8, rfl, ho8, hb8⟩
            have HB85 : Hid (Below x1.heap.size x1 y84) := below_next HB82.out hb8
            have HZ85 : Hid (StAt y84 y54.heap.size zeroS (.slice none 0 0)) := HZ82.out.after hb8
            have HE85 : Hid (EvsIn y84 a6 (es.take i)) := HE83.out.keep hb8
            have HO86 : Hid (OwnL y84 y81.heap.size (.slice a8 n8 c8) FH.lines) := ho8
            clear ho8 hb8
            (refine hK _ _ trivial ?_; clear hK K; intro _)
            try simp only [Act.put, List.setIfInBounds_toArray, List.set_cons_zero, List.set_cons_succ]
            refine wpAnyH_ready (rs := [9]) (by kernel_rfl) (by simp) ?_
            refine AllReadyH.cons (o := { dst := none, op := Op.store 27 (Operand.tmp 7) (Operand.tmp 41), type := 0, pos := "law.go:106", after := #[{ on := 8, ground := Ground.data }, { on := 7, ground := Ground.data }, { on := 7, ground := Ground.chain }, { on := 0, ground := Ground.phase }, { on := 1, ground := Ground.phase }, { on := 2, ground := Ground.phase }, { on := 3, ground := Ground.phase }, { on := 4, ground := Ground.phase }, { on := 5, ground := Ground.phase }, { on := 6, ground := Ground.phase }, { on := 7, ground := Ground.phase }, { on := 8, ground := Ground.phase }], guard := none }) rfl (fun K hK => ?_) AllReadyH.nil
            refine step_store_st (s := zeroS) (s2 := FH) (a2 := a8) (n2 := n8) (c2 := c8) rfl _ _ rfl HZ85.out rfl rfl ?_
            intro y87 z1 z2 z3 z4
            have HB88 : Hid (Below x1.heap.size x1 y87) := z2 _ _ HB85.out HLO78.out
            have HR9 : Hid (StAt y87 y54.heap.size FH (.slice a8 n8 c8) ∧ Lns y87 a8 FH.lines ∧ FH.lines.length = n8 ∧ Below x1.heap.size x1 y87) := ⟨z1, ownl_lns (HO86.out.keepOther (fun g hg => z3 g (fun hh => own_st_ne HO86.out (hh ▸ HZ85.out) hg.symm))), HO86.out.len, HB88.out⟩
            clear z1 z2 z3 z4
            (refine hK _ _ trivial ?_; clear hK K; intro _)
            try simp only [Act.put, List.setIfInBounds_toArray, List.set_cons_zero, List.set_cons_succ]
            refine wpAnyH_done (by kernel_rfl) ?_ _
            go_wp2
            go_meet
            exact ⟨y54.heap.size, a8, n8, c8, rfl, HR9.out⟩
        · go_simp
          obtain ⟨y89, hY⟩ : ∃ Y, y52.alloc (.cells #[.int .i64 0, .int .i64 0, .int .i64 0, .int .i64 0, .int .i64 0, .slice none 0 0, .int .i64 0, .int .i64 0, .int .i64 0, .int .i64 0, .int .i64 0, .string ⟨#[]⟩] 27) = Y := ⟨_, rfl⟩
          rw [hY]
          have hb : Below y52.heap.size y52 y89 := by rw [← hY]; exact (Below.refl _ _).alloc (Nat.le_refl _) _
          have HLO90 : Hid (x1.heap.size ≤ y52.heap.size) := HB53.out.size
          have HB91 : Hid (Below x1.heap.size x1 y89) := below_next HB53.out hb
          have HZ92 : Hid (StAt y89 y52.heap.size zeroS (.slice none 0 0)) := by rw [← hY]; exact StAt.new y52 zeroS _
          clear hY hb
          (refine hK _ _ trivial ?_; clear hK K; intro _)
          try simp only [Act.put, List.setIfInBounds_toArray, List.set_cons_zero, List.set_cons_succ]
          refine wpAnyH_ready (rs := [1]) (by kernel_rfl) (by simp) ?_
          refine AllReadyH.cons (o := { dst := some 35, op := Op.call { callee := Callee.value (Operand.func 6), args := #[Operand.tmp 34], argTypes := #[3] }, type := 27, pos := "law.go:106", after := #[{ on := 0, ground := Ground.data }], guard := none }) rfl (fun K hK => ?_) AllReadyH.nil
          go_simp
          refine (empty_any id _).mono ?_
          rintro _ y93 ⟨rfl, hb2⟩
          have HB94 : Hid (Below x1.heap.size x1 y93) := below_next HB91.out hb2
          have HZ94 : Hid (StAt y93 y52.heap.size zeroS (.slice none 0 0)) := HZ92.out.after hb2
          clear hb2
          (refine hK _ _ trivial ?_; clear hK K; intro _)
          try simp only [Act.put, List.setIfInBounds_toArray, List.set_cons_zero, List.set_cons_succ]
          refine wpAnyH_ready (rs := [6]) (by kernel_rfl) (by simp) ?_
          refine AllReadyH.cons (o := { dst := some 40, op := Op.call { callee := Callee.builtin Builtin.append, args := #[Operand.tmp 36, Operand.tmp 39], argTypes := #[22, 22] }, type := 22, pos := "law.go:106", after := #[{ on := 2, ground := Ground.data }, { on := 5, ground := Ground.data }, { on := 1, ground := Ground.chain }], guard := none }) rfl (fun K hK => ?_) AllReadyH.nil
          refine step_append_fresh rfl _ _ rfl ⟨D.heap.size, 0, none⟩ ea i ecap (es.take i) rfl rfl HTK.out ((HES.out.keep (below_next HB1.out HB94.out)).take i) HAC.out (by omega) ?_
          intro a6 c6 y95 he6 hb6
          have HB96 : Hid (Below x1.heap.size x1 y95) := below_next HB94.out hb6
          have HZ96 : Hid (StAt y95 y52.heap.size zeroS (.slice none 0 0)) := HZ94.out.after hb6
          have HE97 : Hid (EvsIn y95 a6 (es.take i)) := he6
          clear he6 hb6
          (refine hK _ _ trivial ?_; clear hK K; intro _)
          try simp only [Act.put, List.setIfInBounds_toArray, List.set_cons_zero, List.set_cons_succ]
          refine wpAnyH_ready (rs := [7]) (by kernel_rfl) (by simp) ?_
          refine AllReadyH.cons (o := { dst := some 41, op := Op.call { callee := Callee.value (Operand.func 5), args := #[Operand.tmp 35, Operand.tmp 40], argTypes := #[27, 22] }, type := 27, pos := "law.go:106", after := #[{ on := 1, ground := Ground.data }, { on := 6, ground := Ground.data }, { on := 6, ground := Ground.chain }], guard := none }) rfl (fun K hK => ?_) AllReadyH.nil
          go_simp
          refine (fold_any (empS id) (es.take i) none a6 0 0 i c6 _ rfl (.inl rfl) (by decide) HTK.out HE97.out him).mono ?_
          rw [HFH.out]
          rintro _ y98 ⟨a8, n8, c8, rfl, ho8, hb8⟩
          have HB99 : Hid (Below x1.heap.size x1 y98) := below_next HB96.out hb8
          have HZ99 : Hid (StAt y98 y52.heap.size zeroS (.slice none 0 0)) := HZ96.out.after hb8
          have HE99 : Hid (EvsIn y98 a6 (es.take i)) := HE97.out.keep hb8
          have HO100 : Hid (OwnL y98 y95.heap.size (.slice a8 n8 c8) FH.lines) := ho8
          clear ho8 hb8
          (refine hK _ _ trivial ?_; clear hK K; intro _)
          try simp only [Act.put, List.setIfInBounds_toArray, List.set_cons_zero, List.set_cons_succ]
          refine wpAnyH_ready (rs := [9]) (by kernel_rfl) (by simp) ?_
          refine AllReadyH.cons (o := { dst := none, op := Op.store 27 (Operand.tmp 7) (Operand.tmp 41), type := 0, pos := "law.go:106", after := #[{ on := 8, ground := Ground.data }, { on := 7, ground := Ground.data }, { on := 7, ground := Ground.chain }, { on := 0, ground := Ground.phase }, { on := 1, ground := Ground.phase }, { on := 2, ground := Ground.phase }, { on := 3, ground := Ground.phase }, { on := 4, ground := Ground.phase }, { on := 5, ground := Ground.phase }, { on := 6, ground := Ground.phase }, { on := 7, ground := Ground.phase }, { on := 8, ground := Ground.phase }], guard := none }) rfl (fun K hK => ?_) AllReadyH.nil
          refine step_store_st (s := zeroS) (s2 := FH) (a2 := a8) (n2 := n8) (c2 := c8) rfl _ _ rfl HZ99.out rfl rfl ?_
          intro y101 z1 z2 z3 z4
          have HB102 : Hid (Below x1.heap.size x1 y101) := z2 _ _ HB99.out HLO90.out
          have HR9 : Hid (StAt y101 y52.heap.size FH (.slice a8 n8 c8) ∧ Lns y101 a8 FH.lines ∧ FH.lines.length = n8 ∧ Below x1.heap.size x1 y101) := ⟨z1, ownl_lns (HO100.out.keepOther (fun g hg => z3 g (fun hh => own_st_ne HO100.out (hh ▸ HZ99.out) hg.symm))), HO100.out.len, HB102.out⟩
          clear z1 z2 z3 z4
          (refine hK _ _ trivial ?_; clear hK K; intro _)
          try simp only [Act.put, List.setIfInBounds_toArray, List.set_cons_zero, List.set_cons_succ]
          refine wpAnyH_done (by kernel_rfl) ?_ _
          go_wp2
          go_meet
          exact ⟨y52.heap.size, a8, n8, c8, rfl, HR9.out⟩
      · go_simp
        obtain ⟨y103, hY⟩ : ∃ Y, D.alloc (.cells #[.int .i64 0, .int .i64 0, .int .i64 0, .int .i64 0, .int .i64 0, .slice none 0 0, .int .i64 0, .int .i64 0, .int .i64 0, .int .i64 0, .int .i64 0, .string ⟨#[]⟩] 27) = Y := ⟨_, rfl⟩
        rw [hY]
        have hb : Below D.heap.size D y103 := by rw [← hY]; exact (Below.refl _ _).alloc (Nat.le_refl _) _
        have HLO104 : Hid (x1.heap.size ≤ D.heap.size) := HB0.out.size
        have HB105 : Hid (Below x1.heap.size x1 y103) := below_next HB0.out hb
        have HZ106 : Hid (StAt y103 D.heap.size zeroS (.slice none 0 0)) := by rw [← hY]; exact StAt.new D zeroS _
        clear hY hb
        (refine hK _ _ trivial ?_; clear hK K; intro _)
        try simp only [Act.put, List.setIfInBounds_toArray, List.set_cons_zero, List.set_cons_succ]
        refine wpAnyH_ready (rs := [1, 2]) (by kernel_rfl) (by simp) ?_
        refine AllReadyH.cons (o := { dst := some 35, op := Op.call { callee := Callee.value (Operand.func 6), args := #[Operand.tmp 34], argTypes := #[3] }, type := 27, pos := "law.go:106", after := #[{ on := 0, ground := Ground.data }], guard := none }) rfl (fun K hK => ?_) (AllReadyH.cons (o := { dst := some 36, op := Op.buildSlice 22 0 #[], type := 22, pos := "law.go:106", after := #[], guard := none }) rfl (fun K hK => ?_) AllReadyH.nil)
        · go_simp
          refine (empty_any id _).mono ?_
          rintro _ y107 ⟨rfl, hb2⟩
          have HB108 : Hid (Below x1.heap.size x1 y107) := below_next HB105.out hb2
          have HZ108 : Hid (StAt y107 D.heap.size zeroS (.slice none 0 0)) := HZ106.out.after hb2
          clear hb2
          (refine hK _ _ trivial ?_; clear hK K; intro _)
          try simp only [Act.put, List.setIfInBounds_toArray, List.set_cons_zero, List.set_cons_succ]
          refine wpAnyH_ready (rs := [2]) (by kernel_rfl) (by simp) ?_
          refine AllReadyH.cons (o := { dst := some 36, op := Op.buildSlice 22 0 #[], type := 22, pos := "law.go:106", after := #[], guard := none }) rfl (fun K hK => ?_) AllReadyH.nil
          go_simp
          obtain ⟨y109, hY⟩ : ∃ Y, y107.alloc (.cells #[] 48) = Y := ⟨_, rfl⟩
          rw [hY]
          have hb : Below y107.heap.size y107 y109 := by rw [← hY]; exact (Below.refl _ _).alloc (Nat.le_refl _) _
          have HB110 : Hid (Below x1.heap.size x1 y109) := below_next HB108.out hb
          have HZ110 : Hid (StAt y109 D.heap.size zeroS (.slice none 0 0)) := HZ108.out.after hb
          clear hY hb
          (refine hK _ _ trivial ?_; clear hK K; intro _)
          try simp only [Act.put, List.setIfInBounds_toArray, List.set_cons_zero, List.set_cons_succ]
          refine wpAnyH_ready (rs := [6]) (by kernel_rfl) (by simp) ?_
          refine AllReadyH.cons (o := { dst := some 40, op := Op.call { callee := Callee.builtin Builtin.append, args := #[Operand.tmp 36, Operand.tmp 39], argTypes := #[22, 22] }, type := 22, pos := "law.go:106", after := #[{ on := 2, ground := Ground.data }, { on := 5, ground := Ground.data }, { on := 1, ground := Ground.chain }], guard := none }) rfl (fun K hK => ?_) AllReadyH.nil
          refine step_append_fresh rfl _ _ rfl ⟨y107.heap.size, 0, none⟩ ea i ecap (es.take i) rfl rfl HTK.out ((HES.out.keep (below_next HB1.out HB110.out)).take i) HAC.out (by omega) ?_
          intro a6 c6 y111 he6 hb6
          have HB112 : Hid (Below x1.heap.size x1 y111) := below_next HB110.out hb6
          have HZ112 : Hid (StAt y111 D.heap.size zeroS (.slice none 0 0)) := HZ110.out.after hb6
          have HE113 : Hid (EvsIn y111 a6 (es.take i)) := he6
          clear he6 hb6
          (refine hK _ _ trivial ?_; clear hK K; intro _)
          try simp only [Act.put, List.setIfInBounds_toArray, List.set_cons_zero, List.set_cons_succ]
          refine wpAnyH_ready (rs := [7]) (by kernel_rfl) (by simp) ?_
          refine AllReadyH.cons (o := { dst := some 41, op := Op.call { callee := Callee.value (Operand.func 5), args := #[Operand.tmp 35, Operand.tmp 40], argTypes := #[27, 22] }, type := 27, pos := "law.go:106", after := #[{ on := 1, ground := Ground.data }, { on := 6, ground := Ground.data }, { on := 6, ground := Ground.chain }], guard := none }) rfl (fun K hK => ?_) AllReadyH.nil
          go_simp
          refine (fold_any (empS id) (es.take i) none a6 0 0 i c6 _ rfl (.inl rfl) (by decide) HTK.out HE113.out him).mono ?_
          rw [HFH.out]
          rintro _ y114 ⟨a8, n8, c8, rfl, ho8, hb8⟩
          have HB115 : Hid (Below x1.heap.size x1 y114) := below_next HB112.out hb8
          have HZ115 : Hid (StAt y114 D.heap.size zeroS (.slice none 0 0)) := HZ112.out.after hb8
          have HE115 : Hid (EvsIn y114 a6 (es.take i)) := HE113.out.keep hb8
          have HO116 : Hid (OwnL y114 y111.heap.size (.slice a8 n8 c8) FH.lines) := ho8
          clear ho8 hb8
          (refine hK _ _ trivial ?_; clear hK K; intro _)
          try simp only [Act.put, List.setIfInBounds_toArray, List.set_cons_zero, List.set_cons_succ]
          refine wpAnyH_ready (rs := [9]) (by kernel_rfl) (by simp) ?_
          refine AllReadyH.cons (o := { dst := none, op := Op.store 27 (Operand.tmp 7) (Operand.tmp 41), type := 0, pos := "law.go:106", after := #[{ on := 8, ground := Ground.data }, { on := 7, ground := Ground.data }, { on := 7, ground := Ground.chain }, { on := 0, ground := Ground.phase }, { on := 1, ground := Ground.phase }, { on := 2, ground := Ground.phase }, { on := 3, ground := Ground.phase }, { on := 4, ground := Ground.phase }, { on := 5, ground := Ground.phase }, { on := 6, ground := Ground.phase }, { on := 7, ground := Ground.phase }, { on := 8, ground := Ground.phase }], guard := none }) rfl (fun K hK => ?_) AllReadyH.nil
          refine step_store_st (s := zeroS) (s2 := FH) (a2 := a8) (n2 := n8) (c2 := c8) rfl _ _ rfl HZ115.out rfl rfl ?_
          intro y117 z1 z2 z3 z4
          have HB118 : Hid (Below x1.heap.size x1 y117) := z2 _ _ HB115.out HLO104.out
          have HR9 : Hid (StAt y117 D.heap.size FH (.slice a8 n8 c8) ∧ Lns y117 a8 FH.lines ∧ FH.lines.length = n8 ∧ Below x1.heap.size x1 y117) := ⟨z1, ownl_lns (HO116.out.keepOther (fun g hg => z3 g (fun hh => own_st_ne HO116.out (hh ▸ HZ115.out) hg.symm))), HO116.out.len, HB118.out⟩
          clear z1 z2 z3 z4
          (refine hK _ _ trivial ?_; clear hK K; intro _)
          try simp only [Act.put, List.setIfInBounds_toArray, List.set_cons_zero, List.set_cons_succ]
          refine wpAnyH_done (by kernel_rfl) ?_ _
          go_wp2
          go_meet
          exact ⟨D.heap.size, a8, n8, c8, rfl, HR9.out⟩
        · go_simp
          obtain ⟨y119, hY⟩ : ∃ Y, y103.alloc (.cells #[] 48) = Y := ⟨_, rfl⟩
          rw [hY]
          have hb : Below y103.heap.size y103 y119 := by rw [← hY]; exact (Below.refl _ _).alloc (Nat.le_refl _) _
          have HB120 : Hid (Below x1.heap.size x1 y119) := below_next HB105.out hb
          have HZ120 : Hid (StAt y119 D.heap.size zeroS (.slice none 0 0)) := HZ106.out.after hb
          clear hY hb
          (refine hK _ _ trivial ?_; clear hK K; intro _)
          try simp only [Act.put, List.setIfInBounds_toArray, List.set_cons_zero, List.set_cons_succ]
          refine wpAnyH_ready (rs := [1]) (by kernel_rfl) (by simp) ?_
          refine AllReadyH.cons (o := { dst := some 35, op := Op.call { callee := Callee.value (Operand.func 6), args := #[Operand.tmp 34], argTypes := #[3] }, type := 27, pos := "law.go:106", after := #[{ on := 0, ground := Ground.data }], guard := none }) rfl (fun K hK => ?_) AllReadyH.nil
          go_simp
          refine (empty_any id _).mono ?_
          rintro _ y121 ⟨rfl, hb2⟩
          have HB122 : Hid (Below x1.heap.size x1 y121) := below_next HB120.out hb2
          have HZ122 : Hid (StAt y121 D.heap.size zeroS (.slice none 0 0)) := HZ120.out.after hb2
          clear hb2
          (refine hK _ _ trivial ?_; clear hK K; intro _)
          try simp only [Act.put, List.setIfInBounds_toArray, List.set_cons_zero, List.set_cons_succ]
          refine wpAnyH_ready (rs := [6]) (by kernel_rfl) (by simp) ?_
          refine AllReadyH.cons (o := { dst := some 40, op := Op.call { callee := Callee.builtin Builtin.append, args := #[Operand.tmp 36, Operand.tmp 39], argTypes := #[22, 22] }, type := 22, pos := "law.go:106", after := #[{ on := 2, ground := Ground.data }, { on := 5, ground := Ground.data }, { on := 1, ground := Ground.chain }], guard := none }) rfl (fun K hK => ?_) AllReadyH.nil
          refine step_append_fresh rfl _ _ rfl ⟨y103.heap.size, 0, none⟩ ea i ecap (es.take i) rfl rfl HTK.out ((HES.out.keep (below_next HB1.out HB122.out)).take i) HAC.out (by omega) ?_
          intro a6 c6 y123 he6 hb6
          have HB124 : Hid (Below x1.heap.size x1 y123) := below_next HB122.out hb6
          have HZ124 : Hid (StAt y123 D.heap.size zeroS (.slice none 0 0)) := HZ122.out.after hb6
          have HE125 : Hid (EvsIn y123 a6 (es.take i)) := he6
          clear he6 hb6
          (refine hK _ _ trivial ?_; clear hK K; intro _)
          try simp only [Act.put, List.setIfInBounds_toArray, List.set_cons_zero, List.set_cons_succ]
          refine wpAnyH_ready (rs := [7]) (by kernel_rfl) (by simp) ?_
          refine AllReadyH.cons (o := { dst := some 41, op := Op.call { callee := Callee.value (Operand.func 5), args := #[Operand.tmp 35, Operand.tmp 40], argTypes := #[27, 22] }, type := 27, pos := "law.go:106", after := #[{ on := 1, ground := Ground.data }, { on := 6, ground := Ground.data }, { on := 6, ground := Ground.chain }], guard := none }) rfl (fun K hK => ?_) AllReadyH.nil
          go_simp
          refine (fold_any (empS id) (es.take i) none a6 0 0 i c6 _ rfl (.inl rfl) (by decide) HTK.out HE125.out him).mono ?_
          rw [HFH.out]
          rintro _ y126 ⟨a8, n8, c8, rfl, ho8, hb8⟩
          have HB127 : Hid (Below x1.heap.size x1 y126) := below_next HB124.out hb8
          have HZ127 : Hid (StAt y126 D.heap.size zeroS (.slice none 0 0)) := HZ124.out.after hb8
          have HE127 : Hid (EvsIn y126 a6 (es.take i)) := HE125.out.keep hb8
          have HO128 : Hid (OwnL y126 y123.heap.size (.slice a8 n8 c8) FH.lines) := ho8
          clear ho8 hb8
          (refine hK _ _ trivial ?_; clear hK K; intro _)
          try simp only [Act.put, List.setIfInBounds_toArray, List.set_cons_zero, List.set_cons_succ]
          refine wpAnyH_ready (rs := [9]) (by kernel_rfl) (by simp) ?_
          refine AllReadyH.cons (o := { dst := none, op := Op.store 27 (Operand.tmp 7) (Operand.tmp 41), type := 0, pos := "law.go:106", after := #[{ on := 8, ground := Ground.data }, { on := 7, ground := Ground.data }, { on := 7, ground := Ground.chain }, { on := 0, ground := Ground.phase }, { on := 1, ground := Ground.phase }, { on := 2, ground := Ground.phase }, { on := 3, ground := Ground.phase }, { on := 4, ground := Ground.phase }, { on := 5, ground := Ground.phase }, { on := 6, ground := Ground.phase }, { on := 7, ground := Ground.phase }, { on := 8, ground := Ground.phase }], guard := none }) rfl (fun K hK => ?_) AllReadyH.nil
          refine step_store_st (s := zeroS) (s2 := FH) (a2 := a8) (n2 := n8) (c2 := c8) rfl _ _ rfl HZ127.out rfl rfl ?_
          intro y129 z1 z2 z3 z4
          have HB130 : Hid (Below x1.heap.size x1 y129) := z2 _ _ HB127.out HLO104.out
          have HR9 : Hid (StAt y129 D.heap.size FH (.slice a8 n8 c8) ∧ Lns y129 a8 FH.lines ∧ FH.lines.length = n8 ∧ Below x1.heap.size x1 y129) := ⟨z1, ownl_lns (HO128.out.keepOther (fun g hg => z3 g (fun hh => own_st_ne HO128.out (hh ▸ HZ127.out) hg.symm))), HO128.out.len, HB130.out⟩
          clear z1 z2 z3 z4
          (refine hK _ _ trivial ?_; clear hK K; intro _)
          try simp only [Act.put, List.setIfInBounds_toArray, List.set_cons_zero, List.set_cons_succ]
          refine wpAnyH_done (by kernel_rfl) ?_ _
          go_wp2
          go_meet
          exact ⟨D.heap.size, a8, n8, c8, rfl, HR9.out⟩
    case rest =>
      obtain ⟨b, a8, n8, c8, rfl, HQ⟩ := hcut
      rename World => z1
      have HN8 : Hid (FH.lines.length = n8) := HQ.out.2.2.1
      have h16 : n8 ≤ 16 := by have := HL8.out; rw [HN8.out] at this; exact this
      have hlm8 : n8 ≤ maxLen := by unfold maxLen; omega
      have HBZ1 : Hid (Below w.heap.size w z1) := below_next HB1.out HQ.out.2.2.2
      go_wp2_with (first
        | ((with_reducible refine guard_load 27 ?_); refine wpList_load_st rfl _ rfl HQ.out.1 rfl ?_)
        | (go_at_call 7; refine (cenc_any FH a8 n8 c8 _ HN8.out HQ.out.2.1 hlm8).mono ?_; unfold CencPost; rw [HE.out]; rintro _ z3 ⟨v3, rfl, ho3, hb3⟩; obtain ⟨a3, c3, hv3, hc3, _, hy3, _⟩ := ho3.shape; simp only [HKL.out] at hv3 hc3; subst hv3; have HY3 : Hid (Bytes z3 a3 l) := hy3; have HBZ3 : Hid (Below w.heap.size w z3) := below_next HBZ1.out hb3; clear hb3 ho3 hy3)
        | (go_at_call 8; refine (cdec_any l a3 k c3 _ HKL.out HY3.out hc3 hkm).mono ?_; unfold CdecPost; rw [HD.out]; rintro _ z4 ⟨v4, rfl, ho4, hb4⟩; obtain ⟨a10, c10, hv4, _, _, hl4, _⟩ := ho4.shape; simp only [HN8.out] at hv4; subst hv4; have HL4 : Hid (Lns z4 a10 FH.lines) := hl4; have HBZ4 : Hid (Below w.heap.size w z4) := below_next HBZ3.out hb4; have U1 : Hid True := trivial; clear hb4 ho4 hl4)
        | ((with_reducible refine guard_store 27 ?_); clear U1; refine wpList_store_st (s := zeroS) (s2 := FH) (a2 := a10) (n2 := n8) (c2 := c10) rfl _ _ rfl (StAt.new z4 zeroS (.slice none 0 0)) rfl rfl ?_; intro z5 y1 y2 y3 y4; have hu := (y2 _ _ ((Below.refl z4.heap.size z4).alloc (Nat.le_refl _) _) (Nat.le_refl _)); have HT5 : Hid (StAt z5 z4.heap.size FH (.slice a10 n8 c10) ∧ Lns z5 a10 FH.lines) := ⟨y1, HL4.out.keep hu⟩; have HBZ5 : Hid (Below w.heap.size w z5) := below_next HBZ4.out hu; clear y1 y2 y3 y4 hu)
        | (go_at_call 6; refine (empty_any id _).mono ?_; rintro _ z6 ⟨rfl, hb6⟩; have HQ6 : Hid (Below z5.heap.size z5 z6) := hb6; have HA6 : Hid (Below z6.heap.size z6 (z6.alloc (.cells #[] 48))) := (Below.refl _ _).alloc (Nat.le_refl _) _; clear hb6)
        | (at_builtin; refine wpList_append_fresh rfl _ _ rfl ⟨z6.heap.size, 0, none⟩ ea m ecap es rfl rfl HM.out (HES.out.keep (below_next (below_next HBZ5.out HQ6.out) HA6.out)) HAC.out (by omega) ?_; intro a6 c6 z7 he6 hb6; have HE7 : Hid (EvsIn z7 a6 es) := he6; have HQ7 : Hid (Below z5.heap.size z5 z7) := below_next HQ6.out (HA6.out.trans (hb6.mono HA6.out.size)); clear he6 hb6)
        | (go_at_call 5; refine (fold_any (empS id) es none a6 0 0 m c6 _ rfl (.inl rfl) (by decide) HM.out HE7.out hml).mono ?_; rw [HFW.out]; rintro _ z8 ⟨a7, n7, c7, rfl, ho7, hb7⟩; have HL8' : Hid (Lns z8 a7 FW.lines) := ownl_lns ho7; have HN7 : Hid (FW.lines.length = n7) := ho7.len; have HQ8 : Hid (Below z5.heap.size z5 z8) := below_next HQ7.out hb7; clear ho7 hb7)
        | ((with_reducible refine guard_store 27 ?_); refine wpList_store_st (s := zeroS) (s2 := FW) (a2 := a7) (n2 := n7) (c2 := c7) rfl _ _ rfl (StAt.new z8 zeroS (.slice none 0 0)) rfl rfl ?_; intro z9 y1 y2 y3 y4; have hu := (y2 _ _ ((Below.refl z8.heap.size z8).alloc (Nat.le_refl _) _) (Nat.le_refl _)); have HW0 : Hid (StAt z9 z8.heap.size FW (.slice a7 n7 c7) ∧ Lns z9 a7 FW.lines) := ⟨y1, HL8'.out.keep hu⟩; have HQ9 : Hid (Below z5.heap.size z5 z9) := below_next HQ8.out hu; clear y1 y2 y3 y4 hu))
      try simp only [Act.put]
      obtain ⟨b12, hb12⟩ : ∃ b, z8.heap.size = b := ⟨_, rfl⟩
      obtain ⟨b10, hb10⟩ : ∃ b, z4.heap.size = b := ⟨_, rfl⟩
      rw [hb12] at HW0 ⊢
      rw [hb10] at HT5 ⊢
      have HW : Hid (StAt z9 b12 FW (.slice a7 n7 c7) ∧ Lns z9 a7 FW.lines) := HW0
      have HR : Hid (StAt z9 b10 FH (.slice a10 n8 c10) ∧ Lns z9 a10 FH.lines) := ⟨HT5.out.1.after HQ9.out, HT5.out.2.keep HQ9.out⟩
      have HBW : Hid (Below w.heap.size w z9) := below_next HBZ5.out HQ9.out
      have HM8 : Hid (n8 * 32 ≤ 140737488351232) := by show _ ≤ _; omega
      have HN7M : Hid (n7 ≤ maxLen) := by have h3 := HL7.out; rw [HN7.out] at h3; show _ ≤ _; unfold maxLen; omega
      clear HW0 HT5 HQ9 HQ8 HQ7 HQ6 HBZ5 HBZ4 HBZ3 HBZ1 HQ hb12 hb10
      refine wp_region_held (S := fun y => StAt y b12 FW (.slice a7 n7 c7) ∧ StAt y b10 FH (.slice a10 n8 c10)) (by kernel_rfl) ?_
      change wpAnyH _ _ _ _ _ _ _ _ (World.drew _)
      obtain ⟨D, hD⟩ : ∃ D, z9.drew = D := ⟨_, rfl⟩
      have HB0 : Hid (Below z9.heap.size z9 D) := by rw [← hD]; exact (Below.refl _ _).drew
      rw [hD]
      clear hD
      refine wpAnyH_take (i := 0) (oi := { dst := some 64, op := Op.load 27 (Operand.tmp 10), type := 27, pos := "law.go:113", after := #[], guard := none }) (v := .agg (stA FH (.slice a10 n8 c10))) rfl (by kernel_rfl) (by kernel_rfl) (by kernel_rfl) (fun _ _ _ h => h) (Or.inl ⟨by rfl, fun y hy => exec_load_st (.tmp 10) rfl rfl hy.2⟩) ⟨HW.out.1.after HB0.out, HR.out.1.after HB0.out⟩ ?_
      simp only [Act.put, List.setIfInBounds_toArray, List.set_cons_zero, List.set_cons_succ]
      refine wpAnyH_take (i := 2) (oi := { dst := some 66, op := Op.move (Operand.tmp 1), type := 22, pos := "law.go:113", after := #[], guard := none }) (v := ?_) rfl (by kernel_rfl) (by kernel_rfl) (by kernel_rfl) (fun _ _ _ h => h) (Or.inl ⟨by rfl, ?_⟩) ⟨HW.out.1.after HB0.out, HR.out.1.after HB0.out⟩ ?_
      rotate_left
      · (intro y hy; go_simp; try (with_reducible rfl))
      simp only [Act.put, List.setIfInBounds_toArray, List.set_cons_zero, List.set_cons_succ]
      refine wpAnyH_take (i := 3) (oi := { dst := some 67, op := Op.move (Operand.tmp 2), type := 3, pos := "law.go:113", after := #[], guard := none }) (v := ?_) rfl (by kernel_rfl) (by kernel_rfl) (by kernel_rfl) (fun _ _ _ h => h) (Or.inl ⟨by rfl, ?_⟩) ⟨HW.out.1.after HB0.out, HR.out.1.after HB0.out⟩ ?_
      rotate_left
      · (intro y hy; go_simp; try (with_reducible rfl))
      simp only [Act.put, List.setIfInBounds_toArray, List.set_cons_zero, List.set_cons_succ]
      refine wpAnyH_take (i := 4) (oi := { dst := some 68, op := Op.slice 22 (Operand.tmp 66) (some (Operand.tmp 67)) none none, type := 22, pos := "law.go:113", after := #[{ on := 2, ground := Ground.data }, { on := 3, ground := Ground.data }], guard := none }) (v := .slice (if ecap = i then ea else ea.map (·.add (i * 10))) (m - i) (ecap - i)) rfl (by kernel_rfl) (by kernel_rfl) (by kernel_rfl) (fun _ _ _ h => h) (Or.inl ⟨by rfl, fun y hy => exec_slice_el (.tmp 66) (.tmp 67) rfl rfl rfl hi⟩) ⟨HW.out.1.after HB0.out, HR.out.1.after HB0.out⟩ ?_
      simp only [Act.put, List.setIfInBounds_toArray, List.set_cons_zero, List.set_cons_succ]
      refine wpAnyH_take (i := 7) (oi := { dst := some 71, op := Op.load 27 (Operand.tmp 12), type := 27, pos := "law.go:113", after := #[], guard := none }) (v := .agg (stA FW (.slice a7 n7 c7))) rfl (by kernel_rfl) (by kernel_rfl) (by kernel_rfl) (fun _ _ _ h => h) (Or.inl ⟨by rfl, fun y hy => exec_load_st (.tmp 12) rfl rfl hy.1⟩) ⟨HW.out.1.after HB0.out, HR.out.1.after HB0.out⟩ ?_
      simp only [Act.put, List.setIfInBounds_toArray, List.set_cons_zero, List.set_cons_succ]
      refine wpAnyH_ready (rs := [1]) (by kernel_rfl) (by simp) ?_
      refine AllReadyH.cons (o := { dst := some 65, op := Op.buildSlice 22 0 #[], type := 22, pos := "law.go:113", after := #[], guard := none }) rfl (fun K hK => ?_) AllReadyH.nil
      go_simp
      obtain ⟨y1, hY⟩ : ∃ Y, D.alloc (.cells #[] 48) = Y := ⟨_, rfl⟩
      rw [hY]
      have hb : Below D.heap.size D y1 := by rw [← hY]; exact (Below.refl _ _).alloc (Nat.le_refl _) _
      have HB2 : Hid (Below z9.heap.size z9 y1) := below_next HB0.out hb
      clear hY hb
      (refine hK _ _ ⟨HW.out.1.after HB2.out, HR.out.1.after HB2.out⟩ ?_; clear hK K; intro _)
      try simp only [Act.put, List.setIfInBounds_toArray, List.set_cons_zero, List.set_cons_succ]
      refine wpAnyH_ready (rs := [5]) (by kernel_rfl) (by simp) ?_
      refine AllReadyH.cons (o := { dst := some 69, op := Op.call { callee := Callee.builtin Builtin.append, args := #[Operand.tmp 65, Operand.tmp 68], argTypes := #[22, 22] }, type := 22, pos := "law.go:113", after := #[{ on := 1, ground := Ground.data }, { on := 4, ground := Ground.data }], guard := none }) rfl (fun K hK => ?_) AllReadyH.nil
      refine step_append_fresh rfl _ _ rfl ⟨D.heap.size, 0, none⟩ (if ecap = i then ea else ea.map (·.add (i * 10))) (m - i) (ecap - i) (es.drop i) rfl rfl HDL.out (evs_cut (HES.out.keep (below_next HBW.out HB2.out)) i ecap HLE.out) HAD.out hmi96 ?_
      intro a6 c6 y3 he6 hb6
      have HB4 : Hid (Below z9.heap.size z9 y3) := below_next HB2.out hb6
      have HE5 : Hid (EvsIn y3 a6 (es.drop i)) := he6
      clear he6 hb6
      (refine hK _ _ ⟨HW.out.1.after HB4.out, HR.out.1.after HB4.out⟩ ?_; clear hK K; intro _)
      try simp only [Act.put, List.setIfInBounds_toArray, List.set_cons_zero, List.set_cons_succ]
      refine wpAnyH_ready (rs := [6]) (by kernel_rfl) (by simp) ?_
      refine AllReadyH.cons (o := { dst := some 70, op := Op.call { callee := Callee.value (Operand.func 5), args := #[Operand.tmp 64, Operand.tmp 69], argTypes := #[27, 22] }, type := 27, pos := "law.go:113", after := #[{ on := 0, ground := Ground.data }, { on := 5, ground := Ground.data }, { on := 5, ground := Ground.chain }], guard := none }) rfl (fun K hK => ?_) AllReadyH.nil
      go_simp
      refine (fold_any FH (es.drop i) a10 a6 n8 c10 (m - i) c6 _ HN8.out (HR.out.2.keep HB4.out) HM8.out HDL.out HE5.out hmi).mono ?_
      rw [HFF.out]
      rintro _ y6 ⟨a9, n9, c9, rfl, ho9, hb9⟩
      obtain rfl : n7 = n9 := HN7.out.symm.trans ho9.len
      have hl9 := ownl_lns ho9
      have HB7 : Hid (Below z9.heap.size z9 y6) := below_next HB4.out hb9
      have HE7 : Hid (EvsIn y6 a6 (es.drop i)) := HE5.out.keep hb9
      have HF8 : Hid (Lns y6 a9 FW.lines) := hl9
      clear ho9 hb9 hl9
      (refine hK _ _ ⟨HW.out.1.after HB7.out, HR.out.1.after HB7.out⟩ ?_; clear hK K; intro _)
      try simp only [Act.put, List.setIfInBounds_toArray, List.set_cons_zero, List.set_cons_succ]
      refine wpAnyH_ready (rs := [8]) (by kernel_rfl) (by simp) ?_
      refine AllReadyH.cons (o := { dst := some 72, op := Op.call { callee := Callee.value (Operand.func 9), args := #[Operand.tmp 70, Operand.tmp 71], argTypes := #[27, 27] }, type := 4, pos := "law.go:113", after := #[{ on := 6, ground := Ground.data }, { on := 7, ground := Ground.data }, { on := 6, ground := Ground.chain }], guard := none }) rfl (fun K hK => ?_) AllReadyH.nil
      go_simp
      refine (ssame_yes FW a9 a7 n7 c9 c7 _ HN7.out HF8.out (HW.out.2.keep HB7.out) HN7M.out).mono ?_
      rintro _ y9 ⟨rfl, hb10⟩
      have HB10 : Hid (Below z9.heap.size z9 y9) := below_next HB7.out hb10
      have HE10 : Hid (EvsIn y9 a6 (es.drop i)) := HE7.out.keep hb10
      have HF10 : Hid (Lns y9 a9 FW.lines) := HF8.out.keep hb10
      clear hb10
      (refine hK _ _ ⟨HW.out.1.after HB10.out, HR.out.1.after HB10.out⟩ ?_; clear hK K; intro _)
      try simp only [Act.put, List.setIfInBounds_toArray, List.set_cons_zero, List.set_cons_succ]
      refine wpAnyH_ready (rs := [9]) (by kernel_rfl) (by simp) ?_
      refine AllReadyH.cons (o := { dst := some 6, op := Op.assign (Operand.tmp 72), type := 4, pos := "law.go:113", after := #[{ on := 8, ground := Ground.data }, { on := 8, ground := Ground.chain }, { on := 0, ground := Ground.phase }, { on := 1, ground := Ground.phase }, { on := 2, ground := Ground.phase }, { on := 3, ground := Ground.phase }, { on := 4, ground := Ground.phase }, { on := 5, ground := Ground.phase }, { on := 6, ground := Ground.phase }, { on := 7, ground := Ground.phase }, { on := 8, ground := Ground.phase }], guard := none }) rfl (fun K hK => ?_) AllReadyH.nil
      go_simp
      (refine hK _ _ ⟨HW.out.1.after HB10.out, HR.out.1.after HB10.out⟩ ?_; clear hK K; intro _)
      try simp only [Act.put, List.setIfInBounds_toArray, List.set_cons_zero, List.set_cons_succ]
      refine wpAnyH_done (by kernel_rfl) ?_ _
      go_wp2
      all_goals (go_ret; exact ⟨rfl, below_next HBW.out HB10.out⟩)
theorem own : ownKnob Tryz.prog.godebug = none := by kernel_rfl
theorem laidOut : laidOutB Tryz.prog = true := by kernel_rfl
set_option maxRecDepth 100000 in
theorem contract (H : Type) (enc : TypeId × Value → H) (W : World) (base : Nat) (args : Array Value) (ds gs : List (DataW H)) (before : List MemPlace)
    (hval : ∀ (j : Nat) t v, Tryz.f3.params[j]? = some t → args[j]? = some v → Value.okWide Tryz.prog W .any base t v)
    (hW : DataW.Whole enc Tryz.prog Tryz.f3.params.toList Rows.canonThroughSpec.vars false W args.toList ds gs before)
    (hsz : (DataW.weightsEach Tryz.prog (Tryz.f3.params.toList ++ Rows.canonThroughSpec.plain.varTypes Tryz.prog) (ds ++ gs)).all (· ≤ reachBytes) = true) :
    Calls Tryz.prog 3 args W fun e W' => ∃ v, e = .returned v ∧ Rows.canonThroughSpec.post enc Tryz.prog Tryz.f3 false true false false W args v W' := by
  have hW' := hW
  obtain ⟨p, q, hA0, hV, rfl, hfz, hnd⟩ := hW
  have hA : DataW.TrodAll enc Tryz.prog W 0 (fun _ => true) true Tryz.f3.params.toList args.toList ds p := hA0
  rw [Tryz.params3] at hA hval hsz
  obtain ⟨v0, vs0, d0, ds0, p0, q0, hargs, rfl, rfl, h0, r0⟩ := trodAll_cons hA
  obtain ⟨v1, vs1, d1, ds1, p1, q1, rfl, rfl, rfl, h1, r1⟩ := trodAll_cons r0
  obtain ⟨v2, vs2, d2, ds2, p2, q2, rfl, rfl, rfl, h2, r2⟩ := trodAll_cons r1
  obtain ⟨rfl, rfl, rfl⟩ := trodAll_nil r2
  obtain rfl : args = #[v0, v1, v2] := by cases args; simp_all
  obtain ⟨rfl, rfl⟩ := trodVars_none hV
  obtain ⟨a0, rfl, rfl, rfl, w0⟩ := open_int Tryz.underlying3 (hval 0 3 v0 rfl rfl) h0
  obtain ⟨a1, len1, cap1, rfl⟩ := okWide_slice Tryz.underlying22 (hval 1 22 v1 rfl rfl)
  have k1 := h1
  have lt1 : ∀ x ∈ p1, x.block < W.heap.size := by obtain ⟨m, hm⟩ := k1; exact DataW.trod_lt m _ _ _ hm
  obtain ⟨l1, hlen1, w1, c1⟩ : ∃ L : List Ev, L.length = len1 ∧ EvsIn W a1 L ∧ (len1 ≤ cap1 ∧ cap1 * 96 ≤ 140737488351232 ∧ (a1 = none → cap1 = 0)) := by
    obtain ⟨fuel, hf⟩ := h1
    obtain ⟨a', l', c', L, hcs, hl, hm, hLl, hfs, hn0, hx⟩ := open_evs hf
    simp [Value.cells] at hcs
    obtain ⟨rfl, rfl, rfl⟩ := hcs
    refine ⟨L, hLl, hfs, hl, ?_, hn0⟩
    rcases hx with hx | ⟨e, s, hx, hes⟩
    · omega
    · have hd : d1 = _ := hx
      have := sized_evs hsz (j := 1) (e := e) (s := s) rfl (by rw [hd]; rfl)
      omega
  obtain ⟨a2, rfl, rfl, rfl, w2⟩ := open_int Tryz.underlying3 (hval 2 3 v2 rfl rfl) h2
  clear hA0
  refine (walk a0 l1 a1 len1 cap1 a2 W w0 hlen1 w1 c1 w2).mono fun e W' ⟨he, bel⟩ => ?_
  subst he
  exact ⟨_, rfl, _, _, _, [], _, [], hW', trodAll_mk1 (shut_bool Tryz.underlying4 _), (trodAll_cons_mk (shut_int Tryz.underlying3 w0) (trodAll_cons_mk (Below.trod laidOut (by kernel_rfl) (of_decide_eq_true (by kernel_rfl)) k1 bel lt1) (trodAll_cons_mk (shut_int Tryz.underlying3 w2) trodAll_mk0))), rfl, bel.frame _, fun h => by cases h⟩
set_option maxRecDepth 100000 in
theorem lifted (os : Os) (started : os.Started) (H : Type) (enc : TypeId × Value → H) :
    ReturnsInHanded {} Tryz.checked os 3 .any (Rows.canonThroughSpec.pre6 enc Tryz.prog Tryz.f3 Rows.canonThroughRow.domain false) (Rows.canonThroughSpec.post enc Tryz.prog Tryz.f3 false true false false) := by
  refine returnsInHanded_of_change_sized (C := Tryz.checked) own started (by kernel_rfl) Tryz.func3
    (ChangeSpec.witness6 (enc := enc) (C := Tryz.checked) false ⟨#[], #[.int .i64 0, .slice none 0 0, .int .i64 0], []⟩ 8 (by kernel_rfl) (by kernel_rfl) (by kernel_rfl) (by kernel_rfl)) ?_
  intro W base args ds gs before hval hW _ hsz _
  exact contract H enc W base args ds gs before hval hW hsz
theorem over : Rows.canonThroughRow.holds Tryz.pinned (OpenSpec.ofChange Rows.canonThroughSpec) :=
  OpenClaim.holds_of_wide 3 Tryz.f3 rfl rfl rfl rfl rfl rfl rfl ⟨rfl, rfl, rfl, rfl, rfl⟩ rfl rfl rfl rfl rfl (by kernel_rfl) Tryz.func3 (by kernel_rfl)
    (of_decide_eq_true (by kernel_rfl)) (by unfold Func.isWrapper; first | (rw [if_pos (by decide +kernel)]; kernel_rfl) | (rw [if_neg (by decide +kernel)]; exact ⟨rfl, rfl⟩))
    (fun os started H enc _ => lifted os started H enc)
theorem proved : Rows.CanonThroughSaid := over
end Go.Proofs.YtdmncbeloenihaaGreat.canonThrough
