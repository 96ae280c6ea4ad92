/- Own texts, joined: Ra4. -/
import Derived.Test.YtldbdhhbmnbmaaaGreatM78
import Derived.Test.YtldbdhhbmnbmaaaGreatM27
namespace Go.Proofs.YtldbdhhbmnbmaaaGreat
open Go.ChangeShapes Go.WideShapes Go.ChangeAt Go.RowKit
set_option linter.unusedVariables false
set_option linter.unusedSimpArgs false
theorem Ap.turn {w x : World} {s t : St} {e : Ev} {a : Option Addr} {n cap B g m c : Nat} (h : Ap w s e a n cap B t (.slice (some ⟨g, 0, none⟩) m c) x) (i j : Nat) (p : Ln) (y : Int) (hp : t.lines[i]? = some p) (hj : j < 4) : Ap w s e a n cap B { t with lines := t.lines.set i (turnL p j y) } (.slice (some ⟨g, 0, none⟩) m c) (x.setCell ⟨g, i * 4 + j, none⟩ (.int .i64 y)) := by
  have n1 : some w.heap.size ≠ some g := own_st_ne h.row h.se.st
  have n2 : some (w.heap.size + 1) ≠ some g := own_ev_ne h.row h.se.ev
  have n3 : some (w.heap.size + 2) ≠ some g := own_st_ne h.row h.res
  have n4 : some B ≠ some g := own_st_ne h.row h.tb
  have hg := (h.row.ob g rfl).1
  have hbel : Below w.heap.size w (x.setCell ⟨g, i * 4 + j, none⟩ (.int .i64 y)) := h.se.bel.setCell (p := ⟨g, i * 4 + j, none⟩) hg _
  refine ⟨⟨?_, ?_, h.old.keep hbel, hbel⟩, ?_, ?_, h.row.turn i j p y hp hj, h.lo, h.old⟩
  · exact (heap_setCell_other x ⟨g, i * 4 + j, none⟩ w.heap.size _ (fun hh => n1 (congrArg some hh))).trans h.se.st
  · exact (heap_setCell_other x ⟨g, i * 4 + j, none⟩ (w.heap.size + 1) _ (fun hh => n2 (congrArg some hh))).trans h.se.ev
  · exact (heap_setCell_other x ⟨g, i * 4 + j, none⟩ (w.heap.size + 2) _ (fun hh => n3 (congrArg some hh))).trans h.res
  · exact (heap_setCell_other x ⟨g, i * 4 + j, none⟩ B _ (fun hh => n4 (congrArg some hh))).trans h.tb
set_option maxRecDepth 20000 in
set_option maxHeartbeats 16000000 in
theorem rapply_4 (s : St) (e : Ev) (a : Option Addr) (n cap : Nat) (w : World) (hn : s.lines.length = n) (hl : Lns w a s.lines) (hm : n * 32 ≤ 140737488351232) (hj : judS s e = 0) (hk : e.kind = 4) :
    Calls Tryz.prog 7 #[.agg (stA s (.slice a n cap)), .agg (evA e)] w fun r w' => ApplyPost (nextS s e) (judS s e) w r w' := by
  obtain ⟨W, hW, h1, h2, h3, h4⟩ := t3_new w s e (.slice a n cap)
  have HN : Hid (s.lines.length = n) := hn
  have hlm : n ≤ maxLen := by unfold maxLen; omega
  have HW1 : Hid (StAt W w.heap.size s (.slice a n cap) ∧ EvAt W (w.heap.size + 1) e ∧ StAt W (w.heap.size + 2) zeroS (.slice none 0 0) ∧ Below w.heap.size w W) := ⟨h1, h2, h3, h4⟩
  have HLW0 : Hid (Lns w a s.lines) := hl
  have HLW : Hid (Lns W a s.lines) := hl.keep h4
  obtain ⟨j, hjj⟩ : ∃ j, judS s e = j := ⟨_, rfl⟩
  have HJ : Hid (judS s e = j) := hjj
  have T1 : Hid True := trivial
  have T2 : Hid True := trivial
  have T3 : Hid True := trivial
  have hf : nextS s e = fineS s e := by unfold nextS; rw [if_neg (by rw [hj]; decide), if_pos hj]
  have hp := vl_of (jud_parts (s := s) (e := e) (by rw [hj]; decide)).1
  have he1 := hp.e1
  have he2 := hp.e2
  have hpr := right_of (jud_parts (s := s) (e := e) (by rw [hj]; decide)).2.1
  have pp0 : 0 ≤ e.price := hpr.price0
  have pp1 : e.price ≤ 1000000000000000 := by have := hpr.price1; have h5 : hiP 5 ≤ 1000000000000000 := (by decide); omega
  have pd0 : 0 ≤ s.refunded := hp.f1
  have pd1 : s.refunded ≤ s.paid := hp.f2
  have pd2 : s.paid ≤ 240000000000000 := by have := hp.p2; have := (vld_due (vl_to hp)).2.2.2.2.2.2.2; omega
  have tx0 := hp.t1
  have tx1 := hp.t2
  rw [hjj] at hj
  subst hj
  rw [hf, hjj]
  have HK : Hid (e.kind = 4) := hk
  have hLB := (vl_of (jud_parts (s := s) (e := e) (by rw [hjj]; decide)).1).lines
  have HLBB : Hid (linesB s.lines = true) := hLB
  have h16 : n ≤ 16 := by have := (linesB_from hLB).1; omega
  have HRI : Hid (linesFrom (-1) s.lines = true) := (linesB_from hLB).2
  have qq0 : 0 ≤ e.qty := by have := hpr.qty0; simpa [loQ] using this
  have qq1 : e.qty ≤ 10000 := hpr.qty1
  have hrf : refR s e = 0 := by
    have h7 := (jud_rest (s := s) (e := e) (by rw [hjj]; decide) (by rw [hjj]; decide)).2
    rw [hjj] at h7
    split at h7
    · rename_i h8; exact absurd h7.symm h8
    · exact h7.symm
  have hR : ∃ p, lnAt s.lines e.item = some p ∧ e.qty ≤ p.qty - p.shipped := by
    have h8 : refTake (fun p => p.qty - p.shipped) s e = 0 := by rw [← hrf]; unfold refR; simp [hk]
    unfold refTake at h8
    split at h8
    · cases h8
    · split at h8
      · rename_i q hq
        refine ⟨q, hq, ?_⟩
        simp only at h8
        split at h8 <;> omega
      · cases h8
  obtain ⟨p, hpl, hq⟩ := hR
  obtain ⟨g1, g2⟩ := lnAt_some hpl
  have fp := (linesB_facts hLB).2 _ _ g1
  have hsl : shipL s.lines e = s.lines.set (lbI s.lines e.item) (turnL p 3 (p.shipped + e.qty)) := by unfold shipL; rw [hpl]; rfl
  obtain ⟨LB, hLBe⟩ : ∃ LB, lbI s.lines e.item = LB := ⟨_, rfl⟩
  rw [hLBe] at g1 hsl
  have HAT : Hid (atV s.lines e.item = (LB : Int)) := at_some HRI.out g1 g2
  have hLn : LB < n := by have := ln_lt g1; omega
  have hLi0 : (0 : Int) ≤ (LB : Int) := by omega
  have hLi1 : (LB : Int) < (n : Int) := by omega
  have HG1 : Hid (s.lines[LB]? = some p) := g1
  have b1 : 0 ≤ p.shipped := by omega
  have b2 : p.shipped ≤ 100000 := by omega
  have hwsp : IntKind.i64.wrap (p.shipped + e.qty) = p.shipped + e.qty := by rw [wrap_i64]; omega
  obtain ⟨L1, hL1⟩ : ∃ L1, shipL s.lines e = L1 := ⟨_, rfl⟩
  have HL1 : Hid (s.lines.set LB (turnL p 3 (p.shipped + e.qty)) = L1) := by show _ = _; rw [← hsl, hL1]
  have HN1 : Hid (L1.length = n) := by show _ = _; rw [← hL1, hsl]; simpa using hn
  clear hrf hLB hpl hq g1 g2 fp hsl hLBe
  cases hPB : wholeB L1 with
  | true =>
    have HPB : Hid (wholeB L1 = true) := hPB
    by_cases hst : s.stamp < e.stamp
    · have gst : decide (s.stamp < e.stamp) = true := by simpa using hst
      cases hw : e.who.toList == [] with
      | true =>
        have hR : fineS s e = { s with events := (s.events + 1), stamp := e.stamp, lines := L1, status := 4 } := by simp [fineS, doS, hk, hst, hw, shipS, hL1, hPB]
        rw [hR]
        clear hn hl hR hjj h1 h2 h3 h4 hp hpr hf hk
        go_enter Tryz.func7, Tryz.ntmps7
        go_wp2_with (first
              | ((with_reducible refine guard_load 25 ?_); clear T1; refine wpList_load_st rfl _ rfl HW1.out.1 rfl ?_)
              | (go_at_call 6; refine (scopy_any s a n cap _ HN.out HLW.out hm).mono ?_; rintro _ x2 ⟨v2, rfl, ho2, hb2⟩; obtain ⟨a2, c2, hv2, _, _, hl2, _⟩ := ho2.shape; simp only [HN.out] at hv2; subst hv2; have HX2 : Hid (OwnL x2 W.heap.size (.slice a2 n c2) s.lines ∧ Below W.heap.size W x2) := ⟨ho2, hb2⟩; clear hb2 ho2 hl2)
              | ((with_reducible refine guard_store 25 ?_); clear T2; refine wpList_store_st (s := zeroS) (s2 := s) (a2 := a2) (n2 := n) (c2 := c2) rfl _ _ rfl (StAt.new x2 zeroS (.slice none 0 0)) rfl rfl ?_; intro x3 z1 z2 z3 z4; have HA3 : Hid (Ap w s e a n cap x2.heap.size s (.slice a2 n c2) x3) := Ap.start HW1.out HLW0.out HX2.out.1 HX2.out.2 z1 (z2 _ _ ((Below.refl x2.heap.size x2).alloc (Nat.le_refl _) _) (Nat.le_refl _)); clear z1 z2 z3 z4)
              | ((with_reducible refine guard_load 25 ?_); clear T3; refine wpList_load_st rfl _ rfl HA3.out.se.st rfl ?_)
              | ((with_reducible refine guard_load 28 ?_); refine wpList_load_ev rfl _ rfl HA3.out.se.ev rfl ?_)
              | (go_at_call 15; refine (rjudge_any s e a n cap _ HN.out HA3.out.se.ln hlm).mono ?_; rw [HJ.out]; rintro _ x4 ⟨rfl, hb4⟩; have HA4 : Hid (Ap w s e a n cap x2.heap.size s (.slice a2 n c2) x4) := Ap.keep HA3.out hb4; clear hb4; have s5_8 := HA4.out.se.st.cell 8 (.int .i64 s.events) rfl; have t5 := HA4.out.tb.cell 8 (.int .i64 s.events) rfl; have u5 := HA4.out.tb.froz 8; have HA5 : Hid (Ap w s e a n cap x2.heap.size { s with events := (s.events + 1) } (.slice a2 n c2) (x4.setCell ⟨x2.heap.size, 8, none⟩ (.int .i64 (s.events + 1)))) := Ap.set HA4.out 8 _ rfl rfl; have s6_10 := HA5.out.se.st.cell 10 (.int .i64 s.stamp) rfl; have v6_8 := HA5.out.se.ev.cell 8 (.int .i64 e.stamp) rfl; have t6 := HA5.out.tb.cell 10 (.int .i64 s.stamp) rfl; have u6 := HA5.out.tb.froz 10; have HA6 : Hid (Ap w s e a n cap x2.heap.size { s with events := (s.events + 1), stamp := e.stamp } (.slice a2 n c2) ((x4.setCell ⟨x2.heap.size, 8, none⟩ (.int .i64 (s.events + 1))).setCell ⟨x2.heap.size, 10, none⟩ (.int .i64 e.stamp))) := Ap.set HA5.out 10 _ rfl rfl; have v7_7 := HA6.out.se.ev.cell 7 (.string e.who) rfl; have kk := (SE.cs HA6.out.se HK.out).2.2.2.2.2.2.1))
        obtain ⟨g, hga, _⟩ := HA6.out.row.block HG1.out
        subst hga
        refine wp_region_held (S := fun y => SE w s e a n cap y ∧ y.cell? ⟨x2.heap.size, 5, none⟩ = some (.slice (some ⟨g, 0, none⟩) n c2)) (by kernel_rfl) ?_
        change wpAnyH _ _ _ _ _ _ _ _ (World.drew _)
        obtain ⟨D0, hD⟩ : ∃ D0, World.drew ((x4.setCell ⟨x2.heap.size, 8, none⟩ (.int .i64 (s.events + 1))).setCell ⟨x2.heap.size, 10, none⟩ (.int .i64 e.stamp)) = D0 := ⟨_, rfl⟩
        have HD0 : Hid (Ap w s e a n cap x2.heap.size { s with events := (s.events + 1), stamp := e.stamp } (.slice (some ⟨g, 0, none⟩) n c2) D0) := by rw [← hD]; exact HA6.out.keep (Below.refl _ _).drew
        rw [hD]
        clear hD
        have T4 : Hid True := trivial
        refine wpAnyH_take (i := 0) (oi := { dst := some 92, op := Op.fieldAddr 25 (Operand.tmp 6) 5, type := 0, pos := "ref.go:253", after := #[], guard := none }) (v := ?_) rfl (by kernel_rfl) (by kernel_rfl) (by kernel_rfl) (fun _ _ _ h => h) (Or.inl ⟨by rfl, ?_⟩) ⟨HD0.out.se, HD0.out.tb.cell 5 (.slice (some ⟨g, 0, none⟩) n c2) rfl⟩ ?_
        rotate_left
        · (intro y hy; go_simp; try (with_reducible rfl))
        simp only [Act.put, List.setIfInBounds_toArray, List.set_cons_zero, List.set_cons_succ]
        refine wpAnyH_take (i := 1) (oi := { dst := some 93, op := Op.load 23 (Operand.tmp 92), type := 23, pos := "ref.go:253", after := #[{ on := 0, ground := Ground.data }], guard := none }) (v := ?_) rfl (by kernel_rfl) (by kernel_rfl) (by kernel_rfl) (fun _ _ _ h => h) (Or.inl ⟨by rfl, ?_⟩) ⟨HD0.out.se, HD0.out.tb.cell 5 (.slice (some ⟨g, 0, none⟩) n c2) rfl⟩ ?_
        rotate_left
        · (intro y hy; have cq := hy.2; go_simp; try (with_reducible rfl))
        simp only [Act.put, List.setIfInBounds_toArray, List.set_cons_zero, List.set_cons_succ]
        refine wpAnyH_take (i := 2) (oi := { dst := some 94, op := Op.load 25 (Operand.tmp 2), type := 25, pos := "ref.go:253", after := #[], guard := none }) (v := .agg (stA s (.slice a n cap))) rfl (by kernel_rfl) (by kernel_rfl) (by kernel_rfl) (fun _ _ _ h => h) (Or.inl ⟨by rfl, fun y hy => exec_load_st (.tmp 2) rfl rfl hy.1.st⟩) ⟨HD0.out.se, HD0.out.tb.cell 5 (.slice (some ⟨g, 0, none⟩) n c2) rfl⟩ ?_
        simp only [Act.put, List.setIfInBounds_toArray, List.set_cons_zero, List.set_cons_succ]
        refine wpAnyH_take (i := 3) (oi := { dst := some 95, op := Op.fieldAddr 28 (Operand.tmp 3) 2, type := 0, pos := "ref.go:253", after := #[], guard := none }) (v := ?_) rfl (by kernel_rfl) (by kernel_rfl) (by kernel_rfl) (fun _ _ _ h => h) (Or.inl ⟨by rfl, ?_⟩) ⟨HD0.out.se, HD0.out.tb.cell 5 (.slice (some ⟨g, 0, none⟩) n c2) rfl⟩ ?_
        rotate_left
        · (intro y hy; go_simp; try (with_reducible rfl))
        simp only [Act.put, List.setIfInBounds_toArray, List.set_cons_zero, List.set_cons_succ]
        refine wpAnyH_take (i := 4) (oi := { dst := some 96, op := Op.load 3 (Operand.tmp 95), type := 3, pos := "ref.go:253", after := #[{ on := 3, ground := Ground.data }], guard := none }) (v := ?_) rfl (by kernel_rfl) (by kernel_rfl) (by kernel_rfl) (fun _ _ _ h => h) (Or.inl ⟨by rfl, ?_⟩) ⟨HD0.out.se, HD0.out.tb.cell 5 (.slice (some ⟨g, 0, none⟩) n c2) rfl⟩ ?_
        rotate_left
        · (intro y hy; have cq := hy.1.ev.cell 2 (.int .i64 e.item) rfl; go_simp; try (with_reducible rfl))
        simp only [Act.put, List.setIfInBounds_toArray, List.set_cons_zero, List.set_cons_succ]
        refine wpAnyH_take (i := 9) (oi := { dst := some 101, op := Op.fieldAddr 28 (Operand.tmp 3) 3, type := 0, pos := "ref.go:253", after := #[], guard := none }) (v := ?_) rfl (by kernel_rfl) (by kernel_rfl) (by kernel_rfl) (fun _ _ _ h => h) (Or.inl ⟨by rfl, ?_⟩) ⟨HD0.out.se, HD0.out.tb.cell 5 (.slice (some ⟨g, 0, none⟩) n c2) rfl⟩ ?_
        rotate_left
        · (intro y hy; go_simp; try (with_reducible rfl))
        simp only [Act.put, List.setIfInBounds_toArray, List.set_cons_zero, List.set_cons_succ]
        refine wpAnyH_take (i := 10) (oi := { dst := some 102, op := Op.load 3 (Operand.tmp 101), type := 3, pos := "ref.go:253", after := #[{ on := 9, ground := Ground.data }], guard := none }) (v := ?_) rfl (by kernel_rfl) (by kernel_rfl) (by kernel_rfl) (fun _ _ _ h => h) (Or.inl ⟨by rfl, ?_⟩) ⟨HD0.out.se, HD0.out.tb.cell 5 (.slice (some ⟨g, 0, none⟩) n c2) rfl⟩ ?_
        rotate_left
        · (intro y hy; have cq := hy.1.ev.cell 3 (.int .i64 e.qty) rfl; go_simp; try (with_reducible rfl))
        simp only [Act.put, List.setIfInBounds_toArray, List.set_cons_zero, List.set_cons_succ]
        refine wpAnyH_ready (rs := [5]) (by kernel_rfl) (by simp) ?_
        refine AllReadyH.cons (o := { dst := some 97, op := Op.call { callee := Callee.value (Operand.func 18), args := #[Operand.tmp 94, Operand.tmp 96], argTypes := #[25, 3] }, type := 3, pos := "ref.go:253", after := #[{ on := 2, ground := Ground.data }, { on := 4, ground := Ground.data }], guard := none }) rfl (fun K hK => ?_) AllReadyH.nil
        go_simp
        refine (rat_any s e.item a n cap _ HN.out HD0.out.se.ln hlm HRI.out).mono ?_
        rw [HAT.out]
        rintro _ Y1 ⟨rfl, hb5⟩
        have HD1 : Hid (Ap w s e a n cap x2.heap.size { s with events := (s.events + 1), stamp := e.stamp } (.slice (some ⟨g, 0, none⟩) n c2) Y1) := HD0.out.keep hb5
        clear hb5
        obtain ⟨m0, m1, m2, m3⟩ := HD1.out.row.cells HG1.out
        have mf := frozen_own HD1.out.row (LB * 4 + 3)
        have HD2 : Hid (Ap w s e a n cap x2.heap.size { s with events := (s.events + 1), stamp := e.stamp, lines := L1 } (.slice (some ⟨g, 0, none⟩) n c2) (Y1.setCell ⟨g, LB * 4 + 3, none⟩ (.int .i64 (p.shipped + e.qty)))) := by
          have h := HD1.out.turn LB 3 p (p.shipped + e.qty) HG1.out (by omega)
          simp only [HL1.out] at h
          exact h
        (refine hK _ _ ⟨HD1.out.se, HD1.out.tb.cell 5 (.slice (some ⟨g, 0, none⟩) n c2) rfl⟩ ?_; clear hK K; intro _)
        try simp only [Act.put, List.setIfInBounds_toArray, List.set_cons_zero, List.set_cons_succ]
        refine wpAnyH_take (i := 6) (oi := { dst := some 98, op := Op.indexAddr 23 (Operand.tmp 93) (Operand.tmp 97), type := 0, pos := "ref.go:253", after := #[{ on := 1, ground := Ground.data }, { on := 5, ground := Ground.data }], guard := none }) (v := ?_) rfl (by kernel_rfl) (by kernel_rfl) (by kernel_rfl) (fun _ _ _ h => h) (Or.inl ⟨by rfl, ?_⟩) ⟨HD1.out.se, HD1.out.tb.cell 5 (.slice (some ⟨g, 0, none⟩) n c2) rfl⟩ ?_
        rotate_left
        · (intro y hy; go_simp; try (with_reducible rfl))
        simp only [Act.put, List.setIfInBounds_toArray, List.set_cons_zero, List.set_cons_succ]
        refine wpAnyH_take (i := 7) (oi := { dst := some 99, op := Op.fieldAddr 36 (Operand.tmp 98) 3, type := 0, pos := "ref.go:253", after := #[{ on := 6, ground := Ground.data }], guard := none }) (v := ?_) rfl (by kernel_rfl) (by kernel_rfl) (by kernel_rfl) (fun _ _ _ h => h) (Or.inl ⟨by rfl, ?_⟩) ⟨HD1.out.se, HD1.out.tb.cell 5 (.slice (some ⟨g, 0, none⟩) n c2) rfl⟩ ?_
        rotate_left
        · (intro y hy; go_simp; try (with_reducible rfl))
        simp only [Act.put, List.setIfInBounds_toArray, List.set_cons_zero, List.set_cons_succ]
        refine wpAnyH_ready (rs := [8]) (by kernel_rfl) (by simp) ?_
        refine AllReadyH.cons (o := { dst := some 100, op := Op.load 3 (Operand.tmp 99), type := 3, pos := "ref.go:253", after := #[{ on := 7, ground := Ground.data }], guard := none }) rfl (fun K hK => ?_) AllReadyH.nil
        go_simp
        (refine hK _ _ ⟨HD1.out.se, HD1.out.tb.cell 5 (.slice (some ⟨g, 0, none⟩) n c2) rfl⟩ ?_; clear hK K; intro _)
        try simp only [Act.put, List.setIfInBounds_toArray, List.set_cons_zero, List.set_cons_succ]
        refine wpAnyH_take (i := 11) (oi := { dst := some 103, op := Op.binOp BinOp.add 3 (Operand.tmp 100) (Operand.tmp 102) 3, type := 3, pos := "ref.go:253", after := #[{ on := 8, ground := Ground.data }, { on := 10, ground := Ground.data }], guard := none }) (v := ?_) rfl (by kernel_rfl) (by kernel_rfl) (by kernel_rfl) (fun _ _ _ h => h) (Or.inl ⟨by rfl, ?_⟩) ⟨HD1.out.se, HD1.out.tb.cell 5 (.slice (some ⟨g, 0, none⟩) n c2) rfl⟩ ?_
        rotate_left
        · (intro y hy; go_simp; try (with_reducible rfl))
        simp only [Act.put, List.setIfInBounds_toArray, List.set_cons_zero, List.set_cons_succ]
        refine wpAnyH_take (i := 12) (oi := { dst := some 104, op := Op.indexAddr 23 (Operand.tmp 93) (Operand.tmp 97), type := 0, pos := "ref.go:253", after := #[{ on := 1, ground := Ground.data }, { on := 5, ground := Ground.data }, { on := 0, ground := Ground.phase }, { on := 1, ground := Ground.phase }, { on := 2, ground := Ground.phase }, { on := 3, ground := Ground.phase }, { on := 4, ground := Ground.phase }, { on := 5, ground := Ground.phase }, { on := 6, ground := Ground.phase }, { on := 7, ground := Ground.phase }, { on := 8, ground := Ground.phase }, { on := 9, ground := Ground.phase }, { on := 10, ground := Ground.phase }, { on := 11, ground := Ground.phase }], guard := none }) (v := ?_) rfl (by kernel_rfl) (by kernel_rfl) (by kernel_rfl) (fun _ _ _ h => h) (Or.inl ⟨by rfl, ?_⟩) ⟨HD1.out.se, HD1.out.tb.cell 5 (.slice (some ⟨g, 0, none⟩) n c2) rfl⟩ ?_
        rotate_left
        · (intro y hy; go_simp; try (with_reducible rfl))
        simp only [Act.put, List.setIfInBounds_toArray, List.set_cons_zero, List.set_cons_succ]
        refine wpAnyH_take (i := 13) (oi := { dst := some 105, op := Op.fieldAddr 36 (Operand.tmp 104) 3, type := 0, pos := "ref.go:253", after := #[{ on := 12, ground := Ground.data }, { on := 0, ground := Ground.phase }, { on := 1, ground := Ground.phase }, { on := 2, ground := Ground.phase }, { on := 3, ground := Ground.phase }, { on := 4, ground := Ground.phase }, { on := 5, ground := Ground.phase }, { on := 6, ground := Ground.phase }, { on := 7, ground := Ground.phase }, { on := 8, ground := Ground.phase }, { on := 9, ground := Ground.phase }, { on := 10, ground := Ground.phase }, { on := 11, ground := Ground.phase }], guard := none }) (v := ?_) rfl (by kernel_rfl) (by kernel_rfl) (by kernel_rfl) (fun _ _ _ h => h) (Or.inl ⟨by rfl, ?_⟩) ⟨HD1.out.se, HD1.out.tb.cell 5 (.slice (some ⟨g, 0, none⟩) n c2) rfl⟩ ?_
        rotate_left
        · (intro y hy; go_simp; try (with_reducible rfl))
        simp only [Act.put, List.setIfInBounds_toArray, List.set_cons_zero, List.set_cons_succ]
        refine wpAnyH_ready (rs := [14]) (by kernel_rfl) (by simp) ?_
        refine AllReadyH.cons (o := { dst := none, op := Op.store 3 (Operand.tmp 105) (Operand.tmp 103), type := 0, pos := "ref.go:253", after := #[{ on := 13, ground := Ground.data }, { on := 11, ground := Ground.data }, { on := 5, ground := Ground.chain }, { on := 0, ground := Ground.phase }, { on := 1, ground := Ground.phase }, { on := 2, ground := Ground.phase }, { on := 3, ground := Ground.phase }, { on := 4, ground := Ground.phase }, { on := 5, ground := Ground.phase }, { on := 6, ground := Ground.phase }, { on := 7, ground := Ground.phase }, { on := 8, ground := Ground.phase }, { on := 9, ground := Ground.phase }, { on := 10, ground := Ground.phase }, { on := 11, ground := Ground.phase }], guard := none }) rfl (fun K hK => ?_) AllReadyH.nil
        go_simp
        (refine hK _ _ ⟨HD2.out.se, HD2.out.tb.cell 5 (.slice (some ⟨g, 0, none⟩) n c2) rfl⟩ ?_; clear hK K; intro _)
        try simp only [Act.put, List.setIfInBounds_toArray, List.set_cons_zero, List.set_cons_succ]
        refine wpAnyH_done (by kernel_rfl) ?_ _
        go_wp2_with (first
          | ((with_reducible refine guard_load 25 ?_); clear T4; refine wpList_load_st rfl _ rfl HD2.out.tb rfl ?_)
          | (go_at_call 19; refine (rwhole_any { s with events := (s.events + 1), stamp := e.stamp, lines := L1 } (some ⟨g, 0, none⟩) n c2 _ HN1.out (ownl_lns HD2.out.row) hlm).mono ?_; rw [HPB.out]; rintro _ Y2 ⟨rfl, hb6⟩; have HD3 : Hid (Ap w s e a n cap x2.heap.size { s with events := (s.events + 1), stamp := e.stamp, lines := L1 } (.slice (some ⟨g, 0, none⟩) n c2) Y2) := HD2.out.keep hb6; have q1 := HD3.out.tb.cell 1 (.int .i64 s.status) rfl; have q2 := HD3.out.tb.froz 1; have HY : Hid (Ap w s e a n cap x2.heap.size { s with events := (s.events + 1), stamp := e.stamp, lines := L1, status := 4 } (.slice (some ⟨g, 0, none⟩) n c2) (Y2.setCell ⟨x2.heap.size, 1, none⟩ (.int .i64 4))) := Ap.set HD3.out 1 _ rfl rfl; clear hb6)
              | ((with_reducible refine guard_load 25 ?_); refine wpList_load_st rfl _ rfl HY.out.tb rfl ?_)
              | ((with_reducible refine guard_store 25 ?_); refine wpList_store_st (s := zeroS) (s2 := { s with events := (s.events + 1), stamp := e.stamp, lines := L1, status := 4 }) (a2 := some ⟨g, 0, none⟩) (n2 := n) (c2 := c2) rfl _ _ rfl HY.out.res rfl rfl ?_; intro x9 z1 z2 z3 z4))
        refine bodyPost_ret (results_st2 rfl _ _ _ _ rfl rfl z1) rfl ⟨some ⟨g, 0, none⟩, n, c2, rfl, ?_⟩
        exact HY.out.done z2 z3
      | false =>
        have hR : fineS s e = { s with events := (s.events + 1), stamp := e.stamp, who := e.who, lines := L1, status := 4 } := by simp [fineS, doS, hk, hst, hw, shipS, hL1, hPB]
        rw [hR]
        clear hn hl hR hjj h1 h2 h3 h4 hp hpr hf hk
        go_enter Tryz.func7, Tryz.ntmps7
        go_wp2_with (first
              | ((with_reducible refine guard_load 25 ?_); clear T1; refine wpList_load_st rfl _ rfl HW1.out.1 rfl ?_)
              | (go_at_call 6; refine (scopy_any s a n cap _ HN.out HLW.out hm).mono ?_; rintro _ x2 ⟨v2, rfl, ho2, hb2⟩; obtain ⟨a2, c2, hv2, _, _, hl2, _⟩ := ho2.shape; simp only [HN.out] at hv2; subst hv2; have HX2 : Hid (OwnL x2 W.heap.size (.slice a2 n c2) s.lines ∧ Below W.heap.size W x2) := ⟨ho2, hb2⟩; clear hb2 ho2 hl2)
              | ((with_reducible refine guard_store 25 ?_); clear T2; refine wpList_store_st (s := zeroS) (s2 := s) (a2 := a2) (n2 := n) (c2 := c2) rfl _ _ rfl (StAt.new x2 zeroS (.slice none 0 0)) rfl rfl ?_; intro x3 z1 z2 z3 z4; have HA3 : Hid (Ap w s e a n cap x2.heap.size s (.slice a2 n c2) x3) := Ap.start HW1.out HLW0.out HX2.out.1 HX2.out.2 z1 (z2 _ _ ((Below.refl x2.heap.size x2).alloc (Nat.le_refl _) _) (Nat.le_refl _)); clear z1 z2 z3 z4)
              | ((with_reducible refine guard_load 25 ?_); clear T3; refine wpList_load_st rfl _ rfl HA3.out.se.st rfl ?_)
              | ((with_reducible refine guard_load 28 ?_); refine wpList_load_ev rfl _ rfl HA3.out.se.ev rfl ?_)
              | (go_at_call 15; refine (rjudge_any s e a n cap _ HN.out HA3.out.se.ln hlm).mono ?_; rw [HJ.out]; rintro _ x4 ⟨rfl, hb4⟩; have HA4 : Hid (Ap w s e a n cap x2.heap.size s (.slice a2 n c2) x4) := Ap.keep HA3.out hb4; clear hb4; have s5_8 := HA4.out.se.st.cell 8 (.int .i64 s.events) rfl; have t5 := HA4.out.tb.cell 8 (.int .i64 s.events) rfl; have u5 := HA4.out.tb.froz 8; have HA5 : Hid (Ap w s e a n cap x2.heap.size { s with events := (s.events + 1) } (.slice a2 n c2) (x4.setCell ⟨x2.heap.size, 8, none⟩ (.int .i64 (s.events + 1)))) := Ap.set HA4.out 8 _ rfl rfl; have s6_10 := HA5.out.se.st.cell 10 (.int .i64 s.stamp) rfl; have v6_8 := HA5.out.se.ev.cell 8 (.int .i64 e.stamp) rfl; have t6 := HA5.out.tb.cell 10 (.int .i64 s.stamp) rfl; have u6 := HA5.out.tb.froz 10; have HA6 : Hid (Ap w s e a n cap x2.heap.size { s with events := (s.events + 1), stamp := e.stamp } (.slice a2 n c2) ((x4.setCell ⟨x2.heap.size, 8, none⟩ (.int .i64 (s.events + 1))).setCell ⟨x2.heap.size, 10, none⟩ (.int .i64 e.stamp))) := Ap.set HA5.out 10 _ rfl rfl; have v7_7 := HA6.out.se.ev.cell 7 (.string e.who) rfl; have t7 := HA6.out.tb.cell 11 (.string s.who) rfl; have u7 := HA6.out.tb.froz 11; have HA7 : Hid (Ap w s e a n cap x2.heap.size { s with events := (s.events + 1), stamp := e.stamp, who := e.who } (.slice a2 n c2) (((x4.setCell ⟨x2.heap.size, 8, none⟩ (.int .i64 (s.events + 1))).setCell ⟨x2.heap.size, 10, none⟩ (.int .i64 e.stamp)).setCell ⟨x2.heap.size, 11, none⟩ (.string e.who))) := Ap.set HA6.out 11 _ rfl rfl; have kk := (SE.cs HA7.out.se HK.out).2.2.2.2.2.2.1))
        obtain ⟨g, hga, _⟩ := HA7.out.row.block HG1.out
        subst hga
        refine wp_region_held (S := fun y => SE w s e a n cap y ∧ y.cell? ⟨x2.heap.size, 5, none⟩ = some (.slice (some ⟨g, 0, none⟩) n c2)) (by kernel_rfl) ?_
        change wpAnyH _ _ _ _ _ _ _ _ (World.drew _)
        obtain ⟨D0, hD⟩ : ∃ D0, World.drew (((x4.setCell ⟨x2.heap.size, 8, none⟩ (.int .i64 (s.events + 1))).setCell ⟨x2.heap.size, 10, none⟩ (.int .i64 e.stamp)).setCell ⟨x2.heap.size, 11, none⟩ (.string e.who)) = D0 := ⟨_, rfl⟩
        have HD0 : Hid (Ap w s e a n cap x2.heap.size { s with events := (s.events + 1), stamp := e.stamp, who := e.who } (.slice (some ⟨g, 0, none⟩) n c2) D0) := by rw [← hD]; exact HA7.out.keep (Below.refl _ _).drew
        rw [hD]
        clear hD
        have T4 : Hid True := trivial
        refine wpAnyH_take (i := 0) (oi := { dst := some 92, op := Op.fieldAddr 25 (Operand.tmp 6) 5, type := 0, pos := "ref.go:253", after := #[], guard := none }) (v := ?_) rfl (by kernel_rfl) (by kernel_rfl) (by kernel_rfl) (fun _ _ _ h => h) (Or.inl ⟨by rfl, ?_⟩) ⟨HD0.out.se, HD0.out.tb.cell 5 (.slice (some ⟨g, 0, none⟩) n c2) rfl⟩ ?_
        rotate_left
        · (intro y hy; go_simp; try (with_reducible rfl))
        simp only [Act.put, List.setIfInBounds_toArray, List.set_cons_zero, List.set_cons_succ]
        refine wpAnyH_take (i := 1) (oi := { dst := some 93, op := Op.load 23 (Operand.tmp 92), type := 23, pos := "ref.go:253", after := #[{ on := 0, ground := Ground.data }], guard := none }) (v := ?_) rfl (by kernel_rfl) (by kernel_rfl) (by kernel_rfl) (fun _ _ _ h => h) (Or.inl ⟨by rfl, ?_⟩) ⟨HD0.out.se, HD0.out.tb.cell 5 (.slice (some ⟨g, 0, none⟩) n c2) rfl⟩ ?_
        rotate_left
        · (intro y hy; have cq := hy.2; go_simp; try (with_reducible rfl))
        simp only [Act.put, List.setIfInBounds_toArray, List.set_cons_zero, List.set_cons_succ]
        refine wpAnyH_take (i := 2) (oi := { dst := some 94, op := Op.load 25 (Operand.tmp 2), type := 25, pos := "ref.go:253", after := #[], guard := none }) (v := .agg (stA s (.slice a n cap))) rfl (by kernel_rfl) (by kernel_rfl) (by kernel_rfl) (fun _ _ _ h => h) (Or.inl ⟨by rfl, fun y hy => exec_load_st (.tmp 2) rfl rfl hy.1.st⟩) ⟨HD0.out.se, HD0.out.tb.cell 5 (.slice (some ⟨g, 0, none⟩) n c2) rfl⟩ ?_
        simp only [Act.put, List.setIfInBounds_toArray, List.set_cons_zero, List.set_cons_succ]
        refine wpAnyH_take (i := 3) (oi := { dst := some 95, op := Op.fieldAddr 28 (Operand.tmp 3) 2, type := 0, pos := "ref.go:253", after := #[], guard := none }) (v := ?_) rfl (by kernel_rfl) (by kernel_rfl) (by kernel_rfl) (fun _ _ _ h => h) (Or.inl ⟨by rfl, ?_⟩) ⟨HD0.out.se, HD0.out.tb.cell 5 (.slice (some ⟨g, 0, none⟩) n c2) rfl⟩ ?_
        rotate_left
        · (intro y hy; go_simp; try (with_reducible rfl))
        simp only [Act.put, List.setIfInBounds_toArray, List.set_cons_zero, List.set_cons_succ]
        refine wpAnyH_take (i := 4) (oi := { dst := some 96, op := Op.load 3 (Operand.tmp 95), type := 3, pos := "ref.go:253", after := #[{ on := 3, ground := Ground.data }], guard := none }) (v := ?_) rfl (by kernel_rfl) (by kernel_rfl) (by kernel_rfl) (fun _ _ _ h => h) (Or.inl ⟨by rfl, ?_⟩) ⟨HD0.out.se, HD0.out.tb.cell 5 (.slice (some ⟨g, 0, none⟩) n c2) rfl⟩ ?_
        rotate_left
        · (intro y hy; have cq := hy.1.ev.cell 2 (.int .i64 e.item) rfl; go_simp; try (with_reducible rfl))
        simp only [Act.put, List.setIfInBounds_toArray, List.set_cons_zero, List.set_cons_succ]
        refine wpAnyH_take (i := 9) (oi := { dst := some 101, op := Op.fieldAddr 28 (Operand.tmp 3) 3, type := 0, pos := "ref.go:253", after := #[], guard := none }) (v := ?_) rfl (by kernel_rfl) (by kernel_rfl) (by kernel_rfl) (fun _ _ _ h => h) (Or.inl ⟨by rfl, ?_⟩) ⟨HD0.out.se, HD0.out.tb.cell 5 (.slice (some ⟨g, 0, none⟩) n c2) rfl⟩ ?_
        rotate_left
        · (intro y hy; go_simp; try (with_reducible rfl))
        simp only [Act.put, List.setIfInBounds_toArray, List.set_cons_zero, List.set_cons_succ]
        refine wpAnyH_take (i := 10) (oi := { dst := some 102, op := Op.load 3 (Operand.tmp 101), type := 3, pos := "ref.go:253", after := #[{ on := 9, ground := Ground.data }], guard := none }) (v := ?_) rfl (by kernel_rfl) (by kernel_rfl) (by kernel_rfl) (fun _ _ _ h => h) (Or.inl ⟨by rfl, ?_⟩) ⟨HD0.out.se, HD0.out.tb.cell 5 (.slice (some ⟨g, 0, none⟩) n c2) rfl⟩ ?_
        rotate_left
        · (intro y hy; have cq := hy.1.ev.cell 3 (.int .i64 e.qty) rfl; go_simp; try (with_reducible rfl))
        simp only [Act.put, List.setIfInBounds_toArray, List.set_cons_zero, List.set_cons_succ]
        refine wpAnyH_ready (rs := [5]) (by kernel_rfl) (by simp) ?_
        refine AllReadyH.cons (o := { dst := some 97, op := Op.call { callee := Callee.value (Operand.func 18), args := #[Operand.tmp 94, Operand.tmp 96], argTypes := #[25, 3] }, type := 3, pos := "ref.go:253", after := #[{ on := 2, ground := Ground.data }, { on := 4, ground := Ground.data }], guard := none }) rfl (fun K hK => ?_) AllReadyH.nil
        go_simp
        refine (rat_any s e.item a n cap _ HN.out HD0.out.se.ln hlm HRI.out).mono ?_
        rw [HAT.out]
        rintro _ Y1 ⟨rfl, hb5⟩
        have HD1 : Hid (Ap w s e a n cap x2.heap.size { s with events := (s.events + 1), stamp := e.stamp, who := e.who } (.slice (some ⟨g, 0, none⟩) n c2) Y1) := HD0.out.keep hb5
        clear hb5
        obtain ⟨m0, m1, m2, m3⟩ := HD1.out.row.cells HG1.out
        have mf := frozen_own HD1.out.row (LB * 4 + 3)
        have HD2 : Hid (Ap w s e a n cap x2.heap.size { s with events := (s.events + 1), stamp := e.stamp, who := e.who, lines := L1 } (.slice (some ⟨g, 0, none⟩) n c2) (Y1.setCell ⟨g, LB * 4 + 3, none⟩ (.int .i64 (p.shipped + e.qty)))) := by
          have h := HD1.out.turn LB 3 p (p.shipped + e.qty) HG1.out (by omega)
          simp only [HL1.out] at h
          exact h
        (refine hK _ _ ⟨HD1.out.se, HD1.out.tb.cell 5 (.slice (some ⟨g, 0, none⟩) n c2) rfl⟩ ?_; clear hK K; intro _)
        try simp only [Act.put, List.setIfInBounds_toArray, List.set_cons_zero, List.set_cons_succ]
        refine wpAnyH_take (i := 6) (oi := { dst := some 98, op := Op.indexAddr 23 (Operand.tmp 93) (Operand.tmp 97), type := 0, pos := "ref.go:253", after := #[{ on := 1, ground := Ground.data }, { on := 5, ground := Ground.data }], guard := none }) (v := ?_) rfl (by kernel_rfl) (by kernel_rfl) (by kernel_rfl) (fun _ _ _ h => h) (Or.inl ⟨by rfl, ?_⟩) ⟨HD1.out.se, HD1.out.tb.cell 5 (.slice (some ⟨g, 0, none⟩) n c2) rfl⟩ ?_
        rotate_left
        · (intro y hy; go_simp; try (with_reducible rfl))
        simp only [Act.put, List.setIfInBounds_toArray, List.set_cons_zero, List.set_cons_succ]
        refine wpAnyH_take (i := 7) (oi := { dst := some 99, op := Op.fieldAddr 36 (Operand.tmp 98) 3, type := 0, pos := "ref.go:253", after := #[{ on := 6, ground := Ground.data }], guard := none }) (v := ?_) rfl (by kernel_rfl) (by kernel_rfl) (by kernel_rfl) (fun _ _ _ h => h) (Or.inl ⟨by rfl, ?_⟩) ⟨HD1.out.se, HD1.out.tb.cell 5 (.slice (some ⟨g, 0, none⟩) n c2) rfl⟩ ?_
        rotate_left
        · (intro y hy; go_simp; try (with_reducible rfl))
        simp only [Act.put, List.setIfInBounds_toArray, List.set_cons_zero, List.set_cons_succ]
        refine wpAnyH_ready (rs := [8]) (by kernel_rfl) (by simp) ?_
        refine AllReadyH.cons (o := { dst := some 100, op := Op.load 3 (Operand.tmp 99), type := 3, pos := "ref.go:253", after := #[{ on := 7, ground := Ground.data }], guard := none }) rfl (fun K hK => ?_) AllReadyH.nil
        go_simp
        (refine hK _ _ ⟨HD1.out.se, HD1.out.tb.cell 5 (.slice (some ⟨g, 0, none⟩) n c2) rfl⟩ ?_; clear hK K; intro _)
        try simp only [Act.put, List.setIfInBounds_toArray, List.set_cons_zero, List.set_cons_succ]
        refine wpAnyH_take (i := 11) (oi := { dst := some 103, op := Op.binOp BinOp.add 3 (Operand.tmp 100) (Operand.tmp 102) 3, type := 3, pos := "ref.go:253", after := #[{ on := 8, ground := Ground.data }, { on := 10, ground := Ground.data }], guard := none }) (v := ?_) rfl (by kernel_rfl) (by kernel_rfl) (by kernel_rfl) (fun _ _ _ h => h) (Or.inl ⟨by rfl, ?_⟩) ⟨HD1.out.se, HD1.out.tb.cell 5 (.slice (some ⟨g, 0, none⟩) n c2) rfl⟩ ?_
        rotate_left
        · (intro y hy; go_simp; try (with_reducible rfl))
        simp only [Act.put, List.setIfInBounds_toArray, List.set_cons_zero, List.set_cons_succ]
        refine wpAnyH_take (i := 12) (oi := { dst := some 104, op := Op.indexAddr 23 (Operand.tmp 93) (Operand.tmp 97), type := 0, pos := "ref.go:253", after := #[{ on := 1, ground := Ground.data }, { on := 5, ground := Ground.data }, { on := 0, ground := Ground.phase }, { on := 1, ground := Ground.phase }, { on := 2, ground := Ground.phase }, { on := 3, ground := Ground.phase }, { on := 4, ground := Ground.phase }, { on := 5, ground := Ground.phase }, { on := 6, ground := Ground.phase }, { on := 7, ground := Ground.phase }, { on := 8, ground := Ground.phase }, { on := 9, ground := Ground.phase }, { on := 10, ground := Ground.phase }, { on := 11, ground := Ground.phase }], guard := none }) (v := ?_) rfl (by kernel_rfl) (by kernel_rfl) (by kernel_rfl) (fun _ _ _ h => h) (Or.inl ⟨by rfl, ?_⟩) ⟨HD1.out.se, HD1.out.tb.cell 5 (.slice (some ⟨g, 0, none⟩) n c2) rfl⟩ ?_
        rotate_left
        · (intro y hy; go_simp; try (with_reducible rfl))
        simp only [Act.put, List.setIfInBounds_toArray, List.set_cons_zero, List.set_cons_succ]
        refine wpAnyH_take (i := 13) (oi := { dst := some 105, op := Op.fieldAddr 36 (Operand.tmp 104) 3, type := 0, pos := "ref.go:253", after := #[{ on := 12, ground := Ground.data }, { on := 0, ground := Ground.phase }, { on := 1, ground := Ground.phase }, { on := 2, ground := Ground.phase }, { on := 3, ground := Ground.phase }, { on := 4, ground := Ground.phase }, { on := 5, ground := Ground.phase }, { on := 6, ground := Ground.phase }, { on := 7, ground := Ground.phase }, { on := 8, ground := Ground.phase }, { on := 9, ground := Ground.phase }, { on := 10, ground := Ground.phase }, { on := 11, ground := Ground.phase }], guard := none }) (v := ?_) rfl (by kernel_rfl) (by kernel_rfl) (by kernel_rfl) (fun _ _ _ h => h) (Or.inl ⟨by rfl, ?_⟩) ⟨HD1.out.se, HD1.out.tb.cell 5 (.slice (some ⟨g, 0, none⟩) n c2) rfl⟩ ?_
        rotate_left
        · (intro y hy; go_simp; try (with_reducible rfl))
        simp only [Act.put, List.setIfInBounds_toArray, List.set_cons_zero, List.set_cons_succ]
        refine wpAnyH_ready (rs := [14]) (by kernel_rfl) (by simp) ?_
        refine AllReadyH.cons (o := { dst := none, op := Op.store 3 (Operand.tmp 105) (Operand.tmp 103), type := 0, pos := "ref.go:253", after := #[{ on := 13, ground := Ground.data }, { on := 11, ground := Ground.data }, { on := 5, ground := Ground.chain }, { on := 0, ground := Ground.phase }, { on := 1, ground := Ground.phase }, { on := 2, ground := Ground.phase }, { on := 3, ground := Ground.phase }, { on := 4, ground := Ground.phase }, { on := 5, ground := Ground.phase }, { on := 6, ground := Ground.phase }, { on := 7, ground := Ground.phase }, { on := 8, ground := Ground.phase }, { on := 9, ground := Ground.phase }, { on := 10, ground := Ground.phase }, { on := 11, ground := Ground.phase }], guard := none }) rfl (fun K hK => ?_) AllReadyH.nil
        go_simp
        (refine hK _ _ ⟨HD2.out.se, HD2.out.tb.cell 5 (.slice (some ⟨g, 0, none⟩) n c2) rfl⟩ ?_; clear hK K; intro _)
        try simp only [Act.put, List.setIfInBounds_toArray, List.set_cons_zero, List.set_cons_succ]
        refine wpAnyH_done (by kernel_rfl) ?_ _
        go_wp2_with (first
          | ((with_reducible refine guard_load 25 ?_); clear T4; refine wpList_load_st rfl _ rfl HD2.out.tb rfl ?_)
          | (go_at_call 19; refine (rwhole_any { s with events := (s.events + 1), stamp := e.stamp, who := e.who, lines := L1 } (some ⟨g, 0, none⟩) n c2 _ HN1.out (ownl_lns HD2.out.row) hlm).mono ?_; rw [HPB.out]; rintro _ Y2 ⟨rfl, hb6⟩; have HD3 : Hid (Ap w s e a n cap x2.heap.size { s with events := (s.events + 1), stamp := e.stamp, who := e.who, lines := L1 } (.slice (some ⟨g, 0, none⟩) n c2) Y2) := HD2.out.keep hb6; have q1 := HD3.out.tb.cell 1 (.int .i64 s.status) rfl; have q2 := HD3.out.tb.froz 1; have HY : Hid (Ap w s e a n cap x2.heap.size { s with events := (s.events + 1), stamp := e.stamp, who := e.who, lines := L1, status := 4 } (.slice (some ⟨g, 0, none⟩) n c2) (Y2.setCell ⟨x2.heap.size, 1, none⟩ (.int .i64 4))) := Ap.set HD3.out 1 _ rfl rfl; clear hb6)
              | ((with_reducible refine guard_load 25 ?_); refine wpList_load_st rfl _ rfl HY.out.tb rfl ?_)
              | ((with_reducible refine guard_store 25 ?_); refine wpList_store_st (s := zeroS) (s2 := { s with events := (s.events + 1), stamp := e.stamp, who := e.who, lines := L1, status := 4 }) (a2 := some ⟨g, 0, none⟩) (n2 := n) (c2 := c2) rfl _ _ rfl HY.out.res rfl rfl ?_; intro x9 z1 z2 z3 z4))
        refine bodyPost_ret (results_st2 rfl _ _ _ _ rfl rfl z1) rfl ⟨some ⟨g, 0, none⟩, n, c2, rfl, ?_⟩
        exact HY.out.done z2 z3
    · have gst : decide (s.stamp < e.stamp) = false := by simpa using hst
      cases hw : e.who.toList == [] with
      | true =>
        have hR : fineS s e = { s with events := (s.events + 1), lines := L1, status := 4 } := by simp [fineS, doS, hk, hst, hw, shipS, hL1, hPB]
        rw [hR]
        clear hn hl hR hjj h1 h2 h3 h4 hp hpr hf hk
        go_enter Tryz.func7, Tryz.ntmps7
        go_wp2_with (first
              | ((with_reducible refine guard_load 25 ?_); clear T1; refine wpList_load_st rfl _ rfl HW1.out.1 rfl ?_)
              | (go_at_call 6; refine (scopy_any s a n cap _ HN.out HLW.out hm).mono ?_; rintro _ x2 ⟨v2, rfl, ho2, hb2⟩; obtain ⟨a2, c2, hv2, _, _, hl2, _⟩ := ho2.shape; simp only [HN.out] at hv2; subst hv2; have HX2 : Hid (OwnL x2 W.heap.size (.slice a2 n c2) s.lines ∧ Below W.heap.size W x2) := ⟨ho2, hb2⟩; clear hb2 ho2 hl2)
              | ((with_reducible refine guard_store 25 ?_); clear T2; refine wpList_store_st (s := zeroS) (s2 := s) (a2 := a2) (n2 := n) (c2 := c2) rfl _ _ rfl (StAt.new x2 zeroS (.slice none 0 0)) rfl rfl ?_; intro x3 z1 z2 z3 z4; have HA3 : Hid (Ap w s e a n cap x2.heap.size s (.slice a2 n c2) x3) := Ap.start HW1.out HLW0.out HX2.out.1 HX2.out.2 z1 (z2 _ _ ((Below.refl x2.heap.size x2).alloc (Nat.le_refl _) _) (Nat.le_refl _)); clear z1 z2 z3 z4)
              | ((with_reducible refine guard_load 25 ?_); clear T3; refine wpList_load_st rfl _ rfl HA3.out.se.st rfl ?_)
              | ((with_reducible refine guard_load 28 ?_); refine wpList_load_ev rfl _ rfl HA3.out.se.ev rfl ?_)
              | (go_at_call 15; refine (rjudge_any s e a n cap _ HN.out HA3.out.se.ln hlm).mono ?_; rw [HJ.out]; rintro _ x4 ⟨rfl, hb4⟩; have HA4 : Hid (Ap w s e a n cap x2.heap.size s (.slice a2 n c2) x4) := Ap.keep HA3.out hb4; clear hb4; have s5_8 := HA4.out.se.st.cell 8 (.int .i64 s.events) rfl; have t5 := HA4.out.tb.cell 8 (.int .i64 s.events) rfl; have u5 := HA4.out.tb.froz 8; have HA5 : Hid (Ap w s e a n cap x2.heap.size { s with events := (s.events + 1) } (.slice a2 n c2) (x4.setCell ⟨x2.heap.size, 8, none⟩ (.int .i64 (s.events + 1)))) := Ap.set HA4.out 8 _ rfl rfl; have s6_10 := HA5.out.se.st.cell 10 (.int .i64 s.stamp) rfl; have v6_8 := HA5.out.se.ev.cell 8 (.int .i64 e.stamp) rfl; have v7_7 := HA5.out.se.ev.cell 7 (.string e.who) rfl; have kk := (SE.cs HA5.out.se HK.out).2.2.2.2.2.2.1))
        obtain ⟨g, hga, _⟩ := HA5.out.row.block HG1.out
        subst hga
        refine wp_region_held (S := fun y => SE w s e a n cap y ∧ y.cell? ⟨x2.heap.size, 5, none⟩ = some (.slice (some ⟨g, 0, none⟩) n c2)) (by kernel_rfl) ?_
        change wpAnyH _ _ _ _ _ _ _ _ (World.drew _)
        obtain ⟨D0, hD⟩ : ∃ D0, World.drew (x4.setCell ⟨x2.heap.size, 8, none⟩ (.int .i64 (s.events + 1))) = D0 := ⟨_, rfl⟩
        have HD0 : Hid (Ap w s e a n cap x2.heap.size { s with events := (s.events + 1) } (.slice (some ⟨g, 0, none⟩) n c2) D0) := by rw [← hD]; exact HA5.out.keep (Below.refl _ _).drew
        rw [hD]
        clear hD
        have T4 : Hid True := trivial
        refine wpAnyH_take (i := 0) (oi := { dst := some 92, op := Op.fieldAddr 25 (Operand.tmp 6) 5, type := 0, pos := "ref.go:253", after := #[], guard := none }) (v := ?_) rfl (by kernel_rfl) (by kernel_rfl) (by kernel_rfl) (fun _ _ _ h => h) (Or.inl ⟨by rfl, ?_⟩) ⟨HD0.out.se, HD0.out.tb.cell 5 (.slice (some ⟨g, 0, none⟩) n c2) rfl⟩ ?_
        rotate_left
        · (intro y hy; go_simp; try (with_reducible rfl))
        simp only [Act.put, List.setIfInBounds_toArray, List.set_cons_zero, List.set_cons_succ]
        refine wpAnyH_take (i := 1) (oi := { dst := some 93, op := Op.load 23 (Operand.tmp 92), type := 23, pos := "ref.go:253", after := #[{ on := 0, ground := Ground.data }], guard := none }) (v := ?_) rfl (by kernel_rfl) (by kernel_rfl) (by kernel_rfl) (fun _ _ _ h => h) (Or.inl ⟨by rfl, ?_⟩) ⟨HD0.out.se, HD0.out.tb.cell 5 (.slice (some ⟨g, 0, none⟩) n c2) rfl⟩ ?_
        rotate_left
        · (intro y hy; have cq := hy.2; go_simp; try (with_reducible rfl))
        simp only [Act.put, List.setIfInBounds_toArray, List.set_cons_zero, List.set_cons_succ]
        refine wpAnyH_take (i := 2) (oi := { dst := some 94, op := Op.load 25 (Operand.tmp 2), type := 25, pos := "ref.go:253", after := #[], guard := none }) (v := .agg (stA s (.slice a n cap))) rfl (by kernel_rfl) (by kernel_rfl) (by kernel_rfl) (fun _ _ _ h => h) (Or.inl ⟨by rfl, fun y hy => exec_load_st (.tmp 2) rfl rfl hy.1.st⟩) ⟨HD0.out.se, HD0.out.tb.cell 5 (.slice (some ⟨g, 0, none⟩) n c2) rfl⟩ ?_
        simp only [Act.put, List.setIfInBounds_toArray, List.set_cons_zero, List.set_cons_succ]
        refine wpAnyH_take (i := 3) (oi := { dst := some 95, op := Op.fieldAddr 28 (Operand.tmp 3) 2, type := 0, pos := "ref.go:253", after := #[], guard := none }) (v := ?_) rfl (by kernel_rfl) (by kernel_rfl) (by kernel_rfl) (fun _ _ _ h => h) (Or.inl ⟨by rfl, ?_⟩) ⟨HD0.out.se, HD0.out.tb.cell 5 (.slice (some ⟨g, 0, none⟩) n c2) rfl⟩ ?_
        rotate_left
        · (intro y hy; go_simp; try (with_reducible rfl))
        simp only [Act.put, List.setIfInBounds_toArray, List.set_cons_zero, List.set_cons_succ]
        refine wpAnyH_take (i := 4) (oi := { dst := some 96, op := Op.load 3 (Operand.tmp 95), type := 3, pos := "ref.go:253", after := #[{ on := 3, ground := Ground.data }], guard := none }) (v := ?_) rfl (by kernel_rfl) (by kernel_rfl) (by kernel_rfl) (fun _ _ _ h => h) (Or.inl ⟨by rfl, ?_⟩) ⟨HD0.out.se, HD0.out.tb.cell 5 (.slice (some ⟨g, 0, none⟩) n c2) rfl⟩ ?_
        rotate_left
        · (intro y hy; have cq := hy.1.ev.cell 2 (.int .i64 e.item) rfl; go_simp; try (with_reducible rfl))
        simp only [Act.put, List.setIfInBounds_toArray, List.set_cons_zero, List.set_cons_succ]
        refine wpAnyH_take (i := 9) (oi := { dst := some 101, op := Op.fieldAddr 28 (Operand.tmp 3) 3, type := 0, pos := "ref.go:253", after := #[], guard := none }) (v := ?_) rfl (by kernel_rfl) (by kernel_rfl) (by kernel_rfl) (fun _ _ _ h => h) (Or.inl ⟨by rfl, ?_⟩) ⟨HD0.out.se, HD0.out.tb.cell 5 (.slice (some ⟨g, 0, none⟩) n c2) rfl⟩ ?_
        rotate_left
        · (intro y hy; go_simp; try (with_reducible rfl))
        simp only [Act.put, List.setIfInBounds_toArray, List.set_cons_zero, List.set_cons_succ]
        refine wpAnyH_take (i := 10) (oi := { dst := some 102, op := Op.load 3 (Operand.tmp 101), type := 3, pos := "ref.go:253", after := #[{ on := 9, ground := Ground.data }], guard := none }) (v := ?_) rfl (by kernel_rfl) (by kernel_rfl) (by kernel_rfl) (fun _ _ _ h => h) (Or.inl ⟨by rfl, ?_⟩) ⟨HD0.out.se, HD0.out.tb.cell 5 (.slice (some ⟨g, 0, none⟩) n c2) rfl⟩ ?_
        rotate_left
        · (intro y hy; have cq := hy.1.ev.cell 3 (.int .i64 e.qty) rfl; go_simp; try (with_reducible rfl))
        simp only [Act.put, List.setIfInBounds_toArray, List.set_cons_zero, List.set_cons_succ]
        refine wpAnyH_ready (rs := [5]) (by kernel_rfl) (by simp) ?_
        refine AllReadyH.cons (o := { dst := some 97, op := Op.call { callee := Callee.value (Operand.func 18), args := #[Operand.tmp 94, Operand.tmp 96], argTypes := #[25, 3] }, type := 3, pos := "ref.go:253", after := #[{ on := 2, ground := Ground.data }, { on := 4, ground := Ground.data }], guard := none }) rfl (fun K hK => ?_) AllReadyH.nil
        go_simp
        refine (rat_any s e.item a n cap _ HN.out HD0.out.se.ln hlm HRI.out).mono ?_
        rw [HAT.out]
        rintro _ Y1 ⟨rfl, hb5⟩
        have HD1 : Hid (Ap w s e a n cap x2.heap.size { s with events := (s.events + 1) } (.slice (some ⟨g, 0, none⟩) n c2) Y1) := HD0.out.keep hb5
        clear hb5
        obtain ⟨m0, m1, m2, m3⟩ := HD1.out.row.cells HG1.out
        have mf := frozen_own HD1.out.row (LB * 4 + 3)
        have HD2 : Hid (Ap w s e a n cap x2.heap.size { s with events := (s.events + 1), lines := L1 } (.slice (some ⟨g, 0, none⟩) n c2) (Y1.setCell ⟨g, LB * 4 + 3, none⟩ (.int .i64 (p.shipped + e.qty)))) := by
          have h := HD1.out.turn LB 3 p (p.shipped + e.qty) HG1.out (by omega)
          simp only [HL1.out] at h
          exact h
        (refine hK _ _ ⟨HD1.out.se, HD1.out.tb.cell 5 (.slice (some ⟨g, 0, none⟩) n c2) rfl⟩ ?_; clear hK K; intro _)
        try simp only [Act.put, List.setIfInBounds_toArray, List.set_cons_zero, List.set_cons_succ]
        refine wpAnyH_take (i := 6) (oi := { dst := some 98, op := Op.indexAddr 23 (Operand.tmp 93) (Operand.tmp 97), type := 0, pos := "ref.go:253", after := #[{ on := 1, ground := Ground.data }, { on := 5, ground := Ground.data }], guard := none }) (v := ?_) rfl (by kernel_rfl) (by kernel_rfl) (by kernel_rfl) (fun _ _ _ h => h) (Or.inl ⟨by rfl, ?_⟩) ⟨HD1.out.se, HD1.out.tb.cell 5 (.slice (some ⟨g, 0, none⟩) n c2) rfl⟩ ?_
        rotate_left
        · (intro y hy; go_simp; try (with_reducible rfl))
        simp only [Act.put, List.setIfInBounds_toArray, List.set_cons_zero, List.set_cons_succ]
        refine wpAnyH_take (i := 7) (oi := { dst := some 99, op := Op.fieldAddr 36 (Operand.tmp 98) 3, type := 0, pos := "ref.go:253", after := #[{ on := 6, ground := Ground.data }], guard := none }) (v := ?_) rfl (by kernel_rfl) (by kernel_rfl) (by kernel_rfl) (fun _ _ _ h => h) (Or.inl ⟨by rfl, ?_⟩) ⟨HD1.out.se, HD1.out.tb.cell 5 (.slice (some ⟨g, 0, none⟩) n c2) rfl⟩ ?_
        rotate_left
        · (intro y hy; go_simp; try (with_reducible rfl))
        simp only [Act.put, List.setIfInBounds_toArray, List.set_cons_zero, List.set_cons_succ]
        refine wpAnyH_ready (rs := [8]) (by kernel_rfl) (by simp) ?_
        refine AllReadyH.cons (o := { dst := some 100, op := Op.load 3 (Operand.tmp 99), type := 3, pos := "ref.go:253", after := #[{ on := 7, ground := Ground.data }], guard := none }) rfl (fun K hK => ?_) AllReadyH.nil
        go_simp
        (refine hK _ _ ⟨HD1.out.se, HD1.out.tb.cell 5 (.slice (some ⟨g, 0, none⟩) n c2) rfl⟩ ?_; clear hK K; intro _)
        try simp only [Act.put, List.setIfInBounds_toArray, List.set_cons_zero, List.set_cons_succ]
        refine wpAnyH_take (i := 11) (oi := { dst := some 103, op := Op.binOp BinOp.add 3 (Operand.tmp 100) (Operand.tmp 102) 3, type := 3, pos := "ref.go:253", after := #[{ on := 8, ground := Ground.data }, { on := 10, ground := Ground.data }], guard := none }) (v := ?_) rfl (by kernel_rfl) (by kernel_rfl) (by kernel_rfl) (fun _ _ _ h => h) (Or.inl ⟨by rfl, ?_⟩) ⟨HD1.out.se, HD1.out.tb.cell 5 (.slice (some ⟨g, 0, none⟩) n c2) rfl⟩ ?_
        rotate_left
        · (intro y hy; go_simp; try (with_reducible rfl))
        simp only [Act.put, List.setIfInBounds_toArray, List.set_cons_zero, List.set_cons_succ]
        refine wpAnyH_take (i := 12) (oi := { dst := some 104, op := Op.indexAddr 23 (Operand.tmp 93) (Operand.tmp 97), type := 0, pos := "ref.go:253", after := #[{ on := 1, ground := Ground.data }, { on := 5, ground := Ground.data }, { on := 0, ground := Ground.phase }, { on := 1, ground := Ground.phase }, { on := 2, ground := Ground.phase }, { on := 3, ground := Ground.phase }, { on := 4, ground := Ground.phase }, { on := 5, ground := Ground.phase }, { on := 6, ground := Ground.phase }, { on := 7, ground := Ground.phase }, { on := 8, ground := Ground.phase }, { on := 9, ground := Ground.phase }, { on := 10, ground := Ground.phase }, { on := 11, ground := Ground.phase }], guard := none }) (v := ?_) rfl (by kernel_rfl) (by kernel_rfl) (by kernel_rfl) (fun _ _ _ h => h) (Or.inl ⟨by rfl, ?_⟩) ⟨HD1.out.se, HD1.out.tb.cell 5 (.slice (some ⟨g, 0, none⟩) n c2) rfl⟩ ?_
        rotate_left
        · (intro y hy; go_simp; try (with_reducible rfl))
        simp only [Act.put, List.setIfInBounds_toArray, List.set_cons_zero, List.set_cons_succ]
        refine wpAnyH_take (i := 13) (oi := { dst := some 105, op := Op.fieldAddr 36 (Operand.tmp 104) 3, type := 0, pos := "ref.go:253", after := #[{ on := 12, ground := Ground.data }, { on := 0, ground := Ground.phase }, { on := 1, ground := Ground.phase }, { on := 2, ground := Ground.phase }, { on := 3, ground := Ground.phase }, { on := 4, ground := Ground.phase }, { on := 5, ground := Ground.phase }, { on := 6, ground := Ground.phase }, { on := 7, ground := Ground.phase }, { on := 8, ground := Ground.phase }, { on := 9, ground := Ground.phase }, { on := 10, ground := Ground.phase }, { on := 11, ground := Ground.phase }], guard := none }) (v := ?_) rfl (by kernel_rfl) (by kernel_rfl) (by kernel_rfl) (fun _ _ _ h => h) (Or.inl ⟨by rfl, ?_⟩) ⟨HD1.out.se, HD1.out.tb.cell 5 (.slice (some ⟨g, 0, none⟩) n c2) rfl⟩ ?_
        rotate_left
        · (intro y hy; go_simp; try (with_reducible rfl))
        simp only [Act.put, List.setIfInBounds_toArray, List.set_cons_zero, List.set_cons_succ]
        refine wpAnyH_ready (rs := [14]) (by kernel_rfl) (by simp) ?_
        refine AllReadyH.cons (o := { dst := none, op := Op.store 3 (Operand.tmp 105) (Operand.tmp 103), type := 0, pos := "ref.go:253", after := #[{ on := 13, ground := Ground.data }, { on := 11, ground := Ground.data }, { on := 5, ground := Ground.chain }, { on := 0, ground := Ground.phase }, { on := 1, ground := Ground.phase }, { on := 2, ground := Ground.phase }, { on := 3, ground := Ground.phase }, { on := 4, ground := Ground.phase }, { on := 5, ground := Ground.phase }, { on := 6, ground := Ground.phase }, { on := 7, ground := Ground.phase }, { on := 8, ground := Ground.phase }, { on := 9, ground := Ground.phase }, { on := 10, ground := Ground.phase }, { on := 11, ground := Ground.phase }], guard := none }) rfl (fun K hK => ?_) AllReadyH.nil
        go_simp
        (refine hK _ _ ⟨HD2.out.se, HD2.out.tb.cell 5 (.slice (some ⟨g, 0, none⟩) n c2) rfl⟩ ?_; clear hK K; intro _)
        try simp only [Act.put, List.setIfInBounds_toArray, List.set_cons_zero, List.set_cons_succ]
        refine wpAnyH_done (by kernel_rfl) ?_ _
        go_wp2_with (first
          | ((with_reducible refine guard_load 25 ?_); clear T4; refine wpList_load_st rfl _ rfl HD2.out.tb rfl ?_)
          | (go_at_call 19; refine (rwhole_any { s with events := (s.events + 1), lines := L1 } (some ⟨g, 0, none⟩) n c2 _ HN1.out (ownl_lns HD2.out.row) hlm).mono ?_; rw [HPB.out]; rintro _ Y2 ⟨rfl, hb6⟩; have HD3 : Hid (Ap w s e a n cap x2.heap.size { s with events := (s.events + 1), lines := L1 } (.slice (some ⟨g, 0, none⟩) n c2) Y2) := HD2.out.keep hb6; have q1 := HD3.out.tb.cell 1 (.int .i64 s.status) rfl; have q2 := HD3.out.tb.froz 1; have HY : Hid (Ap w s e a n cap x2.heap.size { s with events := (s.events + 1), lines := L1, status := 4 } (.slice (some ⟨g, 0, none⟩) n c2) (Y2.setCell ⟨x2.heap.size, 1, none⟩ (.int .i64 4))) := Ap.set HD3.out 1 _ rfl rfl; clear hb6)
              | ((with_reducible refine guard_load 25 ?_); refine wpList_load_st rfl _ rfl HY.out.tb rfl ?_)
              | ((with_reducible refine guard_store 25 ?_); refine wpList_store_st (s := zeroS) (s2 := { s with events := (s.events + 1), lines := L1, status := 4 }) (a2 := some ⟨g, 0, none⟩) (n2 := n) (c2 := c2) rfl _ _ rfl HY.out.res rfl rfl ?_; intro x9 z1 z2 z3 z4))
        refine bodyPost_ret (results_st2 rfl _ _ _ _ rfl rfl z1) rfl ⟨some ⟨g, 0, none⟩, n, c2, rfl, ?_⟩
        exact HY.out.done z2 z3
      | false =>
        have hR : fineS s e = { s with events := (s.events + 1), who := e.who, lines := L1, status := 4 } := by simp [fineS, doS, hk, hst, hw, shipS, hL1, hPB]
        rw [hR]
        clear hn hl hR hjj h1 h2 h3 h4 hp hpr hf hk
        go_enter Tryz.func7, Tryz.ntmps7
        go_wp2_with (first
              | ((with_reducible refine guard_load 25 ?_); clear T1; refine wpList_load_st rfl _ rfl HW1.out.1 rfl ?_)
              | (go_at_call 6; refine (scopy_any s a n cap _ HN.out HLW.out hm).mono ?_; rintro _ x2 ⟨v2, rfl, ho2, hb2⟩; obtain ⟨a2, c2, hv2, _, _, hl2, _⟩ := ho2.shape; simp only [HN.out] at hv2; subst hv2; have HX2 : Hid (OwnL x2 W.heap.size (.slice a2 n c2) s.lines ∧ Below W.heap.size W x2) := ⟨ho2, hb2⟩; clear hb2 ho2 hl2)
              | ((with_reducible refine guard_store 25 ?_); clear T2; refine wpList_store_st (s := zeroS) (s2 := s) (a2 := a2) (n2 := n) (c2 := c2) rfl _ _ rfl (StAt.new x2 zeroS (.slice none 0 0)) rfl rfl ?_; intro x3 z1 z2 z3 z4; have HA3 : Hid (Ap w s e a n cap x2.heap.size s (.slice a2 n c2) x3) := Ap.start HW1.out HLW0.out HX2.out.1 HX2.out.2 z1 (z2 _ _ ((Below.refl x2.heap.size x2).alloc (Nat.le_refl _) _) (Nat.le_refl _)); clear z1 z2 z3 z4)
              | ((with_reducible refine guard_load 25 ?_); clear T3; refine wpList_load_st rfl _ rfl HA3.out.se.st rfl ?_)
              | ((with_reducible refine guard_load 28 ?_); refine wpList_load_ev rfl _ rfl HA3.out.se.ev rfl ?_)
              | (go_at_call 15; refine (rjudge_any s e a n cap _ HN.out HA3.out.se.ln hlm).mono ?_; rw [HJ.out]; rintro _ x4 ⟨rfl, hb4⟩; have HA4 : Hid (Ap w s e a n cap x2.heap.size s (.slice a2 n c2) x4) := Ap.keep HA3.out hb4; clear hb4; have s5_8 := HA4.out.se.st.cell 8 (.int .i64 s.events) rfl; have t5 := HA4.out.tb.cell 8 (.int .i64 s.events) rfl; have u5 := HA4.out.tb.froz 8; have HA5 : Hid (Ap w s e a n cap x2.heap.size { s with events := (s.events + 1) } (.slice a2 n c2) (x4.setCell ⟨x2.heap.size, 8, none⟩ (.int .i64 (s.events + 1)))) := Ap.set HA4.out 8 _ rfl rfl; have s6_10 := HA5.out.se.st.cell 10 (.int .i64 s.stamp) rfl; have v6_8 := HA5.out.se.ev.cell 8 (.int .i64 e.stamp) rfl; have v7_7 := HA5.out.se.ev.cell 7 (.string e.who) rfl; have t7 := HA5.out.tb.cell 11 (.string s.who) rfl; have u7 := HA5.out.tb.froz 11; have HA7 : Hid (Ap w s e a n cap x2.heap.size { s with events := (s.events + 1), who := e.who } (.slice a2 n c2) ((x4.setCell ⟨x2.heap.size, 8, none⟩ (.int .i64 (s.events + 1))).setCell ⟨x2.heap.size, 11, none⟩ (.string e.who))) := Ap.set HA5.out 11 _ rfl rfl; have kk := (SE.cs HA7.out.se HK.out).2.2.2.2.2.2.1))
        obtain ⟨g, hga, _⟩ := HA7.out.row.block HG1.out
        subst hga
        refine wp_region_held (S := fun y => SE w s e a n cap y ∧ y.cell? ⟨x2.heap.size, 5, none⟩ = some (.slice (some ⟨g, 0, none⟩) n c2)) (by kernel_rfl) ?_
        change wpAnyH _ _ _ _ _ _ _ _ (World.drew _)
        obtain ⟨D0, hD⟩ : ∃ D0, World.drew ((x4.setCell ⟨x2.heap.size, 8, none⟩ (.int .i64 (s.events + 1))).setCell ⟨x2.heap.size, 11, none⟩ (.string e.who)) = D0 := ⟨_, rfl⟩
        have HD0 : Hid (Ap w s e a n cap x2.heap.size { s with events := (s.events + 1), who := e.who } (.slice (some ⟨g, 0, none⟩) n c2) D0) := by rw [← hD]; exact HA7.out.keep (Below.refl _ _).drew
        rw [hD]
        clear hD
        have T4 : Hid True := trivial
        refine wpAnyH_take (i := 0) (oi := { dst := some 92, op := Op.fieldAddr 25 (Operand.tmp 6) 5, type := 0, pos := "ref.go:253", after := #[], guard := none }) (v := ?_) rfl (by kernel_rfl) (by kernel_rfl) (by kernel_rfl) (fun _ _ _ h => h) (Or.inl ⟨by rfl, ?_⟩) ⟨HD0.out.se, HD0.out.tb.cell 5 (.slice (some ⟨g, 0, none⟩) n c2) rfl⟩ ?_
        rotate_left
        · (intro y hy; go_simp; try (with_reducible rfl))
        simp only [Act.put, List.setIfInBounds_toArray, List.set_cons_zero, List.set_cons_succ]
        refine wpAnyH_take (i := 1) (oi := { dst := some 93, op := Op.load 23 (Operand.tmp 92), type := 23, pos := "ref.go:253", after := #[{ on := 0, ground := Ground.data }], guard := none }) (v := ?_) rfl (by kernel_rfl) (by kernel_rfl) (by kernel_rfl) (fun _ _ _ h => h) (Or.inl ⟨by rfl, ?_⟩) ⟨HD0.out.se, HD0.out.tb.cell 5 (.slice (some ⟨g, 0, none⟩) n c2) rfl⟩ ?_
        rotate_left
        · (intro y hy; have cq := hy.2; go_simp; try (with_reducible rfl))
        simp only [Act.put, List.setIfInBounds_toArray, List.set_cons_zero, List.set_cons_succ]
        refine wpAnyH_take (i := 2) (oi := { dst := some 94, op := Op.load 25 (Operand.tmp 2), type := 25, pos := "ref.go:253", after := #[], guard := none }) (v := .agg (stA s (.slice a n cap))) rfl (by kernel_rfl) (by kernel_rfl) (by kernel_rfl) (fun _ _ _ h => h) (Or.inl ⟨by rfl, fun y hy => exec_load_st (.tmp 2) rfl rfl hy.1.st⟩) ⟨HD0.out.se, HD0.out.tb.cell 5 (.slice (some ⟨g, 0, none⟩) n c2) rfl⟩ ?_
        simp only [Act.put, List.setIfInBounds_toArray, List.set_cons_zero, List.set_cons_succ]
        refine wpAnyH_take (i := 3) (oi := { dst := some 95, op := Op.fieldAddr 28 (Operand.tmp 3) 2, type := 0, pos := "ref.go:253", after := #[], guard := none }) (v := ?_) rfl (by kernel_rfl) (by kernel_rfl) (by kernel_rfl) (fun _ _ _ h => h) (Or.inl ⟨by rfl, ?_⟩) ⟨HD0.out.se, HD0.out.tb.cell 5 (.slice (some ⟨g, 0, none⟩) n c2) rfl⟩ ?_
        rotate_left
        · (intro y hy; go_simp; try (with_reducible rfl))
        simp only [Act.put, List.setIfInBounds_toArray, List.set_cons_zero, List.set_cons_succ]
        refine wpAnyH_take (i := 4) (oi := { dst := some 96, op := Op.load 3 (Operand.tmp 95), type := 3, pos := "ref.go:253", after := #[{ on := 3, ground := Ground.data }], guard := none }) (v := ?_) rfl (by kernel_rfl) (by kernel_rfl) (by kernel_rfl) (fun _ _ _ h => h) (Or.inl ⟨by rfl, ?_⟩) ⟨HD0.out.se, HD0.out.tb.cell 5 (.slice (some ⟨g, 0, none⟩) n c2) rfl⟩ ?_
        rotate_left
        · (intro y hy; have cq := hy.1.ev.cell 2 (.int .i64 e.item) rfl; go_simp; try (with_reducible rfl))
        simp only [Act.put, List.setIfInBounds_toArray, List.set_cons_zero, List.set_cons_succ]
        refine wpAnyH_take (i := 9) (oi := { dst := some 101, op := Op.fieldAddr 28 (Operand.tmp 3) 3, type := 0, pos := "ref.go:253", after := #[], guard := none }) (v := ?_) rfl (by kernel_rfl) (by kernel_rfl) (by kernel_rfl) (fun _ _ _ h => h) (Or.inl ⟨by rfl, ?_⟩) ⟨HD0.out.se, HD0.out.tb.cell 5 (.slice (some ⟨g, 0, none⟩) n c2) rfl⟩ ?_
        rotate_left
        · (intro y hy; go_simp; try (with_reducible rfl))
        simp only [Act.put, List.setIfInBounds_toArray, List.set_cons_zero, List.set_cons_succ]
        refine wpAnyH_take (i := 10) (oi := { dst := some 102, op := Op.load 3 (Operand.tmp 101), type := 3, pos := "ref.go:253", after := #[{ on := 9, ground := Ground.data }], guard := none }) (v := ?_) rfl (by kernel_rfl) (by kernel_rfl) (by kernel_rfl) (fun _ _ _ h => h) (Or.inl ⟨by rfl, ?_⟩) ⟨HD0.out.se, HD0.out.tb.cell 5 (.slice (some ⟨g, 0, none⟩) n c2) rfl⟩ ?_
        rotate_left
        · (intro y hy; have cq := hy.1.ev.cell 3 (.int .i64 e.qty) rfl; go_simp; try (with_reducible rfl))
        simp only [Act.put, List.setIfInBounds_toArray, List.set_cons_zero, List.set_cons_succ]
        refine wpAnyH_ready (rs := [5]) (by kernel_rfl) (by simp) ?_
        refine AllReadyH.cons (o := { dst := some 97, op := Op.call { callee := Callee.value (Operand.func 18), args := #[Operand.tmp 94, Operand.tmp 96], argTypes := #[25, 3] }, type := 3, pos := "ref.go:253", after := #[{ on := 2, ground := Ground.data }, { on := 4, ground := Ground.data }], guard := none }) rfl (fun K hK => ?_) AllReadyH.nil
        go_simp
        refine (rat_any s e.item a n cap _ HN.out HD0.out.se.ln hlm HRI.out).mono ?_
        rw [HAT.out]
        rintro _ Y1 ⟨rfl, hb5⟩
        have HD1 : Hid (Ap w s e a n cap x2.heap.size { s with events := (s.events + 1), who := e.who } (.slice (some ⟨g, 0, none⟩) n c2) Y1) := HD0.out.keep hb5
        clear hb5
        obtain ⟨m0, m1, m2, m3⟩ := HD1.out.row.cells HG1.out
        have mf := frozen_own HD1.out.row (LB * 4 + 3)
        have HD2 : Hid (Ap w s e a n cap x2.heap.size { s with events := (s.events + 1), who := e.who, lines := L1 } (.slice (some ⟨g, 0, none⟩) n c2) (Y1.setCell ⟨g, LB * 4 + 3, none⟩ (.int .i64 (p.shipped + e.qty)))) := by
          have h := HD1.out.turn LB 3 p (p.shipped + e.qty) HG1.out (by omega)
          simp only [HL1.out] at h
          exact h
        (refine hK _ _ ⟨HD1.out.se, HD1.out.tb.cell 5 (.slice (some ⟨g, 0, none⟩) n c2) rfl⟩ ?_; clear hK K; intro _)
        try simp only [Act.put, List.setIfInBounds_toArray, List.set_cons_zero, List.set_cons_succ]
        refine wpAnyH_take (i := 6) (oi := { dst := some 98, op := Op.indexAddr 23 (Operand.tmp 93) (Operand.tmp 97), type := 0, pos := "ref.go:253", after := #[{ on := 1, ground := Ground.data }, { on := 5, ground := Ground.data }], guard := none }) (v := ?_) rfl (by kernel_rfl) (by kernel_rfl) (by kernel_rfl) (fun _ _ _ h => h) (Or.inl ⟨by rfl, ?_⟩) ⟨HD1.out.se, HD1.out.tb.cell 5 (.slice (some ⟨g, 0, none⟩) n c2) rfl⟩ ?_
        rotate_left
        · (intro y hy; go_simp; try (with_reducible rfl))
        simp only [Act.put, List.setIfInBounds_toArray, List.set_cons_zero, List.set_cons_succ]
        refine wpAnyH_take (i := 7) (oi := { dst := some 99, op := Op.fieldAddr 36 (Operand.tmp 98) 3, type := 0, pos := "ref.go:253", after := #[{ on := 6, ground := Ground.data }], guard := none }) (v := ?_) rfl (by kernel_rfl) (by kernel_rfl) (by kernel_rfl) (fun _ _ _ h => h) (Or.inl ⟨by rfl, ?_⟩) ⟨HD1.out.se, HD1.out.tb.cell 5 (.slice (some ⟨g, 0, none⟩) n c2) rfl⟩ ?_
        rotate_left
        · (intro y hy; go_simp; try (with_reducible rfl))
        simp only [Act.put, List.setIfInBounds_toArray, List.set_cons_zero, List.set_cons_succ]
        refine wpAnyH_ready (rs := [8]) (by kernel_rfl) (by simp) ?_
        refine AllReadyH.cons (o := { dst := some 100, op := Op.load 3 (Operand.tmp 99), type := 3, pos := "ref.go:253", after := #[{ on := 7, ground := Ground.data }], guard := none }) rfl (fun K hK => ?_) AllReadyH.nil
        go_simp
        (refine hK _ _ ⟨HD1.out.se, HD1.out.tb.cell 5 (.slice (some ⟨g, 0, none⟩) n c2) rfl⟩ ?_; clear hK K; intro _)
        try simp only [Act.put, List.setIfInBounds_toArray, List.set_cons_zero, List.set_cons_succ]
        refine wpAnyH_take (i := 11) (oi := { dst := some 103, op := Op.binOp BinOp.add 3 (Operand.tmp 100) (Operand.tmp 102) 3, type := 3, pos := "ref.go:253", after := #[{ on := 8, ground := Ground.data }, { on := 10, ground := Ground.data }], guard := none }) (v := ?_) rfl (by kernel_rfl) (by kernel_rfl) (by kernel_rfl) (fun _ _ _ h => h) (Or.inl ⟨by rfl, ?_⟩) ⟨HD1.out.se, HD1.out.tb.cell 5 (.slice (some ⟨g, 0, none⟩) n c2) rfl⟩ ?_
        rotate_left
        · (intro y hy; go_simp; try (with_reducible rfl))
        simp only [Act.put, List.setIfInBounds_toArray, List.set_cons_zero, List.set_cons_succ]
        refine wpAnyH_take (i := 12) (oi := { dst := some 104, op := Op.indexAddr 23 (Operand.tmp 93) (Operand.tmp 97), type := 0, pos := "ref.go:253", after := #[{ on := 1, ground := Ground.data }, { on := 5, ground := Ground.data }, { on := 0, ground := Ground.phase }, { on := 1, ground := Ground.phase }, { on := 2, ground := Ground.phase }, { on := 3, ground := Ground.phase }, { on := 4, ground := Ground.phase }, { on := 5, ground := Ground.phase }, { on := 6, ground := Ground.phase }, { on := 7, ground := Ground.phase }, { on := 8, ground := Ground.phase }, { on := 9, ground := Ground.phase }, { on := 10, ground := Ground.phase }, { on := 11, ground := Ground.phase }], guard := none }) (v := ?_) rfl (by kernel_rfl) (by kernel_rfl) (by kernel_rfl) (fun _ _ _ h => h) (Or.inl ⟨by rfl, ?_⟩) ⟨HD1.out.se, HD1.out.tb.cell 5 (.slice (some ⟨g, 0, none⟩) n c2) rfl⟩ ?_
        rotate_left
        · (intro y hy; go_simp; try (with_reducible rfl))
        simp only [Act.put, List.setIfInBounds_toArray, List.set_cons_zero, List.set_cons_succ]
        refine wpAnyH_take (i := 13) (oi := { dst := some 105, op := Op.fieldAddr 36 (Operand.tmp 104) 3, type := 0, pos := "ref.go:253", after := #[{ on := 12, ground := Ground.data }, { on := 0, ground := Ground.phase }, { on := 1, ground := Ground.phase }, { on := 2, ground := Ground.phase }, { on := 3, ground := Ground.phase }, { on := 4, ground := Ground.phase }, { on := 5, ground := Ground.phase }, { on := 6, ground := Ground.phase }, { on := 7, ground := Ground.phase }, { on := 8, ground := Ground.phase }, { on := 9, ground := Ground.phase }, { on := 10, ground := Ground.phase }, { on := 11, ground := Ground.phase }], guard := none }) (v := ?_) rfl (by kernel_rfl) (by kernel_rfl) (by kernel_rfl) (fun _ _ _ h => h) (Or.inl ⟨by rfl, ?_⟩) ⟨HD1.out.se, HD1.out.tb.cell 5 (.slice (some ⟨g, 0, none⟩) n c2) rfl⟩ ?_
        rotate_left
        · (intro y hy; go_simp; try (with_reducible rfl))
        simp only [Act.put, List.setIfInBounds_toArray, List.set_cons_zero, List.set_cons_succ]
        refine wpAnyH_ready (rs := [14]) (by kernel_rfl) (by simp) ?_
        refine AllReadyH.cons (o := { dst := none, op := Op.store 3 (Operand.tmp 105) (Operand.tmp 103), type := 0, pos := "ref.go:253", after := #[{ on := 13, ground := Ground.data }, { on := 11, ground := Ground.data }, { on := 5, ground := Ground.chain }, { on := 0, ground := Ground.phase }, { on := 1, ground := Ground.phase }, { on := 2, ground := Ground.phase }, { on := 3, ground := Ground.phase }, { on := 4, ground := Ground.phase }, { on := 5, ground := Ground.phase }, { on := 6, ground := Ground.phase }, { on := 7, ground := Ground.phase }, { on := 8, ground := Ground.phase }, { on := 9, ground := Ground.phase }, { on := 10, ground := Ground.phase }, { on := 11, ground := Ground.phase }], guard := none }) rfl (fun K hK => ?_) AllReadyH.nil
        go_simp
        (refine hK _ _ ⟨HD2.out.se, HD2.out.tb.cell 5 (.slice (some ⟨g, 0, none⟩) n c2) rfl⟩ ?_; clear hK K; intro _)
        try simp only [Act.put, List.setIfInBounds_toArray, List.set_cons_zero, List.set_cons_succ]
        refine wpAnyH_done (by kernel_rfl) ?_ _
        go_wp2_with (first
          | ((with_reducible refine guard_load 25 ?_); clear T4; refine wpList_load_st rfl _ rfl HD2.out.tb rfl ?_)
          | (go_at_call 19; refine (rwhole_any { s with events := (s.events + 1), who := e.who, lines := L1 } (some ⟨g, 0, none⟩) n c2 _ HN1.out (ownl_lns HD2.out.row) hlm).mono ?_; rw [HPB.out]; rintro _ Y2 ⟨rfl, hb6⟩; have HD3 : Hid (Ap w s e a n cap x2.heap.size { s with events := (s.events + 1), who := e.who, lines := L1 } (.slice (some ⟨g, 0, none⟩) n c2) Y2) := HD2.out.keep hb6; have q1 := HD3.out.tb.cell 1 (.int .i64 s.status) rfl; have q2 := HD3.out.tb.froz 1; have HY : Hid (Ap w s e a n cap x2.heap.size { s with events := (s.events + 1), who := e.who, lines := L1, status := 4 } (.slice (some ⟨g, 0, none⟩) n c2) (Y2.setCell ⟨x2.heap.size, 1, none⟩ (.int .i64 4))) := Ap.set HD3.out 1 _ rfl rfl; clear hb6)
              | ((with_reducible refine guard_load 25 ?_); refine wpList_load_st rfl _ rfl HY.out.tb rfl ?_)
              | ((with_reducible refine guard_store 25 ?_); refine wpList_store_st (s := zeroS) (s2 := { s with events := (s.events + 1), who := e.who, lines := L1, status := 4 }) (a2 := some ⟨g, 0, none⟩) (n2 := n) (c2 := c2) rfl _ _ rfl HY.out.res rfl rfl ?_; intro x9 z1 z2 z3 z4))
        refine bodyPost_ret (results_st2 rfl _ _ _ _ rfl rfl z1) rfl ⟨some ⟨g, 0, none⟩, n, c2, rfl, ?_⟩
        exact HY.out.done z2 z3
  | false =>
    have HPB : Hid (wholeB L1 = false) := hPB
    by_cases hst : s.stamp < e.stamp
    · have gst : decide (s.stamp < e.stamp) = true := by simpa using hst
      cases hw : e.who.toList == [] with
      | true =>
        have hR : fineS s e = { s with events := (s.events + 1), stamp := e.stamp, lines := L1 } := by simp [fineS, doS, hk, hst, hw, shipS, hL1, hPB]
        rw [hR]
        clear hn hl hR hjj h1 h2 h3 h4 hp hpr hf hk
        go_enter Tryz.func7, Tryz.ntmps7
        go_wp2_with (first
              | ((with_reducible refine guard_load 25 ?_); clear T1; refine wpList_load_st rfl _ rfl HW1.out.1 rfl ?_)
              | (go_at_call 6; refine (scopy_any s a n cap _ HN.out HLW.out hm).mono ?_; rintro _ x2 ⟨v2, rfl, ho2, hb2⟩; obtain ⟨a2, c2, hv2, _, _, hl2, _⟩ := ho2.shape; simp only [HN.out] at hv2; subst hv2; have HX2 : Hid (OwnL x2 W.heap.size (.slice a2 n c2) s.lines ∧ Below W.heap.size W x2) := ⟨ho2, hb2⟩; clear hb2 ho2 hl2)
              | ((with_reducible refine guard_store 25 ?_); clear T2; refine wpList_store_st (s := zeroS) (s2 := s) (a2 := a2) (n2 := n) (c2 := c2) rfl _ _ rfl (StAt.new x2 zeroS (.slice none 0 0)) rfl rfl ?_; intro x3 z1 z2 z3 z4; have HA3 : Hid (Ap w s e a n cap x2.heap.size s (.slice a2 n c2) x3) := Ap.start HW1.out HLW0.out HX2.out.1 HX2.out.2 z1 (z2 _ _ ((Below.refl x2.heap.size x2).alloc (Nat.le_refl _) _) (Nat.le_refl _)); clear z1 z2 z3 z4)
              | ((with_reducible refine guard_load 25 ?_); clear T3; refine wpList_load_st rfl _ rfl HA3.out.se.st rfl ?_)
              | ((with_reducible refine guard_load 28 ?_); refine wpList_load_ev rfl _ rfl HA3.out.se.ev rfl ?_)
              | (go_at_call 15; refine (rjudge_any s e a n cap _ HN.out HA3.out.se.ln hlm).mono ?_; rw [HJ.out]; rintro _ x4 ⟨rfl, hb4⟩; have HA4 : Hid (Ap w s e a n cap x2.heap.size s (.slice a2 n c2) x4) := Ap.keep HA3.out hb4; clear hb4; have s5_8 := HA4.out.se.st.cell 8 (.int .i64 s.events) rfl; have t5 := HA4.out.tb.cell 8 (.int .i64 s.events) rfl; have u5 := HA4.out.tb.froz 8; have HA5 : Hid (Ap w s e a n cap x2.heap.size { s with events := (s.events + 1) } (.slice a2 n c2) (x4.setCell ⟨x2.heap.size, 8, none⟩ (.int .i64 (s.events + 1)))) := Ap.set HA4.out 8 _ rfl rfl; have s6_10 := HA5.out.se.st.cell 10 (.int .i64 s.stamp) rfl; have v6_8 := HA5.out.se.ev.cell 8 (.int .i64 e.stamp) rfl; have t6 := HA5.out.tb.cell 10 (.int .i64 s.stamp) rfl; have u6 := HA5.out.tb.froz 10; have HA6 : Hid (Ap w s e a n cap x2.heap.size { s with events := (s.events + 1), stamp := e.stamp } (.slice a2 n c2) ((x4.setCell ⟨x2.heap.size, 8, none⟩ (.int .i64 (s.events + 1))).setCell ⟨x2.heap.size, 10, none⟩ (.int .i64 e.stamp))) := Ap.set HA5.out 10 _ rfl rfl; have v7_7 := HA6.out.se.ev.cell 7 (.string e.who) rfl; have kk := (SE.cs HA6.out.se HK.out).2.2.2.2.2.2.1))
        obtain ⟨g, hga, _⟩ := HA6.out.row.block HG1.out
        subst hga
        refine wp_region_held (S := fun y => SE w s e a n cap y ∧ y.cell? ⟨x2.heap.size, 5, none⟩ = some (.slice (some ⟨g, 0, none⟩) n c2)) (by kernel_rfl) ?_
        change wpAnyH _ _ _ _ _ _ _ _ (World.drew _)
        obtain ⟨D0, hD⟩ : ∃ D0, World.drew ((x4.setCell ⟨x2.heap.size, 8, none⟩ (.int .i64 (s.events + 1))).setCell ⟨x2.heap.size, 10, none⟩ (.int .i64 e.stamp)) = D0 := ⟨_, rfl⟩
        have HD0 : Hid (Ap w s e a n cap x2.heap.size { s with events := (s.events + 1), stamp := e.stamp } (.slice (some ⟨g, 0, none⟩) n c2) D0) := by rw [← hD]; exact HA6.out.keep (Below.refl _ _).drew
        rw [hD]
        clear hD
        have T4 : Hid True := trivial
        refine wpAnyH_take (i := 0) (oi := { dst := some 92, op := Op.fieldAddr 25 (Operand.tmp 6) 5, type := 0, pos := "ref.go:253", after := #[], guard := none }) (v := ?_) rfl (by kernel_rfl) (by kernel_rfl) (by kernel_rfl) (fun _ _ _ h => h) (Or.inl ⟨by rfl, ?_⟩) ⟨HD0.out.se, HD0.out.tb.cell 5 (.slice (some ⟨g, 0, none⟩) n c2) rfl⟩ ?_
        rotate_left
        · (intro y hy; go_simp; try (with_reducible rfl))
        simp only [Act.put, List.setIfInBounds_toArray, List.set_cons_zero, List.set_cons_succ]
        refine wpAnyH_take (i := 1) (oi := { dst := some 93, op := Op.load 23 (Operand.tmp 92), type := 23, pos := "ref.go:253", after := #[{ on := 0, ground := Ground.data }], guard := none }) (v := ?_) rfl (by kernel_rfl) (by kernel_rfl) (by kernel_rfl) (fun _ _ _ h => h) (Or.inl ⟨by rfl, ?_⟩) ⟨HD0.out.se, HD0.out.tb.cell 5 (.slice (some ⟨g, 0, none⟩) n c2) rfl⟩ ?_
        rotate_left
        · (intro y hy; have cq := hy.2; go_simp; try (with_reducible rfl))
        simp only [Act.put, List.setIfInBounds_toArray, List.set_cons_zero, List.set_cons_succ]
        refine wpAnyH_take (i := 2) (oi := { dst := some 94, op := Op.load 25 (Operand.tmp 2), type := 25, pos := "ref.go:253", after := #[], guard := none }) (v := .agg (stA s (.slice a n cap))) rfl (by kernel_rfl) (by kernel_rfl) (by kernel_rfl) (fun _ _ _ h => h) (Or.inl ⟨by rfl, fun y hy => exec_load_st (.tmp 2) rfl rfl hy.1.st⟩) ⟨HD0.out.se, HD0.out.tb.cell 5 (.slice (some ⟨g, 0, none⟩) n c2) rfl⟩ ?_
        simp only [Act.put, List.setIfInBounds_toArray, List.set_cons_zero, List.set_cons_succ]
        refine wpAnyH_take (i := 3) (oi := { dst := some 95, op := Op.fieldAddr 28 (Operand.tmp 3) 2, type := 0, pos := "ref.go:253", after := #[], guard := none }) (v := ?_) rfl (by kernel_rfl) (by kernel_rfl) (by kernel_rfl) (fun _ _ _ h => h) (Or.inl ⟨by rfl, ?_⟩) ⟨HD0.out.se, HD0.out.tb.cell 5 (.slice (some ⟨g, 0, none⟩) n c2) rfl⟩ ?_
        rotate_left
        · (intro y hy; go_simp; try (with_reducible rfl))
        simp only [Act.put, List.setIfInBounds_toArray, List.set_cons_zero, List.set_cons_succ]
        refine wpAnyH_take (i := 4) (oi := { dst := some 96, op := Op.load 3 (Operand.tmp 95), type := 3, pos := "ref.go:253", after := #[{ on := 3, ground := Ground.data }], guard := none }) (v := ?_) rfl (by kernel_rfl) (by kernel_rfl) (by kernel_rfl) (fun _ _ _ h => h) (Or.inl ⟨by rfl, ?_⟩) ⟨HD0.out.se, HD0.out.tb.cell 5 (.slice (some ⟨g, 0, none⟩) n c2) rfl⟩ ?_
        rotate_left
        · (intro y hy; have cq := hy.1.ev.cell 2 (.int .i64 e.item) rfl; go_simp; try (with_reducible rfl))
        simp only [Act.put, List.setIfInBounds_toArray, List.set_cons_zero, List.set_cons_succ]
        refine wpAnyH_take (i := 9) (oi := { dst := some 101, op := Op.fieldAddr 28 (Operand.tmp 3) 3, type := 0, pos := "ref.go:253", after := #[], guard := none }) (v := ?_) rfl (by kernel_rfl) (by kernel_rfl) (by kernel_rfl) (fun _ _ _ h => h) (Or.inl ⟨by rfl, ?_⟩) ⟨HD0.out.se, HD0.out.tb.cell 5 (.slice (some ⟨g, 0, none⟩) n c2) rfl⟩ ?_
        rotate_left
        · (intro y hy; go_simp; try (with_reducible rfl))
        simp only [Act.put, List.setIfInBounds_toArray, List.set_cons_zero, List.set_cons_succ]
        refine wpAnyH_take (i := 10) (oi := { dst := some 102, op := Op.load 3 (Operand.tmp 101), type := 3, pos := "ref.go:253", after := #[{ on := 9, ground := Ground.data }], guard := none }) (v := ?_) rfl (by kernel_rfl) (by kernel_rfl) (by kernel_rfl) (fun _ _ _ h => h) (Or.inl ⟨by rfl, ?_⟩) ⟨HD0.out.se, HD0.out.tb.cell 5 (.slice (some ⟨g, 0, none⟩) n c2) rfl⟩ ?_
        rotate_left
        · (intro y hy; have cq := hy.1.ev.cell 3 (.int .i64 e.qty) rfl; go_simp; try (with_reducible rfl))
        simp only [Act.put, List.setIfInBounds_toArray, List.set_cons_zero, List.set_cons_succ]
        refine wpAnyH_ready (rs := [5]) (by kernel_rfl) (by simp) ?_
        refine AllReadyH.cons (o := { dst := some 97, op := Op.call { callee := Callee.value (Operand.func 18), args := #[Operand.tmp 94, Operand.tmp 96], argTypes := #[25, 3] }, type := 3, pos := "ref.go:253", after := #[{ on := 2, ground := Ground.data }, { on := 4, ground := Ground.data }], guard := none }) rfl (fun K hK => ?_) AllReadyH.nil
        go_simp
        refine (rat_any s e.item a n cap _ HN.out HD0.out.se.ln hlm HRI.out).mono ?_
        rw [HAT.out]
        rintro _ Y1 ⟨rfl, hb5⟩
        have HD1 : Hid (Ap w s e a n cap x2.heap.size { s with events := (s.events + 1), stamp := e.stamp } (.slice (some ⟨g, 0, none⟩) n c2) Y1) := HD0.out.keep hb5
        clear hb5
        obtain ⟨m0, m1, m2, m3⟩ := HD1.out.row.cells HG1.out
        have mf := frozen_own HD1.out.row (LB * 4 + 3)
        have HD2 : Hid (Ap w s e a n cap x2.heap.size { s with events := (s.events + 1), stamp := e.stamp, lines := L1 } (.slice (some ⟨g, 0, none⟩) n c2) (Y1.setCell ⟨g, LB * 4 + 3, none⟩ (.int .i64 (p.shipped + e.qty)))) := by
          have h := HD1.out.turn LB 3 p (p.shipped + e.qty) HG1.out (by omega)
          simp only [HL1.out] at h
          exact h
        (refine hK _ _ ⟨HD1.out.se, HD1.out.tb.cell 5 (.slice (some ⟨g, 0, none⟩) n c2) rfl⟩ ?_; clear hK K; intro _)
        try simp only [Act.put, List.setIfInBounds_toArray, List.set_cons_zero, List.set_cons_succ]
        refine wpAnyH_take (i := 6) (oi := { dst := some 98, op := Op.indexAddr 23 (Operand.tmp 93) (Operand.tmp 97), type := 0, pos := "ref.go:253", after := #[{ on := 1, ground := Ground.data }, { on := 5, ground := Ground.data }], guard := none }) (v := ?_) rfl (by kernel_rfl) (by kernel_rfl) (by kernel_rfl) (fun _ _ _ h => h) (Or.inl ⟨by rfl, ?_⟩) ⟨HD1.out.se, HD1.out.tb.cell 5 (.slice (some ⟨g, 0, none⟩) n c2) rfl⟩ ?_
        rotate_left
        · (intro y hy; go_simp; try (with_reducible rfl))
        simp only [Act.put, List.setIfInBounds_toArray, List.set_cons_zero, List.set_cons_succ]
        refine wpAnyH_take (i := 7) (oi := { dst := some 99, op := Op.fieldAddr 36 (Operand.tmp 98) 3, type := 0, pos := "ref.go:253", after := #[{ on := 6, ground := Ground.data }], guard := none }) (v := ?_) rfl (by kernel_rfl) (by kernel_rfl) (by kernel_rfl) (fun _ _ _ h => h) (Or.inl ⟨by rfl, ?_⟩) ⟨HD1.out.se, HD1.out.tb.cell 5 (.slice (some ⟨g, 0, none⟩) n c2) rfl⟩ ?_
        rotate_left
        · (intro y hy; go_simp; try (with_reducible rfl))
        simp only [Act.put, List.setIfInBounds_toArray, List.set_cons_zero, List.set_cons_succ]
        refine wpAnyH_ready (rs := [8]) (by kernel_rfl) (by simp) ?_
        refine AllReadyH.cons (o := { dst := some 100, op := Op.load 3 (Operand.tmp 99), type := 3, pos := "ref.go:253", after := #[{ on := 7, ground := Ground.data }], guard := none }) rfl (fun K hK => ?_) AllReadyH.nil
        go_simp
        (refine hK _ _ ⟨HD1.out.se, HD1.out.tb.cell 5 (.slice (some ⟨g, 0, none⟩) n c2) rfl⟩ ?_; clear hK K; intro _)
        try simp only [Act.put, List.setIfInBounds_toArray, List.set_cons_zero, List.set_cons_succ]
        refine wpAnyH_take (i := 11) (oi := { dst := some 103, op := Op.binOp BinOp.add 3 (Operand.tmp 100) (Operand.tmp 102) 3, type := 3, pos := "ref.go:253", after := #[{ on := 8, ground := Ground.data }, { on := 10, ground := Ground.data }], guard := none }) (v := ?_) rfl (by kernel_rfl) (by kernel_rfl) (by kernel_rfl) (fun _ _ _ h => h) (Or.inl ⟨by rfl, ?_⟩) ⟨HD1.out.se, HD1.out.tb.cell 5 (.slice (some ⟨g, 0, none⟩) n c2) rfl⟩ ?_
        rotate_left
        · (intro y hy; go_simp; try (with_reducible rfl))
        simp only [Act.put, List.setIfInBounds_toArray, List.set_cons_zero, List.set_cons_succ]
        refine wpAnyH_take (i := 12) (oi := { dst := some 104, op := Op.indexAddr 23 (Operand.tmp 93) (Operand.tmp 97), type := 0, pos := "ref.go:253", after := #[{ on := 1, ground := Ground.data }, { on := 5, ground := Ground.data }, { on := 0, ground := Ground.phase }, { on := 1, ground := Ground.phase }, { on := 2, ground := Ground.phase }, { on := 3, ground := Ground.phase }, { on := 4, ground := Ground.phase }, { on := 5, ground := Ground.phase }, { on := 6, ground := Ground.phase }, { on := 7, ground := Ground.phase }, { on := 8, ground := Ground.phase }, { on := 9, ground := Ground.phase }, { on := 10, ground := Ground.phase }, { on := 11, ground := Ground.phase }], guard := none }) (v := ?_) rfl (by kernel_rfl) (by kernel_rfl) (by kernel_rfl) (fun _ _ _ h => h) (Or.inl ⟨by rfl, ?_⟩) ⟨HD1.out.se, HD1.out.tb.cell 5 (.slice (some ⟨g, 0, none⟩) n c2) rfl⟩ ?_
        rotate_left
        · (intro y hy; go_simp; try (with_reducible rfl))
        simp only [Act.put, List.setIfInBounds_toArray, List.set_cons_zero, List.set_cons_succ]
        refine wpAnyH_take (i := 13) (oi := { dst := some 105, op := Op.fieldAddr 36 (Operand.tmp 104) 3, type := 0, pos := "ref.go:253", after := #[{ on := 12, ground := Ground.data }, { on := 0, ground := Ground.phase }, { on := 1, ground := Ground.phase }, { on := 2, ground := Ground.phase }, { on := 3, ground := Ground.phase }, { on := 4, ground := Ground.phase }, { on := 5, ground := Ground.phase }, { on := 6, ground := Ground.phase }, { on := 7, ground := Ground.phase }, { on := 8, ground := Ground.phase }, { on := 9, ground := Ground.phase }, { on := 10, ground := Ground.phase }, { on := 11, ground := Ground.phase }], guard := none }) (v := ?_) rfl (by kernel_rfl) (by kernel_rfl) (by kernel_rfl) (fun _ _ _ h => h) (Or.inl ⟨by rfl, ?_⟩) ⟨HD1.out.se, HD1.out.tb.cell 5 (.slice (some ⟨g, 0, none⟩) n c2) rfl⟩ ?_
        rotate_left
        · (intro y hy; go_simp; try (with_reducible rfl))
        simp only [Act.put, List.setIfInBounds_toArray, List.set_cons_zero, List.set_cons_succ]
        refine wpAnyH_ready (rs := [14]) (by kernel_rfl) (by simp) ?_
        refine AllReadyH.cons (o := { dst := none, op := Op.store 3 (Operand.tmp 105) (Operand.tmp 103), type := 0, pos := "ref.go:253", after := #[{ on := 13, ground := Ground.data }, { on := 11, ground := Ground.data }, { on := 5, ground := Ground.chain }, { on := 0, ground := Ground.phase }, { on := 1, ground := Ground.phase }, { on := 2, ground := Ground.phase }, { on := 3, ground := Ground.phase }, { on := 4, ground := Ground.phase }, { on := 5, ground := Ground.phase }, { on := 6, ground := Ground.phase }, { on := 7, ground := Ground.phase }, { on := 8, ground := Ground.phase }, { on := 9, ground := Ground.phase }, { on := 10, ground := Ground.phase }, { on := 11, ground := Ground.phase }], guard := none }) rfl (fun K hK => ?_) AllReadyH.nil
        go_simp
        (refine hK _ _ ⟨HD2.out.se, HD2.out.tb.cell 5 (.slice (some ⟨g, 0, none⟩) n c2) rfl⟩ ?_; clear hK K; intro _)
        try simp only [Act.put, List.setIfInBounds_toArray, List.set_cons_zero, List.set_cons_succ]
        refine wpAnyH_done (by kernel_rfl) ?_ _
        go_wp2_with (first
          | ((with_reducible refine guard_load 25 ?_); clear T4; refine wpList_load_st rfl _ rfl HD2.out.tb rfl ?_)
          | (go_at_call 19; refine (rwhole_any { s with events := (s.events + 1), stamp := e.stamp, lines := L1 } (some ⟨g, 0, none⟩) n c2 _ HN1.out (ownl_lns HD2.out.row) hlm).mono ?_; rw [HPB.out]; rintro _ Y2 ⟨rfl, hb6⟩; have HD3 : Hid (Ap w s e a n cap x2.heap.size { s with events := (s.events + 1), stamp := e.stamp, lines := L1 } (.slice (some ⟨g, 0, none⟩) n c2) Y2) := HD2.out.keep hb6; have HY : Hid (Ap w s e a n cap x2.heap.size { s with events := (s.events + 1), stamp := e.stamp, lines := L1 } (.slice (some ⟨g, 0, none⟩) n c2) Y2) := HD3.out; clear hb6)
              | ((with_reducible refine guard_load 25 ?_); refine wpList_load_st rfl _ rfl HY.out.tb rfl ?_)
              | ((with_reducible refine guard_store 25 ?_); refine wpList_store_st (s := zeroS) (s2 := { s with events := (s.events + 1), stamp := e.stamp, lines := L1 }) (a2 := some ⟨g, 0, none⟩) (n2 := n) (c2 := c2) rfl _ _ rfl HY.out.res rfl rfl ?_; intro x9 z1 z2 z3 z4))
        refine bodyPost_ret (results_st2 rfl _ _ _ _ rfl rfl z1) rfl ⟨some ⟨g, 0, none⟩, n, c2, rfl, ?_⟩
        exact HY.out.done z2 z3
      | false =>
        have hR : fineS s e = { s with events := (s.events + 1), stamp := e.stamp, who := e.who, lines := L1 } := by simp [fineS, doS, hk, hst, hw, shipS, hL1, hPB]
        rw [hR]
        clear hn hl hR hjj h1 h2 h3 h4 hp hpr hf hk
        go_enter Tryz.func7, Tryz.ntmps7
        go_wp2_with (first
              | ((with_reducible refine guard_load 25 ?_); clear T1; refine wpList_load_st rfl _ rfl HW1.out.1 rfl ?_)
              | (go_at_call 6; refine (scopy_any s a n cap _ HN.out HLW.out hm).mono ?_; rintro _ x2 ⟨v2, rfl, ho2, hb2⟩; obtain ⟨a2, c2, hv2, _, _, hl2, _⟩ := ho2.shape; simp only [HN.out] at hv2; subst hv2; have HX2 : Hid (OwnL x2 W.heap.size (.slice a2 n c2) s.lines ∧ Below W.heap.size W x2) := ⟨ho2, hb2⟩; clear hb2 ho2 hl2)
              | ((with_reducible refine guard_store 25 ?_); clear T2; refine wpList_store_st (s := zeroS) (s2 := s) (a2 := a2) (n2 := n) (c2 := c2) rfl _ _ rfl (StAt.new x2 zeroS (.slice none 0 0)) rfl rfl ?_; intro x3 z1 z2 z3 z4; have HA3 : Hid (Ap w s e a n cap x2.heap.size s (.slice a2 n c2) x3) := Ap.start HW1.out HLW0.out HX2.out.1 HX2.out.2 z1 (z2 _ _ ((Below.refl x2.heap.size x2).alloc (Nat.le_refl _) _) (Nat.le_refl _)); clear z1 z2 z3 z4)
              | ((with_reducible refine guard_load 25 ?_); clear T3; refine wpList_load_st rfl _ rfl HA3.out.se.st rfl ?_)
              | ((with_reducible refine guard_load 28 ?_); refine wpList_load_ev rfl _ rfl HA3.out.se.ev rfl ?_)
              | (go_at_call 15; refine (rjudge_any s e a n cap _ HN.out HA3.out.se.ln hlm).mono ?_; rw [HJ.out]; rintro _ x4 ⟨rfl, hb4⟩; have HA4 : Hid (Ap w s e a n cap x2.heap.size s (.slice a2 n c2) x4) := Ap.keep HA3.out hb4; clear hb4; have s5_8 := HA4.out.se.st.cell 8 (.int .i64 s.events) rfl; have t5 := HA4.out.tb.cell 8 (.int .i64 s.events) rfl; have u5 := HA4.out.tb.froz 8; have HA5 : Hid (Ap w s e a n cap x2.heap.size { s with events := (s.events + 1) } (.slice a2 n c2) (x4.setCell ⟨x2.heap.size, 8, none⟩ (.int .i64 (s.events + 1)))) := Ap.set HA4.out 8 _ rfl rfl; have s6_10 := HA5.out.se.st.cell 10 (.int .i64 s.stamp) rfl; have v6_8 := HA5.out.se.ev.cell 8 (.int .i64 e.stamp) rfl; have t6 := HA5.out.tb.cell 10 (.int .i64 s.stamp) rfl; have u6 := HA5.out.tb.froz 10; have HA6 : Hid (Ap w s e a n cap x2.heap.size { s with events := (s.events + 1), stamp := e.stamp } (.slice a2 n c2) ((x4.setCell ⟨x2.heap.size, 8, none⟩ (.int .i64 (s.events + 1))).setCell ⟨x2.heap.size, 10, none⟩ (.int .i64 e.stamp))) := Ap.set HA5.out 10 _ rfl rfl; have v7_7 := HA6.out.se.ev.cell 7 (.string e.who) rfl; have t7 := HA6.out.tb.cell 11 (.string s.who) rfl; have u7 := HA6.out.tb.froz 11; have HA7 : Hid (Ap w s e a n cap x2.heap.size { s with events := (s.events + 1), stamp := e.stamp, who := e.who } (.slice a2 n c2) (((x4.setCell ⟨x2.heap.size, 8, none⟩ (.int .i64 (s.events + 1))).setCell ⟨x2.heap.size, 10, none⟩ (.int .i64 e.stamp)).setCell ⟨x2.heap.size, 11, none⟩ (.string e.who))) := Ap.set HA6.out 11 _ rfl rfl; have kk := (SE.cs HA7.out.se HK.out).2.2.2.2.2.2.1))
        obtain ⟨g, hga, _⟩ := HA7.out.row.block HG1.out
        subst hga
        refine wp_region_held (S := fun y => SE w s e a n cap y ∧ y.cell? ⟨x2.heap.size, 5, none⟩ = some (.slice (some ⟨g, 0, none⟩) n c2)) (by kernel_rfl) ?_
        change wpAnyH _ _ _ _ _ _ _ _ (World.drew _)
        obtain ⟨D0, hD⟩ : ∃ D0, World.drew (((x4.setCell ⟨x2.heap.size, 8, none⟩ (.int .i64 (s.events + 1))).setCell ⟨x2.heap.size, 10, none⟩ (.int .i64 e.stamp)).setCell ⟨x2.heap.size, 11, none⟩ (.string e.who)) = D0 := ⟨_, rfl⟩
        have HD0 : Hid (Ap w s e a n cap x2.heap.size { s with events := (s.events + 1), stamp := e.stamp, who := e.who } (.slice (some ⟨g, 0, none⟩) n c2) D0) := by rw [← hD]; exact HA7.out.keep (Below.refl _ _).drew
        rw [hD]
        clear hD
        have T4 : Hid True := trivial
        refine wpAnyH_take (i := 0) (oi := { dst := some 92, op := Op.fieldAddr 25 (Operand.tmp 6) 5, type := 0, pos := "ref.go:253", after := #[], guard := none }) (v := ?_) rfl (by kernel_rfl) (by kernel_rfl) (by kernel_rfl) (fun _ _ _ h => h) (Or.inl ⟨by rfl, ?_⟩) ⟨HD0.out.se, HD0.out.tb.cell 5 (.slice (some ⟨g, 0, none⟩) n c2) rfl⟩ ?_
        rotate_left
        · (intro y hy; go_simp; try (with_reducible rfl))
        simp only [Act.put, List.setIfInBounds_toArray, List.set_cons_zero, List.set_cons_succ]
        refine wpAnyH_take (i := 1) (oi := { dst := some 93, op := Op.load 23 (Operand.tmp 92), type := 23, pos := "ref.go:253", after := #[{ on := 0, ground := Ground.data }], guard := none }) (v := ?_) rfl (by kernel_rfl) (by kernel_rfl) (by kernel_rfl) (fun _ _ _ h => h) (Or.inl ⟨by rfl, ?_⟩) ⟨HD0.out.se, HD0.out.tb.cell 5 (.slice (some ⟨g, 0, none⟩) n c2) rfl⟩ ?_
        rotate_left
        · (intro y hy; have cq := hy.2; go_simp; try (with_reducible rfl))
        simp only [Act.put, List.setIfInBounds_toArray, List.set_cons_zero, List.set_cons_succ]
        refine wpAnyH_take (i := 2) (oi := { dst := some 94, op := Op.load 25 (Operand.tmp 2), type := 25, pos := "ref.go:253", after := #[], guard := none }) (v := .agg (stA s (.slice a n cap))) rfl (by kernel_rfl) (by kernel_rfl) (by kernel_rfl) (fun _ _ _ h => h) (Or.inl ⟨by rfl, fun y hy => exec_load_st (.tmp 2) rfl rfl hy.1.st⟩) ⟨HD0.out.se, HD0.out.tb.cell 5 (.slice (some ⟨g, 0, none⟩) n c2) rfl⟩ ?_
        simp only [Act.put, List.setIfInBounds_toArray, List.set_cons_zero, List.set_cons_succ]
        refine wpAnyH_take (i := 3) (oi := { dst := some 95, op := Op.fieldAddr 28 (Operand.tmp 3) 2, type := 0, pos := "ref.go:253", after := #[], guard := none }) (v := ?_) rfl (by kernel_rfl) (by kernel_rfl) (by kernel_rfl) (fun _ _ _ h => h) (Or.inl ⟨by rfl, ?_⟩) ⟨HD0.out.se, HD0.out.tb.cell 5 (.slice (some ⟨g, 0, none⟩) n c2) rfl⟩ ?_
        rotate_left
        · (intro y hy; go_simp; try (with_reducible rfl))
        simp only [Act.put, List.setIfInBounds_toArray, List.set_cons_zero, List.set_cons_succ]
        refine wpAnyH_take (i := 4) (oi := { dst := some 96, op := Op.load 3 (Operand.tmp 95), type := 3, pos := "ref.go:253", after := #[{ on := 3, ground := Ground.data }], guard := none }) (v := ?_) rfl (by kernel_rfl) (by kernel_rfl) (by kernel_rfl) (fun _ _ _ h => h) (Or.inl ⟨by rfl, ?_⟩) ⟨HD0.out.se, HD0.out.tb.cell 5 (.slice (some ⟨g, 0, none⟩) n c2) rfl⟩ ?_
        rotate_left
        · (intro y hy; have cq := hy.1.ev.cell 2 (.int .i64 e.item) rfl; go_simp; try (with_reducible rfl))
        simp only [Act.put, List.setIfInBounds_toArray, List.set_cons_zero, List.set_cons_succ]
        refine wpAnyH_take (i := 9) (oi := { dst := some 101, op := Op.fieldAddr 28 (Operand.tmp 3) 3, type := 0, pos := "ref.go:253", after := #[], guard := none }) (v := ?_) rfl (by kernel_rfl) (by kernel_rfl) (by kernel_rfl) (fun _ _ _ h => h) (Or.inl ⟨by rfl, ?_⟩) ⟨HD0.out.se, HD0.out.tb.cell 5 (.slice (some ⟨g, 0, none⟩) n c2) rfl⟩ ?_
        rotate_left
        · (intro y hy; go_simp; try (with_reducible rfl))
        simp only [Act.put, List.setIfInBounds_toArray, List.set_cons_zero, List.set_cons_succ]
        refine wpAnyH_take (i := 10) (oi := { dst := some 102, op := Op.load 3 (Operand.tmp 101), type := 3, pos := "ref.go:253", after := #[{ on := 9, ground := Ground.data }], guard := none }) (v := ?_) rfl (by kernel_rfl) (by kernel_rfl) (by kernel_rfl) (fun _ _ _ h => h) (Or.inl ⟨by rfl, ?_⟩) ⟨HD0.out.se, HD0.out.tb.cell 5 (.slice (some ⟨g, 0, none⟩) n c2) rfl⟩ ?_
        rotate_left
        · (intro y hy; have cq := hy.1.ev.cell 3 (.int .i64 e.qty) rfl; go_simp; try (with_reducible rfl))
        simp only [Act.put, List.setIfInBounds_toArray, List.set_cons_zero, List.set_cons_succ]
        refine wpAnyH_ready (rs := [5]) (by kernel_rfl) (by simp) ?_
        refine AllReadyH.cons (o := { dst := some 97, op := Op.call { callee := Callee.value (Operand.func 18), args := #[Operand.tmp 94, Operand.tmp 96], argTypes := #[25, 3] }, type := 3, pos := "ref.go:253", after := #[{ on := 2, ground := Ground.data }, { on := 4, ground := Ground.data }], guard := none }) rfl (fun K hK => ?_) AllReadyH.nil
        go_simp
        refine (rat_any s e.item a n cap _ HN.out HD0.out.se.ln hlm HRI.out).mono ?_
        rw [HAT.out]
        rintro _ Y1 ⟨rfl, hb5⟩
        have HD1 : Hid (Ap w s e a n cap x2.heap.size { s with events := (s.events + 1), stamp := e.stamp, who := e.who } (.slice (some ⟨g, 0, none⟩) n c2) Y1) := HD0.out.keep hb5
        clear hb5
        obtain ⟨m0, m1, m2, m3⟩ := HD1.out.row.cells HG1.out
        have mf := frozen_own HD1.out.row (LB * 4 + 3)
        have HD2 : Hid (Ap w s e a n cap x2.heap.size { s with events := (s.events + 1), stamp := e.stamp, who := e.who, lines := L1 } (.slice (some ⟨g, 0, none⟩) n c2) (Y1.setCell ⟨g, LB * 4 + 3, none⟩ (.int .i64 (p.shipped + e.qty)))) := by
          have h := HD1.out.turn LB 3 p (p.shipped + e.qty) HG1.out (by omega)
          simp only [HL1.out] at h
          exact h
        (refine hK _ _ ⟨HD1.out.se, HD1.out.tb.cell 5 (.slice (some ⟨g, 0, none⟩) n c2) rfl⟩ ?_; clear hK K; intro _)
        try simp only [Act.put, List.setIfInBounds_toArray, List.set_cons_zero, List.set_cons_succ]
        refine wpAnyH_take (i := 6) (oi := { dst := some 98, op := Op.indexAddr 23 (Operand.tmp 93) (Operand.tmp 97), type := 0, pos := "ref.go:253", after := #[{ on := 1, ground := Ground.data }, { on := 5, ground := Ground.data }], guard := none }) (v := ?_) rfl (by kernel_rfl) (by kernel_rfl) (by kernel_rfl) (fun _ _ _ h => h) (Or.inl ⟨by rfl, ?_⟩) ⟨HD1.out.se, HD1.out.tb.cell 5 (.slice (some ⟨g, 0, none⟩) n c2) rfl⟩ ?_
        rotate_left
        · (intro y hy; go_simp; try (with_reducible rfl))
        simp only [Act.put, List.setIfInBounds_toArray, List.set_cons_zero, List.set_cons_succ]
        refine wpAnyH_take (i := 7) (oi := { dst := some 99, op := Op.fieldAddr 36 (Operand.tmp 98) 3, type := 0, pos := "ref.go:253", after := #[{ on := 6, ground := Ground.data }], guard := none }) (v := ?_) rfl (by kernel_rfl) (by kernel_rfl) (by kernel_rfl) (fun _ _ _ h => h) (Or.inl ⟨by rfl, ?_⟩) ⟨HD1.out.se, HD1.out.tb.cell 5 (.slice (some ⟨g, 0, none⟩) n c2) rfl⟩ ?_
        rotate_left
        · (intro y hy; go_simp; try (with_reducible rfl))
        simp only [Act.put, List.setIfInBounds_toArray, List.set_cons_zero, List.set_cons_succ]
        refine wpAnyH_ready (rs := [8]) (by kernel_rfl) (by simp) ?_
        refine AllReadyH.cons (o := { dst := some 100, op := Op.load 3 (Operand.tmp 99), type := 3, pos := "ref.go:253", after := #[{ on := 7, ground := Ground.data }], guard := none }) rfl (fun K hK => ?_) AllReadyH.nil
        go_simp
        (refine hK _ _ ⟨HD1.out.se, HD1.out.tb.cell 5 (.slice (some ⟨g, 0, none⟩) n c2) rfl⟩ ?_; clear hK K; intro _)
        try simp only [Act.put, List.setIfInBounds_toArray, List.set_cons_zero, List.set_cons_succ]
        refine wpAnyH_take (i := 11) (oi := { dst := some 103, op := Op.binOp BinOp.add 3 (Operand.tmp 100) (Operand.tmp 102) 3, type := 3, pos := "ref.go:253", after := #[{ on := 8, ground := Ground.data }, { on := 10, ground := Ground.data }], guard := none }) (v := ?_) rfl (by kernel_rfl) (by kernel_rfl) (by kernel_rfl) (fun _ _ _ h => h) (Or.inl ⟨by rfl, ?_⟩) ⟨HD1.out.se, HD1.out.tb.cell 5 (.slice (some ⟨g, 0, none⟩) n c2) rfl⟩ ?_
        rotate_left
        · (intro y hy; go_simp; try (with_reducible rfl))
        simp only [Act.put, List.setIfInBounds_toArray, List.set_cons_zero, List.set_cons_succ]
        refine wpAnyH_take (i := 12) (oi := { dst := some 104, op := Op.indexAddr 23 (Operand.tmp 93) (Operand.tmp 97), type := 0, pos := "ref.go:253", after := #[{ on := 1, ground := Ground.data }, { on := 5, ground := Ground.data }, { on := 0, ground := Ground.phase }, { on := 1, ground := Ground.phase }, { on := 2, ground := Ground.phase }, { on := 3, ground := Ground.phase }, { on := 4, ground := Ground.phase }, { on := 5, ground := Ground.phase }, { on := 6, ground := Ground.phase }, { on := 7, ground := Ground.phase }, { on := 8, ground := Ground.phase }, { on := 9, ground := Ground.phase }, { on := 10, ground := Ground.phase }, { on := 11, ground := Ground.phase }], guard := none }) (v := ?_) rfl (by kernel_rfl) (by kernel_rfl) (by kernel_rfl) (fun _ _ _ h => h) (Or.inl ⟨by rfl, ?_⟩) ⟨HD1.out.se, HD1.out.tb.cell 5 (.slice (some ⟨g, 0, none⟩) n c2) rfl⟩ ?_
        rotate_left
        · (intro y hy; go_simp; try (with_reducible rfl))
        simp only [Act.put, List.setIfInBounds_toArray, List.set_cons_zero, List.set_cons_succ]
        refine wpAnyH_take (i := 13) (oi := { dst := some 105, op := Op.fieldAddr 36 (Operand.tmp 104) 3, type := 0, pos := "ref.go:253", after := #[{ on := 12, ground := Ground.data }, { on := 0, ground := Ground.phase }, { on := 1, ground := Ground.phase }, { on := 2, ground := Ground.phase }, { on := 3, ground := Ground.phase }, { on := 4, ground := Ground.phase }, { on := 5, ground := Ground.phase }, { on := 6, ground := Ground.phase }, { on := 7, ground := Ground.phase }, { on := 8, ground := Ground.phase }, { on := 9, ground := Ground.phase }, { on := 10, ground := Ground.phase }, { on := 11, ground := Ground.phase }], guard := none }) (v := ?_) rfl (by kernel_rfl) (by kernel_rfl) (by kernel_rfl) (fun _ _ _ h => h) (Or.inl ⟨by rfl, ?_⟩) ⟨HD1.out.se, HD1.out.tb.cell 5 (.slice (some ⟨g, 0, none⟩) n c2) rfl⟩ ?_
        rotate_left
        · (intro y hy; go_simp; try (with_reducible rfl))
        simp only [Act.put, List.setIfInBounds_toArray, List.set_cons_zero, List.set_cons_succ]
        refine wpAnyH_ready (rs := [14]) (by kernel_rfl) (by simp) ?_
        refine AllReadyH.cons (o := { dst := none, op := Op.store 3 (Operand.tmp 105) (Operand.tmp 103), type := 0, pos := "ref.go:253", after := #[{ on := 13, ground := Ground.data }, { on := 11, ground := Ground.data }, { on := 5, ground := Ground.chain }, { on := 0, ground := Ground.phase }, { on := 1, ground := Ground.phase }, { on := 2, ground := Ground.phase }, { on := 3, ground := Ground.phase }, { on := 4, ground := Ground.phase }, { on := 5, ground := Ground.phase }, { on := 6, ground := Ground.phase }, { on := 7, ground := Ground.phase }, { on := 8, ground := Ground.phase }, { on := 9, ground := Ground.phase }, { on := 10, ground := Ground.phase }, { on := 11, ground := Ground.phase }], guard := none }) rfl (fun K hK => ?_) AllReadyH.nil
        go_simp
        (refine hK _ _ ⟨HD2.out.se, HD2.out.tb.cell 5 (.slice (some ⟨g, 0, none⟩) n c2) rfl⟩ ?_; clear hK K; intro _)
        try simp only [Act.put, List.setIfInBounds_toArray, List.set_cons_zero, List.set_cons_succ]
        refine wpAnyH_done (by kernel_rfl) ?_ _
        go_wp2_with (first
          | ((with_reducible refine guard_load 25 ?_); clear T4; refine wpList_load_st rfl _ rfl HD2.out.tb rfl ?_)
          | (go_at_call 19; refine (rwhole_any { s with events := (s.events + 1), stamp := e.stamp, who := e.who, lines := L1 } (some ⟨g, 0, none⟩) n c2 _ HN1.out (ownl_lns HD2.out.row) hlm).mono ?_; rw [HPB.out]; rintro _ Y2 ⟨rfl, hb6⟩; have HD3 : Hid (Ap w s e a n cap x2.heap.size { s with events := (s.events + 1), stamp := e.stamp, who := e.who, lines := L1 } (.slice (some ⟨g, 0, none⟩) n c2) Y2) := HD2.out.keep hb6; have HY : Hid (Ap w s e a n cap x2.heap.size { s with events := (s.events + 1), stamp := e.stamp, who := e.who, lines := L1 } (.slice (some ⟨g, 0, none⟩) n c2) Y2) := HD3.out; clear hb6)
              | ((with_reducible refine guard_load 25 ?_); refine wpList_load_st rfl _ rfl HY.out.tb rfl ?_)
              | ((with_reducible refine guard_store 25 ?_); refine wpList_store_st (s := zeroS) (s2 := { s with events := (s.events + 1), stamp := e.stamp, who := e.who, lines := L1 }) (a2 := some ⟨g, 0, none⟩) (n2 := n) (c2 := c2) rfl _ _ rfl HY.out.res rfl rfl ?_; intro x9 z1 z2 z3 z4))
        refine bodyPost_ret (results_st2 rfl _ _ _ _ rfl rfl z1) rfl ⟨some ⟨g, 0, none⟩, n, c2, rfl, ?_⟩
        exact HY.out.done z2 z3
    · have gst : decide (s.stamp < e.stamp) = false := by simpa using hst
      cases hw : e.who.toList == [] with
      | true =>
        have hR : fineS s e = { s with events := (s.events + 1), lines := L1 } := by simp [fineS, doS, hk, hst, hw, shipS, hL1, hPB]
        rw [hR]
        clear hn hl hR hjj h1 h2 h3 h4 hp hpr hf hk
        go_enter Tryz.func7, Tryz.ntmps7
        go_wp2_with (first
              | ((with_reducible refine guard_load 25 ?_); clear T1; refine wpList_load_st rfl _ rfl HW1.out.1 rfl ?_)
              | (go_at_call 6; refine (scopy_any s a n cap _ HN.out HLW.out hm).mono ?_; rintro _ x2 ⟨v2, rfl, ho2, hb2⟩; obtain ⟨a2, c2, hv2, _, _, hl2, _⟩ := ho2.shape; simp only [HN.out] at hv2; subst hv2; have HX2 : Hid (OwnL x2 W.heap.size (.slice a2 n c2) s.lines ∧ Below W.heap.size W x2) := ⟨ho2, hb2⟩; clear hb2 ho2 hl2)
              | ((with_reducible refine guard_store 25 ?_); clear T2; refine wpList_store_st (s := zeroS) (s2 := s) (a2 := a2) (n2 := n) (c2 := c2) rfl _ _ rfl (StAt.new x2 zeroS (.slice none 0 0)) rfl rfl ?_; intro x3 z1 z2 z3 z4; have HA3 : Hid (Ap w s e a n cap x2.heap.size s (.slice a2 n c2) x3) := Ap.start HW1.out HLW0.out HX2.out.1 HX2.out.2 z1 (z2 _ _ ((Below.refl x2.heap.size x2).alloc (Nat.le_refl _) _) (Nat.le_refl _)); clear z1 z2 z3 z4)
              | ((with_reducible refine guard_load 25 ?_); clear T3; refine wpList_load_st rfl _ rfl HA3.out.se.st rfl ?_)
              | ((with_reducible refine guard_load 28 ?_); refine wpList_load_ev rfl _ rfl HA3.out.se.ev rfl ?_)
              | (go_at_call 15; refine (rjudge_any s e a n cap _ HN.out HA3.out.se.ln hlm).mono ?_; rw [HJ.out]; rintro _ x4 ⟨rfl, hb4⟩; have HA4 : Hid (Ap w s e a n cap x2.heap.size s (.slice a2 n c2) x4) := Ap.keep HA3.out hb4; clear hb4; have s5_8 := HA4.out.se.st.cell 8 (.int .i64 s.events) rfl; have t5 := HA4.out.tb.cell 8 (.int .i64 s.events) rfl; have u5 := HA4.out.tb.froz 8; have HA5 : Hid (Ap w s e a n cap x2.heap.size { s with events := (s.events + 1) } (.slice a2 n c2) (x4.setCell ⟨x2.heap.size, 8, none⟩ (.int .i64 (s.events + 1)))) := Ap.set HA4.out 8 _ rfl rfl; have s6_10 := HA5.out.se.st.cell 10 (.int .i64 s.stamp) rfl; have v6_8 := HA5.out.se.ev.cell 8 (.int .i64 e.stamp) rfl; have v7_7 := HA5.out.se.ev.cell 7 (.string e.who) rfl; have kk := (SE.cs HA5.out.se HK.out).2.2.2.2.2.2.1))
        obtain ⟨g, hga, _⟩ := HA5.out.row.block HG1.out
        subst hga
        refine wp_region_held (S := fun y => SE w s e a n cap y ∧ y.cell? ⟨x2.heap.size, 5, none⟩ = some (.slice (some ⟨g, 0, none⟩) n c2)) (by kernel_rfl) ?_
        change wpAnyH _ _ _ _ _ _ _ _ (World.drew _)
        obtain ⟨D0, hD⟩ : ∃ D0, World.drew (x4.setCell ⟨x2.heap.size, 8, none⟩ (.int .i64 (s.events + 1))) = D0 := ⟨_, rfl⟩
        have HD0 : Hid (Ap w s e a n cap x2.heap.size { s with events := (s.events + 1) } (.slice (some ⟨g, 0, none⟩) n c2) D0) := by rw [← hD]; exact HA5.out.keep (Below.refl _ _).drew
        rw [hD]
        clear hD
        have T4 : Hid True := trivial
        refine wpAnyH_take (i := 0) (oi := { dst := some 92, op := Op.fieldAddr 25 (Operand.tmp 6) 5, type := 0, pos := "ref.go:253", after := #[], guard := none }) (v := ?_) rfl (by kernel_rfl) (by kernel_rfl) (by kernel_rfl) (fun _ _ _ h => h) (Or.inl ⟨by rfl, ?_⟩) ⟨HD0.out.se, HD0.out.tb.cell 5 (.slice (some ⟨g, 0, none⟩) n c2) rfl⟩ ?_
        rotate_left
        · (intro y hy; go_simp; try (with_reducible rfl))
        simp only [Act.put, List.setIfInBounds_toArray, List.set_cons_zero, List.set_cons_succ]
        refine wpAnyH_take (i := 1) (oi := { dst := some 93, op := Op.load 23 (Operand.tmp 92), type := 23, pos := "ref.go:253", after := #[{ on := 0, ground := Ground.data }], guard := none }) (v := ?_) rfl (by kernel_rfl) (by kernel_rfl) (by kernel_rfl) (fun _ _ _ h => h) (Or.inl ⟨by rfl, ?_⟩) ⟨HD0.out.se, HD0.out.tb.cell 5 (.slice (some ⟨g, 0, none⟩) n c2) rfl⟩ ?_
        rotate_left
        · (intro y hy; have cq := hy.2; go_simp; try (with_reducible rfl))
        simp only [Act.put, List.setIfInBounds_toArray, List.set_cons_zero, List.set_cons_succ]
        refine wpAnyH_take (i := 2) (oi := { dst := some 94, op := Op.load 25 (Operand.tmp 2), type := 25, pos := "ref.go:253", after := #[], guard := none }) (v := .agg (stA s (.slice a n cap))) rfl (by kernel_rfl) (by kernel_rfl) (by kernel_rfl) (fun _ _ _ h => h) (Or.inl ⟨by rfl, fun y hy => exec_load_st (.tmp 2) rfl rfl hy.1.st⟩) ⟨HD0.out.se, HD0.out.tb.cell 5 (.slice (some ⟨g, 0, none⟩) n c2) rfl⟩ ?_
        simp only [Act.put, List.setIfInBounds_toArray, List.set_cons_zero, List.set_cons_succ]
        refine wpAnyH_take (i := 3) (oi := { dst := some 95, op := Op.fieldAddr 28 (Operand.tmp 3) 2, type := 0, pos := "ref.go:253", after := #[], guard := none }) (v := ?_) rfl (by kernel_rfl) (by kernel_rfl) (by kernel_rfl) (fun _ _ _ h => h) (Or.inl ⟨by rfl, ?_⟩) ⟨HD0.out.se, HD0.out.tb.cell 5 (.slice (some ⟨g, 0, none⟩) n c2) rfl⟩ ?_
        rotate_left
        · (intro y hy; go_simp; try (with_reducible rfl))
        simp only [Act.put, List.setIfInBounds_toArray, List.set_cons_zero, List.set_cons_succ]
        refine wpAnyH_take (i := 4) (oi := { dst := some 96, op := Op.load 3 (Operand.tmp 95), type := 3, pos := "ref.go:253", after := #[{ on := 3, ground := Ground.data }], guard := none }) (v := ?_) rfl (by kernel_rfl) (by kernel_rfl) (by kernel_rfl) (fun _ _ _ h => h) (Or.inl ⟨by rfl, ?_⟩) ⟨HD0.out.se, HD0.out.tb.cell 5 (.slice (some ⟨g, 0, none⟩) n c2) rfl⟩ ?_
        rotate_left
        · (intro y hy; have cq := hy.1.ev.cell 2 (.int .i64 e.item) rfl; go_simp; try (with_reducible rfl))
        simp only [Act.put, List.setIfInBounds_toArray, List.set_cons_zero, List.set_cons_succ]
        refine wpAnyH_take (i := 9) (oi := { dst := some 101, op := Op.fieldAddr 28 (Operand.tmp 3) 3, type := 0, pos := "ref.go:253", after := #[], guard := none }) (v := ?_) rfl (by kernel_rfl) (by kernel_rfl) (by kernel_rfl) (fun _ _ _ h => h) (Or.inl ⟨by rfl, ?_⟩) ⟨HD0.out.se, HD0.out.tb.cell 5 (.slice (some ⟨g, 0, none⟩) n c2) rfl⟩ ?_
        rotate_left
        · (intro y hy; go_simp; try (with_reducible rfl))
        simp only [Act.put, List.setIfInBounds_toArray, List.set_cons_zero, List.set_cons_succ]
        refine wpAnyH_take (i := 10) (oi := { dst := some 102, op := Op.load 3 (Operand.tmp 101), type := 3, pos := "ref.go:253", after := #[{ on := 9, ground := Ground.data }], guard := none }) (v := ?_) rfl (by kernel_rfl) (by kernel_rfl) (by kernel_rfl) (fun _ _ _ h => h) (Or.inl ⟨by rfl, ?_⟩) ⟨HD0.out.se, HD0.out.tb.cell 5 (.slice (some ⟨g, 0, none⟩) n c2) rfl⟩ ?_
        rotate_left
        · (intro y hy; have cq := hy.1.ev.cell 3 (.int .i64 e.qty) rfl; go_simp; try (with_reducible rfl))
        simp only [Act.put, List.setIfInBounds_toArray, List.set_cons_zero, List.set_cons_succ]
        refine wpAnyH_ready (rs := [5]) (by kernel_rfl) (by simp) ?_
        refine AllReadyH.cons (o := { dst := some 97, op := Op.call { callee := Callee.value (Operand.func 18), args := #[Operand.tmp 94, Operand.tmp 96], argTypes := #[25, 3] }, type := 3, pos := "ref.go:253", after := #[{ on := 2, ground := Ground.data }, { on := 4, ground := Ground.data }], guard := none }) rfl (fun K hK => ?_) AllReadyH.nil
        go_simp
        refine (rat_any s e.item a n cap _ HN.out HD0.out.se.ln hlm HRI.out).mono ?_
        rw [HAT.out]
        rintro _ Y1 ⟨rfl, hb5⟩
        have HD1 : Hid (Ap w s e a n cap x2.heap.size { s with events := (s.events + 1) } (.slice (some ⟨g, 0, none⟩) n c2) Y1) := HD0.out.keep hb5
        clear hb5
        obtain ⟨m0, m1, m2, m3⟩ := HD1.out.row.cells HG1.out
        have mf := frozen_own HD1.out.row (LB * 4 + 3)
        have HD2 : Hid (Ap w s e a n cap x2.heap.size { s with events := (s.events + 1), lines := L1 } (.slice (some ⟨g, 0, none⟩) n c2) (Y1.setCell ⟨g, LB * 4 + 3, none⟩ (.int .i64 (p.shipped + e.qty)))) := by
          have h := HD1.out.turn LB 3 p (p.shipped + e.qty) HG1.out (by omega)
          simp only [HL1.out] at h
          exact h
        (refine hK _ _ ⟨HD1.out.se, HD1.out.tb.cell 5 (.slice (some ⟨g, 0, none⟩) n c2) rfl⟩ ?_; clear hK K; intro _)
        try simp only [Act.put, List.setIfInBounds_toArray, List.set_cons_zero, List.set_cons_succ]
        refine wpAnyH_take (i := 6) (oi := { dst := some 98, op := Op.indexAddr 23 (Operand.tmp 93) (Operand.tmp 97), type := 0, pos := "ref.go:253", after := #[{ on := 1, ground := Ground.data }, { on := 5, ground := Ground.data }], guard := none }) (v := ?_) rfl (by kernel_rfl) (by kernel_rfl) (by kernel_rfl) (fun _ _ _ h => h) (Or.inl ⟨by rfl, ?_⟩) ⟨HD1.out.se, HD1.out.tb.cell 5 (.slice (some ⟨g, 0, none⟩) n c2) rfl⟩ ?_
        rotate_left
        · (intro y hy; go_simp; try (with_reducible rfl))
        simp only [Act.put, List.setIfInBounds_toArray, List.set_cons_zero, List.set_cons_succ]
        refine wpAnyH_take (i := 7) (oi := { dst := some 99, op := Op.fieldAddr 36 (Operand.tmp 98) 3, type := 0, pos := "ref.go:253", after := #[{ on := 6, ground := Ground.data }], guard := none }) (v := ?_) rfl (by kernel_rfl) (by kernel_rfl) (by kernel_rfl) (fun _ _ _ h => h) (Or.inl ⟨by rfl, ?_⟩) ⟨HD1.out.se, HD1.out.tb.cell 5 (.slice (some ⟨g, 0, none⟩) n c2) rfl⟩ ?_
        rotate_left
        · (intro y hy; go_simp; try (with_reducible rfl))
        simp only [Act.put, List.setIfInBounds_toArray, List.set_cons_zero, List.set_cons_succ]
        refine wpAnyH_ready (rs := [8]) (by kernel_rfl) (by simp) ?_
        refine AllReadyH.cons (o := { dst := some 100, op := Op.load 3 (Operand.tmp 99), type := 3, pos := "ref.go:253", after := #[{ on := 7, ground := Ground.data }], guard := none }) rfl (fun K hK => ?_) AllReadyH.nil
        go_simp
        (refine hK _ _ ⟨HD1.out.se, HD1.out.tb.cell 5 (.slice (some ⟨g, 0, none⟩) n c2) rfl⟩ ?_; clear hK K; intro _)
        try simp only [Act.put, List.setIfInBounds_toArray, List.set_cons_zero, List.set_cons_succ]
        refine wpAnyH_take (i := 11) (oi := { dst := some 103, op := Op.binOp BinOp.add 3 (Operand.tmp 100) (Operand.tmp 102) 3, type := 3, pos := "ref.go:253", after := #[{ on := 8, ground := Ground.data }, { on := 10, ground := Ground.data }], guard := none }) (v := ?_) rfl (by kernel_rfl) (by kernel_rfl) (by kernel_rfl) (fun _ _ _ h => h) (Or.inl ⟨by rfl, ?_⟩) ⟨HD1.out.se, HD1.out.tb.cell 5 (.slice (some ⟨g, 0, none⟩) n c2) rfl⟩ ?_
        rotate_left
        · (intro y hy; go_simp; try (with_reducible rfl))
        simp only [Act.put, List.setIfInBounds_toArray, List.set_cons_zero, List.set_cons_succ]
        refine wpAnyH_take (i := 12) (oi := { dst := some 104, op := Op.indexAddr 23 (Operand.tmp 93) (Operand.tmp 97), type := 0, pos := "ref.go:253", after := #[{ on := 1, ground := Ground.data }, { on := 5, ground := Ground.data }, { on := 0, ground := Ground.phase }, { on := 1, ground := Ground.phase }, { on := 2, ground := Ground.phase }, { on := 3, ground := Ground.phase }, { on := 4, ground := Ground.phase }, { on := 5, ground := Ground.phase }, { on := 6, ground := Ground.phase }, { on := 7, ground := Ground.phase }, { on := 8, ground := Ground.phase }, { on := 9, ground := Ground.phase }, { on := 10, ground := Ground.phase }, { on := 11, ground := Ground.phase }], guard := none }) (v := ?_) rfl (by kernel_rfl) (by kernel_rfl) (by kernel_rfl) (fun _ _ _ h => h) (Or.inl ⟨by rfl, ?_⟩) ⟨HD1.out.se, HD1.out.tb.cell 5 (.slice (some ⟨g, 0, none⟩) n c2) rfl⟩ ?_
        rotate_left
        · (intro y hy; go_simp; try (with_reducible rfl))
        simp only [Act.put, List.setIfInBounds_toArray, List.set_cons_zero, List.set_cons_succ]
        refine wpAnyH_take (i := 13) (oi := { dst := some 105, op := Op.fieldAddr 36 (Operand.tmp 104) 3, type := 0, pos := "ref.go:253", after := #[{ on := 12, ground := Ground.data }, { on := 0, ground := Ground.phase }, { on := 1, ground := Ground.phase }, { on := 2, ground := Ground.phase }, { on := 3, ground := Ground.phase }, { on := 4, ground := Ground.phase }, { on := 5, ground := Ground.phase }, { on := 6, ground := Ground.phase }, { on := 7, ground := Ground.phase }, { on := 8, ground := Ground.phase }, { on := 9, ground := Ground.phase }, { on := 10, ground := Ground.phase }, { on := 11, ground := Ground.phase }], guard := none }) (v := ?_) rfl (by kernel_rfl) (by kernel_rfl) (by kernel_rfl) (fun _ _ _ h => h) (Or.inl ⟨by rfl, ?_⟩) ⟨HD1.out.se, HD1.out.tb.cell 5 (.slice (some ⟨g, 0, none⟩) n c2) rfl⟩ ?_
        rotate_left
        · (intro y hy; go_simp; try (with_reducible rfl))
        simp only [Act.put, List.setIfInBounds_toArray, List.set_cons_zero, List.set_cons_succ]
        refine wpAnyH_ready (rs := [14]) (by kernel_rfl) (by simp) ?_
        refine AllReadyH.cons (o := { dst := none, op := Op.store 3 (Operand.tmp 105) (Operand.tmp 103), type := 0, pos := "ref.go:253", after := #[{ on := 13, ground := Ground.data }, { on := 11, ground := Ground.data }, { on := 5, ground := Ground.chain }, { on := 0, ground := Ground.phase }, { on := 1, ground := Ground.phase }, { on := 2, ground := Ground.phase }, { on := 3, ground := Ground.phase }, { on := 4, ground := Ground.phase }, { on := 5, ground := Ground.phase }, { on := 6, ground := Ground.phase }, { on := 7, ground := Ground.phase }, { on := 8, ground := Ground.phase }, { on := 9, ground := Ground.phase }, { on := 10, ground := Ground.phase }, { on := 11, ground := Ground.phase }], guard := none }) rfl (fun K hK => ?_) AllReadyH.nil
        go_simp
        (refine hK _ _ ⟨HD2.out.se, HD2.out.tb.cell 5 (.slice (some ⟨g, 0, none⟩) n c2) rfl⟩ ?_; clear hK K; intro _)
        try simp only [Act.put, List.setIfInBounds_toArray, List.set_cons_zero, List.set_cons_succ]
        refine wpAnyH_done (by kernel_rfl) ?_ _
        go_wp2_with (first
          | ((with_reducible refine guard_load 25 ?_); clear T4; refine wpList_load_st rfl _ rfl HD2.out.tb rfl ?_)
          | (go_at_call 19; refine (rwhole_any { s with events := (s.events + 1), lines := L1 } (some ⟨g, 0, none⟩) n c2 _ HN1.out (ownl_lns HD2.out.row) hlm).mono ?_; rw [HPB.out]; rintro _ Y2 ⟨rfl, hb6⟩; have HD3 : Hid (Ap w s e a n cap x2.heap.size { s with events := (s.events + 1), lines := L1 } (.slice (some ⟨g, 0, none⟩) n c2) Y2) := HD2.out.keep hb6; have HY : Hid (Ap w s e a n cap x2.heap.size { s with events := (s.events + 1), lines := L1 } (.slice (some ⟨g, 0, none⟩) n c2) Y2) := HD3.out; clear hb6)
              | ((with_reducible refine guard_load 25 ?_); refine wpList_load_st rfl _ rfl HY.out.tb rfl ?_)
              | ((with_reducible refine guard_store 25 ?_); refine wpList_store_st (s := zeroS) (s2 := { s with events := (s.events + 1), lines := L1 }) (a2 := some ⟨g, 0, none⟩) (n2 := n) (c2 := c2) rfl _ _ rfl HY.out.res rfl rfl ?_; intro x9 z1 z2 z3 z4))
        refine bodyPost_ret (results_st2 rfl _ _ _ _ rfl rfl z1) rfl ⟨some ⟨g, 0, none⟩, n, c2, rfl, ?_⟩
        exact HY.out.done z2 z3
      | false =>
        have hR : fineS s e = { s with events := (s.events + 1), who := e.who, lines := L1 } := by simp [fineS, doS, hk, hst, hw, shipS, hL1, hPB]
        rw [hR]
        clear hn hl hR hjj h1 h2 h3 h4 hp hpr hf hk
        go_enter Tryz.func7, Tryz.ntmps7
        go_wp2_with (first
              | ((with_reducible refine guard_load 25 ?_); clear T1; refine wpList_load_st rfl _ rfl HW1.out.1 rfl ?_)
              | (go_at_call 6; refine (scopy_any s a n cap _ HN.out HLW.out hm).mono ?_; rintro _ x2 ⟨v2, rfl, ho2, hb2⟩; obtain ⟨a2, c2, hv2, _, _, hl2, _⟩ := ho2.shape; simp only [HN.out] at hv2; subst hv2; have HX2 : Hid (OwnL x2 W.heap.size (.slice a2 n c2) s.lines ∧ Below W.heap.size W x2) := ⟨ho2, hb2⟩; clear hb2 ho2 hl2)
              | ((with_reducible refine guard_store 25 ?_); clear T2; refine wpList_store_st (s := zeroS) (s2 := s) (a2 := a2) (n2 := n) (c2 := c2) rfl _ _ rfl (StAt.new x2 zeroS (.slice none 0 0)) rfl rfl ?_; intro x3 z1 z2 z3 z4; have HA3 : Hid (Ap w s e a n cap x2.heap.size s (.slice a2 n c2) x3) := Ap.start HW1.out HLW0.out HX2.out.1 HX2.out.2 z1 (z2 _ _ ((Below.refl x2.heap.size x2).alloc (Nat.le_refl _) _) (Nat.le_refl _)); clear z1 z2 z3 z4)
              | ((with_reducible refine guard_load 25 ?_); clear T3; refine wpList_load_st rfl _ rfl HA3.out.se.st rfl ?_)
              | ((with_reducible refine guard_load 28 ?_); refine wpList_load_ev rfl _ rfl HA3.out.se.ev rfl ?_)
              | (go_at_call 15; refine (rjudge_any s e a n cap _ HN.out HA3.out.se.ln hlm).mono ?_; rw [HJ.out]; rintro _ x4 ⟨rfl, hb4⟩; have HA4 : Hid (Ap w s e a n cap x2.heap.size s (.slice a2 n c2) x4) := Ap.keep HA3.out hb4; clear hb4; have s5_8 := HA4.out.se.st.cell 8 (.int .i64 s.events) rfl; have t5 := HA4.out.tb.cell 8 (.int .i64 s.events) rfl; have u5 := HA4.out.tb.froz 8; have HA5 : Hid (Ap w s e a n cap x2.heap.size { s with events := (s.events + 1) } (.slice a2 n c2) (x4.setCell ⟨x2.heap.size, 8, none⟩ (.int .i64 (s.events + 1)))) := Ap.set HA4.out 8 _ rfl rfl; have s6_10 := HA5.out.se.st.cell 10 (.int .i64 s.stamp) rfl; have v6_8 := HA5.out.se.ev.cell 8 (.int .i64 e.stamp) rfl; have v7_7 := HA5.out.se.ev.cell 7 (.string e.who) rfl; have t7 := HA5.out.tb.cell 11 (.string s.who) rfl; have u7 := HA5.out.tb.froz 11; have HA7 : Hid (Ap w s e a n cap x2.heap.size { s with events := (s.events + 1), who := e.who } (.slice a2 n c2) ((x4.setCell ⟨x2.heap.size, 8, none⟩ (.int .i64 (s.events + 1))).setCell ⟨x2.heap.size, 11, none⟩ (.string e.who))) := Ap.set HA5.out 11 _ rfl rfl; have kk := (SE.cs HA7.out.se HK.out).2.2.2.2.2.2.1))
        obtain ⟨g, hga, _⟩ := HA7.out.row.block HG1.out
        subst hga
        refine wp_region_held (S := fun y => SE w s e a n cap y ∧ y.cell? ⟨x2.heap.size, 5, none⟩ = some (.slice (some ⟨g, 0, none⟩) n c2)) (by kernel_rfl) ?_
        change wpAnyH _ _ _ _ _ _ _ _ (World.drew _)
        obtain ⟨D0, hD⟩ : ∃ D0, World.drew ((x4.setCell ⟨x2.heap.size, 8, none⟩ (.int .i64 (s.events + 1))).setCell ⟨x2.heap.size, 11, none⟩ (.string e.who)) = D0 := ⟨_, rfl⟩
        have HD0 : Hid (Ap w s e a n cap x2.heap.size { s with events := (s.events + 1), who := e.who } (.slice (some ⟨g, 0, none⟩) n c2) D0) := by rw [← hD]; exact HA7.out.keep (Below.refl _ _).drew
        rw [hD]
        clear hD
        have T4 : Hid True := trivial
        refine wpAnyH_take (i := 0) (oi := { dst := some 92, op := Op.fieldAddr 25 (Operand.tmp 6) 5, type := 0, pos := "ref.go:253", after := #[], guard := none }) (v := ?_) rfl (by kernel_rfl) (by kernel_rfl) (by kernel_rfl) (fun _ _ _ h => h) (Or.inl ⟨by rfl, ?_⟩) ⟨HD0.out.se, HD0.out.tb.cell 5 (.slice (some ⟨g, 0, none⟩) n c2) rfl⟩ ?_
        rotate_left
        · (intro y hy; go_simp; try (with_reducible rfl))
        simp only [Act.put, List.setIfInBounds_toArray, List.set_cons_zero, List.set_cons_succ]
        refine wpAnyH_take (i := 1) (oi := { dst := some 93, op := Op.load 23 (Operand.tmp 92), type := 23, pos := "ref.go:253", after := #[{ on := 0, ground := Ground.data }], guard := none }) (v := ?_) rfl (by kernel_rfl) (by kernel_rfl) (by kernel_rfl) (fun _ _ _ h => h) (Or.inl ⟨by rfl, ?_⟩) ⟨HD0.out.se, HD0.out.tb.cell 5 (.slice (some ⟨g, 0, none⟩) n c2) rfl⟩ ?_
        rotate_left
        · (intro y hy; have cq := hy.2; go_simp; try (with_reducible rfl))
        simp only [Act.put, List.setIfInBounds_toArray, List.set_cons_zero, List.set_cons_succ]
        refine wpAnyH_take (i := 2) (oi := { dst := some 94, op := Op.load 25 (Operand.tmp 2), type := 25, pos := "ref.go:253", after := #[], guard := none }) (v := .agg (stA s (.slice a n cap))) rfl (by kernel_rfl) (by kernel_rfl) (by kernel_rfl) (fun _ _ _ h => h) (Or.inl ⟨by rfl, fun y hy => exec_load_st (.tmp 2) rfl rfl hy.1.st⟩) ⟨HD0.out.se, HD0.out.tb.cell 5 (.slice (some ⟨g, 0, none⟩) n c2) rfl⟩ ?_
        simp only [Act.put, List.setIfInBounds_toArray, List.set_cons_zero, List.set_cons_succ]
        refine wpAnyH_take (i := 3) (oi := { dst := some 95, op := Op.fieldAddr 28 (Operand.tmp 3) 2, type := 0, pos := "ref.go:253", after := #[], guard := none }) (v := ?_) rfl (by kernel_rfl) (by kernel_rfl) (by kernel_rfl) (fun _ _ _ h => h) (Or.inl ⟨by rfl, ?_⟩) ⟨HD0.out.se, HD0.out.tb.cell 5 (.slice (some ⟨g, 0, none⟩) n c2) rfl⟩ ?_
        rotate_left
        · (intro y hy; go_simp; try (with_reducible rfl))
        simp only [Act.put, List.setIfInBounds_toArray, List.set_cons_zero, List.set_cons_succ]
        refine wpAnyH_take (i := 4) (oi := { dst := some 96, op := Op.load 3 (Operand.tmp 95), type := 3, pos := "ref.go:253", after := #[{ on := 3, ground := Ground.data }], guard := none }) (v := ?_) rfl (by kernel_rfl) (by kernel_rfl) (by kernel_rfl) (fun _ _ _ h => h) (Or.inl ⟨by rfl, ?_⟩) ⟨HD0.out.se, HD0.out.tb.cell 5 (.slice (some ⟨g, 0, none⟩) n c2) rfl⟩ ?_
        rotate_left
        · (intro y hy; have cq := hy.1.ev.cell 2 (.int .i64 e.item) rfl; go_simp; try (with_reducible rfl))
        simp only [Act.put, List.setIfInBounds_toArray, List.set_cons_zero, List.set_cons_succ]
        refine wpAnyH_take (i := 9) (oi := { dst := some 101, op := Op.fieldAddr 28 (Operand.tmp 3) 3, type := 0, pos := "ref.go:253", after := #[], guard := none }) (v := ?_) rfl (by kernel_rfl) (by kernel_rfl) (by kernel_rfl) (fun _ _ _ h => h) (Or.inl ⟨by rfl, ?_⟩) ⟨HD0.out.se, HD0.out.tb.cell 5 (.slice (some ⟨g, 0, none⟩) n c2) rfl⟩ ?_
        rotate_left
        · (intro y hy; go_simp; try (with_reducible rfl))
        simp only [Act.put, List.setIfInBounds_toArray, List.set_cons_zero, List.set_cons_succ]
        refine wpAnyH_take (i := 10) (oi := { dst := some 102, op := Op.load 3 (Operand.tmp 101), type := 3, pos := "ref.go:253", after := #[{ on := 9, ground := Ground.data }], guard := none }) (v := ?_) rfl (by kernel_rfl) (by kernel_rfl) (by kernel_rfl) (fun _ _ _ h => h) (Or.inl ⟨by rfl, ?_⟩) ⟨HD0.out.se, HD0.out.tb.cell 5 (.slice (some ⟨g, 0, none⟩) n c2) rfl⟩ ?_
        rotate_left
        · (intro y hy; have cq := hy.1.ev.cell 3 (.int .i64 e.qty) rfl; go_simp; try (with_reducible rfl))
        simp only [Act.put, List.setIfInBounds_toArray, List.set_cons_zero, List.set_cons_succ]
        refine wpAnyH_ready (rs := [5]) (by kernel_rfl) (by simp) ?_
        refine AllReadyH.cons (o := { dst := some 97, op := Op.call { callee := Callee.value (Operand.func 18), args := #[Operand.tmp 94, Operand.tmp 96], argTypes := #[25, 3] }, type := 3, pos := "ref.go:253", after := #[{ on := 2, ground := Ground.data }, { on := 4, ground := Ground.data }], guard := none }) rfl (fun K hK => ?_) AllReadyH.nil
        go_simp
        refine (rat_any s e.item a n cap _ HN.out HD0.out.se.ln hlm HRI.out).mono ?_
        rw [HAT.out]
        rintro _ Y1 ⟨rfl, hb5⟩
        have HD1 : Hid (Ap w s e a n cap x2.heap.size { s with events := (s.events + 1), who := e.who } (.slice (some ⟨g, 0, none⟩) n c2) Y1) := HD0.out.keep hb5
        clear hb5
        obtain ⟨m0, m1, m2, m3⟩ := HD1.out.row.cells HG1.out
        have mf := frozen_own HD1.out.row (LB * 4 + 3)
        have HD2 : Hid (Ap w s e a n cap x2.heap.size { s with events := (s.events + 1), who := e.who, lines := L1 } (.slice (some ⟨g, 0, none⟩) n c2) (Y1.setCell ⟨g, LB * 4 + 3, none⟩ (.int .i64 (p.shipped + e.qty)))) := by
          have h := HD1.out.turn LB 3 p (p.shipped + e.qty) HG1.out (by omega)
          simp only [HL1.out] at h
          exact h
        (refine hK _ _ ⟨HD1.out.se, HD1.out.tb.cell 5 (.slice (some ⟨g, 0, none⟩) n c2) rfl⟩ ?_; clear hK K; intro _)
        try simp only [Act.put, List.setIfInBounds_toArray, List.set_cons_zero, List.set_cons_succ]
        refine wpAnyH_take (i := 6) (oi := { dst := some 98, op := Op.indexAddr 23 (Operand.tmp 93) (Operand.tmp 97), type := 0, pos := "ref.go:253", after := #[{ on := 1, ground := Ground.data }, { on := 5, ground := Ground.data }], guard := none }) (v := ?_) rfl (by kernel_rfl) (by kernel_rfl) (by kernel_rfl) (fun _ _ _ h => h) (Or.inl ⟨by rfl, ?_⟩) ⟨HD1.out.se, HD1.out.tb.cell 5 (.slice (some ⟨g, 0, none⟩) n c2) rfl⟩ ?_
        rotate_left
        · (intro y hy; go_simp; try (with_reducible rfl))
        simp only [Act.put, List.setIfInBounds_toArray, List.set_cons_zero, List.set_cons_succ]
        refine wpAnyH_take (i := 7) (oi := { dst := some 99, op := Op.fieldAddr 36 (Operand.tmp 98) 3, type := 0, pos := "ref.go:253", after := #[{ on := 6, ground := Ground.data }], guard := none }) (v := ?_) rfl (by kernel_rfl) (by kernel_rfl) (by kernel_rfl) (fun _ _ _ h => h) (Or.inl ⟨by rfl, ?_⟩) ⟨HD1.out.se, HD1.out.tb.cell 5 (.slice (some ⟨g, 0, none⟩) n c2) rfl⟩ ?_
        rotate_left
        · (intro y hy; go_simp; try (with_reducible rfl))
        simp only [Act.put, List.setIfInBounds_toArray, List.set_cons_zero, List.set_cons_succ]
        refine wpAnyH_ready (rs := [8]) (by kernel_rfl) (by simp) ?_
        refine AllReadyH.cons (o := { dst := some 100, op := Op.load 3 (Operand.tmp 99), type := 3, pos := "ref.go:253", after := #[{ on := 7, ground := Ground.data }], guard := none }) rfl (fun K hK => ?_) AllReadyH.nil
        go_simp
        (refine hK _ _ ⟨HD1.out.se, HD1.out.tb.cell 5 (.slice (some ⟨g, 0, none⟩) n c2) rfl⟩ ?_; clear hK K; intro _)
        try simp only [Act.put, List.setIfInBounds_toArray, List.set_cons_zero, List.set_cons_succ]
        refine wpAnyH_take (i := 11) (oi := { dst := some 103, op := Op.binOp BinOp.add 3 (Operand.tmp 100) (Operand.tmp 102) 3, type := 3, pos := "ref.go:253", after := #[{ on := 8, ground := Ground.data }, { on := 10, ground := Ground.data }], guard := none }) (v := ?_) rfl (by kernel_rfl) (by kernel_rfl) (by kernel_rfl) (fun _ _ _ h => h) (Or.inl ⟨by rfl, ?_⟩) ⟨HD1.out.se, HD1.out.tb.cell 5 (.slice (some ⟨g, 0, none⟩) n c2) rfl⟩ ?_
        rotate_left
        · (intro y hy; go_simp; try (with_reducible rfl))
        simp only [Act.put, List.setIfInBounds_toArray, List.set_cons_zero, List.set_cons_succ]
        refine wpAnyH_take (i := 12) (oi := { dst := some 104, op := Op.indexAddr 23 (Operand.tmp 93) (Operand.tmp 97), type := 0, pos := "ref.go:253", after := #[{ on := 1, ground := Ground.data }, { on := 5, ground := Ground.data }, { on := 0, ground := Ground.phase }, { on := 1, ground := Ground.phase }, { on := 2, ground := Ground.phase }, { on := 3, ground := Ground.phase }, { on := 4, ground := Ground.phase }, { on := 5, ground := Ground.phase }, { on := 6, ground := Ground.phase }, { on := 7, ground := Ground.phase }, { on := 8, ground := Ground.phase }, { on := 9, ground := Ground.phase }, { on := 10, ground := Ground.phase }, { on := 11, ground := Ground.phase }], guard := none }) (v := ?_) rfl (by kernel_rfl) (by kernel_rfl) (by kernel_rfl) (fun _ _ _ h => h) (Or.inl ⟨by rfl, ?_⟩) ⟨HD1.out.se, HD1.out.tb.cell 5 (.slice (some ⟨g, 0, none⟩) n c2) rfl⟩ ?_
        rotate_left
        · (intro y hy; go_simp; try (with_reducible rfl))
        simp only [Act.put, List.setIfInBounds_toArray, List.set_cons_zero, List.set_cons_succ]
        refine wpAnyH_take (i := 13) (oi := { dst := some 105, op := Op.fieldAddr 36 (Operand.tmp 104) 3, type := 0, pos := "ref.go:253", after := #[{ on := 12, ground := Ground.data }, { on := 0, ground := Ground.phase }, { on := 1, ground := Ground.phase }, { on := 2, ground := Ground.phase }, { on := 3, ground := Ground.phase }, { on := 4, ground := Ground.phase }, { on := 5, ground := Ground.phase }, { on := 6, ground := Ground.phase }, { on := 7, ground := Ground.phase }, { on := 8, ground := Ground.phase }, { on := 9, ground := Ground.phase }, { on := 10, ground := Ground.phase }, { on := 11, ground := Ground.phase }], guard := none }) (v := ?_) rfl (by kernel_rfl) (by kernel_rfl) (by kernel_rfl) (fun _ _ _ h => h) (Or.inl ⟨by rfl, ?_⟩) ⟨HD1.out.se, HD1.out.tb.cell 5 (.slice (some ⟨g, 0, none⟩) n c2) rfl⟩ ?_
        rotate_left
        · (intro y hy; go_simp; try (with_reducible rfl))
        simp only [Act.put, List.setIfInBounds_toArray, List.set_cons_zero, List.set_cons_succ]
        refine wpAnyH_ready (rs := [14]) (by kernel_rfl) (by simp) ?_
        refine AllReadyH.cons (o := { dst := none, op := Op.store 3 (Operand.tmp 105) (Operand.tmp 103), type := 0, pos := "ref.go:253", after := #[{ on := 13, ground := Ground.data }, { on := 11, ground := Ground.data }, { on := 5, ground := Ground.chain }, { on := 0, ground := Ground.phase }, { on := 1, ground := Ground.phase }, { on := 2, ground := Ground.phase }, { on := 3, ground := Ground.phase }, { on := 4, ground := Ground.phase }, { on := 5, ground := Ground.phase }, { on := 6, ground := Ground.phase }, { on := 7, ground := Ground.phase }, { on := 8, ground := Ground.phase }, { on := 9, ground := Ground.phase }, { on := 10, ground := Ground.phase }, { on := 11, ground := Ground.phase }], guard := none }) rfl (fun K hK => ?_) AllReadyH.nil
        go_simp
        (refine hK _ _ ⟨HD2.out.se, HD2.out.tb.cell 5 (.slice (some ⟨g, 0, none⟩) n c2) rfl⟩ ?_; clear hK K; intro _)
        try simp only [Act.put, List.setIfInBounds_toArray, List.set_cons_zero, List.set_cons_succ]
        refine wpAnyH_done (by kernel_rfl) ?_ _
        go_wp2_with (first
          | ((with_reducible refine guard_load 25 ?_); clear T4; refine wpList_load_st rfl _ rfl HD2.out.tb rfl ?_)
          | (go_at_call 19; refine (rwhole_any { s with events := (s.events + 1), who := e.who, lines := L1 } (some ⟨g, 0, none⟩) n c2 _ HN1.out (ownl_lns HD2.out.row) hlm).mono ?_; rw [HPB.out]; rintro _ Y2 ⟨rfl, hb6⟩; have HD3 : Hid (Ap w s e a n cap x2.heap.size { s with events := (s.events + 1), who := e.who, lines := L1 } (.slice (some ⟨g, 0, none⟩) n c2) Y2) := HD2.out.keep hb6; have HY : Hid (Ap w s e a n cap x2.heap.size { s with events := (s.events + 1), who := e.who, lines := L1 } (.slice (some ⟨g, 0, none⟩) n c2) Y2) := HD3.out; clear hb6)
              | ((with_reducible refine guard_load 25 ?_); refine wpList_load_st rfl _ rfl HY.out.tb rfl ?_)
              | ((with_reducible refine guard_store 25 ?_); refine wpList_store_st (s := zeroS) (s2 := { s with events := (s.events + 1), who := e.who, lines := L1 }) (a2 := some ⟨g, 0, none⟩) (n2 := n) (c2 := c2) rfl _ _ rfl HY.out.res rfl rfl ?_; intro x9 z1 z2 z3 z4))
        refine bodyPost_ret (results_st2 rfl _ _ _ _ rfl rfl z1) rfl ⟨some ⟨g, 0, none⟩, n, c2, rfl, ?_⟩
        exact HY.out.done z2 z3
end Go.Proofs.YtldbdhhbmnbmaaaGreat
