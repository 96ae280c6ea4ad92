/- Own texts, joined: Od24. -/
import Derived.Test.YtmjppeljpifjpaaGreatK34
namespace Go.Proofs.YtmjppeljpifjpaaGreat
open Go.ChangeShapes Go.WideShapes Go.ChangeAt Go.RowKit
set_option linter.unusedVariables false
set_option linter.unusedSimpArgs false
set_option maxRecDepth 20000 in
set_option maxHeartbeats 8000000 in
theorem next_fine (lo b : Nat) (s : St) (e : Ev) (a : Option Addr) (n cap base : Nat) (w : World) (hd : DeedsAt lo w b) (ho : OwnL w base (.slice a n cap) s.lines) (hb : base ≤ w.heap.size) (hj : judS s e = 0) :
    Calls Tryz.prog 49 #[.slice (some ⟨b, 0, none⟩) 11 11, .agg (stA s (.slice a n cap)), .agg (evA e)] w fun r w' => NextPost (nextS s e) (judS s e) w base (.slice a n cap) r w' := by
  obtain ⟨W, hW, H⟩ := s3_new w base s e _ ho
  have HS : Hid (S3 w base (.slice a n cap) s e (.slice a n cap) W) := H
  have HN : Hid (s.lines.length = n) := ho.len
  have HD : Hid (DeedsAt lo w b) := hd
  have hm : n ≤ maxLen := Nat.le_trans ho.caps.1 ho.caps.2
  have HBW : Hid (Below w.heap.size w W) := by rw [← hW]; exact (((Below.refl _ _).alloc (Nat.le_refl _) _).alloc (by simp) _).alloc (by simp; omega) _
  have HJ : Hid (judS s e = 0) := hj
  obtain ⟨hv, hc, hev⟩ := jud_parts (s := s) (e := e) (by rw [hj]; decide)
  obtain ⟨hor, hjj⟩ := jud_rest (s := s) (e := e) (by rw [hj]; decide) (by rw [hj]; decide)
  have hstd : stdR s e.kind = 0 := Classical.byContradiction fun hn => by rw [hj, if_pos hn] at hjj; exact hn hjj.symm
  have href : refR s e = 0 := by rw [hj, if_neg (by omega)] at hjj; exact hjj.symm
  have v := vl_of hv
  have hR := right_of hc
  have kk1 := hR.kind0
  have kk2 : e.kind ≤ lastK 5 := hR.kind1
  simp [lastK] at kk2
  obtain ⟨k, hk⟩ : ∃ k : Nat, e.kind = k := ⟨e.kind.toNat, by omega⟩
  have hk1 : 1 ≤ k := by omega
  have hk10 : k ≤ 10 := by omega
  have hk11 : (k : Int) < 11 := by omega
  obtain ⟨vs, vr, q0, q1, q2, _, _⟩ := hd.2.2 k hk1 hk10
  have hblt := hd.1
  have hdo := do_any k hk1 hk10
  obtain ⟨D, hD⟩ : ∃ D, doF k = D := ⟨_, rfl⟩
  rw [hD] at q2 hdo
  obtain ⟨hcf, hdo⟩ := hdo
  obtain ⟨t, ht⟩ : ∃ t, doS s e = t := ⟨_, rfl⟩
  obtain ⟨kp1, kp2, kp3, kp4, kp5⟩ := doS_keep s e
  rw [ht] at kp1 kp2 kp3 kp4 kp5
  have HDO : Hid (∀ (y : World), OwnL y base (.slice a n cap) s.lines → base ≤ y.heap.size → Calls Tryz.prog D #[.agg (stA s (.slice a n cap)), .agg (evA e)] y fun r y' => DoPost t y base (.slice a n cap) r y') := fun y hy1 hy2 => ht ▸ hdo y base s e a n cap hy1 hy2 v hR hk (hk ▸ hstd) href
  have HQ2 : Hid (w.cell? ⟨b, k * 3 + 2, none⟩ = some (.func (Fn.func D) #[] #[]) ∧ b < w.heap.size) := ⟨q2, hblt⟩
  have HKK : Hid (e.kind = k) := hk
  have HB0 : Hid (base ≤ w.heap.size) := hb
  obtain ⟨X, hX⟩ : ∃ X, (if s.stamp < e.stamp then e.stamp else s.stamp) = X := ⟨_, rfl⟩
  have hXm : max s.stamp e.stamp = X := by rw [← hX, Int.max_def]; split <;> split <;> omega
  obtain ⟨Y, hY⟩ : ∃ Y, (if (e.who.toList == []) = true then s.who else e.who) = Y := ⟨_, rfl⟩
  have hnext : nextS s e = { t with stamp := X, who := Y, events := t.events + 1 } := by
    unfold nextS
    rw [hj, if_neg (by decide), if_pos rfl]
    unfold fineS
    rw [ht, hX, hY, kp3]
  have HY : Hid ((if (e.who.toList == []) = true then s.who else e.who) = Y) := hY
  have HT : Hid (t.stamp = s.stamp ∧ t.who = s.who) := ⟨kp1, kp2⟩
  have te1 : 0 ≤ t.events := by rw [kp3]; exact v.e1
  have te2 : t.events ≤ 1099511627776 := by rw [kp3]; exact v.e2
  have sm1 := v.m1
  have sm2 := v.m2
  have sm3 := hR.stamp0
  have sm4 := hR.stamp1
  rw [hnext, hj]
  clear H ho hd hb hj hv hc hev hor hjj hstd href v hR kk1 kk2 hk q0 q1 q2 hblt hdo hD ht kp1 kp2 kp3 kp4 kp5 hX hY hnext
  go_enter Tryz.func49, Tryz.ntmps49
  go_wp2_with (first
    | ((with_reducible refine guard_load 25 ?_); refine wpList_load_st rfl _ rfl HS.out.st rfl ?_)
    | ((with_reducible refine guard_load 37 ?_); refine wpList_load_ev rfl _ rfl HS.out.ev rfl ?_)
    | (go_at_call 45; refine (judge_any lo b s e a n cap _ (HD.out.keep HBW.out) HN.out (ownl_lns HS.out.row) hm).mono ?_; rw [HJ.out]; rintro _ x1 ⟨rfl, hb1⟩; have HB1 : Hid (Below w.heap.size w x1) := below_next HBW.out hb1; have HS1 : Hid (S3 w base (.slice a n cap) s e (.slice a n cap) x1) := HS.out.keep hb1; clear hb1))
  have qf : x1.drew.cell? ⟨b, k * 3 + 2, none⟩ = some (.func (Fn.func D) #[] #[]) := (HB1.out.cell (p := ⟨b, k * 3 + 2, none⟩) HQ2.out.2).trans HQ2.out.1
  have HS1d : Hid (S3 w base (.slice a n cap) s e (.slice a n cap) x1.drew) := HS1.out.drew
  refine wp_region_held (S := fun y => EvAt y (w.heap.size + 1) e) (by kernel_rfl) ?_
  change wpAnyH _ _ _ _ _ _ _ _ (World.drew _)
  have hS0 : EvAt x1.drew (w.heap.size + 1) e := HS1d.out.ev
  refine wpAnyH_take (i := 0) (oi := { dst := some 25, op := Op.move (Operand.tmp 0), type := 63, pos := "deeds.go:75", after := #[], guard := none }) (v := ?_) rfl (by kernel_rfl) (by kernel_rfl) (by kernel_rfl) (fun _ _ _ h => h) (Or.inl ⟨by rfl, ?_⟩) hS0 ?_
  rotate_left
  · (intro y hy; go_simp; try (with_reducible rfl))
  simp only [Act.put, List.setIfInBounds_toArray, List.set_cons_zero, List.set_cons_succ]
  refine wpAnyH_take (i := 1) (oi := { dst := some 26, op := Op.fieldAddr 37 (Operand.tmp 5) 0, type := 0, pos := "deeds.go:75", after := #[], guard := none }) (v := ?_) rfl (by kernel_rfl) (by kernel_rfl) (by kernel_rfl) (fun _ _ _ h => h) (Or.inl ⟨by rfl, ?_⟩) hS0 ?_
  rotate_left
  · (intro y hy; go_simp; try (with_reducible rfl))
  simp only [Act.put, List.setIfInBounds_toArray, List.set_cons_zero, List.set_cons_succ]
  refine wpAnyH_take (i := 2) (oi := { dst := some 27, op := Op.load 35 (Operand.tmp 26), type := 35, pos := "deeds.go:75", after := #[{ on := 1, ground := Ground.data }], guard := none }) (v := .int .i64 (k : Int)) rfl (by kernel_rfl) (by kernel_rfl) (by kernel_rfl) (fun _ _ _ h => h) (Or.inl ⟨by rfl, ?_⟩) hS0 ?_
  · (intro y hy; have c0 : y.cell? ⟨w.heap.size + 1, 0, none⟩ = some (.int .i64 (k : Int)) := hy.cell 0 _ (by rw [← HKK.out]; rfl); go_simp; try (with_reducible rfl))
  simp only [Act.put, List.setIfInBounds_toArray, List.set_cons_zero, List.set_cons_succ]
  refine wpAnyH_take (i := 3) (oi := { dst := some 28, op := Op.indexAddr 63 (Operand.tmp 25) (Operand.tmp 27), type := 0, pos := "deeds.go:75", after := #[{ on := 0, ground := Ground.data }, { on := 2, ground := Ground.data }], guard := none }) (v := ?_) rfl (by kernel_rfl) (by kernel_rfl) (by kernel_rfl) (fun _ _ _ h => h) (Or.inl ⟨by rfl, ?_⟩) hS0 ?_
  rotate_left
  · (intro y hy; go_simp; try (with_reducible rfl))
  simp only [Act.put, List.setIfInBounds_toArray, List.set_cons_zero, List.set_cons_succ]
  refine wpAnyH_take (i := 4) (oi := { dst := some 29, op := Op.fieldAddr 92 (Operand.tmp 28) 2, type := 0, pos := "deeds.go:75", after := #[{ on := 3, ground := Ground.data }], guard := none }) (v := ?_) rfl (by kernel_rfl) (by kernel_rfl) (by kernel_rfl) (fun _ _ _ h => h) (Or.inl ⟨by rfl, ?_⟩) hS0 ?_
  rotate_left
  · (intro y hy; go_simp; try (with_reducible rfl))
  simp only [Act.put, List.setIfInBounds_toArray, List.set_cons_zero, List.set_cons_succ]
  refine wpAnyH_take (i := 7) (oi := { dst := some 32, op := Op.load 37 (Operand.tmp 5), type := 37, pos := "deeds.go:75", after := #[], guard := none }) (v := .agg (evA e)) rfl (by kernel_rfl) (by kernel_rfl) (by kernel_rfl) (fun _ _ _ h => h) (Or.inl ⟨by rfl, fun y hy => exec_load_ev (.tmp 5) rfl rfl hy⟩) hS0 ?_
  try simp only [Act.put, List.setIfInBounds_toArray, List.set_cons_zero, List.set_cons_succ]
  refine wpAnyH_ready (rs := [5, 6]) (by kernel_rfl) (by simp) ?_
  refine AllReadyH.cons (o := { dst := some 30, op := Op.load 90 (Operand.tmp 29), type := 90, pos := "deeds.go:75", after := #[{ on := 4, ground := Ground.data }], guard := none }) rfl (fun K hK => ?_) (AllReadyH.cons (o := { dst := some 31, op := Op.load 25 (Operand.tmp 4), type := 25, pos := "deeds.go:75", after := #[], guard := none }) rfl (fun K hK => ?_) AllReadyH.nil)
  · go_simp
    (refine hK _ _ hS0 ?_; clear hK K; intro _)
    try simp only [Act.put, List.setIfInBounds_toArray, List.set_cons_zero, List.set_cons_succ]
    refine wpAnyH_ready (rs := [6]) (by kernel_rfl) (by simp) ?_
    refine AllReadyH.cons (o := { dst := some 31, op := Op.load 25 (Operand.tmp 4), type := 25, pos := "deeds.go:75", after := #[], guard := none }) rfl (fun K hK => ?_) AllReadyH.nil
    refine step_load_st rfl _ rfl HS1d.out.st rfl ?_
    (refine hK _ _ hS0 ?_; clear hK K; intro _)
    try simp only [Act.put, List.setIfInBounds_toArray, List.set_cons_zero, List.set_cons_succ]
    refine wpAnyH_ready (rs := [8]) (by kernel_rfl) (by simp) ?_
    refine AllReadyH.cons (o := { dst := some 33, op := Op.call { callee := Callee.value (Operand.tmp 30), args := #[Operand.tmp 31, Operand.tmp 32], argTypes := #[25, 37] }, type := 25, pos := "deeds.go:75", after := #[{ on := 5, ground := Ground.data }, { on := 6, ground := Ground.data }, { on := 7, ground := Ground.data }], guard := none }) rfl (fun K hK => ?_) AllReadyH.nil
    go_simp
    refine (HDO.out _ HS1d.out.row (Nat.le_trans HB0.out HB1.out.size)).mono ?_
    rintro _ x2 ⟨a2, n2, c2, rfl, ho2, hgr2⟩
    have hst2 : StAt x2 w.heap.size s (.slice a n cap) := (hgr2.block _ HS1d.out.st.lt (own_st_ne HS1d.out.row HS1d.out.st)).trans HS1d.out.st
    have hev2 : EvAt x2 (w.heap.size + 1) e := (hgr2.block _ HS1d.out.ev.lt (own_ev_ne HS1d.out.row HS1d.out.ev)).trans HS1d.out.ev
    (refine hK _ _ hev2 ?_; clear hK K; intro _)
    try simp only [Act.put, List.setIfInBounds_toArray, List.set_cons_zero, List.set_cons_succ]
    refine wpAnyH_ready (rs := [9]) (by kernel_rfl) (by simp) ?_
    refine AllReadyH.cons (o := { dst := none, op := Op.store 25 (Operand.tmp 4) (Operand.tmp 33), type := 0, pos := "deeds.go:75", after := #[{ on := 8, ground := Ground.data }, { on := 8, ground := Ground.chain }, { on := 0, ground := Ground.phase }, { on := 1, ground := Ground.phase }, { on := 2, ground := Ground.phase }, { on := 3, ground := Ground.phase }, { on := 4, ground := Ground.phase }, { on := 5, ground := Ground.phase }, { on := 6, ground := Ground.phase }, { on := 7, ground := Ground.phase }, { on := 8, ground := Ground.phase }], guard := none }) rfl (fun K hK => ?_) AllReadyH.nil
    refine step_store_st (s := s) (s2 := t) (a2 := a2) (n2 := n2) (c2 := c2) rfl _ _ rfl hst2 rfl rfl ?_
    intro x3 z1 z2 z3 z4
    have h3 : S3 w base (.slice a n cap) t e (.slice a2 n2 c2) x3 := HS1d.out.did hgr2 ho2 z1 z3 z2
    (refine hK _ _ h3.ev ?_; clear hK K; intro _)
    refine wpAnyH_done (by kernel_rfl) ?_ _
    obtain ⟨c0, c1, c2', c3, c4, c5, c6, c7, c8, c9, c10, c11⟩ := h3.st.cells
    obtain ⟨d0, d1, d2, d3, d4, d5, d6, d7, d8, d9⟩ := h3.ev.cells10
    have f8 := h3.froz 8
    have f10 := h3.froz 10
    have f11 := h3.froz 11
    rw [HT.out.1] at c10
    have HS3 : Hid (S3 w base (.slice a n cap) t e (.slice a2 n2 c2) x3) := h3
    clear ho2 hgr2 z1 z2 z3 z4 h3 hst2 hev2 qf hS0
    cases hw : e.who.toList == [] with
    | true =>
      have hYs : Y = t.who := by rw [← HY.out, if_pos hw, HT.out.2]
      have HS5 : Hid (S3 w base (.slice a n cap) { t with stamp := X, who := Y, events := t.events + 1 } e (.slice a2 n2 c2) ((x3.setCell ⟨w.heap.size, 10, none⟩ (.int .i64 X)).setCell ⟨w.heap.size, 8, none⟩ (.int .i64 (t.events + 1)))) := by
        rw [hYs]
        exact ((HS3.out.set (s2 := { t with stamp := X }) 10 _ rfl rfl).set 8 _ rfl rfl)
      clear hYs
      go_wp2_with (first
        | ((with_reducible refine guard_load 25 ?_); refine wpList_load_st rfl _ rfl HS5.out.st rfl ?_)
        | ((with_reducible refine guard_store 25 ?_); refine wpList_store_st (s := zeroS) (s2 := { t with stamp := X, who := Y, events := t.events + 1 }) (a2 := a2) (n2 := n2) (c2 := c2) rfl _ _ rfl HS5.out.res rfl rfl ?_; intro y z1 z2 z3 z4))
      have HZ := HS5.out.done z3 z2
      exact bodyPost_ret (results_st2 rfl _ _ _ _ rfl rfl z1) rfl ⟨a2, n2, c2, rfl, HZ.1, HZ.2⟩
    | false =>
      have hYs : Y = e.who := by rw [← HY.out, if_neg (by rw [hw]; decide)]
      have HS5 : Hid (S3 w base (.slice a n cap) { t with stamp := X, who := Y, events := t.events + 1 } e (.slice a2 n2 c2) (((x3.setCell ⟨w.heap.size, 10, none⟩ (.int .i64 X)).setCell ⟨w.heap.size, 11, none⟩ (.string e.who)).setCell ⟨w.heap.size, 8, none⟩ (.int .i64 (t.events + 1)))) := by
        rw [hYs]
        exact (((HS3.out.set (s2 := { t with stamp := X }) 10 _ rfl rfl).set (s2 := { t with stamp := X, who := e.who }) 11 _ rfl rfl).set 8 _ rfl rfl)
      clear hYs
      go_wp2_with (first
        | ((with_reducible refine guard_load 25 ?_); refine wpList_load_st rfl _ rfl HS5.out.st rfl ?_)
        | ((with_reducible refine guard_store 25 ?_); refine wpList_store_st (s := zeroS) (s2 := { t with stamp := X, who := Y, events := t.events + 1 }) (a2 := a2) (n2 := n2) (c2 := c2) rfl _ _ rfl HS5.out.res rfl rfl ?_; intro y z1 z2 z3 z4))
      have HZ := HS5.out.done z3 z2
      exact bodyPost_ret (results_st2 rfl _ _ _ _ rfl rfl z1) rfl ⟨a2, n2, c2, rfl, HZ.1, HZ.2⟩
  · refine step_load_st rfl _ rfl HS1d.out.st rfl ?_
    (refine hK _ _ hS0 ?_; clear hK K; intro _)
    try simp only [Act.put, List.setIfInBounds_toArray, List.set_cons_zero, List.set_cons_succ]
    refine wpAnyH_ready (rs := [5]) (by kernel_rfl) (by simp) ?_
    refine AllReadyH.cons (o := { dst := some 30, op := Op.load 90 (Operand.tmp 29), type := 90, pos := "deeds.go:75", after := #[{ on := 4, ground := Ground.data }], guard := none }) rfl (fun K hK => ?_) AllReadyH.nil
    go_simp
    (refine hK _ _ hS0 ?_; clear hK K; intro _)
    try simp only [Act.put, List.setIfInBounds_toArray, List.set_cons_zero, List.set_cons_succ]
    refine wpAnyH_ready (rs := [8]) (by kernel_rfl) (by simp) ?_
    refine AllReadyH.cons (o := { dst := some 33, op := Op.call { callee := Callee.value (Operand.tmp 30), args := #[Operand.tmp 31, Operand.tmp 32], argTypes := #[25, 37] }, type := 25, pos := "deeds.go:75", after := #[{ on := 5, ground := Ground.data }, { on := 6, ground := Ground.data }, { on := 7, ground := Ground.data }], guard := none }) rfl (fun K hK => ?_) AllReadyH.nil
    go_simp
    refine (HDO.out _ HS1d.out.row (Nat.le_trans HB0.out HB1.out.size)).mono ?_
    rintro _ x2 ⟨a2, n2, c2, rfl, ho2, hgr2⟩
    have hst2 : StAt x2 w.heap.size s (.slice a n cap) := (hgr2.block _ HS1d.out.st.lt (own_st_ne HS1d.out.row HS1d.out.st)).trans HS1d.out.st
    have hev2 : EvAt x2 (w.heap.size + 1) e := (hgr2.block _ HS1d.out.ev.lt (own_ev_ne HS1d.out.row HS1d.out.ev)).trans HS1d.out.ev
    (refine hK _ _ hev2 ?_; clear hK K; intro _)
    try simp only [Act.put, List.setIfInBounds_toArray, List.set_cons_zero, List.set_cons_succ]
    refine wpAnyH_ready (rs := [9]) (by kernel_rfl) (by simp) ?_
    refine AllReadyH.cons (o := { dst := none, op := Op.store 25 (Operand.tmp 4) (Operand.tmp 33), type := 0, pos := "deeds.go:75", after := #[{ on := 8, ground := Ground.data }, { on := 8, ground := Ground.chain }, { on := 0, ground := Ground.phase }, { on := 1, ground := Ground.phase }, { on := 2, ground := Ground.phase }, { on := 3, ground := Ground.phase }, { on := 4, ground := Ground.phase }, { on := 5, ground := Ground.phase }, { on := 6, ground := Ground.phase }, { on := 7, ground := Ground.phase }, { on := 8, ground := Ground.phase }], guard := none }) rfl (fun K hK => ?_) AllReadyH.nil
    refine step_store_st (s := s) (s2 := t) (a2 := a2) (n2 := n2) (c2 := c2) rfl _ _ rfl hst2 rfl rfl ?_
    intro x3 z1 z2 z3 z4
    have h3 : S3 w base (.slice a n cap) t e (.slice a2 n2 c2) x3 := HS1d.out.did hgr2 ho2 z1 z3 z2
    (refine hK _ _ h3.ev ?_; clear hK K; intro _)
    refine wpAnyH_done (by kernel_rfl) ?_ _
    obtain ⟨c0, c1, c2', c3, c4, c5, c6, c7, c8, c9, c10, c11⟩ := h3.st.cells
    obtain ⟨d0, d1, d2, d3, d4, d5, d6, d7, d8, d9⟩ := h3.ev.cells10
    have f8 := h3.froz 8
    have f10 := h3.froz 10
    have f11 := h3.froz 11
    rw [HT.out.1] at c10
    have HS3 : Hid (S3 w base (.slice a n cap) t e (.slice a2 n2 c2) x3) := h3
    clear ho2 hgr2 z1 z2 z3 z4 h3 hst2 hev2 qf hS0
    cases hw : e.who.toList == [] with
    | true =>
      have hYs : Y = t.who := by rw [← HY.out, if_pos hw, HT.out.2]
      have HS5 : Hid (S3 w base (.slice a n cap) { t with stamp := X, who := Y, events := t.events + 1 } e (.slice a2 n2 c2) ((x3.setCell ⟨w.heap.size, 10, none⟩ (.int .i64 X)).setCell ⟨w.heap.size, 8, none⟩ (.int .i64 (t.events + 1)))) := by
        rw [hYs]
        exact ((HS3.out.set (s2 := { t with stamp := X }) 10 _ rfl rfl).set 8 _ rfl rfl)
      clear hYs
      go_wp2_with (first
        | ((with_reducible refine guard_load 25 ?_); refine wpList_load_st rfl _ rfl HS5.out.st rfl ?_)
        | ((with_reducible refine guard_store 25 ?_); refine wpList_store_st (s := zeroS) (s2 := { t with stamp := X, who := Y, events := t.events + 1 }) (a2 := a2) (n2 := n2) (c2 := c2) rfl _ _ rfl HS5.out.res rfl rfl ?_; intro y z1 z2 z3 z4))
      have HZ := HS5.out.done z3 z2
      exact bodyPost_ret (results_st2 rfl _ _ _ _ rfl rfl z1) rfl ⟨a2, n2, c2, rfl, HZ.1, HZ.2⟩
    | false =>
      have hYs : Y = e.who := by rw [← HY.out, if_neg (by rw [hw]; decide)]
      have HS5 : Hid (S3 w base (.slice a n cap) { t with stamp := X, who := Y, events := t.events + 1 } e (.slice a2 n2 c2) (((x3.setCell ⟨w.heap.size, 10, none⟩ (.int .i64 X)).setCell ⟨w.heap.size, 11, none⟩ (.string e.who)).setCell ⟨w.heap.size, 8, none⟩ (.int .i64 (t.events + 1)))) := by
        rw [hYs]
        exact (((HS3.out.set (s2 := { t with stamp := X }) 10 _ rfl rfl).set (s2 := { t with stamp := X, who := e.who }) 11 _ rfl rfl).set 8 _ rfl rfl)
      clear hYs
      go_wp2_with (first
        | ((with_reducible refine guard_load 25 ?_); refine wpList_load_st rfl _ rfl HS5.out.st rfl ?_)
        | ((with_reducible refine guard_store 25 ?_); refine wpList_store_st (s := zeroS) (s2 := { t with stamp := X, who := Y, events := t.events + 1 }) (a2 := a2) (n2 := n2) (c2 := c2) rfl _ _ rfl HS5.out.res rfl rfl ?_; intro y z1 z2 z3 z4))
      have HZ := HS5.out.done z3 z2
      exact bodyPost_ret (results_st2 rfl _ _ _ _ rfl rfl z1) rfl ⟨a2, n2, c2, rfl, HZ.1, HZ.2⟩
theorem next_any (lo b : Nat) (s : St) (e : Ev) (a : Option Addr) (n cap base : Nat) (w : World) (hd : DeedsAt lo w b) (ho : OwnL w base (.slice a n cap) s.lines) (hb : base ≤ w.heap.size) :
    Calls Tryz.prog 49 #[.slice (some ⟨b, 0, none⟩) 11 11, .agg (stA s (.slice a n cap)), .agg (evA e)] w fun r w' => NextPost (nextS s e) (judS s e) w base (.slice a n cap) r w' := by
  by_cases hj : judS s e = 0
  · exact next_fine lo b s e a n cap base w hd ho hb hj
  · exact next_no lo b s e a n cap base w hd ho hb hj
end Go.Proofs.YtmjppeljpifjpaaGreat
