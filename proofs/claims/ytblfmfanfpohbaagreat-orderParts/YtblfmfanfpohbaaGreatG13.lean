/- Own texts, joined: Od24, Od25, Od26, Sto, Cn9, Odh, Odi. -/
import Derived.Test.YtblfmfanfpohbaaGreatG11
import Derived.Test.YtblfmfanfpohbaaGreatG03
import Derived.Deep.Slices
import Derived.ChangeSame
import Derived.SizedLaws
import Derived.ChangeSlices
import Derived.Test.YtblfmfanfpohbaaGreatG10
import Derived.Test.YtblfmfanfpohbaaGreatG01
import Derived.WalkSmall
import Derived.BigQuiet
namespace Go.Proofs.YtblfmfanfpohbaaGreat
open Go.ChangeShapes Go.WideShapes Go.ChangeAt Go.RowKit
set_option linter.unusedVariables false
set_option linter.unusedSimpArgs false
set_option maxRecDepth 20000 in
set_option maxHeartbeats 8000000 in
theorem next_fine (lo b : Nat) (s : St) (e : Ev) (a : Option Addr) (n cap base : Nat) (w : World) (hd : DeedsAt lo w b) (ho : OwnL w base (.slice a n cap) s.lines) (hb : base ≤ w.heap.size) (hj : judS s e = 0) :
    Calls Tryz.prog 22 #[.slice (some ⟨b, 0, none⟩) 11 11, .agg (stA s (.slice a n cap)), .agg (evA e)] w fun r w' => NextPost (nextS s e) (judS s e) w base (.slice a n cap) r w' := by
  obtain ⟨W, hW, H⟩ := s3_new w base s e _ ho
  have HS : Hid (S3 w base (.slice a n cap) s e (.slice a n cap) W) := H
  have HN : Hid (s.lines.length = n) := ho.len
  have HD : Hid (DeedsAt lo w b) := hd
  have hm : n ≤ maxLen := Nat.le_trans ho.caps.1 ho.caps.2
  have HBW : Hid (Below w.heap.size w W) := by rw [← hW]; exact (((Below.refl _ _).alloc (Nat.le_refl _) _).alloc (by simp) _).alloc (by simp; omega) _
  have HJ : Hid (judS s e = 0) := hj
  obtain ⟨hv, hc, hev⟩ := jud_parts (s := s) (e := e) (by rw [hj]; decide)
  obtain ⟨hor, hjj⟩ := jud_rest (s := s) (e := e) (by rw [hj]; decide) (by rw [hj]; decide)
  have hstd : stdR s e.kind = 0 := Classical.byContradiction fun hn => by rw [hj, if_pos hn] at hjj; exact hn hjj.symm
  have href : refR s e = 0 := by rw [hj, if_neg (by omega)] at hjj; exact hjj.symm
  have v := vl_of hv
  have hR := right_of hc
  have kk1 := hR.kind0
  have kk2 : e.kind ≤ lastK 5 := hR.kind1
  simp [lastK] at kk2
  obtain ⟨k, hk⟩ : ∃ k : Nat, e.kind = k := ⟨e.kind.toNat, by omega⟩
  have hk1 : 1 ≤ k := by omega
  have hk10 : k ≤ 10 := by omega
  have hk11 : (k : Int) < 11 := by omega
  obtain ⟨vs, vr, q0, q1, q2, _, _⟩ := hd.2.2 k hk1 hk10
  have hblt := hd.1
  have hdo := do_any k hk1 hk10
  obtain ⟨D, hD⟩ : ∃ D, doF k = D := ⟨_, rfl⟩
  rw [hD] at q2 hdo
  obtain ⟨hcf, hdo⟩ := hdo
  obtain ⟨t, ht⟩ : ∃ t, doS s e = t := ⟨_, rfl⟩
  obtain ⟨kp1, kp2, kp3, kp4, kp5⟩ := doS_keep s e
  rw [ht] at kp1 kp2 kp3 kp4 kp5
  have HDO : Hid (∀ (y : World), OwnL y base (.slice a n cap) s.lines → base ≤ y.heap.size → Calls Tryz.prog D #[.agg (stA s (.slice a n cap)), .agg (evA e)] y fun r y' => DoPost t y base (.slice a n cap) r y') := fun y hy1 hy2 => ht ▸ hdo y base s e a n cap hy1 hy2 v hR hk (hk ▸ hstd) href
  have HQ2 : Hid (w.cell? ⟨b, k * 3 + 2, none⟩ = some (.func (Fn.func D) #[] #[]) ∧ b < w.heap.size) := ⟨q2, hblt⟩
  have HKK : Hid (e.kind = k) := hk
  have HB0 : Hid (base ≤ w.heap.size) := hb
  obtain ⟨X, hX⟩ : ∃ X, (if s.stamp < e.stamp then e.stamp else s.stamp) = X := ⟨_, rfl⟩
  have hXm : max s.stamp e.stamp = X := by rw [← hX, Int.max_def]; split <;> split <;> omega
  obtain ⟨Y, hY⟩ : ∃ Y, (if (e.who.toList == []) = true then s.who else e.who) = Y := ⟨_, rfl⟩
  have hnext : nextS s e = { t with stamp := X, who := Y, events := t.events + 1 } := by
    unfold nextS
    rw [hj, if_neg (by decide), if_pos rfl]
    unfold fineS
    rw [ht, hX, hY, kp3]
  have HY : Hid ((if (e.who.toList == []) = true then s.who else e.who) = Y) := hY
  have HT : Hid (t.stamp = s.stamp ∧ t.who = s.who) := ⟨kp1, kp2⟩
  have te1 : 0 ≤ t.events := by rw [kp3]; exact v.e1
  have te2 : t.events ≤ 1099511627776 := by rw [kp3]; exact v.e2
  have sm1 := v.m1
  have sm2 := v.m2
  have sm3 := hR.stamp0
  have sm4 := hR.stamp1
  rw [hnext, hj]
  clear H ho hd hb hj hv hc hev hor hjj hstd href v hR kk1 kk2 hk q0 q1 q2 hblt hdo hD ht kp1 kp2 kp3 kp4 kp5 hX hY hnext
  go_enter Tryz.func22, Tryz.ntmps22
  go_wp2_with (first
    | ((with_reducible refine guard_load 25 ?_); refine wpList_load_st rfl _ rfl HS.out.st rfl ?_)
    | ((with_reducible refine guard_load 38 ?_); refine wpList_load_ev rfl _ rfl HS.out.ev rfl ?_)
    | (go_at_call 69; refine (judge_any lo b s e a n cap _ (HD.out.keep HBW.out) HN.out (ownl_lns HS.out.row) hm).mono ?_; rw [HJ.out]; rintro _ x1 ⟨rfl, hb1⟩; have HB1 : Hid (Below w.heap.size w x1) := below_next HBW.out hb1; have HS1 : Hid (S3 w base (.slice a n cap) s e (.slice a n cap) x1) := HS.out.keep hb1; clear hb1))
  have qf : x1.drew.cell? ⟨b, k * 3 + 2, none⟩ = some (.func (Fn.func D) #[] #[]) := (HB1.out.cell (p := ⟨b, k * 3 + 2, none⟩) HQ2.out.2).trans HQ2.out.1
  have HS1d : Hid (S3 w base (.slice a n cap) s e (.slice a n cap) x1.drew) := HS1.out.drew
  refine wp_region_held (S := fun y => EvAt y (w.heap.size + 1) e) (by kernel_rfl) ?_
  change wpAnyH _ _ _ _ _ _ _ _ (World.drew _)
  have hS0 : EvAt x1.drew (w.heap.size + 1) e := HS1d.out.ev
  refine wpAnyH_take (i := 0) (oi := { dst := some 25, op := Op.move (Operand.tmp 0), type := 51, pos := "deeds.go:75", after := #[], guard := none }) (v := ?_) rfl (by kernel_rfl) (by kernel_rfl) (by kernel_rfl) (fun _ _ _ h => h) (Or.inl ⟨by rfl, ?_⟩) hS0 ?_
  rotate_left
  · (intro y hy; go_simp; try (with_reducible rfl))
  simp only [Act.put, List.setIfInBounds_toArray, List.set_cons_zero, List.set_cons_succ]
  refine wpAnyH_take (i := 1) (oi := { dst := some 26, op := Op.fieldAddr 38 (Operand.tmp 5) 0, type := 0, pos := "deeds.go:75", after := #[], guard := none }) (v := ?_) rfl (by kernel_rfl) (by kernel_rfl) (by kernel_rfl) (fun _ _ _ h => h) (Or.inl ⟨by rfl, ?_⟩) hS0 ?_
  rotate_left
  · (intro y hy; go_simp; try (with_reducible rfl))
  simp only [Act.put, List.setIfInBounds_toArray, List.set_cons_zero, List.set_cons_succ]
  refine wpAnyH_take (i := 2) (oi := { dst := some 27, op := Op.load 36 (Operand.tmp 26), type := 36, pos := "deeds.go:75", after := #[{ on := 1, ground := Ground.data }], guard := none }) (v := .int .i64 (k : Int)) rfl (by kernel_rfl) (by kernel_rfl) (by kernel_rfl) (fun _ _ _ h => h) (Or.inl ⟨by rfl, ?_⟩) hS0 ?_
  · (intro y hy; have c0 : y.cell? ⟨w.heap.size + 1, 0, none⟩ = some (.int .i64 (k : Int)) := hy.cell 0 _ (by rw [← HKK.out]; rfl); go_simp; try (with_reducible rfl))
  simp only [Act.put, List.setIfInBounds_toArray, List.set_cons_zero, List.set_cons_succ]
  refine wpAnyH_take (i := 3) (oi := { dst := some 28, op := Op.indexAddr 51 (Operand.tmp 25) (Operand.tmp 27), type := 0, pos := "deeds.go:75", after := #[{ on := 0, ground := Ground.data }, { on := 2, ground := Ground.data }], guard := none }) (v := ?_) rfl (by kernel_rfl) (by kernel_rfl) (by kernel_rfl) (fun _ _ _ h => h) (Or.inl ⟨by rfl, ?_⟩) hS0 ?_
  rotate_left
  · (intro y hy; go_simp; try (with_reducible rfl))
  simp only [Act.put, List.setIfInBounds_toArray, List.set_cons_zero, List.set_cons_succ]
  refine wpAnyH_take (i := 4) (oi := { dst := some 29, op := Op.fieldAddr 86 (Operand.tmp 28) 2, type := 0, pos := "deeds.go:75", after := #[{ on := 3, ground := Ground.data }], guard := none }) (v := ?_) rfl (by kernel_rfl) (by kernel_rfl) (by kernel_rfl) (fun _ _ _ h => h) (Or.inl ⟨by rfl, ?_⟩) hS0 ?_
  rotate_left
  · (intro y hy; go_simp; try (with_reducible rfl))
  simp only [Act.put, List.setIfInBounds_toArray, List.set_cons_zero, List.set_cons_succ]
  refine wpAnyH_take (i := 7) (oi := { dst := some 32, op := Op.load 38 (Operand.tmp 5), type := 38, pos := "deeds.go:75", after := #[], guard := none }) (v := .agg (evA e)) rfl (by kernel_rfl) (by kernel_rfl) (by kernel_rfl) (fun _ _ _ h => h) (Or.inl ⟨by rfl, fun y hy => exec_load_ev (.tmp 5) rfl rfl hy⟩) hS0 ?_
  try simp only [Act.put, List.setIfInBounds_toArray, List.set_cons_zero, List.set_cons_succ]
  refine wpAnyH_ready (rs := [5, 6]) (by kernel_rfl) (by simp) ?_
  refine AllReadyH.cons (o := { dst := some 30, op := Op.load 84 (Operand.tmp 29), type := 84, pos := "deeds.go:75", after := #[{ on := 4, ground := Ground.data }], guard := none }) rfl (fun K hK => ?_) (AllReadyH.cons (o := { dst := some 31, op := Op.load 25 (Operand.tmp 4), type := 25, pos := "deeds.go:75", after := #[], guard := none }) rfl (fun K hK => ?_) AllReadyH.nil)
  · go_simp
    (refine hK _ _ hS0 ?_; clear hK K; intro _)
    try simp only [Act.put, List.setIfInBounds_toArray, List.set_cons_zero, List.set_cons_succ]
    refine wpAnyH_ready (rs := [6]) (by kernel_rfl) (by simp) ?_
    refine AllReadyH.cons (o := { dst := some 31, op := Op.load 25 (Operand.tmp 4), type := 25, pos := "deeds.go:75", after := #[], guard := none }) rfl (fun K hK => ?_) AllReadyH.nil
    refine step_load_st rfl _ rfl HS1d.out.st rfl ?_
    (refine hK _ _ hS0 ?_; clear hK K; intro _)
    try simp only [Act.put, List.setIfInBounds_toArray, List.set_cons_zero, List.set_cons_succ]
    refine wpAnyH_ready (rs := [8]) (by kernel_rfl) (by simp) ?_
    refine AllReadyH.cons (o := { dst := some 33, op := Op.call { callee := Callee.value (Operand.tmp 30), args := #[Operand.tmp 31, Operand.tmp 32], argTypes := #[25, 38] }, type := 25, pos := "deeds.go:75", after := #[{ on := 5, ground := Ground.data }, { on := 6, ground := Ground.data }, { on := 7, ground := Ground.data }], guard := none }) rfl (fun K hK => ?_) AllReadyH.nil
    go_simp
    refine (HDO.out _ HS1d.out.row (Nat.le_trans HB0.out HB1.out.size)).mono ?_
    rintro _ x2 ⟨a2, n2, c2, rfl, ho2, hgr2⟩
    have hst2 : StAt x2 w.heap.size s (.slice a n cap) := (hgr2.block _ HS1d.out.st.lt (own_st_ne HS1d.out.row HS1d.out.st)).trans HS1d.out.st
    have hev2 : EvAt x2 (w.heap.size + 1) e := (hgr2.block _ HS1d.out.ev.lt (own_ev_ne HS1d.out.row HS1d.out.ev)).trans HS1d.out.ev
    (refine hK _ _ hev2 ?_; clear hK K; intro _)
    try simp only [Act.put, List.setIfInBounds_toArray, List.set_cons_zero, List.set_cons_succ]
    refine wpAnyH_ready (rs := [9]) (by kernel_rfl) (by simp) ?_
    refine AllReadyH.cons (o := { dst := none, op := Op.store 25 (Operand.tmp 4) (Operand.tmp 33), type := 0, pos := "deeds.go:75", after := #[{ on := 8, ground := Ground.data }, { on := 8, ground := Ground.chain }, { on := 0, ground := Ground.phase }, { on := 1, ground := Ground.phase }, { on := 2, ground := Ground.phase }, { on := 3, ground := Ground.phase }, { on := 4, ground := Ground.phase }, { on := 5, ground := Ground.phase }, { on := 6, ground := Ground.phase }, { on := 7, ground := Ground.phase }, { on := 8, ground := Ground.phase }], guard := none }) rfl (fun K hK => ?_) AllReadyH.nil
    refine step_store_st (s := s) (s2 := t) (a2 := a2) (n2 := n2) (c2 := c2) rfl _ _ rfl hst2 rfl rfl ?_
    intro x3 z1 z2 z3 z4
    have h3 : S3 w base (.slice a n cap) t e (.slice a2 n2 c2) x3 := HS1d.out.did hgr2 ho2 z1 z3 z2
    (refine hK _ _ h3.ev ?_; clear hK K; intro _)
    refine wpAnyH_done (by kernel_rfl) ?_ _
    obtain ⟨c0, c1, c2', c3, c4, c5, c6, c7, c8, c9, c10, c11⟩ := h3.st.cells
    obtain ⟨d0, d1, d2, d3, d4, d5, d6, d7, d8, d9⟩ := h3.ev.cells10
    have f8 := h3.froz 8
    have f10 := h3.froz 10
    have f11 := h3.froz 11
    rw [HT.out.1] at c10
    have HS3 : Hid (S3 w base (.slice a n cap) t e (.slice a2 n2 c2) x3) := h3
    clear ho2 hgr2 z1 z2 z3 z4 h3 hst2 hev2 qf hS0
    cases hw : e.who.toList == [] with
    | true =>
      have hYs : Y = t.who := by rw [← HY.out, if_pos hw, HT.out.2]
      have HS5 : Hid (S3 w base (.slice a n cap) { t with stamp := X, who := Y, events := t.events + 1 } e (.slice a2 n2 c2) ((x3.setCell ⟨w.heap.size, 10, none⟩ (.int .i64 X)).setCell ⟨w.heap.size, 8, none⟩ (.int .i64 (t.events + 1)))) := by
        rw [hYs]
        exact ((HS3.out.set (s2 := { t with stamp := X }) 10 _ rfl rfl).set 8 _ rfl rfl)
      clear hYs
      go_wp2_with (first
        | ((with_reducible refine guard_load 25 ?_); refine wpList_load_st rfl _ rfl HS5.out.st rfl ?_)
        | ((with_reducible refine guard_store 25 ?_); refine wpList_store_st (s := zeroS) (s2 := { t with stamp := X, who := Y, events := t.events + 1 }) (a2 := a2) (n2 := n2) (c2 := c2) rfl _ _ rfl HS5.out.res rfl rfl ?_; intro y z1 z2 z3 z4))
      have HZ := HS5.out.done z3 z2
      exact bodyPost_ret (results_st2 rfl _ _ _ _ rfl rfl z1) rfl ⟨a2, n2, c2, rfl, HZ.1, HZ.2⟩
    | false =>
      have hYs : Y = e.who := by rw [← HY.out, if_neg (by rw [hw]; decide)]
      have HS5 : Hid (S3 w base (.slice a n cap) { t with stamp := X, who := Y, events := t.events + 1 } e (.slice a2 n2 c2) (((x3.setCell ⟨w.heap.size, 10, none⟩ (.int .i64 X)).setCell ⟨w.heap.size, 11, none⟩ (.string e.who)).setCell ⟨w.heap.size, 8, none⟩ (.int .i64 (t.events + 1)))) := by
        rw [hYs]
        exact (((HS3.out.set (s2 := { t with stamp := X }) 10 _ rfl rfl).set (s2 := { t with stamp := X, who := e.who }) 11 _ rfl rfl).set 8 _ rfl rfl)
      clear hYs
      go_wp2_with (first
        | ((with_reducible refine guard_load 25 ?_); refine wpList_load_st rfl _ rfl HS5.out.st rfl ?_)
        | ((with_reducible refine guard_store 25 ?_); refine wpList_store_st (s := zeroS) (s2 := { t with stamp := X, who := Y, events := t.events + 1 }) (a2 := a2) (n2 := n2) (c2 := c2) rfl _ _ rfl HS5.out.res rfl rfl ?_; intro y z1 z2 z3 z4))
      have HZ := HS5.out.done z3 z2
      exact bodyPost_ret (results_st2 rfl _ _ _ _ rfl rfl z1) rfl ⟨a2, n2, c2, rfl, HZ.1, HZ.2⟩
  · refine step_load_st rfl _ rfl HS1d.out.st rfl ?_
    (refine hK _ _ hS0 ?_; clear hK K; intro _)
    try simp only [Act.put, List.setIfInBounds_toArray, List.set_cons_zero, List.set_cons_succ]
    refine wpAnyH_ready (rs := [5]) (by kernel_rfl) (by simp) ?_
    refine AllReadyH.cons (o := { dst := some 30, op := Op.load 84 (Operand.tmp 29), type := 84, pos := "deeds.go:75", after := #[{ on := 4, ground := Ground.data }], guard := none }) rfl (fun K hK => ?_) AllReadyH.nil
    go_simp
    (refine hK _ _ hS0 ?_; clear hK K; intro _)
    try simp only [Act.put, List.setIfInBounds_toArray, List.set_cons_zero, List.set_cons_succ]
    refine wpAnyH_ready (rs := [8]) (by kernel_rfl) (by simp) ?_
    refine AllReadyH.cons (o := { dst := some 33, op := Op.call { callee := Callee.value (Operand.tmp 30), args := #[Operand.tmp 31, Operand.tmp 32], argTypes := #[25, 38] }, type := 25, pos := "deeds.go:75", after := #[{ on := 5, ground := Ground.data }, { on := 6, ground := Ground.data }, { on := 7, ground := Ground.data }], guard := none }) rfl (fun K hK => ?_) AllReadyH.nil
    go_simp
    refine (HDO.out _ HS1d.out.row (Nat.le_trans HB0.out HB1.out.size)).mono ?_
    rintro _ x2 ⟨a2, n2, c2, rfl, ho2, hgr2⟩
    have hst2 : StAt x2 w.heap.size s (.slice a n cap) := (hgr2.block _ HS1d.out.st.lt (own_st_ne HS1d.out.row HS1d.out.st)).trans HS1d.out.st
    have hev2 : EvAt x2 (w.heap.size + 1) e := (hgr2.block _ HS1d.out.ev.lt (own_ev_ne HS1d.out.row HS1d.out.ev)).trans HS1d.out.ev
    (refine hK _ _ hev2 ?_; clear hK K; intro _)
    try simp only [Act.put, List.setIfInBounds_toArray, List.set_cons_zero, List.set_cons_succ]
    refine wpAnyH_ready (rs := [9]) (by kernel_rfl) (by simp) ?_
    refine AllReadyH.cons (o := { dst := none, op := Op.store 25 (Operand.tmp 4) (Operand.tmp 33), type := 0, pos := "deeds.go:75", after := #[{ on := 8, ground := Ground.data }, { on := 8, ground := Ground.chain }, { on := 0, ground := Ground.phase }, { on := 1, ground := Ground.phase }, { on := 2, ground := Ground.phase }, { on := 3, ground := Ground.phase }, { on := 4, ground := Ground.phase }, { on := 5, ground := Ground.phase }, { on := 6, ground := Ground.phase }, { on := 7, ground := Ground.phase }, { on := 8, ground := Ground.phase }], guard := none }) rfl (fun K hK => ?_) AllReadyH.nil
    refine step_store_st (s := s) (s2 := t) (a2 := a2) (n2 := n2) (c2 := c2) rfl _ _ rfl hst2 rfl rfl ?_
    intro x3 z1 z2 z3 z4
    have h3 : S3 w base (.slice a n cap) t e (.slice a2 n2 c2) x3 := HS1d.out.did hgr2 ho2 z1 z3 z2
    (refine hK _ _ h3.ev ?_; clear hK K; intro _)
    refine wpAnyH_done (by kernel_rfl) ?_ _
    obtain ⟨c0, c1, c2', c3, c4, c5, c6, c7, c8, c9, c10, c11⟩ := h3.st.cells
    obtain ⟨d0, d1, d2, d3, d4, d5, d6, d7, d8, d9⟩ := h3.ev.cells10
    have f8 := h3.froz 8
    have f10 := h3.froz 10
    have f11 := h3.froz 11
    rw [HT.out.1] at c10
    have HS3 : Hid (S3 w base (.slice a n cap) t e (.slice a2 n2 c2) x3) := h3
    clear ho2 hgr2 z1 z2 z3 z4 h3 hst2 hev2 qf hS0
    cases hw : e.who.toList == [] with
    | true =>
      have hYs : Y = t.who := by rw [← HY.out, if_pos hw, HT.out.2]
      have HS5 : Hid (S3 w base (.slice a n cap) { t with stamp := X, who := Y, events := t.events + 1 } e (.slice a2 n2 c2) ((x3.setCell ⟨w.heap.size, 10, none⟩ (.int .i64 X)).setCell ⟨w.heap.size, 8, none⟩ (.int .i64 (t.events + 1)))) := by
        rw [hYs]
        exact ((HS3.out.set (s2 := { t with stamp := X }) 10 _ rfl rfl).set 8 _ rfl rfl)
      clear hYs
      go_wp2_with (first
        | ((with_reducible refine guard_load 25 ?_); refine wpList_load_st rfl _ rfl HS5.out.st rfl ?_)
        | ((with_reducible refine guard_store 25 ?_); refine wpList_store_st (s := zeroS) (s2 := { t with stamp := X, who := Y, events := t.events + 1 }) (a2 := a2) (n2 := n2) (c2 := c2) rfl _ _ rfl HS5.out.res rfl rfl ?_; intro y z1 z2 z3 z4))
      have HZ := HS5.out.done z3 z2
      exact bodyPost_ret (results_st2 rfl _ _ _ _ rfl rfl z1) rfl ⟨a2, n2, c2, rfl, HZ.1, HZ.2⟩
    | false =>
      have hYs : Y = e.who := by rw [← HY.out, if_neg (by rw [hw]; decide)]
      have HS5 : Hid (S3 w base (.slice a n cap) { t with stamp := X, who := Y, events := t.events + 1 } e (.slice a2 n2 c2) (((x3.setCell ⟨w.heap.size, 10, none⟩ (.int .i64 X)).setCell ⟨w.heap.size, 11, none⟩ (.string e.who)).setCell ⟨w.heap.size, 8, none⟩ (.int .i64 (t.events + 1)))) := by
        rw [hYs]
        exact (((HS3.out.set (s2 := { t with stamp := X }) 10 _ rfl rfl).set (s2 := { t with stamp := X, who := e.who }) 11 _ rfl rfl).set 8 _ rfl rfl)
      clear hYs
      go_wp2_with (first
        | ((with_reducible refine guard_load 25 ?_); refine wpList_load_st rfl _ rfl HS5.out.st rfl ?_)
        | ((with_reducible refine guard_store 25 ?_); refine wpList_store_st (s := zeroS) (s2 := { t with stamp := X, who := Y, events := t.events + 1 }) (a2 := a2) (n2 := n2) (c2 := c2) rfl _ _ rfl HS5.out.res rfl rfl ?_; intro y z1 z2 z3 z4))
      have HZ := HS5.out.done z3 z2
      exact bodyPost_ret (results_st2 rfl _ _ _ _ rfl rfl z1) rfl ⟨a2, n2, c2, rfl, HZ.1, HZ.2⟩
theorem next_any (lo b : Nat) (s : St) (e : Ev) (a : Option Addr) (n cap base : Nat) (w : World) (hd : DeedsAt lo w b) (ho : OwnL w base (.slice a n cap) s.lines) (hb : base ≤ w.heap.size) :
    Calls Tryz.prog 22 #[.slice (some ⟨b, 0, none⟩) 11 11, .agg (stA s (.slice a n cap)), .agg (evA e)] w fun r w' => NextPost (nextS s e) (judS s e) w base (.slice a n cap) r w' := by
  by_cases hj : judS s e = 0
  · exact next_fine lo b s e a n cap base w hd ho hb hj
  · exact next_no lo b s e a n cap base w hd ho hb hj
end Go.Proofs.YtblfmfanfpohbaaGreat
namespace Go.Proofs.YtblfmfanfpohbaaGreat
open Go.ChangeShapes Go.WideShapes Go.ChangeAt Go.RowKit
set_option linter.unusedVariables false
set_option linter.unusedSimpArgs false
theorem t3_new (w : World) (s : St) (e : Ev) (v : Value) : ∃ W, ((w.alloc (.cells (stA s v) 25)).alloc (.cells (evA e) 38)).alloc (.cells #[.int .i64 0, .int .i64 0, .int .i64 0, .int .i64 0, .int .i64 0, .slice none 0 0, .int .i64 0, .int .i64 0, .int .i64 0, .int .i64 0, .int .i64 0, .string ⟨#[]⟩] 25) = W ∧ StAt W w.heap.size s v ∧ EvAt W (w.heap.size + 1) e ∧ StAt W (w.heap.size + 2) zeroS (.slice none 0 0) ∧ Below w.heap.size w W := by
  refine ⟨_, rfl, ?_, ?_, ?_, (((Below.refl _ _).alloc (Nat.le_refl _) _).alloc (by simp) _).alloc (by simp; omega) _⟩
  · exact ((StAt.new w s v).after ((Below.refl _ _).alloc (Nat.le_refl _) _)).after ((Below.refl _ _).alloc (Nat.le_refl _) _)
  · have := (evAt_new (w.alloc (.cells (stA s v) 25)) e).after ((Below.refl _ _).alloc (Nat.le_refl _) (.cells (stA zeroS (.slice none 0 0)) 25))
    simp only [World.alloc, Array.size_push] at this
    exact this
  · have := StAt.new ((w.alloc (.cells (stA s v) 25)).alloc (.cells (evA e) 38)) zeroS (.slice none 0 0)
    simp only [World.alloc, Array.size_push] at this
    exact this
/-- the state's lines are the call's own from now on -/
theorem S3.own {w x y : World} {s : St} {e : Ev} {v v1 : Value} (st : StAt x w.heap.size s v) (ev : EvAt x (w.heap.size + 1) e) (res : StAt x (w.heap.size + 2) zeroS (.slice none 0 0)) (hb : Below w.heap.size w x) (hy : Below x.heap.size x y) (ho : OwnL y w.heap.size v1 s.lines) : S3 w w.heap.size (.slice none 0 0) s e v1 (y.setCell ⟨w.heap.size, 5, none⟩ v1) := by
  have st2 := st.after hy
  have ev2 := ev.after hy
  have res2 := res.after hy
  have hb2 := hb.trans (hy.mono hb.size)
  refine ⟨St.setTo st2 5 v1 rfl, ?_, ?_, ho.setOther _ _ (own_st_ne ho st2), grown_set (below_grown hb2 _) _ _ (Nat.le_refl _)⟩
  · exact (heap_setCell_other y ⟨w.heap.size, 5, none⟩ (w.heap.size + 1) v1 (by show w.heap.size + 1 ≠ w.heap.size; omega)).trans ev2
  · exact (heap_setCell_other y ⟨w.heap.size, 5, none⟩ (w.heap.size + 2) v1 (by show w.heap.size + 2 ≠ w.heap.size; omega)).trans res2
/-- what Apply answers -/
def ApplyPost (s' : St) (r0 : Int) (w : World) (r : Ending) (w' : World) : Prop := ∃ a n c, r = .returned (.tuple #[.agg (stA s' (.slice a n c)), .int .i64 r0]) ∧ OwnL w' w.heap.size (.slice a n c) s'.lines ∧ Below w.heap.size w w'
set_option maxRecDepth 20000 in
set_option maxHeartbeats 8000000 in
theorem apply_any (s : St) (e : Ev) (a : Option Addr) (n cap : Nat) (w : World) (hn : s.lines.length = n) (hl : Lns w a s.lines) (hm : n * 32 ≤ 140737488351232) :
    Calls Tryz.prog 11 #[.agg (stA s (.slice a n cap)), .agg (evA e)] w fun r w' => ApplyPost (nextS s e) (judS s e) w r w' := by
  obtain ⟨W, hW, h1, h2, h3, h4⟩ := t3_new w s e (.slice a n cap)
  have HN : Hid (s.lines.length = n) := hn
  have HW : Hid (StAt W w.heap.size s (.slice a n cap) ∧ EvAt W (w.heap.size + 1) e ∧ StAt W (w.heap.size + 2) zeroS (.slice none 0 0) ∧ Below w.heap.size w W) := ⟨h1, h2, h3, h4⟩
  have HL : Hid (Lns W a s.lines) := hl.keep h4
  have c5 := h1.cell 5 (.slice a n cap) rfl
  clear hn hl h1 h2 h3 h4
  go_enter Tryz.func11, Tryz.ntmps11
  go_wp2_with (go_at_call 21; refine (lnclone_any s.lines a n cap _ HN.out HL.out hm).mono ?_; rintro _ y1 ⟨a1, c1, rfl, ho1, hb1⟩; have k5 := (HW.out.1.after hb1).cell 5 (.slice a n cap) rfl; have kf := (HW.out.1.after hb1).froz 5; have HS : Hid (S3 w w.heap.size (.slice none 0 0) s e (.slice a1 n c1) (y1.setCell ⟨w.heap.size, 5, none⟩ (.slice a1 n c1))) := S3.own HW.out.1 HW.out.2.1 HW.out.2.2.1 HW.out.2.2.2 hb1 (ho1.mono HW.out.2.2.2.size); clear ho1 hb1)
  obtain ⟨X, hX⟩ : ∃ X, y1.setCell ⟨w.heap.size, 5, none⟩ (.slice a1 n c1) = X := ⟨_, rfl⟩
  rw [hX] at HS ⊢
  clear hX k5 kf
  have HSd : Hid (S3 w w.heap.size (.slice none 0 0) s e (.slice a1 n c1) X.drew) := HS.out.drew
  refine wp_region_held (S := fun y => StAt y w.heap.size s (.slice a1 n c1) ∧ EvAt y (w.heap.size + 1) e) (by kernel_rfl) ?_
  change wpAnyH _ _ _ _ _ _ _ _ (World.drew _)
  have hS0 : StAt X.drew w.heap.size s (.slice a1 n c1) ∧ EvAt X.drew (w.heap.size + 1) e := ⟨HSd.out.st, HSd.out.ev⟩
  refine wpAnyH_take (i := 1) (oi := { dst := some 11, op := Op.load 25 (Operand.tmp 2), type := 25, pos := "order.go:46", after := #[], guard := none }) (v := .agg (stA s (.slice a1 n c1))) rfl (by kernel_rfl) (by kernel_rfl) (by kernel_rfl) (fun _ _ _ h => h) (Or.inl ⟨by rfl, fun y hy => exec_load_st (.tmp 2) rfl rfl hy.1⟩) hS0 ?_
  simp only [Act.put, List.setIfInBounds_toArray, List.set_cons_zero, List.set_cons_succ]
  refine wpAnyH_take (i := 2) (oi := { dst := some 12, op := Op.load 38 (Operand.tmp 3), type := 38, pos := "order.go:46", after := #[], guard := none }) (v := .agg (evA e)) rfl (by kernel_rfl) (by kernel_rfl) (by kernel_rfl) (fun _ _ _ h => h) (Or.inl ⟨by rfl, fun y hy => exec_load_ev (.tmp 3) rfl rfl hy.2⟩) hS0 ?_
  simp only [Act.put, List.setIfInBounds_toArray, List.set_cons_zero, List.set_cons_succ]
  refine wpAnyH_ready (rs := [0]) (by kernel_rfl) (by simp) ?_
  refine AllReadyH.cons (o := { dst := some 10, op := Op.call { callee := Callee.value (Operand.func 20), args := #[], argTypes := #[] }, type := 51, pos := "order.go:46", after := #[], guard := none }) rfl (fun K hK => ?_) AllReadyH.nil
  go_simp
  refine (deeds_any _).mono ?_
  rintro _ x1 ⟨b, rfl, hd1, hb1⟩
  have HD1 : Hid (DeedsAt X.drew.heap.size x1 b) := hd1
  have HS1 : Hid (S3 w w.heap.size (.slice none 0 0) s e (.slice a1 n c1) x1) := HSd.out.keep hb1
  clear hd1 hb1
  (refine hK _ _ ⟨HS1.out.st, HS1.out.ev⟩ ?_; clear hK K; intro _)
  try simp only [Act.put, List.setIfInBounds_toArray, List.set_cons_zero, List.set_cons_succ]
  refine wpAnyH_ready (rs := [3]) (by kernel_rfl) (by simp) ?_
  refine AllReadyH.cons (o := { dst := some 13, op := Op.call { callee := Callee.value (Operand.func 22), args := #[Operand.tmp 10, Operand.tmp 11, Operand.tmp 12], argTypes := #[51, 25, 38] }, type := 41, pos := "order.go:46", after := #[{ on := 0, ground := Ground.data }, { on := 1, ground := Ground.data }, { on := 2, ground := Ground.data }, { on := 0, ground := Ground.chain }], guard := none }) rfl (fun K hK => ?_) AllReadyH.nil
  go_simp
  refine (next_any _ b s e a1 n c1 w.heap.size _ HD1.out HS1.out.row HS1.out.gr.size).mono ?_
  rintro _ x2 ⟨a2, n2, c2, rfl, ho2, hg2⟩
  have hst2 : StAt x2 w.heap.size s (.slice a1 n c1) := (hg2.block _ HS1.out.st.lt (own_st_ne HS1.out.row HS1.out.st)).trans HS1.out.st
  have hev2 : EvAt x2 (w.heap.size + 1) e := (hg2.block _ HS1.out.ev.lt (own_ev_ne HS1.out.row HS1.out.ev)).trans HS1.out.ev
  have hres2 : StAt x2 (w.heap.size + 2) zeroS (.slice none 0 0) := (hg2.block _ HS1.out.res.lt (own_st_ne HS1.out.row HS1.out.res)).trans HS1.out.res
  have hgr := HS1.out.gr
  have hbel : Below w.heap.size w x2 := ⟨hg2.os.trans hgr.os, hg2.tape.trans hgr.tape, hg2.output.trans hgr.output, Nat.le_trans hgr.size hg2.size, fun k hk => (hg2.block k (Nat.lt_of_lt_of_le hk hgr.size) (fun h => by have := (HS1.out.row.ob k h.symm).1; omega)).trans (hgr.block k hk (by simp [Value.ownBlock]))⟩
  have HX2 : Hid (OwnL x2 w.heap.size (.slice a2 n2 c2) (nextS s e).lines ∧ Below w.heap.size w x2 ∧ StAt x2 w.heap.size s (.slice a1 n c1) ∧ EvAt x2 (w.heap.size + 1) e ∧ StAt x2 (w.heap.size + 2) zeroS (.slice none 0 0)) := ⟨ho2, hbel, hst2, hev2, hres2⟩
  (refine hK _ _ ⟨hst2, hev2⟩ ?_; clear hK K; intro hS2)
  clear ho2 hg2 hst2 hev2 hres2 hgr hbel
  try simp only [Act.put, List.setIfInBounds_toArray, List.set_cons_zero, List.set_cons_succ]
  refine wpAnyH_take (i := 4) (oi := { dst := some 14, op := Op.extract (Operand.tmp 13) 0, type := 25, pos := "order.go:46", after := #[{ on := 3, ground := Ground.data }], guard := none }) (v := ?_) rfl (by kernel_rfl) (by kernel_rfl) (by kernel_rfl) (fun _ _ _ h => h) (Or.inl ⟨by rfl, ?_⟩) hS2 ?_
  rotate_left
  · (intro y hy; go_simp; try (with_reducible rfl))
  simp only [Act.put, List.setIfInBounds_toArray, List.set_cons_zero, List.set_cons_succ]
  refine wpAnyH_take (i := 5) (oi := { dst := some 15, op := Op.extract (Operand.tmp 13) 1, type := 40, pos := "order.go:46", after := #[{ on := 3, ground := Ground.data }], guard := none }) (v := ?_) rfl (by kernel_rfl) (by kernel_rfl) (by kernel_rfl) (fun _ _ _ h => h) (Or.inl ⟨by rfl, ?_⟩) hS2 ?_
  rotate_left
  · (intro y hy; go_simp; try (with_reducible rfl))
  simp only [Act.put, List.setIfInBounds_toArray, List.set_cons_zero, List.set_cons_succ]
  refine wpAnyH_ready (rs := [6]) (by kernel_rfl) (by simp) ?_
  refine AllReadyH.cons (o := { dst := none, op := Op.store 25 (Operand.tmp 4) (Operand.tmp 14), type := 0, pos := "order.go:46", after := #[{ on := 4, ground := Ground.data }, { on := 3, ground := Ground.chain }, { on := 0, ground := Ground.phase }, { on := 1, ground := Ground.phase }, { on := 2, ground := Ground.phase }, { on := 3, ground := Ground.phase }, { on := 4, ground := Ground.phase }, { on := 5, ground := Ground.phase }], guard := none }) rfl (fun K hK => ?_) AllReadyH.nil
  refine step_store_st (s := zeroS) (s2 := nextS s e) (a2 := a2) (n2 := n2) (c2 := c2) rfl _ _ rfl HX2.out.2.2.2.2 rfl rfl ?_
  intro x3 z1 z2 z3 z4
  have hS3 : StAt x3 w.heap.size s (.slice a1 n c1) ∧ EvAt x3 (w.heap.size + 1) e := ⟨(z3 _ (by omega)).trans HX2.out.2.2.1, (z3 _ (by omega)).trans HX2.out.2.2.2.1⟩
  (refine hK _ _ hS3 ?_; clear hK K; intro _)
  try simp only [Act.put, List.setIfInBounds_toArray, List.set_cons_zero, List.set_cons_succ]
  refine wpAnyH_ready (rs := [7]) (by kernel_rfl) (by simp) ?_
  refine AllReadyH.cons (o := { dst := some 5, op := Op.assign (Operand.tmp 15), type := 40, pos := "order.go:46", after := #[{ on := 5, ground := Ground.data }, { on := 6, ground := Ground.chain }, { on := 0, ground := Ground.phase }, { on := 1, ground := Ground.phase }, { on := 2, ground := Ground.phase }, { on := 3, ground := Ground.phase }, { on := 4, ground := Ground.phase }, { on := 5, ground := Ground.phase }, { on := 6, ground := Ground.phase }], guard := none }) rfl (fun K hK => ?_) AllReadyH.nil
  go_simp
  (refine hK _ _ hS3 ?_; clear hK K; intro _)
  try simp only [Act.put, List.setIfInBounds_toArray, List.set_cons_zero, List.set_cons_succ]
  refine wpAnyH_done (by kernel_rfl) ?_ _
  go_wp2
  refine bodyPost_ret (results_st2 rfl _ _ _ _ rfl rfl z1) rfl ⟨a2, n2, c2, rfl, HX2.out.1.keepOther (fun g hg => z3 g (fun hh => ?_)), z2 _ _ HX2.out.2.1 (by omega)⟩
  subst hh
  exact own_st_ne HX2.out.1 HX2.out.2.2.2.2 hg.symm
end Go.Proofs.YtblfmfanfpohbaaGreat
namespace Go.Proofs.YtblfmfanfpohbaaGreat
open Go.ChangeShapes Go.WideShapes Go.ChangeAt Go.RowKit
set_option linter.unusedVariables false
set_option linter.unusedSimpArgs false
/-- the events es lie from address a on -/
def EvsIn (w : World) (a : Option Addr) (es : List Ev) : Prop :=
  es = [] ∨ ∃ b off, a = some ⟨b, off, none⟩ ∧ b < w.heap.size ∧ ∀ k e, es[k]? = some e → ∀ j u, (evA e)[j]? = some u → w.cell? ⟨b, off + k * 10 + j, none⟩ = some u
theorem EvsIn.keep {w w' : World} {a : Option Addr} {es : List Ev} (h : EvsIn w a es) (hb : Below w.heap.size w w') : EvsIn w' a es := by
  rcases h with h | ⟨b, off, h1, h2, h3⟩
  · exact .inl h
  · exact .inr ⟨b, off, h1, Nat.lt_of_lt_of_le h2 hb.size, fun k e he j u hu => (hb.cell (p := ⟨b, _, none⟩) h2).trans (h3 k e he j u hu)⟩
theorem EvsIn.cells {w : World} {a : Option Addr} {es : List Ev} (h : EvsIn w a es) {k : Nat} {e : Ev} (he : es[k]? = some e) : ∃ b off, a = some ⟨b, off, none⟩ ∧ w.cell? ⟨b, off + k * 10, none⟩ = some (.int .i64 e.kind) ∧ w.cell? ⟨b, off + k * 10 + 1, none⟩ = some (.int .i64 e.order) ∧ w.cell? ⟨b, off + k * 10 + 2, none⟩ = some (.int .i64 e.item) ∧ w.cell? ⟨b, off + k * 10 + 3, none⟩ = some (.int .i64 e.qty) ∧ w.cell? ⟨b, off + k * 10 + 4, none⟩ = some (.int .i64 e.price) ∧ w.cell? ⟨b, off + k * 10 + 5, none⟩ = some (.int .i64 e.cur) ∧ w.cell? ⟨b, off + k * 10 + 6, none⟩ = some (.int .i64 e.tax) ∧ w.cell? ⟨b, off + k * 10 + 7, none⟩ = some (.string e.who) ∧ w.cell? ⟨b, off + k * 10 + 8, none⟩ = some (.int .i64 e.stamp) ∧ w.cell? ⟨b, off + k * 10 + 9, none⟩ = some (.string e.note) := by
  rcases h with rfl | ⟨b, off, rfl, h2, h3⟩
  · simp at he
  · have g := h3 k e he
    exact ⟨b, off, rfl, g 0 _ rfl, g 1 _ rfl, g 2 _ rfl, g 3 _ rfl, g 4 _ rfl, g 5 _ rfl, g 6 _ rfl, g 7 _ rfl, g 8 _ rfl, g 9 _ rfl⟩
/-- while events are folded: the state, a place for the answer, the table's blocks -/
structure Fo (w w1 : World) (s : St) (v : Value) (x : World) : Prop where
  st : StAt x w.heap.size s v
  res : StAt x (w.heap.size + 1) zeroS (.slice none 0 0)
  row : OwnL x w1.heap.size v s.lines
  bel : Below w.heap.size w x
  same : Same (w.heap.size + 2) w1 x
theorem Fo.keep {w w1 : World} {s : St} {v : Value} {x y : World} (h : Fo w w1 s v x) (hb : Below x.heap.size x y) : Fo w w1 s v y := ⟨h.st.after hb, h.res.after hb, h.row.keep hb, h.bel.trans (hb.mono h.bel.size), h.same.next hb⟩
theorem Fo.next {w w1 : World} {s s2 : St} {v v2 : Value} {x y z : World} (h : Fo w w1 s v x) (hw1 : w.heap.size + 2 ≤ w1.heap.size) (hg : x.grownBy y v.ownBlock) (ho : OwnL y w1.heap.size v2 s2.lines) (z1 : StAt z w.heap.size s2 v2) (z3 : ∀ k, k ≠ w.heap.size → z.heap[k]? = y.heap[k]?) (z2 : ∀ B a, Below B a y → B ≤ w.heap.size → Below B a z) : Fo w w1 s2 v2 z := by
  have st : StAt y w.heap.size s v := (hg.block _ h.st.lt (own_st_ne h.row h.st)).trans h.st
  have hb1 : Below w.heap.size w y := h.bel.grown hg h.bel.size (fun k hk => by have := (h.row.ob k hk).1; omega)
  have hsz := (z2 w.heap.size y (Below.refl _ _) (Nat.le_refl _)).size
  refine ⟨z1, (z3 _ (by omega)).trans ((hg.block _ h.res.lt (own_st_ne h.row h.res)).trans h.res), ho.keepOther (fun g hgk => z3 g (fun hh => ?_)), z2 _ _ hb1 (Nat.le_refl _), Nat.le_trans h.same.1 (Nat.le_trans hg.size hsz), fun k h1 h2 => (z3 k (by omega)).trans ((hg.block k (Nat.lt_of_lt_of_le h2 h.same.1) (fun hk => ?_)).trans (h.same.2 k h1 h2))⟩
  · subst hh; exact own_st_ne ho st hgk.symm
  · have := (h.row.ob k hk.symm).1; omega
theorem fo_new (w : World) (s : St) (v : Value) : ∃ W, (w.alloc (.cells (stA s v) 25)).alloc (.cells #[.int .i64 0, .int .i64 0, .int .i64 0, .int .i64 0, .int .i64 0, .slice none 0 0, .int .i64 0, .int .i64 0, .int .i64 0, .int .i64 0, .int .i64 0, .string ⟨#[]⟩] 25) = W ∧ StAt W w.heap.size s v ∧ StAt W (w.heap.size + 1) zeroS (.slice none 0 0) ∧ Below w.heap.size w W ∧ W.heap.size = w.heap.size + 2 := by
  refine ⟨_, rfl, ?_, ?_, ((Below.refl _ _).alloc (Nat.le_refl _) _).alloc (by simp) _, by simp⟩
  · exact (StAt.new w s v).after ((Below.refl _ _).alloc (Nat.le_refl _) _)
  · have := StAt.new (w.alloc (.cells (stA s v) 25)) zeroS (.slice none 0 0)
    simp only [World.alloc, Array.size_push] at this
    exact this
theorem Fo.start {w w0 w1 y : World} {s : St} {v v1 : Value} (h1 : StAt w0 w.heap.size s v) (h2 : StAt w0 (w.heap.size + 1) zeroS (.slice none 0 0)) (h3 : Below w.heap.size w w0) (hd : Below w0.heap.size w0 w1) (hy : Below w1.heap.size w1 y) (ho : OwnL y w1.heap.size v1 s.lines) : Fo w w1 s v1 (y.setCell ⟨w.heap.size, 5, none⟩ v1) ∧ StAt y w.heap.size s v := by
  have st : StAt y w.heap.size s v := (h1.after hd).after hy
  have bel : Below w.heap.size w y := below_next (below_next h3 hd) hy
  refine ⟨⟨St.setTo st 5 v1 rfl, ?_, ho.setOther _ _ (own_st_ne ho st), bel.setCell (p := ⟨w.heap.size, 5, none⟩) (Nat.le_refl _) _, by simpa [World.setCell] using hy.size, fun k hk1 hk2 => ?_⟩, st⟩
  · exact (heap_setCell_other y ⟨w.heap.size, 5, none⟩ (w.heap.size + 1) v1 (by show w.heap.size + 1 ≠ w.heap.size; omega)).trans ((h2.after hd).after hy)
  · exact (heap_setCell_other y ⟨w.heap.size, 5, none⟩ k v1 (by show k ≠ w.heap.size; omega)).trans (hy.block k hk2)
theorem fold_step (s : St) (es : List Ev) (k : Nat) (e : Ev) (h : es[k]? = some e) : foldS s (es.take (k + 1)) = nextS (foldS s (es.take k)) e := by
  rw [ln_take es k e h, foldS_append]; rfl
set_option maxRecDepth 20000 in
set_option maxHeartbeats 8000000 in
theorem fold_any (s : St) (es : List Ev) (a ea : Option Addr) (n cap m ecap : Nat) (w : World) (hn : s.lines.length = n) (hl : Lns w a s.lines) (hm : n * 32 ≤ 140737488351232) (hme : es.length = m) (hes : EvsIn w ea es) (hmm : m ≤ maxLen) :
    Calls Tryz.prog 9 #[.agg (stA s (.slice a n cap)), .slice ea m ecap] w fun r w' => ∃ a' n' c', r = .returned (.agg (stA (foldS s es) (.slice a' n' c'))) ∧ OwnL w' w.heap.size (.slice a' n' c') (foldS s es).lines ∧ Below w.heap.size w w' := by
  obtain ⟨W, hW, h1, h2, h3, h4⟩ := fo_new w s (.slice a n cap)
  have HN : Hid (s.lines.length = n) := hn
  have HM : Hid (es.length = m) := hme
  have HW : Hid (StAt W w.heap.size s (.slice a n cap) ∧ StAt W (w.heap.size + 1) zeroS (.slice none 0 0) ∧ Below w.heap.size w W ∧ W.heap.size = w.heap.size + 2) := ⟨h1, h2, h3, h4⟩
  have HL : Hid (Lns W a s.lines) := hl.keep h3
  have HES : Hid (EvsIn w ea es) := hes
  unfold maxLen at hmm
  clear hn hl hme hes h1 h2 h3 h4
  go_enter Tryz.func9, Tryz.ntmps9
  go_wp2_with (first
    | (go_at_call 20; refine (deeds_any _).mono ?_; rintro _ w1 ⟨b, rfl, hd, hb⟩; have HD : Hid (DeedsAt (w.heap.size + 2) w1 b) := HW.out.2.2.2 ▸ hd; have HB1 : Hid (Below W.heap.size W w1) := hb; have c5 := (HW.out.1.after hb).cell 5 (.slice a n cap) rfl; clear hd hb)
    | (go_at_call 21; refine (lnclone_any s.lines a n cap _ HN.out (HL.out.keep HB1.out) hm).mono ?_; rintro _ y1 ⟨a1, c1, rfl, ho1, hb1⟩; obtain ⟨hfo, hst⟩ := Fo.start HW.out.1 HW.out.2.1 HW.out.2.2.1 HB1.out hb1 ho1; have k5 := hst.cell 5 (.slice a n cap) rfl; have kf := hst.froz 5; have HF0 : Hid (Fo w w1 s (.slice a1 n c1) (y1.setCell ⟨w.heap.size, 5, none⟩ (.slice a1 n c1))) := hfo; clear ho1 hb1 hfo hst))
  have HS1 : Hid (w.heap.size + 2 ≤ w1.heap.size) := by have := HB1.out.size; have := HW.out.2.2.2; show _ ≤ _; omega
  go_loopw [15] (fun vi wr => ∃ (k : Nat), k ≤ m ∧ vi = .int .i64 k ∧ Hid (∃ a' n' c', Fo w w1 (foldS s (es.take k)) (.slice a' n' c') wr)) (fun vi _ => m - (intOf vi).toNat)
  case atStart => exact ⟨0, Nat.zero_le _, rfl, ⟨_, _, _, HF0.out⟩⟩
  case round =>
    clear HF0 k5 kf c5 hW
    obtain ⟨k, hk, rfl, HI⟩ := hrel
    by_cases hkm : k < m
    · obtain ⟨e, he⟩ := ln_get (L := es) (k := k) (by rw [HM.out]; exact hkm)
      obtain ⟨a2, n2, c2, hF⟩ := HI.out
      have hstep := fold_step s es k e he
      obtain ⟨eb, eoff, rfl, q0, q1, q2, q3, q4, q5, q6, q7, q8, q9⟩ := (HES.out.keep hF.bel).cells he
      obtain ⟨t, ht⟩ : ∃ t, foldS s (es.take k) = t := ⟨_, rfl⟩
      rw [ht] at hF hstep
      have HST : Hid (foldS s (es.take (k + 1)) = nextS t e) := hstep
      have HA : Hid (Fo w w1 t (.slice a2 n2 c2) (wr.alloc (.cells (evA e) 38))) := hF.keep ((Below.refl _ _).alloc (Nat.le_refl _) _)
      have HE : Hid (EvAt (wr.alloc (.cells (evA e) 38)) wr.heap.size e) := evAt_new wr e
      clear HI hF hstep ht he
      go_wp2_with (first
        | ((with_reducible refine guard_load 25 ?_); refine wpList_load_st rfl _ rfl HA.out.st rfl ?_)
        | ((with_reducible refine guard_load 38 ?_); refine wpList_load_ev rfl _ rfl HE.out rfl ?_)
        | (go_at_call 22; refine (next_any (w.heap.size + 2) b t e a2 n2 c2 w1.heap.size _ (HD.out.same HA.out.same) HA.out.row HA.out.same.1).mono ?_; rintro _ x2 ⟨a3, n3, c3, rfl, ho3, hg3⟩; have hst3 : StAt x2 w.heap.size t (.slice a2 n2 c2) := (hg3.block _ HA.out.st.lt (own_st_ne HA.out.row HA.out.st)).trans HA.out.st; have HX2 : Hid (OwnL x2 w1.heap.size (.slice a3 n3 c3) (nextS t e).lines ∧ World.grownBy _ x2 (Value.slice a2 n2 c2).ownBlock ∧ StAt x2 w.heap.size t (.slice a2 n2 c2)) := ⟨ho3, hg3, hst3⟩; clear ho3 hg3 hst3)
        | ((with_reducible refine guard_store 25 ?_); refine wpList_store_st (s := t) (s2 := nextS t e) (a2 := a3) (n2 := n3) (c2 := c3) rfl _ _ rfl HX2.out.2.2 rfl rfl ?_; intro x3 z1 z2 z3 z4; have HF3 : Hid (Fo w w1 (nextS t e) (.slice a3 n3 c3) x3) := HA.out.next HS1.out HX2.out.2.1 HX2.out.1 z1 z3 z2; clear z1 z2 z3 z4))
      go_roundw
      case rel => exact ⟨k + 1, by omega, by go_num, ⟨a3, n3, c3, by rw [HST.out]; exact HF3.out⟩⟩
      case measure => simp [intOf]; omega
    · obtain rfl : k = m := by omega
      obtain ⟨a2, n2, c2, hF⟩ := HI.out
      rw [List.take_of_length_le (by rw [HM.out]; exact Nat.le_refl _)] at hF
      have HF : Hid (Fo w w1 (foldS s es) (.slice a2 n2 c2) wr) := hF
      clear hF HI
      go_wp2_with (first
        | ((with_reducible refine guard_load 25 ?_); refine wpList_load_st rfl _ rfl HF.out.st rfl ?_)
        | ((with_reducible refine guard_store 25 ?_); refine wpList_store_st (s := zeroS) (s2 := foldS s es) (a2 := a2) (n2 := n2) (c2 := c2) rfl _ _ rfl HF.out.res rfl rfl ?_; intro y z1 z2 z3 z4))
      refine bodyPost_ret (results_st1 rfl _ _ _ rfl z1) rfl ⟨a2, n2, c2, rfl, ?_, z2 _ _ HF.out.bel (by omega)⟩
      exact (HF.out.row.keepOther (fun g hg => z3 g (fun hh => own_st_ne HF.out.row (hh ▸ HF.out.res) hg.symm))).mono (by have := HS1.out; omega)
end Go.Proofs.YtblfmfanfpohbaaGreat
namespace Go.Proofs.YtblfmfanfpohbaaGreat
open Go.ChangeShapes Go.WideShapes Go.ChangeAt Go.RowKit Go.Deep
set_option linter.unusedVariables false
theorem array12 {α : Type} {cs : Array α} (h : cs.size = 12) : ∃ c0 c1 c2 c3 c4 c5 c6 c7 c8 c9 c10 c11, cs = #[c0, c1, c2, c3, c4, c5, c6, c7, c8, c9, c10, c11] := by
  obtain ⟨l⟩ := cs
  match l, h with
  | [c0, c1, c2, c3, c4, c5, c6, c7, c8, c9, c10, c11], _ => exact ⟨c0, c1, c2, c3, c4, c5, c6, c7, c8, c9, c10, c11, rfl⟩
section
variable {H : Type} {enc : TypeId × Value → H} {w : World} {base : Nat} {spare : Nat → Bool} {held : Bool}
theorem struct12 {P : Program} {t : TypeId} {f0 f1 f2 f3 f4 f5 f6 f7 f8 f9 f10 f11 : Field} {fuel : Nat} {c0 c1 c2 c3 c4 c5 c6 c7 c8 c9 c10 c11 : Value} {x : DataW H × List MemPlace} (ht : P.underlying t = some (.struct #[f0, f1, f2, f3, f4, f5, f6, f7, f8, f9, f10, f11])) (hone : oneCellFields P #[f0, f1, f2, f3, f4, f5, f6, f7, f8, f9, f10, f11] = true)
    (h : DataW.trod enc P w base spare held fuel t [c0, c1, c2, c3, c4, c5, c6, c7, c8, c9, c10, c11] = some x) :
    ∃ y0 y1 y2 y3 y4 y5 y6 y7 y8 y9 y10 y11 n, x = (.agg [y0.1, y1.1, y2.1, y3.1, y4.1, y5.1, y6.1, y7.1, y8.1, y9.1, y10.1, y11.1], y0.2 ++ (y1.2 ++ (y2.2 ++ (y3.2 ++ (y4.2 ++ (y5.2 ++ (y6.2 ++ (y7.2 ++ (y8.2 ++ (y9.2 ++ (y10.2 ++ (y11.2))))))))))))
      ∧ DataW.trod enc P w base spare held n f0.type [c0] = some y0 ∧ DataW.trod enc P w base spare held n f1.type [c1] = some y1 ∧ DataW.trod enc P w base spare held n f2.type [c2] = some y2 ∧ DataW.trod enc P w base spare held n f3.type [c3] = some y3 ∧ DataW.trod enc P w base spare held n f4.type [c4] = some y4 ∧ DataW.trod enc P w base spare held n f5.type [c5] = some y5 ∧ DataW.trod enc P w base spare held n f6.type [c6] = some y6 ∧ DataW.trod enc P w base spare held n f7.type [c7] = some y7 ∧ DataW.trod enc P w base spare held n f8.type [c8] = some y8 ∧ DataW.trod enc P w base spare held n f9.type [c9] = some y9 ∧ DataW.trod enc P w base spare held n f10.type [c10] = some y10 ∧ DataW.trod enc P w base spare held n f11.type [c11] = some y11 := by
  obtain ⟨xs, n, _, rfl, _, hlen, hf⟩ := DataW.trod_struct ht h
  obtain ⟨o0, k0⟩ := hone_of hone 0 f0 rfl
  obtain ⟨o1, k1⟩ := hone_of hone 1 f1 rfl
  obtain ⟨o2, k2⟩ := hone_of hone 2 f2 rfl
  obtain ⟨o3, k3⟩ := hone_of hone 3 f3 rfl
  obtain ⟨o4, k4⟩ := hone_of hone 4 f4 rfl
  obtain ⟨o5, k5⟩ := hone_of hone 5 f5 rfl
  obtain ⟨o6, k6⟩ := hone_of hone 6 f6 rfl
  obtain ⟨o7, k7⟩ := hone_of hone 7 f7 rfl
  obtain ⟨o8, k8⟩ := hone_of hone 8 f8 rfl
  obtain ⟨o9, k9⟩ := hone_of hone 9 f9 rfl
  obtain ⟨o10, k10⟩ := hone_of hone 10 f10 rfl
  obtain ⟨o11, k11⟩ := hone_of hone 11 f11 rfl
  match xs, hlen with
  | [y0, y1, y2, y3, y4, y5, y6, y7, y8, y9, y10, y11], _ =>
    exact ⟨y0, y1, y2, y3, y4, y5, y6, y7, y8, y9, y10, y11, n, by simp, by simpa [o0, k0] using hf 0 f0 rfl, by simpa [o1, k1] using hf 1 f1 rfl, by simpa [o2, k2] using hf 2 f2 rfl, by simpa [o3, k3] using hf 3 f3 rfl, by simpa [o4, k4] using hf 4 f4 rfl, by simpa [o5, k5] using hf 5 f5 rfl, by simpa [o6, k6] using hf 6 f6 rfl, by simpa [o7, k7] using hf 7 f7 rfl, by simpa [o8, k8] using hf 8 f8 rfl, by simpa [o9, k9] using hf 9 f9 rfl, by simpa [o10, k10] using hf 10 f10 rfl, by simpa [o11, k11] using hf 11 f11 rfl⟩
/-- one line, from its four cells -/
theorem open_ln {fuel : Nat} {c0 c1 c2 c3 : Value} {x : DataW H × List MemPlace} (h : DataW.trod enc Tryz.prog w base (fun _ => true) held fuel 44 [c0, c1, c2, c3] = some x) :
    ∃ p : Ln, c0 = .int .i64 p.item ∧ c1 = .int .i64 p.price ∧ c2 = .int .i64 p.qty ∧ c3 = .int .i64 p.shipped := by
  obtain ⟨xs, n, _, hxy, _, hlen, hf⟩ := DataW.trod_struct Tryz.underlying44 h
  match xs, hlen with
  | [y0, y1, y2, y3], _ =>
    have k0 : Tryz.prog.cellsOf 3 = 1 := by kernel_rfl
    have g0 : DataW.trod enc Tryz.prog w base (fun _ => true) held n 3 [c0] = some y0 := by have := hf 0 _ rfl; simpa [k0] using this
    have g1 : DataW.trod enc Tryz.prog w base (fun _ => true) held n 3 [c1] = some y1 := by have := hf 1 _ rfl; simpa [k0] using this
    have g2 : DataW.trod enc Tryz.prog w base (fun _ => true) held n 3 [c2] = some y2 := by have := hf 2 _ rfl; simpa [k0] using this
    have g3 : DataW.trod enc Tryz.prog w base (fun _ => true) held n 3 [c3] = some y3 := by have := hf 3 _ rfl; simpa [k0] using this
    obtain ⟨a0, h0, _, _⟩ := DataW.trod_int Tryz.underlying3 g0
    obtain ⟨a1, h1, _, _⟩ := DataW.trod_int Tryz.underlying3 g1
    obtain ⟨a2, h2, _, _⟩ := DataW.trod_int Tryz.underlying3 g2
    obtain ⟨a3, h3, _, _⟩ := DataW.trod_int Tryz.underlying3 g3
    simp only [List.cons.injEq, and_true] at h0 h1 h2 h3
    exact ⟨⟨a0, a1, a2, a3⟩, h0, h1, h2, h3⟩
/-- a list of lines -/
theorem open_lines {fuel : Nat} {cs : List Value} {x : DataW H × List MemPlace} (h : DataW.trod enc Tryz.prog w base (fun _ => true) held fuel 23 cs = some x) :
    ∃ (a : Option Addr) (len cap : Nat) (L : List Ln), cs = [.slice a len cap] ∧ len ≤ cap ∧ cap ≤ maxLen ∧ L.length = len ∧ Lns w a L ∧ (cap = 0 ∨ ∃ e s : List (DataW H), x.1 = .slice e s ∧ e.length + s.length = cap) := by
  rcases open_slice Tryz.underlying23 h with ⟨rfl, rfl⟩ | ⟨a, len, cap, m, n, D, Pl, rfl, hb, hl, hm, hmm, rfl, hx⟩
  · exact ⟨none, 0, 0, [], rfl, Nat.le_refl _, by simp, rfl, .inl rfl, .inl rfl⟩
  have hmc : m = cap := by simpa using hmm
  subst hmc
  have ce : Tryz.prog.cellsOf 44 = 4 := by kernel_rfl
  have each : ∀ i, i < m → ∃ q : Ln, w.cell? (a.add (i * 4)) = some (.int .i64 q.item) ∧ w.cell? (a.add (i * 4 + 1)) = some (.int .i64 q.price) ∧ w.cell? (a.add (i * 4 + 2)) = some (.int .i64 q.qty) ∧ w.cell? (a.add (i * 4 + 3)) = some (.int .i64 q.shipped) := by
    intro i hi
    obtain ⟨cs', h1, h2⟩ := hx i hi
    rw [ce] at h1
    obtain ⟨_, hlen, hcell⟩ := World.cells?_some h1
    match cs', hlen with
    | [v0, v1, v2, v3], _ =>
      obtain ⟨p, rfl, rfl, rfl, rfl⟩ := open_ln h2
      have e0 := hcell 0 (by omega)
      have e1 := hcell 1 (by omega)
      have e2 := hcell 2 (by omega)
      have e3 := hcell 3 (by omega)
      rw [add_add] at e0 e1 e2 e3
      exact ⟨p, by simpa using e0, by simpa using e1, by simpa using e2, by simpa using e3⟩
  haveI : Inhabited Ln := ⟨⟨0, 0, 0, 0⟩⟩
  obtain ⟨q, hq⟩ := choose_lt each
  refine ⟨some a, len, m, (List.range len).map q, rfl, hl, hm, by simp, ?_, .inr ⟨_, _, rfl, by simp; omega⟩⟩
  by_cases h0 : len = 0
  · left; subst h0; rfl
  · right
    obtain ⟨b, off, spot⟩ := a
    have hc0 := (hq 0 (by omega)).1
    have hspot : spot = none := by simpa [Addr.add] using World.cell?_spot hc0
    subst hspot
    refine ⟨b, off, rfl, World.block_lt_of_cell? _ _ hc0, fun j hj => ?_⟩
    simp only [List.length_map, List.length_range] at hj
    obtain ⟨i, r, hr, rfl⟩ : ∃ i r, r < 4 ∧ j = i * 4 + r := ⟨j / 4, j % 4, by omega, by omega⟩
    have hi : i < len := by omega
    have hp : ((List.range len).map q)[i]? = some (q i) := by rw [List.getElem?_map, List.getElem?_range hi]; rfl
    obtain ⟨f0, f1, f2, f3⟩ := lfl_get _ i _ hp
    obtain ⟨d0, d1, d2, d3⟩ := hq i (by omega)
    have hadd : ∀ z, (⟨b, off, none⟩ : Addr).add z = ⟨b, off + z, none⟩ := fun z => by simp [Addr.add]
    rw [hadd] at d0 d1 d2 d3
    have hr4 : r = 0 ∨ r = 1 ∨ r = 2 ∨ r = 3 := by omega
    rcases hr4 with rfl | rfl | rfl | rfl
    · rw [Nat.add_zero, f0]; exact d0
    · rw [f1]; exact d1
    · rw [f2]; exact d2
    · rw [f3]; exact d3
set_option maxRecDepth 20000 in
/-- a state, its lines, and what of it lies on the reach -/
theorem open_state {r : Reach} {b0 : Nat} {v : Value} {d : DataW H} {p : List MemPlace} (hv : Value.okWide Tryz.prog w r b0 25 v) (h : DataW.Trod enc Tryz.prog w base (fun _ => true) held 25 v d p)
    {ts : List TypeId} {ds : List (DataW H)} (hsz : (DataW.weightsEach Tryz.prog ts ds).all (· ≤ reachBytes) = true) {j : Nat} (ht : ts[j]? = some 25) (hd : ds[j]? = some d) :
    ∃ (s : St) (a : Option Addr) (n cap : Nat), v = .agg (stA s (.slice a n cap)) ∧ s.lines.length = n ∧ Lns w a s.lines ∧ n ≤ cap ∧ n * 32 ≤ 140737488351232 := by
  obtain ⟨cs, rfl, hsize⟩ := okWide_struct Tryz.underlying25 hv
  obtain ⟨c0, c1, c2, c3, c4, c5, c6, c7, c8, c9, c10, c11, rfl⟩ := array12 (hsize.trans (show Tryz.prog.cellsOf 25 = 12 from by kernel_rfl))
  obtain ⟨fuel, hf⟩ := h
  obtain ⟨y0, y1, y2, y3, y4, y5, y6, y7, y8, y9, y10, y11, n, hx, h0, h1, h2, h3, h4, h5, h6, h7, h8, h9, h10, h11⟩ := struct12 Tryz.underlying25 (by kernel_rfl) (by simpa [Value.cells] using hf)
  obtain ⟨a0, e0, _, _⟩ := DataW.trod_int Tryz.underlying3 h0
  obtain ⟨a1, e1, _, _⟩ := DataW.trod_int Tryz.underlying22 h1
  obtain ⟨a2, e2, _, _⟩ := DataW.trod_int Tryz.underlying22 h2
  obtain ⟨a3, e3, _, _⟩ := DataW.trod_int Tryz.underlying3 h3
  obtain ⟨a4, e4, _, _⟩ := DataW.trod_int Tryz.underlying3 h4
  obtain ⟨a6, e6, _, _⟩ := DataW.trod_int Tryz.underlying3 h6
  obtain ⟨a7, e7, _, _⟩ := DataW.trod_int Tryz.underlying3 h7
  obtain ⟨a8, e8, _, _⟩ := DataW.trod_int Tryz.underlying3 h8
  obtain ⟨a9, e9, _, _⟩ := DataW.trod_int Tryz.underlying3 h9
  obtain ⟨a10, e10, _, _⟩ := DataW.trod_int Tryz.underlying3 h10
  obtain ⟨a11, e11, _, _⟩ := DataW.trod_string Tryz.underlying9 h11
  obtain ⟨a5, len, cap, L, e5, g1, g2, g3, g4, g5⟩ := open_lines h5
  simp only [List.cons.injEq, and_true] at e0 e1 e2 e3 e4 e5 e6 e7 e8 e9 e10 e11
  subst e0 e1 e2 e3 e4 e5 e6 e7 e8 e9 e10 e11
  refine ⟨⟨a0, a1, a2, a3, a4, L, a6, a7, a8, a9, a10, a11⟩, a5, len, cap, rfl, g3, g4, g1, ?_⟩
  rcases g5 with g5 | ⟨e, s, g6, g7⟩
  · omega
  · have hdd : d = _ := (Prod.mk.inj hx).1
    have hw : (e.length + s.length) * Tryz.prog.bytesOf 44 ∈ d.weights Tryz.prog 25 := by
      rw [hdd, g6]
      simp only [DataW.weights, Tryz.underlying25, DataW.weightsEach, Tryz.underlying23, List.mem_append, List.mem_cons, List.map_cons, List.map_nil]
      simp
    have := of_decide_eq_true (List.all_eq_true.1 hsz _ (DataW.weights_mem_each ht hd _ hw))
    rw [show Tryz.prog.bytesOf 44 = 32 from by kernel_rfl] at this
    simp only [reachBytes] at this
    omega
end
end Go.Proofs.YtblfmfanfpohbaaGreat
namespace Go.Proofs.YtblfmfanfpohbaaGreat
open Go.ChangeShapes Go.WideShapes Go.ChangeAt Go.RowKit
set_option linter.unusedVariables false
set_option maxRecDepth 20000 in
theorem ln_self (a b c d : Int) (w : World) : (binOp .neq 44 (.agg #[.int .i64 a, .int .i64 b, .int .i64 c, .int .i64 d]) (.agg #[.int .i64 a, .int .i64 b, .int .i64 c, .int .i64 d])).run Tryz.prog w = .ok (.bool false) w := by
  rw [run_neq_struct]
  simp [go_sem, Tryz.underlying44]
set_option maxRecDepth 20000 in
theorem ln_diff (a b c d a' b' c' d' : Int) (w : World) (h : ¬ (a = a' ∧ b = b' ∧ c = c' ∧ d = d')) : (binOp .neq 44 (.agg #[.int .i64 a, .int .i64 b, .int .i64 c, .int .i64 d]) (.agg #[.int .i64 a', .int .i64 b', .int .i64 c', .int .i64 d'])).run Tryz.prog w = .ok (.bool true) w := by
  rw [run_neq_struct]
  simp [go_sem, Tryz.underlying44]
  by_cases h1 : a = a'
  · by_cases h2 : b = b'
    · by_cases h3 : c = c'
      · by_cases h4 : d = d'
        · exact absurd ⟨h1, h2, h3, h4⟩ h
        · simp [h1, h2, h3, h4]
      · simp [h1, h2, h3]
    · simp [h1, h2]
  · simp [h1]
theorem two_st (w : World) (s t : St) (v u : Value) : ∃ W, (w.alloc (.cells (stA s v) 25)).alloc (.cells (stA t u) 25) = W ∧ StAt W w.heap.size s v ∧ StAt W (w.heap.size + 1) t u ∧ Below w.heap.size w W := by
  refine ⟨_, rfl, (StAt.new w s v).after ((Below.refl _ _).alloc (Nat.le_refl _) _), ?_, ((Below.refl _ _).alloc (Nat.le_refl _) _).alloc (by simp) _⟩
  have := StAt.new (w.alloc (.cells (stA s v) 25)) t u
  simpa using this
theorem who_ne {x y : ByteArray} (h : x ≠ y) : (x.toList == y.toList) = false := by
  rw [beq_eq_false_iff_ne]
  intro h2
  rw [ByteArray.toList_eq, ByteArray.toList_eq] at h2
  exact h (ByteArray.ext (Array.toList_inj.1 h2))
end Go.Proofs.YtblfmfanfpohbaaGreat
namespace Go.Proofs.YtblfmfanfpohbaaGreat
open Go.ChangeShapes Go.WideShapes Go.ChangeAt Go.RowKit
set_option linter.unusedVariables false
set_option linter.unusedSimpArgs false
/-- the state of an order that nothing has happened to -/
def empS (id : Int) : St := ⟨id, 0, 0, 0, 0, [], 0, 0, 0, 0, 0, ⟨#[]⟩⟩
set_option maxRecDepth 20000 in
set_option maxHeartbeats 1000000 in
theorem empty_any (id : Int) (w : World) : Calls Tryz.prog 10 #[.int .i64 id] w fun r w' => r = .returned (.agg (stA (empS id) (.slice none 0 0))) ∧ Below w.heap.size w w' := by
  have HA : Hid (StAt (w.alloc (.cells (stA zeroS (.slice none 0 0)) 25)) w.heap.size zeroS (.slice none 0 0)) := StAt.new w zeroS _
  have HB : Hid (Below w.heap.size w (w.alloc (.cells (stA zeroS (.slice none 0 0)) 25))) := (Below.refl _ _).alloc (Nat.le_refl _) _
  go_enter Tryz.func10, Tryz.ntmps10
  go_wp2_with ((with_reducible refine guard_store 25 ?_); refine wpList_store_st (s := zeroS) (s2 := empS id) (a2 := none) (n2 := 0) (c2 := 0) rfl _ _ rfl HA.out rfl rfl ?_; intro y z1 z2 z3 z4)
  exact bodyPost_ret (results_st1 rfl _ _ _ rfl z1) rfl ⟨rfl, z2 _ _ HB.out (Nat.le_refl _)⟩
set_option maxRecDepth 20000 in
set_option maxHeartbeats 1000000 in
theorem odue_any (s : St) (a : Option Addr) (n cap : Nat) (w : World) (hn : s.lines.length = n) (hl : Lns w a s.lines) (hm : n ≤ maxLen) :
    Calls Tryz.prog 8 #[.agg (stA s (.slice a n cap))] w fun r w' => r = .returned (.tuple #[.int .i64 (if vldB s = true then dueS s else 0), .bool (vldB s)]) ∧ Below w.heap.size w w' := by
  have HN : Hid (s.lines.length = n) := hn
  have HC0 : Hid (StC w w.heap.size s a n cap (w.alloc (.cells (stA s (.slice a n cap)) 25))) := StC.new w s a n cap hl
  cases hv : vldB s with
  | false =>
    rw [if_neg (by simp)]
    have HV : Hid (vldB s = false) := hv
    clear hn hl hv
    go_enter Tryz.func8, Tryz.ntmps8
    go_wp2_with (first
      | ((with_reducible refine guard_load 25 ?_); refine wpList_load_st rfl _ rfl HC0.out.1 rfl ?_)
      | (go_at_call 12; refine (valid_st s a n cap _ HN.out HC0.out.2.1 hm).mono ?_; rw [HV.out]; rintro _ x1 ⟨rfl, hb1⟩; have HC1 : Hid (StC w w.heap.size s a n cap x1) := StC.keep HC0.out hb1; clear hb1))
    go_ret2
    exact ⟨rfl, HC1.out.2.2⟩
  | true =>
    rw [if_pos rfl]
    have HV : Hid (vldB s = true) := hv
    have HDU : Hid (linesB s.lines = true ∧ 0 ≤ s.tax ∧ s.tax ≤ 5000) := by have h := vld_due hv; exact ⟨h.1, h.2.1, h.2.2.1⟩
    clear hn hl hv
    go_enter Tryz.func8, Tryz.ntmps8
    go_wp2_with (first
      | ((with_reducible refine guard_load 25 ?_); first | refine wpList_load_st rfl _ rfl HC1.out.1 rfl ?_ | refine wpList_load_st rfl _ rfl HC0.out.1 rfl ?_)
      | (go_at_call 12; refine (valid_st s a n cap _ HN.out HC0.out.2.1 hm).mono ?_; rw [HV.out]; rintro _ x1 ⟨rfl, hb1⟩; have HC1 : Hid (StC w w.heap.size s a n cap x1) := StC.keep HC0.out hb1; clear hb1)
      | (go_at_call 19; refine (due_any s a n cap _ HN.out HC1.out.2.1 HDU.out.1 HDU.out.2.1 HDU.out.2.2).mono ?_; rintro _ x2 ⟨rfl, hb2⟩; have HC2 : Hid (StC w w.heap.size s a n cap x2) := StC.keep HC1.out hb2; clear hb2))
    go_ret2
    exact ⟨rfl, HC2.out.2.2⟩
theorem next_of {s : St} {e : Ev} (hv : vldB s = true) (hc : chk 5 e = 0) (he : s.events ≠ 1099511627776) (ho : e.order = s.order) (hs : stdR s e.kind = 0) (hr : refR s e = 0) : judS s e = 0 ∧ nextS s e = fineS s e := by
  have hj : judS s e = 0 := by
    unfold judS
    rw [if_neg (by rintro (h | h | h); (rw [hv] at h; cases h); exact h hc; exact he h), if_neg (by omega), if_neg (by omega)]
    exact hr
  exact ⟨hj, by unfold nextS; rw [hj, if_neg (by decide), if_pos rfl]⟩
def he1 : Ev := ⟨1, 7, 0, 0, 0, 0, 1000, ⟨#[]⟩, 0, ⟨#[]⟩⟩
def he2 : Ev := ⟨2, 7, 3, 2, 500, 0, 0, ⟨#[]⟩, 0, ⟨#[]⟩⟩
def he3 : Ev := ⟨2, 7, 1, 1, 99, 0, 0, ⟨#[]⟩, 0, ⟨#[]⟩⟩
def he4 : Ev := ⟨3, 7, 0, 0, 1208, 0, 0, ⟨#[]⟩, 0, ⟨#[]⟩⟩
def hs1 : St := ⟨7, 1, 0, 0, 1000, [], 0, 0, 1, 0, 0, ⟨#[]⟩⟩
def hs2 : St := ⟨7, 1, 0, 0, 1000, [⟨3, 500, 2, 0⟩], 0, 0, 2, 0, 0, ⟨#[]⟩⟩
def hs3 : St := ⟨7, 1, 0, 0, 1000, [⟨1, 99, 1, 0⟩, ⟨3, 500, 2, 0⟩], 0, 0, 3, 0, 0, ⟨#[]⟩⟩
def hs4 : St := ⟨7, 3, 0, 0, 1000, [⟨1, 99, 1, 0⟩, ⟨3, 500, 2, 0⟩], 1208, 0, 4, 0, 0, ⟨#[]⟩⟩
theorem he1_ok : chk 5 he1 = 0 := chk_of ⟨by decide, by decide, by decide, by decide, by decide, by decide, by decide, by decide, by decide, by decide, by decide, by decide, by decide, by decide, by decide, by decide, by decide, by decide, by decide, by decide, by decide, .inl (by decide), .inl (by decide), .inl (by decide), .inl (by decide)⟩
theorem he2_ok : chk 5 he2 = 0 := chk_of ⟨by decide, by decide, by decide, by decide, by decide, by decide, by decide, by decide, by decide, by decide, by decide, by decide, by decide, by decide, by decide, by decide, by decide, by decide, by decide, by decide, by decide, .inl (by decide), .inl (by decide), .inl (by decide), .inl (by decide)⟩
theorem he3_ok : chk 5 he3 = 0 := chk_of ⟨by decide, by decide, by decide, by decide, by decide, by decide, by decide, by decide, by decide, by decide, by decide, by decide, by decide, by decide, by decide, by decide, by decide, by decide, by decide, by decide, by decide, .inl (by decide), .inl (by decide), .inl (by decide), .inl (by decide)⟩
theorem he4_ok : chk 5 he4 = 0 := chk_of ⟨by decide, by decide, by decide, by decide, by decide, by decide, by decide, by decide, by decide, by decide, by decide, by decide, by decide, by decide, by decide, by decide, by decide, by decide, by decide, by decide, by decide, .inl (by decide), .inl (by decide), .inl (by decide), .inl (by decide)⟩
theorem wnil : (ByteArray.toList ⟨#[]⟩ == []) = true := toList_nil.2 rfl
theorem emp_valid {id : Int} (h1 : 1 ≤ id) (h2 : id ≤ 1099511627776) : vldB (empS id) = true := by
  refine vl_to ⟨h1, h2, (show (0 : Int) ≤ 0 by decide), (show (0 : Int) ≤ 5 by decide), (show (0 : Int) ≤ 0 by decide), (show (0 : Int) ≤ 3 by decide), (show (0 : Int) ≤ 0 by decide), (show (0 : Int) ≤ 5000 by decide), (show (0 : Int) ≤ 0 by decide), (show (0 : Int) ≤ 1099511627776 by decide), (show (0 : Int) ≤ 0 by decide), (show (0 : Int) ≤ 0 by decide), (show (0 : Int) ≤ 0 by decide), (show (0 : Int) ≤ 1099511627776 by decide), ?_, rfl, rfl, (show (0 : Int) ≤ 0 by decide), (show (0 : Int) ≤ 0 + 0 * 0 / 10000 by decide), (show (0 : Int) ≤ 0 by decide), (show (0 : Int) ≤ 0 by decide), ?_⟩
  · exact who_right (right_of he1_ok)
  · unfold fitsB
    rw [if_pos (show standS (empS id) = 0 from rfl)]
    unfold untB
    show (_ && (_ && (_ && (_ && (_ && ((ByteArray.toList ⟨#[]⟩ == []) && _)))))) = true
    rw [wnil]
    rfl
theorem hd1 : nextS (empS 7) he1 = hs1 := by
  rw [(next_of (emp_valid (by decide) (by decide)) he1_ok (by decide) rfl (by decide) (by decide)).2]
  unfold fineS
  rw [show (he1.who.toList == []) = true from wnil]
  rfl
theorem hd2 : nextS hs1 he2 = hs2 := by
  rw [(next_of (hd1 ▸ next_valid (emp_valid (by decide) (by decide))) he2_ok (by decide) rfl (by decide) (by decide)).2]
  unfold fineS
  rw [show (he2.who.toList == []) = true from wnil]
  rfl
theorem hs2_ok : vldB hs2 = true := hd2 ▸ next_valid (hd1 ▸ next_valid (emp_valid (by decide) (by decide)))
theorem hd3 : nextS hs2 he3 = hs3 := by
  rw [(next_of hs2_ok he3_ok (by decide) rfl (by decide) (by decide)).2]
  unfold fineS
  rw [show (he3.who.toList == []) = true from wnil]
  rfl
theorem hs3_ok : vldB hs3 = true := hd3 ▸ next_valid hs2_ok
theorem hd4 : judS hs3 he4 = 0 ∧ nextS hs3 he4 = hs4 := by
  have h := next_of hs3_ok he4_ok (by decide) rfl (by decide) (by decide)
  refine ⟨h.1, ?_⟩
  rw [h.2]
  unfold fineS
  rw [show (he4.who.toList == []) = true from wnil]
  rfl
theorem hs4_ok : vldB hs4 = true := hd4.2 ▸ next_valid hs3_ok
theorem hs3_fold : foldS (empS 7) [he1, he2, he3] = hs3 := by
  show nextS (nextS (nextS (empS 7) he1) he2) he3 = hs3
  rw [hd1, hd2, hd3]
theorem hs3_due : dueS hs3 = 1208 := by decide
end Go.Proofs.YtblfmfanfpohbaaGreat
namespace Go.Proofs.YtblfmfanfpohbaaGreat
open Go.ChangeShapes Go.WideShapes Go.ChangeAt Go.RowKit
set_option linter.unusedVariables false
set_option linter.unusedSimpArgs false
theorem evs3 (w : World) (a b c : Ev) (T : TypeId) : EvsIn (w.alloc (.cells (evA a ++ evA b ++ evA c) T)) (some ⟨w.heap.size, 0, none⟩) [a, b, c] := by
  refine .inr ⟨w.heap.size, 0, rfl, by simp, fun k e he j u hu => ?_⟩
  rw [cell_of_row _ w.heap.size _ _ _ (0, 0) (heap_alloc_new w _)]
  have hj : j < 10 := by
    have h := hu
    by_cases hh : j < 10
    · exact hh
    · rw [Array.getElem?_eq_none (by simp [evA]; omega)] at h; cases h
  have hk : k = 0 ∨ k = 1 ∨ k = 2 := by have := ln_lt he; simp at this; omega
  rcases hk with rfl | rfl | rfl
  · simp at he; subst he
    simp only [Nat.zero_add, Nat.zero_mul]
    rw [Array.append_assoc, Array.getElem?_append_left (by simp [evA]; omega)]
    exact hu
  · simp at he; subst he
    rw [Array.append_assoc, Array.getElem?_append_right (by simp [evA]), Array.getElem?_append_left (by simp [evA]; omega)]
    simpa [evA] using hu
  · simp at he; subst he
    rw [Array.getElem?_append_right (by simp [evA])]
    simpa [evA] using hu
set_option maxRecDepth 20000 in
set_option maxHeartbeats 4000000 in
theorem head08_any (w : World) : Calls Tryz.prog 4 #[] w fun r w' => r = .returned (.bool true) ∧ Below w.heap.size w w' := by
  have T1 : Hid True := trivial
  have T2 : Hid True := trivial
  go_enter Tryz.func4, Tryz.ntmps4
  go_wp2_with (first
    | (go_at_call 10; refine (empty_any 7 _).mono ?_; rintro _ x0 ⟨rfl, hb0⟩; have HB0 : Hid (Below w.heap.size w x0) := hb0; clear hb0)
    | (go_at_call 9; refine (fold_any (empS 7) [he1, he2, he3] none _ 0 0 3 3 _ rfl (.inl rfl) (by decide) rfl (evs3 x0 he1 he2 he3 _) (by decide)).mono ?_; rw [hs3_fold]; rintro _ x1 ⟨a1, n1, c1, rfl, ho1, hb1⟩; obtain rfl : 2 = n1 := ho1.len; have HB1 : Hid (Below w.heap.size w x1) := below_next (HB0.out.alloc HB0.out.size _) hb1; have HL1 : Hid (Lns x1 a1 hs3.lines) := ownl_lns ho1; clear ho1 hb1)
    | ((with_reducible refine guard_store 25 ?_); clear T1; refine wpList_store_st (s := zeroS) (s2 := hs3) (a2 := a1) (n2 := 2) (c2 := c1) rfl _ _ rfl (StAt.new x1 zeroS (.slice none 0 0)) rfl rfl ?_; intro x2 z1 z2 z3 z4; have hu := (z2 _ _ ((Below.refl x1.heap.size x1).alloc (Nat.le_refl _) _) (Nat.le_refl _)); have HB2 : Hid (Below w.heap.size w x2) := below_next HB1.out hu; have HL2 : Hid (Lns x2 a1 hs3.lines) := HL1.out.keep hu; have HS2 : Hid (StAt x2 x1.heap.size hs3 (.slice a1 2 c1)) := z1; clear z1 z2 z3 z4 hu)
    | ((with_reducible refine guard_load 25 ?_); first | refine wpList_load_st rfl _ rfl HS3.out rfl ?_ | refine wpList_load_st rfl _ rfl HS2.out rfl ?_)
    | (go_at_call 8; refine (odue_any hs3 a1 2 c1 _ rfl HL2.out (by decide)).mono ?_; rw [hs3_ok, if_pos rfl, hs3_due]; rintro _ x3 ⟨rfl, hb3⟩; have HB3 : Hid (Below w.heap.size w x3) := below_next HB2.out hb3; have HL3 : Hid (Lns x3 a1 hs3.lines) := HL2.out.keep hb3; have HS3 : Hid (StAt x3 x1.heap.size hs3 (.slice a1 2 c1)) := HS2.out.after hb3; clear hb3)
    | (go_at_call 11; refine (apply_any hs3 he4 a1 2 c1 _ rfl HL3.out (by decide)).mono ?_; rw [hd4.1, hd4.2]; rintro _ x4 ⟨a4, n4, c4, rfl, ho4, hb4⟩; obtain rfl : 2 = n4 := ho4.len; have HB4 : Hid (Below w.heap.size w x4) := below_next HB3.out hb4; have HL4 : Hid (Lns x4 a1 hs3.lines) := HL3.out.keep hb4; have HS4 : Hid (StAt x4 x1.heap.size hs3 (.slice a1 2 c1)) := HS3.out.after hb4; have HM4 : Hid (Lns x4 a4 hs4.lines) := ownl_lns ho4; clear ho4 hb4)
    | ((with_reducible refine guard_store 25 ?_); clear T2; refine wpList_store_st (s := zeroS) (s2 := hs4) (a2 := a4) (n2 := 2) (c2 := c4) rfl _ _ rfl (StAt.new x4 zeroS (.slice none 0 0)) rfl rfl ?_; intro x5 z1 z2 z3 z4; have hu := (z2 _ _ ((Below.refl x4.heap.size x4).alloc (Nat.le_refl _) _) (Nat.le_refl _)); have HB5 : Hid (Below w.heap.size w x5) := below_next HB4.out hu; have HM5 : Hid (Lns x5 a4 hs4.lines) := HM4.out.keep hu; have HT5 : Hid (StAt x5 x4.heap.size hs4 (.slice a4 2 c4)) := z1; have g5 := (HS4.out.after hu).cell 5 (.slice a1 2 c1) rfl; have t1 := HT5.out.cell 1 (.int .i64 3) rfl; obtain ⟨lb, lo, hlo, _, l0, _⟩ := (HL4.out.keep hu).cells 0 ⟨1, 99, 1, 0⟩ rfl; subst hlo; simp only [Nat.zero_mul, Nat.add_zero] at l0; clear z1 z2 z3 z4 hu)
    | ((with_reducible refine guard_loadg 25 ?_); refine wpList_load_stg rfl _ rfl HT5.out rfl ?_)
    | (go_at_call 12; refine (valid_st hs4 a4 2 c4 _ rfl HM5.out (by decide)).mono ?_; rw [hs4_ok]; rintro _ x6 ⟨rfl, hb6⟩; have HB6 : Hid (Below w.heap.size w x6) := below_next HB5.out hb6; clear hb6))
  go_ret
  exact ⟨rfl, HB6.out⟩
end Go.Proofs.YtblfmfanfpohbaaGreat
