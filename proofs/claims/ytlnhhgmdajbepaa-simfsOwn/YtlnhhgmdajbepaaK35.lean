/- Own texts, joined: Rc5b. -/
import Derived.Test.YtlnhhgmdajbepaaK28
namespace Go.Proofs.Ytlnhhgmdajbepaa
open Go.ChangeShapes Go.WideShapes Go.ChangeAt Go.RowKit
set_option linter.unusedVariables false
set_option linter.unusedSimpArgs false
set_option maxRecDepth 100000 in
set_option maxHeartbeats 16000000 in
theorem rchange_5b (w : World) (X : List (Fa × Value)) (a : Option Addr) (n c : Nat) (q : Rn) (hn : X.length = n) (hX : FlsA w a X) (hnl : n ≤ 1000) (o : Oa) (ho : OpIn w o) (hk : o.k = 5) (f : Fa) (hg : getA (X.map Prod.fst) o.nm = some f) (hsz : f.l.length ≤ 67108864) (N : Nat) (hN : o.n = (N : Int)) (hNl : N ≤ f.l.length) (hcm : (N : Int) < (f.s : Int)) :
    Calls Try.prog 48 #[rdV (.slice a n c) q, opV o] w fun r w' => ∃ a' j c' Y, r = .returned (rdV (.slice a' j c') q) ∧ FlsB X w w' a' Y ∧ Y.length = j ∧ Y.map Prod.fst = chA (X.map Prod.fst) f o ∧ Below w.heap.size w w' := by
  have HE : Hid (chA (X.map Prod.fst) f o = putL ⟨f.name, f.l.take o.n.toNat, min f.s o.n.toNat⟩ false (delA (X.map Prod.fst) o.nm)) := by show _ = _; unfold chA; simp [hk]
  rw [HE.out]
  have hC := Ch3.start w (.slice a n c) q o
  obtain ⟨W, hW⟩ : ∃ W, (((w.alloc (.cells #[.slice a n c, .int .i64 q.room, .int .i64 q.fuse, .bool q.off, .int .i64 q.steps, .int .i64 q.read] 28)).alloc (.cells #[.int .i64 o.k, .string (bs o.nm), .string (bs o.to), .slice o.P o.lb.length o.C, .int .i64 o.n, .int .i64 o.m, .slice o.K o.ks.length o.CK] 34)).alloc (.cells #[.slice none 0 0, .int .i64 0, .int .i64 0, .bool false, .int .i64 0, .int .i64 0] 28)) = W := ⟨_, rfl⟩
  have HW : Hid ((((w.alloc (.cells #[.slice a n c, .int .i64 q.room, .int .i64 q.fuse, .bool q.off, .int .i64 q.steps, .int .i64 q.read] 28)).alloc (.cells #[.int .i64 o.k, .string (bs o.nm), .string (bs o.to), .slice o.P o.lb.length o.C, .int .i64 o.n, .int .i64 o.m, .slice o.K o.ks.length o.CK] 34)).alloc (.cells #[.slice none 0 0, .int .i64 0, .int .i64 0, .bool false, .int .i64 0, .int .i64 0] 28)) = W) := hW
  rw [hW] at hC
  have HC : Hid (Ch3 w W (.slice a n c) q o) := hC
  have HN : Hid (X.length = n ∧ n ≤ 1000) := ⟨hn, hnl⟩
  have HX : Hid (FlsA w a X) := hX
  have HXW : Hid (FlsA W a X) := hX.keep hC.low
  have HO : Hid (OpIn w o) := ho
  have HK : Hid (o.k = 5) := hk
  have HG : Hid (getA (X.map Prod.fst) o.nm = some f) := hg
  have HSZ : Hid (f.l.length ≤ 67108864) := hsz
  have HLO : Hid (w.heap.size + 1 + 1 < W.heap.size) := hC.rz.lt
  have HH5 : Hid (o.n = (N : Int) ∧ N ≤ f.l.length) := ⟨hN, hNl⟩
  have HCM : Hid ((N : Int) < (f.s : Int)) := hcm
  clear hN hNl hcm
  clear hW hC hn hX ho hk hg hsz
  go_enter Try.func48, Try.ntmps48
  go_upto_region 1 with fail
  try simp only [Act.put]
  rw [HW.out]
  obtain ⟨c0, c1, c2, c3, c4, c5, c6⟩ := HC.out.op.cells
  rw [HK.out] at c0
  have d0 := HC.out.rd.cells.1
  have HPW : Hid ((fun y => RdAt y w.heap.size (.slice a n c) q ∧ OpAt y (w.heap.size + 1) o ∧ FlsA y a X) W) := ⟨HC.out.rd, HC.out.op, HXW.out⟩
  go_upto_region 4 with fail
  try simp only [Act.put]
  clear c0 c1 c2 c3 c4 c5 c6 d0
  go_cut [5] (fun v5 wx => ∃ kf a2 m2 c2, v5 = .pointer (some ⟨kf, 0, none⟩) ∧ Hid (FlAt wx kf f.name (.slice a2 m2 c2) (f.s : Int) ∧ W.heap.size ≤ kf ∧ Below W.heap.size W wx) ∧ Hid (f.l.length = m2 ∧ FvIn w (f, .slice a2 m2 c2) ∧ (f, .slice a2 m2 c2) ∈ X))
  case first =>
    refine wp_region_held (S := (fun y => RdAt y w.heap.size (.slice a n c) q ∧ OpAt y (w.heap.size + 1) o ∧ FlsA y a X)) (by kernel_rfl) ?_
    change wpAnyH _ _ _ _ _ _ _ _ (World.drew _)
    obtain ⟨xd, hxd⟩ : ∃ xd, W.drew = xd := ⟨_, rfl⟩
    have HBD : Hid (Below W.heap.size W xd) := by rw [← hxd]; exact (Below.refl _ _).drew
    rw [hxd]
    clear hxd
    have HPD : Hid ((fun y => RdAt y w.heap.size (.slice a n c) q ∧ OpAt y (w.heap.size + 1) o ∧ FlsA y a X) xd) := ⟨HPW.out.1.keep HBD.out, HPW.out.2.1.keep HBD.out, HPW.out.2.2.keep HBD.out⟩
    refine wpAnyH_take (i := 0) (oi := { dst := some 18, op := Op.fieldAddr 28 (Operand.tmp 2) 0, type := 0, pos := "ref.go:190", after := #[], guard := none }) (v := ?_) rfl (by kernel_rfl) (by kernel_rfl) (by kernel_rfl) (fun _ _ _ h => h) (Or.inl ⟨by rfl, ?_⟩) HPD.out ?_
    rotate_left
    · (intro y hy; go_simp; try (with_reducible rfl))
    simp only [Act.put, List.setIfInBounds_toArray, List.set_cons_zero, List.set_cons_succ]
    refine wpAnyH_take (i := 1) (oi := { dst := some 19, op := Op.load 26 (Operand.tmp 18), type := 26, pos := "ref.go:190", after := #[{ on := 0, ground := Ground.data }], guard := none }) (v := .slice a n c) rfl (by kernel_rfl) (by kernel_rfl) (by kernel_rfl) (fun _ _ _ h => h) (Or.inl ⟨by rfl, ?_⟩) HPD.out ?_
    · (intro y hy; have h0 := hy.1.cells.1; go_simp)
    simp only [Act.put, List.setIfInBounds_toArray, List.set_cons_zero, List.set_cons_succ]
    refine wpAnyH_take (i := 2) (oi := { dst := some 20, op := Op.load 28 (Operand.tmp 2), type := 28, pos := "ref.go:190", after := #[], guard := none }) (v := rdV (.slice a n c) q) rfl (by kernel_rfl) (by kernel_rfl) (by kernel_rfl) (fun _ _ _ h => h) (Or.inl ⟨by rfl, fun y hy => exec_load_rd (.tmp 2) rfl rfl hy.1⟩) HPD.out ?_
    simp only [Act.put, List.setIfInBounds_toArray, List.set_cons_zero, List.set_cons_succ]
    refine wpAnyH_take (i := 3) (oi := { dst := some 21, op := Op.fieldAddr 34 (Operand.tmp 3) 1, type := 0, pos := "ref.go:190", after := #[], guard := none }) (v := ?_) rfl (by kernel_rfl) (by kernel_rfl) (by kernel_rfl) (fun _ _ _ h => h) (Or.inl ⟨by rfl, ?_⟩) HPD.out ?_
    rotate_left
    · (intro y hy; go_simp; try (with_reducible rfl))
    simp only [Act.put, List.setIfInBounds_toArray, List.set_cons_zero, List.set_cons_succ]
    refine wpAnyH_take (i := 4) (oi := { dst := some 22, op := Op.load 9 (Operand.tmp 21), type := 9, pos := "ref.go:190", after := #[{ on := 3, ground := Ground.data }], guard := none }) (v := .string (bs o.nm)) rfl (by kernel_rfl) (by kernel_rfl) (by kernel_rfl) (fun _ _ _ h => h) (Or.inl ⟨by rfl, ?_⟩) HPD.out ?_
    · (intro y hy; have h0 := hy.2.1.cells.2.1; go_simp)
    simp only [Act.put, List.setIfInBounds_toArray, List.set_cons_zero, List.set_cons_succ]
    refine wpAnyH_ready (rs := [5, 8]) (by kernel_rfl) (by simp) ?_
    refine AllReadyH.cons (o := { dst := some 23, op := Op.call { callee := Callee.value (Operand.func 47), args := #[Operand.tmp 20, Operand.tmp 22], argTypes := #[28, 9] }, type := 3, pos := "ref.go:190", after := #[{ on := 2, ground := Ground.data }, { on := 4, ground := Ground.data }], guard := none }) rfl (fun K hK => ?_) (AllReadyH.cons (o := { dst := some 5, op := Op.alloc 49, type := 0, pos := "ref.go:190", after := #[], guard := none }) rfl (fun K hK => ?_) AllReadyH.nil)
    · go_simp
      refine (rat_any xd X a n c q HN.out.1 HPD.out.2.2 (by have := HN.out.2; omega) o.nm HO.out.nm).mono ?_
      rintro _ y5 ⟨z, rfl, hb5, hz⟩
      obtain ⟨i, f1, rfl, hi, hxi, hg⟩ : ∃ (i : Nat) (f1 : Fa), z = (i : Int) ∧ i < n ∧ (X.map Prod.fst)[i]? = some f1 ∧ f1 = f := by
        rcases hz with ⟨_, h9⟩ | ⟨i, f1, h1, h2, h3, h4, _⟩
        · rw [HG.out] at h9; cases h9
        · rw [HG.out] at h4; exact ⟨i, f1, h1, h2, h3, (Option.some.inj h4).symm⟩
      subst hg
      obtain ⟨⟨f2, bv⟩, hp, hf2⟩ : ∃ p, X[i]? = some p ∧ p.1 = f1 := by
        rw [List.getElem?_map] at hxi
        cases hh : X[i]? with
        | none => rw [hh] at hxi; cases hxi
        | some p => rw [hh] at hxi; exact ⟨p, rfl, Option.some.inj hxi⟩
      simp only at hf2
      subst hf2
      obtain ⟨a2, c2, e2, hby2⟩ := HX.out.fv (List.mem_of_getElem? hp)
      simp only at e2 hby2
      subst e2
      obtain ⟨m2, hm2⟩ : ∃ m2, f2.l.length = m2 := ⟨_, rfl⟩
      obtain ⟨b0, off, hab, hlt0, _⟩ := HX.out.range hp
      subst hab
      have HRG : Hid (∀ y : World, FlsA y (some ⟨b0, off, none⟩) X → y.rangeAt b0 (off + i * 3) [.string (bs f2.name), .slice a2 m2 c2, .int .i64 (f2.s : Int)]) := fun y hy => by
        obtain ⟨b9, off9, h1, _, h3⟩ := hy.range hp
        injection h1 with h1
        injection h1 with h4 h5
        subst h4 h5
        rw [hm2] at h3
        exact h3
      have HFV : Hid (f2.l.length = m2 ∧ FvIn w (f2, .slice a2 m2 c2) ∧ (f2, .slice a2 m2 c2) ∈ X) := ⟨hm2, ⟨a2, c2, by rw [← hm2], hby2⟩, by have h9 := List.mem_of_getElem? hp; rw [hm2] at h9; exact h9⟩
      have hiI : (i : Int) < (n : Int) := by omega
      have hi0 : (0 : Int) ≤ (i : Int) := by omega
      have HBC : Hid (Below xd.heap.size xd y5) := hb5
      have HPC : Hid ((fun y => RdAt y w.heap.size (.slice (some ⟨b0, off, none⟩) n c) q ∧ OpAt y (w.heap.size + 1) o ∧ FlsA y (some ⟨b0, off, none⟩) X) y5) := ⟨HPD.out.1.keep HBC.out, HPD.out.2.1.keep HBC.out, HPD.out.2.2.keep HBC.out⟩
      clear hp hxi hby2 hlt0 hb5 hm2 hz
      have HB5 : Hid (Below W.heap.size W y5) := below_next HBD.out HBC.out
      (refine hK _ _ HPC.out ?_; clear hK K; intro _)
      try simp only [Act.put, List.setIfInBounds_toArray, List.set_cons_zero, List.set_cons_succ]
      refine wpAnyH_take (i := 6) (oi := { dst := some 24, op := Op.indexAddr 26 (Operand.tmp 19) (Operand.tmp 23), type := 0, pos := "ref.go:190", after := #[{ on := 1, ground := Ground.data }, { on := 5, ground := Ground.data }], guard := none }) (v := .pointer (some ⟨b0, off + i * 3, none⟩)) rfl (by kernel_rfl) (by kernel_rfl) (by kernel_rfl) (fun _ _ _ h => h) (Or.inl ⟨by rfl, ?_⟩) HPC.out ?_
      · (intro y hy; go_simp)
      simp only [Act.put, List.setIfInBounds_toArray, List.set_cons_zero, List.set_cons_succ]
      refine wpAnyH_take (i := 7) (oi := { dst := some 25, op := Op.load 49 (Operand.tmp 24), type := 49, pos := "ref.go:190", after := #[{ on := 6, ground := Ground.data }], guard := none }) (v := flV f2.name (.slice a2 m2 c2) (f2.s : Int)) rfl (by kernel_rfl) (by kernel_rfl) (by kernel_rfl) (fun _ _ _ h => h) (Or.inl ⟨by rfl, fun y hy => exec_load_flr (.tmp 24) rfl rfl (HRG.out y hy.2.2)⟩) HPC.out ?_
      simp only [Act.put, List.setIfInBounds_toArray, List.set_cons_zero, List.set_cons_succ]
      refine wpAnyH_ready (rs := [8]) (by kernel_rfl) (by simp) ?_
      refine AllReadyH.cons (o := { dst := some 5, op := Op.alloc 49, type := 0, pos := "ref.go:190", after := #[], guard := none }) rfl (fun K hK => ?_) AllReadyH.nil
      go_simp
      have hn4 : FlAt (y5.alloc (.cells #[.string ⟨#[]⟩, .slice none 0 0, .int .i64 0] 49)) y5.heap.size [] (.slice none 0 0) 0 := heap_alloc_new y5 _
      obtain ⟨y4, hy4⟩ : ∃ y4, y5.alloc (.cells #[.string ⟨#[]⟩, .slice none 0 0, .int .i64 0] 49) = y4 := ⟨_, rfl⟩
      rw [hy4]
      have hb4 : Below y5.heap.size y5 y4 := by rw [← hy4]; exact (Below.refl _ _).alloc (Nat.le_refl _) _
      rw [hy4] at hn4
      have HZ : Hid (FlAt y4 y5.heap.size [] (.slice none 0 0) 0 ∧ W.heap.size ≤ y5.heap.size ∧ Below W.heap.size W y4) := ⟨hn4, HB5.out.size, below_next HB5.out hb4⟩
      have HPA : Hid ((fun y => RdAt y w.heap.size (.slice (some ⟨b0, off, none⟩) n c) q ∧ OpAt y (w.heap.size + 1) o ∧ FlsA y (some ⟨b0, off, none⟩) X) y4) := ⟨HPC.out.1.keep hb4, HPC.out.2.1.keep hb4, HPC.out.2.2.keep hb4⟩
      clear hy4 hb4 hn4
      (refine hK _ _ HPA.out ?_; clear hK K; intro _)
      try simp only [Act.put, List.setIfInBounds_toArray, List.set_cons_zero, List.set_cons_succ]
      refine wpAnyH_ready (rs := [9]) (by kernel_rfl) (by simp) ?_
      refine AllReadyH.cons (o := { dst := none, op := Op.store 49 (Operand.tmp 5) (Operand.tmp 25), type := 0, pos := "ref.go:190", after := #[{ on := 8, ground := Ground.data }, { on := 7, ground := Ground.data }, { on := 5, ground := Ground.chain }, { on := 0, ground := Ground.phase }, { on := 1, ground := Ground.phase }, { on := 2, ground := Ground.phase }, { on := 3, ground := Ground.phase }, { on := 4, ground := Ground.phase }, { on := 5, ground := Ground.phase }, { on := 6, ground := Ground.phase }, { on := 7, ground := Ground.phase }, { on := 8, ground := Ground.phase }], guard := none }) rfl (fun K hK => ?_) AllReadyH.nil
      refine step_store_fl rfl _ _ rfl rfl HZ.out.1 (slice_one a2 m2 c2) rfl rfl (nm2 := f2.name) (v2 := .slice a2 m2 c2) (s2 := (f2.s : Int)) ?_
      intro y6 hf6 ho6
      have HF6 : Hid (FlAt y6 y5.heap.size f2.name (.slice a2 m2 c2) (f2.s : Int) ∧ W.heap.size ≤ y5.heap.size ∧ Below W.heap.size W y6) := ⟨hf6, HZ.out.2.1, ho6 _ _ HZ.out.2.2 HZ.out.2.1⟩
      have hbx : Below W.heap.size W y6 := HF6.out.2.2
      have HPS : Hid ((fun y => RdAt y w.heap.size (.slice (some ⟨b0, off, none⟩) n c) q ∧ OpAt y (w.heap.size + 1) o ∧ FlsA y (some ⟨b0, off, none⟩) X) y6) := ⟨HPW.out.1.keep hbx, HPW.out.2.1.keep hbx, HPW.out.2.2.keep hbx⟩
      clear hf6 ho6 hbx
      (refine hK _ _ HPS.out ?_; clear hK K; intro _)
      try simp only [Act.put, List.setIfInBounds_toArray, List.set_cons_zero, List.set_cons_succ]
      refine wpAnyH_done (by kernel_rfl) ?_ _
      go_wp2_with fail
      go_meet
      exact ⟨y5.heap.size, a2, m2, c2, rfl, HF6.out, HFV.out⟩
    · go_simp
      have hn4 : FlAt (xd.alloc (.cells #[.string ⟨#[]⟩, .slice none 0 0, .int .i64 0] 49)) xd.heap.size [] (.slice none 0 0) 0 := heap_alloc_new xd _
      obtain ⟨y4, hy4⟩ : ∃ y4, xd.alloc (.cells #[.string ⟨#[]⟩, .slice none 0 0, .int .i64 0] 49) = y4 := ⟨_, rfl⟩
      rw [hy4]
      have hb4 : Below xd.heap.size xd y4 := by rw [← hy4]; exact (Below.refl _ _).alloc (Nat.le_refl _) _
      rw [hy4] at hn4
      have HZ : Hid (FlAt y4 xd.heap.size [] (.slice none 0 0) 0 ∧ W.heap.size ≤ xd.heap.size ∧ Below W.heap.size W y4) := ⟨hn4, HBD.out.size, below_next HBD.out hb4⟩
      have HPA : Hid ((fun y => RdAt y w.heap.size (.slice a n c) q ∧ OpAt y (w.heap.size + 1) o ∧ FlsA y a X) y4) := ⟨HPD.out.1.keep hb4, HPD.out.2.1.keep hb4, HPD.out.2.2.keep hb4⟩
      clear hy4 hb4 hn4
      (refine hK _ _ HPA.out ?_; clear hK K; intro _)
      try simp only [Act.put, List.setIfInBounds_toArray, List.set_cons_zero, List.set_cons_succ]
      refine wpAnyH_ready (rs := [5]) (by kernel_rfl) (by simp) ?_
      refine AllReadyH.cons (o := { dst := some 23, op := Op.call { callee := Callee.value (Operand.func 47), args := #[Operand.tmp 20, Operand.tmp 22], argTypes := #[28, 9] }, type := 3, pos := "ref.go:190", after := #[{ on := 2, ground := Ground.data }, { on := 4, ground := Ground.data }], guard := none }) rfl (fun K hK => ?_) AllReadyH.nil
      go_simp
      refine (rat_any y4 X a n c q HN.out.1 HPA.out.2.2 (by have := HN.out.2; omega) o.nm HO.out.nm).mono ?_
      rintro _ y5 ⟨z, rfl, hb5, hz⟩
      obtain ⟨i, f1, rfl, hi, hxi, hg⟩ : ∃ (i : Nat) (f1 : Fa), z = (i : Int) ∧ i < n ∧ (X.map Prod.fst)[i]? = some f1 ∧ f1 = f := by
        rcases hz with ⟨_, h9⟩ | ⟨i, f1, h1, h2, h3, h4, _⟩
        · rw [HG.out] at h9; cases h9
        · rw [HG.out] at h4; exact ⟨i, f1, h1, h2, h3, (Option.some.inj h4).symm⟩
      subst hg
      obtain ⟨⟨f2, bv⟩, hp, hf2⟩ : ∃ p, X[i]? = some p ∧ p.1 = f1 := by
        rw [List.getElem?_map] at hxi
        cases hh : X[i]? with
        | none => rw [hh] at hxi; cases hxi
        | some p => rw [hh] at hxi; exact ⟨p, rfl, Option.some.inj hxi⟩
      simp only at hf2
      subst hf2
      obtain ⟨a2, c2, e2, hby2⟩ := HX.out.fv (List.mem_of_getElem? hp)
      simp only at e2 hby2
      subst e2
      obtain ⟨m2, hm2⟩ : ∃ m2, f2.l.length = m2 := ⟨_, rfl⟩
      obtain ⟨b0, off, hab, hlt0, _⟩ := HX.out.range hp
      subst hab
      have HRG : Hid (∀ y : World, FlsA y (some ⟨b0, off, none⟩) X → y.rangeAt b0 (off + i * 3) [.string (bs f2.name), .slice a2 m2 c2, .int .i64 (f2.s : Int)]) := fun y hy => by
        obtain ⟨b9, off9, h1, _, h3⟩ := hy.range hp
        injection h1 with h1
        injection h1 with h4 h5
        subst h4 h5
        rw [hm2] at h3
        exact h3
      have HFV : Hid (f2.l.length = m2 ∧ FvIn w (f2, .slice a2 m2 c2) ∧ (f2, .slice a2 m2 c2) ∈ X) := ⟨hm2, ⟨a2, c2, by rw [← hm2], hby2⟩, by have h9 := List.mem_of_getElem? hp; rw [hm2] at h9; exact h9⟩
      have hiI : (i : Int) < (n : Int) := by omega
      have hi0 : (0 : Int) ≤ (i : Int) := by omega
      have HBC : Hid (Below y4.heap.size y4 y5) := hb5
      have HPC : Hid ((fun y => RdAt y w.heap.size (.slice (some ⟨b0, off, none⟩) n c) q ∧ OpAt y (w.heap.size + 1) o ∧ FlsA y (some ⟨b0, off, none⟩) X) y5) := ⟨HPA.out.1.keep HBC.out, HPA.out.2.1.keep HBC.out, HPA.out.2.2.keep HBC.out⟩
      clear hp hxi hby2 hlt0 hb5 hm2 hz
      have HZ5 : Hid (FlAt y5 xd.heap.size [] (.slice none 0 0) 0 ∧ W.heap.size ≤ xd.heap.size ∧ Below W.heap.size W y5) := ⟨HZ.out.1.keep HBC.out, HZ.out.2.1, below_next HZ.out.2.2 HBC.out⟩
      (refine hK _ _ HPC.out ?_; clear hK K; intro _)
      try simp only [Act.put, List.setIfInBounds_toArray, List.set_cons_zero, List.set_cons_succ]
      refine wpAnyH_take (i := 6) (oi := { dst := some 24, op := Op.indexAddr 26 (Operand.tmp 19) (Operand.tmp 23), type := 0, pos := "ref.go:190", after := #[{ on := 1, ground := Ground.data }, { on := 5, ground := Ground.data }], guard := none }) (v := .pointer (some ⟨b0, off + i * 3, none⟩)) rfl (by kernel_rfl) (by kernel_rfl) (by kernel_rfl) (fun _ _ _ h => h) (Or.inl ⟨by rfl, ?_⟩) HPC.out ?_
      · (intro y hy; go_simp)
      simp only [Act.put, List.setIfInBounds_toArray, List.set_cons_zero, List.set_cons_succ]
      refine wpAnyH_take (i := 7) (oi := { dst := some 25, op := Op.load 49 (Operand.tmp 24), type := 49, pos := "ref.go:190", after := #[{ on := 6, ground := Ground.data }], guard := none }) (v := flV f2.name (.slice a2 m2 c2) (f2.s : Int)) rfl (by kernel_rfl) (by kernel_rfl) (by kernel_rfl) (fun _ _ _ h => h) (Or.inl ⟨by rfl, fun y hy => exec_load_flr (.tmp 24) rfl rfl (HRG.out y hy.2.2)⟩) HPC.out ?_
      simp only [Act.put, List.setIfInBounds_toArray, List.set_cons_zero, List.set_cons_succ]
      refine wpAnyH_ready (rs := [9]) (by kernel_rfl) (by simp) ?_
      refine AllReadyH.cons (o := { dst := none, op := Op.store 49 (Operand.tmp 5) (Operand.tmp 25), type := 0, pos := "ref.go:190", after := #[{ on := 8, ground := Ground.data }, { on := 7, ground := Ground.data }, { on := 5, ground := Ground.chain }, { on := 0, ground := Ground.phase }, { on := 1, ground := Ground.phase }, { on := 2, ground := Ground.phase }, { on := 3, ground := Ground.phase }, { on := 4, ground := Ground.phase }, { on := 5, ground := Ground.phase }, { on := 6, ground := Ground.phase }, { on := 7, ground := Ground.phase }, { on := 8, ground := Ground.phase }], guard := none }) rfl (fun K hK => ?_) AllReadyH.nil
      refine step_store_fl rfl _ _ rfl rfl HZ5.out.1 (slice_one a2 m2 c2) rfl rfl (nm2 := f2.name) (v2 := .slice a2 m2 c2) (s2 := (f2.s : Int)) ?_
      intro y6 hf6 ho6
      have HF6 : Hid (FlAt y6 xd.heap.size f2.name (.slice a2 m2 c2) (f2.s : Int) ∧ W.heap.size ≤ xd.heap.size ∧ Below W.heap.size W y6) := ⟨hf6, HZ5.out.2.1, ho6 _ _ HZ5.out.2.2 HZ5.out.2.1⟩
      have hbx : Below W.heap.size W y6 := HF6.out.2.2
      have HPS : Hid ((fun y => RdAt y w.heap.size (.slice (some ⟨b0, off, none⟩) n c) q ∧ OpAt y (w.heap.size + 1) o ∧ FlsA y (some ⟨b0, off, none⟩) X) y6) := ⟨HPW.out.1.keep hbx, HPW.out.2.1.keep hbx, HPW.out.2.2.keep hbx⟩
      clear hf6 ho6 hbx
      (refine hK _ _ HPS.out ?_; clear hK K; intro _)
      try simp only [Act.put, List.setIfInBounds_toArray, List.set_cons_zero, List.set_cons_succ]
      refine wpAnyH_done (by kernel_rfl) ?_ _
      go_wp2_with fail
      go_meet
      exact ⟨xd.heap.size, a2, m2, c2, rfl, HF6.out, HFV.out⟩
  case rest =>
    obtain ⟨kf, a2, m2, c2, rfl, HF, HFV⟩ := hcut
    have HC6 : Hid (Ch3 w wc (.slice a n c) q o) := HC.out.keep HF.out.2.2
    obtain ⟨c0, c1, c2', c3, c4, c5, c6⟩ := HC6.out.op.cells
    rw [HK.out] at c0
    have d0 := HC6.out.rd.cells.1
    obtain ⟨LT, hLT⟩ : ∃ LT, f.l.take N = LT := ⟨_, rfl⟩
    have HLT : Hid (f.l.take N = LT) := hLT
    have HNT : Hid (LT.length = N) := by show _ = _; rw [← hLT, List.length_take]; have := HH5.out.2; omega
    clear hLT
    have hNI : (N : Int) ≤ (m2 : Int) := by have h1 := HH5.out.2; rw [HFV.out.1] at h1; omega
    have hN0 : (0 : Int) ≤ (N : Int) := by omega
    have hN6 : (N : Int) ≤ 140737488351232 := by have h1 := HSZ.out; have h2 := HH5.out.2; omega
    have hmM : (m2 : Int) ≤ 67108864 := by have h1 := HSZ.out; rw [HFV.out.1] at h1; omega
    have hmc : (m2 : Int) ≤ (c2 : Int) := by obtain ⟨a9, c9, h9, _, _, h8, _⟩ := HFV.out.2.1; simp only at h9 h8; injection h9 with _ _ h7; subst h7; rw [HFV.out.1] at h8; omega
    rw [HH5.out.1] at c4
    have hcmp : (N : Int) < (f.s : Int) := HCM.out
    have HMIN : Hid (min f.s o.n.toNat = N) := by show _ = _; rw [HH5.out.1]; omega
    have HTK : Hid (f.l.take o.n.toNat = LT) := by show _ = _; rw [HH5.out.1, ← HLT.out]; rfl
    go_wp2_with (first
      | (go_at_call 60; refine (rtake_any wc X a n c HN.out.1 (HX.out.keep HC6.out.low) (by have := HN.out.2; omega) o.nm HO.out.nm).mono ?_; rintro _ x6 ⟨a6, j6, c6', Y6, rfl, hw6, hl6, hn6, hm6, hy6, hb6⟩; have HY6 : Hid (Y6.length = j6 ∧ j6 ≤ n ∧ (∀ e ∈ Y6, e ∈ X) ∧ Y6.map Prod.fst = delA (X.map Prod.fst) o.nm) := ⟨hl6, hn6, hm6, hy6⟩; have H6 : Hid (Ch6 w x6 (.slice a n c) q o kf f.name (.slice a2 m2 c2) (f.s : Int) a6 Y6) := ⟨HC6.out.keep hb6, HF.out.1.keep hb6, Nat.lt_of_lt_of_le HLO.out HF.out.2.1, hw6.mono (lt_of_heap HF.out.1)⟩; obtain ⟨e0, e1, e2, e3, e4, e5, e6⟩ := H6.out.c.op.cells; rw [HK.out] at e0; obtain ⟨g0, g1, g2⟩ := H6.out.fl.cells; have z0 := H6.out.fl.froz 0; have z1 := H6.out.fl.froz 1; have z2 := H6.out.fl.froz 2; have r0 := H6.out.c.rd.cells.1; have rz := H6.out.c.rd.froz 0; have HCP : Hid (Bytes x6 a2 LT ∧ LT.length = N) := ⟨by obtain ⟨a9, c9, h9, h8, _⟩ := HFV.out.2.1.keep H6.out.c.low; simp only at h9 h8; injection h9 with h7 _ _; subst h7; rw [← HLT.out]; exact h8.take N, HNT.out⟩; rw [HH5.out.1] at e4; clear hw6 hl6 hn6 hm6 hy6 hb6)
      | (go_at_call 29; refine (copy_m LT N HCP.out.2 a2 c2 x6 HCP.out.1 hN6).mono ?_; rintro _ x7 ⟨v7, rfl, ho7, hb7⟩; obtain ⟨a7, c7, hv7⟩ : ∃ a7 c7, v7 = .slice a7 N c7 := (by obtain ⟨a9, c9, h9⟩ := row_shape ho7.2; exact ⟨a9, c9, by rw [h9, HCP.out.2]⟩); subst hv7; have HO7 : Hid (Own x7 x6.heap.size (.slice a7 N c7) LT) := ho7; have H6k : Hid (Ch6 w x7 (.slice a n c) q o kf f.name (.slice a2 m2 c2) (f.s : Int) a6 Y6) := H6.out.keep hb7; obtain ⟨k0, k1, k2⟩ := H6k.out.fl.cells; have y1 := H6k.out.fl.froz 1; have H6s : Hid (Ch6 w (x7.setCell ⟨kf, 1, none⟩ (.slice a7 N c7)) (.slice a n c) q o kf f.name (.slice a7 N c7) (f.s : Int) a6 Y6) := H6k.out.set1 _; obtain ⟨l0, l1, l2⟩ := H6s.out.fl.cells; obtain ⟨i0, i1, i2, i3, i4, i5, i6⟩ := H6s.out.c.op.cells; rw [HH5.out.1] at i4; have y2 := H6s.out.fl.froz 2; have H7 : Hid (Ch6 w ((x7.setCell ⟨kf, 1, none⟩ (.slice a7 N c7)).setCell ⟨kf, 2, none⟩ (.int .i64 (N : Int))) (.slice a n c) q o kf f.name (.slice a7 N c7) (N : Int) a6 Y6) := H6s.out.set2 _; have x9a := H7.out.c.rd.cells.1; have x9b := H7.out.c.rd.froz 0; have HFLS : Hid (FlsA ((x7.setCell ⟨kf, 1, none⟩ (.slice a7 N c7)).setCell ⟨kf, 2, none⟩ (.int .i64 (N : Int))) a6 Y6) := H7.out.fls HX.out HY6.out.2.2.1; have HW7 : Hid (W.heap.size ≤ (((x7.setCell ⟨kf, 1, none⟩ (.slice a7 N c7)).setCell ⟨kf, 2, none⟩ (.int .i64 (N : Int)))).heap.size) := Nat.le_trans HF.out.2.1 (Nat.le_of_lt (lt_of_heap H7.out.fl)); have HO8 : Hid (Own ((x7.setCell ⟨kf, 1, none⟩ (.slice a7 N c7)).setCell ⟨kf, 2, none⟩ (.int .i64 (N : Int))) x6.heap.size (.slice a7 N c7) LT) := Own.turn (x := x7) (y := ((x7.setCell ⟨kf, 1, none⟩ (.slice a7 N c7)).setCell ⟨kf, 2, none⟩ (.int .i64 (N : Int)))) (b := kf + 1) HO7.out (lt_of_heap H6.out.fl) (fun k hk _ => (heap_setCell_other (x7.setCell ⟨kf, 1, none⟩ (.slice a7 N c7)) ⟨kf, 2, none⟩ k _ (show k ≠ kf by omega)).trans (heap_setCell_other x7 ⟨kf, 1, none⟩ k _ (show k ≠ kf by omega))); clear ho7 hb7)
      | ((with_reducible refine guard_load 49 ?_); refine wpList_load_flb rfl _ rfl H7.out.fl rfl ?_)
      | (go_at_call 49; refine (rput_any _ Y6 a6 j6 c6' HY6.out.1 HFLS.out (by have := HN.out.2; have := HY6.out.2.1; omega) f.name LT N _ _ _ HNT.out).mono ?_; rintro _ x8 ⟨a8, c8, Y8, rfl, hw8, hl8, hm8, hy8, hb8⟩; have HB8 : Hid (∀ k, k < (((x7.setCell ⟨kf, 1, none⟩ (.slice a7 N c7)).setCell ⟨kf, 2, none⟩ (.int .i64 (N : Int)))).heap.size → x8.heap[k]? = (((x7.setCell ⟨kf, 1, none⟩ (.slice a7 N c7)).setCell ⟨kf, 2, none⟩ (.int .i64 (N : Int)))).heap[k]?) := (fun k h => hb8.block k h); have H8 : Hid (Ch3 w x8 (.slice a n c) q o) := H7.out.c.keep hb8; have r8 := H8.out.rd.cells.1; have rz8 := H8.out.rd.froz 0; have HS8 : Hid (Ch3 w (x8.setCell ⟨w.heap.size, 0, none⟩ (.slice a8 (j6 + 1) c8)) (.slice a8 (j6 + 1) c8) q o) := H8.out.set _; have HY8 : Hid (RowL W.heap.size x8 a8 Y8 ∧ Y8.length = j6 + 1 ∧ Mem1 Y6 (⟨f.name, LT, N⟩, .slice a7 N c7) Y8 ∧ Y8.map Prod.fst = putL ⟨f.name, LT, N⟩ false (Y6.map Prod.fst)) := ⟨hw8.mono HW7.out, hl8, hm8, hy8⟩; clear hw8 hl8 hm8 hy8 hb8)
      | ((with_reducible refine guard_load 28 ?_); refine wpList_load_rd rfl _ rfl HS8.out.rd rfl ?_)
      | ((with_reducible refine guard_store 28 ?_); refine wpList_store_rd rfl _ _ rfl rfl HS8.out.rz (slice_one _ _ _) rfl rfl (v2 := .slice a8 (j6 + 1) c8) (q2 := q) ?_; intro x9 hr9 hb9 hh9 hs9; have HR9 : Hid (RdAt x9 (w.heap.size + 1 + 1) (.slice a8 (j6 + 1) c8) q ∧ Below w.heap.size w x9) := ⟨hr9, hb9 _ _ HS8.out.low (by omega)⟩; have HL9 : Hid (∀ k, W.heap.size ≤ k → x9.heap[k]? = x8.heap[k]?) := fun k hk => (hh9 k (by have := HLO.out; omega)).trans (heap_setCell_other x8 ⟨w.heap.size, 0, none⟩ k _ (show k ≠ w.heap.size by have := HLO.out; omega)); clear hr9 hb9 hh9 hs9)
      | go_in)
    have hfin0 : FlsA x9 a8 Y8 := (HY8.out.1.turn (fun k h1 _ => HL9.out k h1)).fls (fun e he => by
      rcases HY8.out.2.2.1 e he with h | h
      · exact (HX.out.fv (HY6.out.2.2.1 e h)).keep HR9.out.2
      · rw [h]; exact ((Own.turn (x := ((x7.setCell ⟨kf, 1, none⟩ (.slice a7 N c7)).setCell ⟨kf, 2, none⟩ (.int .i64 (N : Int)))) (y := x9) (b := kf + 1) HO8.out (lt_of_heap H6.out.fl) (fun k hk h => (HL9.out k (by have := HF.out.2.1; omega)).trans (HB8.out k h))).fv (f := ⟨f.name, LT, _⟩) (by rw [HNT.out]; unfold maxLen; omega)))
    have hfin : FlsB X w x9 a8 Y8 := ⟨hfin0, (HY8.out.1.turn (fun k h1 _ => HL9.out k h1)).mono HC.out.low.size, fun e he => by
      rcases HY8.out.2.2.1 e he with h | h
      · exact .inl ⟨e, HY6.out.2.2.1 e h, rfl⟩
      · rw [h]; exact .inr (fun g hg => Nat.le_trans H6.out.c.low.size (Own.vblk HO8.out g hg))⟩
    exact bodyPost_ret (results_rd1 rfl _ _ _ rfl HR9.out.1) rfl ⟨a8, _, c8, Y8, rfl, hfin, HY8.out.2.1, by rw [HY8.out.2.2.2, HY6.out.2.2.2, HMIN.out, HTK.out], HR9.out.2⟩
end Go.Proofs.Ytlnhhgmdajbepaa
