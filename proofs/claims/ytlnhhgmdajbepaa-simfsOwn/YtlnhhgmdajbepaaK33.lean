/- Own texts, joined: Rc4. -/
import Derived.Test.YtlnhhgmdajbepaaK28
namespace Go.Proofs.Ytlnhhgmdajbepaa
open Go.ChangeShapes Go.WideShapes Go.ChangeAt Go.RowKit
set_option linter.unusedVariables false
set_option linter.unusedSimpArgs false
set_option maxRecDepth 100000 in
set_option maxHeartbeats 16000000 in
theorem rchange_4 (w : World) (X : List (Fa × Value)) (a : Option Addr) (n c : Nat) (q : Rn) (hn : X.length = n) (hX : FlsA w a X) (hnl : n ≤ 1000) (o : Oa) (ho : OpIn w o) (hk : o.k = 4) (f : Fa) (hg : getA (X.map Prod.fst) o.nm = some f) (hsz : f.l.length ≤ 67108864) :
    Calls Try.prog 48 #[rdV (.slice a n c) q, opV o] w fun r w' => ∃ a' j c' Y, r = .returned (rdV (.slice a' j c') q) ∧ FlsB X w w' a' Y ∧ Y.length = j ∧ Y.map Prod.fst = chA (X.map Prod.fst) f o ∧ Below w.heap.size w w' := by
  have HE : Hid (chA (X.map Prod.fst) f o = delA (X.map Prod.fst) o.nm) := by show _ = _; unfold chA; simp [hk]
  rw [HE.out]
  have hC := Ch3.start w (.slice a n c) q o
  obtain ⟨W, hW⟩ : ∃ W, (((w.alloc (.cells #[.slice a n c, .int .i64 q.room, .int .i64 q.fuse, .bool q.off, .int .i64 q.steps, .int .i64 q.read] 28)).alloc (.cells #[.int .i64 o.k, .string (bs o.nm), .string (bs o.to), .slice o.P o.lb.length o.C, .int .i64 o.n, .int .i64 o.m, .slice o.K o.ks.length o.CK] 34)).alloc (.cells #[.slice none 0 0, .int .i64 0, .int .i64 0, .bool false, .int .i64 0, .int .i64 0] 28)) = W := ⟨_, rfl⟩
  have HW : Hid ((((w.alloc (.cells #[.slice a n c, .int .i64 q.room, .int .i64 q.fuse, .bool q.off, .int .i64 q.steps, .int .i64 q.read] 28)).alloc (.cells #[.int .i64 o.k, .string (bs o.nm), .string (bs o.to), .slice o.P o.lb.length o.C, .int .i64 o.n, .int .i64 o.m, .slice o.K o.ks.length o.CK] 34)).alloc (.cells #[.slice none 0 0, .int .i64 0, .int .i64 0, .bool false, .int .i64 0, .int .i64 0] 28)) = W) := hW
  rw [hW] at hC
  have HC : Hid (Ch3 w W (.slice a n c) q o) := hC
  have HN : Hid (X.length = n ∧ n ≤ 1000) := ⟨hn, hnl⟩
  have HX : Hid (FlsA w a X) := hX
  have HXW : Hid (FlsA W a X) := hX.keep hC.low
  have HO : Hid (OpIn w o) := ho
  have HK : Hid (o.k = 4) := hk
  have HG : Hid (getA (X.map Prod.fst) o.nm = some f) := hg
  have HSZ : Hid (f.l.length ≤ 67108864) := hsz
  have HLO : Hid (w.heap.size + 1 + 1 < W.heap.size) := hC.rz.lt

  clear hW hC hn hX ho hk hg hsz
  go_enter Try.func48, Try.ntmps48
  go_upto_region 1 with fail
  try simp only [Act.put]
  rw [HW.out]
  obtain ⟨c0, c1, c2, c3, c4, c5, c6⟩ := HC.out.op.cells
  rw [HK.out] at c0
  have d0 := HC.out.rd.cells.1
  have HPW : Hid ((fun y => RdAt y w.heap.size (.slice a n c) q ∧ OpAt y (w.heap.size + 1) o ∧ FlsA y a X) W) := ⟨HC.out.rd, HC.out.op, HXW.out⟩
  go_upto_region 4 with fail
  try simp only [Act.put]
  clear c0 c1 c2 c3 c4 c5 c6 d0
  go_cut [5] (fun v5 wx => ∃ kf a2 m2 c2, v5 = .pointer (some ⟨kf, 0, none⟩) ∧ Hid (FlAt wx kf f.name (.slice a2 m2 c2) (f.s : Int) ∧ W.heap.size ≤ kf ∧ Below W.heap.size W wx) ∧ Hid (f.l.length = m2 ∧ FvIn w (f, .slice a2 m2 c2) ∧ (f, .slice a2 m2 c2) ∈ X))
  case first =>
    refine wp_region_held (S := (fun y => RdAt y w.heap.size (.slice a n c) q ∧ OpAt y (w.heap.size + 1) o ∧ FlsA y a X)) (by kernel_rfl) ?_
    change wpAnyH _ _ _ _ _ _ _ _ (World.drew _)
    obtain ⟨xd, hxd⟩ : ∃ xd, W.drew = xd := ⟨_, rfl⟩
    have HBD : Hid (Below W.heap.size W xd) := by rw [← hxd]; exact (Below.refl _ _).drew
    rw [hxd]
    clear hxd
    have HPD : Hid ((fun y => RdAt y w.heap.size (.slice a n c) q ∧ OpAt y (w.heap.size + 1) o ∧ FlsA y a X) xd) := ⟨HPW.out.1.keep HBD.out, HPW.out.2.1.keep HBD.out, HPW.out.2.2.keep HBD.out⟩
    refine wpAnyH_take (i := 0) (oi := { dst := some 18, op := Op.fieldAddr 28 (Operand.tmp 2) 0, type := 0, pos := "ref.go:190", after := #[], guard := none }) (v := ?_) rfl (by kernel_rfl) (by kernel_rfl) (by kernel_rfl) (fun _ _ _ h => h) (Or.inl ⟨by rfl, ?_⟩) HPD.out ?_
    rotate_left
    · (intro y hy; go_simp; try (with_reducible rfl))
    simp only [Act.put, List.setIfInBounds_toArray, List.set_cons_zero, List.set_cons_succ]
    refine wpAnyH_take (i := 1) (oi := { dst := some 19, op := Op.load 26 (Operand.tmp 18), type := 26, pos := "ref.go:190", after := #[{ on := 0, ground := Ground.data }], guard := none }) (v := .slice a n c) rfl (by kernel_rfl) (by kernel_rfl) (by kernel_rfl) (fun _ _ _ h => h) (Or.inl ⟨by rfl, ?_⟩) HPD.out ?_
    · (intro y hy; have h0 := hy.1.cells.1; go_simp)
    simp only [Act.put, List.setIfInBounds_toArray, List.set_cons_zero, List.set_cons_succ]
    refine wpAnyH_take (i := 2) (oi := { dst := some 20, op := Op.load 28 (Operand.tmp 2), type := 28, pos := "ref.go:190", after := #[], guard := none }) (v := rdV (.slice a n c) q) rfl (by kernel_rfl) (by kernel_rfl) (by kernel_rfl) (fun _ _ _ h => h) (Or.inl ⟨by rfl, fun y hy => exec_load_rd (.tmp 2) rfl rfl hy.1⟩) HPD.out ?_
    simp only [Act.put, List.setIfInBounds_toArray, List.set_cons_zero, List.set_cons_succ]
    refine wpAnyH_take (i := 3) (oi := { dst := some 21, op := Op.fieldAddr 34 (Operand.tmp 3) 1, type := 0, pos := "ref.go:190", after := #[], guard := none }) (v := ?_) rfl (by kernel_rfl) (by kernel_rfl) (by kernel_rfl) (fun _ _ _ h => h) (Or.inl ⟨by rfl, ?_⟩) HPD.out ?_
    rotate_left
    · (intro y hy; go_simp; try (with_reducible rfl))
    simp only [Act.put, List.setIfInBounds_toArray, List.set_cons_zero, List.set_cons_succ]
    refine wpAnyH_take (i := 4) (oi := { dst := some 22, op := Op.load 9 (Operand.tmp 21), type := 9, pos := "ref.go:190", after := #[{ on := 3, ground := Ground.data }], guard := none }) (v := .string (bs o.nm)) rfl (by kernel_rfl) (by kernel_rfl) (by kernel_rfl) (fun _ _ _ h => h) (Or.inl ⟨by rfl, ?_⟩) HPD.out ?_
    · (intro y hy; have h0 := hy.2.1.cells.2.1; go_simp)
    simp only [Act.put, List.setIfInBounds_toArray, List.set_cons_zero, List.set_cons_succ]
    refine wpAnyH_ready (rs := [5, 8]) (by kernel_rfl) (by simp) ?_
    refine AllReadyH.cons (o := { dst := some 23, op := Op.call { callee := Callee.value (Operand.func 47), args := #[Operand.tmp 20, Operand.tmp 22], argTypes := #[28, 9] }, type := 3, pos := "ref.go:190", after := #[{ on := 2, ground := Ground.data }, { on := 4, ground := Ground.data }], guard := none }) rfl (fun K hK => ?_) (AllReadyH.cons (o := { dst := some 5, op := Op.alloc 49, type := 0, pos := "ref.go:190", after := #[], guard := none }) rfl (fun K hK => ?_) AllReadyH.nil)
    · go_simp
      refine (rat_any xd X a n c q HN.out.1 HPD.out.2.2 (by have := HN.out.2; omega) o.nm HO.out.nm).mono ?_
      rintro _ y5 ⟨z, rfl, hb5, hz⟩
      obtain ⟨i, f1, rfl, hi, hxi, hg⟩ : ∃ (i : Nat) (f1 : Fa), z = (i : Int) ∧ i < n ∧ (X.map Prod.fst)[i]? = some f1 ∧ f1 = f := by
        rcases hz with ⟨_, h9⟩ | ⟨i, f1, h1, h2, h3, h4, _⟩
        · rw [HG.out] at h9; cases h9
        · rw [HG.out] at h4; exact ⟨i, f1, h1, h2, h3, (Option.some.inj h4).symm⟩
      subst hg
      obtain ⟨⟨f2, bv⟩, hp, hf2⟩ : ∃ p, X[i]? = some p ∧ p.1 = f1 := by
        rw [List.getElem?_map] at hxi
        cases hh : X[i]? with
        | none => rw [hh] at hxi; cases hxi
        | some p => rw [hh] at hxi; exact ⟨p, rfl, Option.some.inj hxi⟩
      simp only at hf2
      subst hf2
      obtain ⟨a2, c2, e2, hby2⟩ := HX.out.fv (List.mem_of_getElem? hp)
      simp only at e2 hby2
      subst e2
      obtain ⟨m2, hm2⟩ : ∃ m2, f2.l.length = m2 := ⟨_, rfl⟩
      obtain ⟨b0, off, hab, hlt0, _⟩ := HX.out.range hp
      subst hab
      have HRG : Hid (∀ y : World, FlsA y (some ⟨b0, off, none⟩) X → y.rangeAt b0 (off + i * 3) [.string (bs f2.name), .slice a2 m2 c2, .int .i64 (f2.s : Int)]) := fun y hy => by
        obtain ⟨b9, off9, h1, _, h3⟩ := hy.range hp
        injection h1 with h1
        injection h1 with h4 h5
        subst h4 h5
        rw [hm2] at h3
        exact h3
      have HFV : Hid (f2.l.length = m2 ∧ FvIn w (f2, .slice a2 m2 c2) ∧ (f2, .slice a2 m2 c2) ∈ X) := ⟨hm2, ⟨a2, c2, by rw [← hm2], hby2⟩, by have h9 := List.mem_of_getElem? hp; rw [hm2] at h9; exact h9⟩
      have hiI : (i : Int) < (n : Int) := by omega
      have hi0 : (0 : Int) ≤ (i : Int) := by omega
      have HBC : Hid (Below xd.heap.size xd y5) := hb5
      have HPC : Hid ((fun y => RdAt y w.heap.size (.slice (some ⟨b0, off, none⟩) n c) q ∧ OpAt y (w.heap.size + 1) o ∧ FlsA y (some ⟨b0, off, none⟩) X) y5) := ⟨HPD.out.1.keep HBC.out, HPD.out.2.1.keep HBC.out, HPD.out.2.2.keep HBC.out⟩
      clear hp hxi hby2 hlt0 hb5 hm2 hz
      have HB5 : Hid (Below W.heap.size W y5) := below_next HBD.out HBC.out
      (refine hK _ _ HPC.out ?_; clear hK K; intro _)
      try simp only [Act.put, List.setIfInBounds_toArray, List.set_cons_zero, List.set_cons_succ]
      refine wpAnyH_take (i := 6) (oi := { dst := some 24, op := Op.indexAddr 26 (Operand.tmp 19) (Operand.tmp 23), type := 0, pos := "ref.go:190", after := #[{ on := 1, ground := Ground.data }, { on := 5, ground := Ground.data }], guard := none }) (v := .pointer (some ⟨b0, off + i * 3, none⟩)) rfl (by kernel_rfl) (by kernel_rfl) (by kernel_rfl) (fun _ _ _ h => h) (Or.inl ⟨by rfl, ?_⟩) HPC.out ?_
      · (intro y hy; go_simp)
      simp only [Act.put, List.setIfInBounds_toArray, List.set_cons_zero, List.set_cons_succ]
      refine wpAnyH_take (i := 7) (oi := { dst := some 25, op := Op.load 49 (Operand.tmp 24), type := 49, pos := "ref.go:190", after := #[{ on := 6, ground := Ground.data }], guard := none }) (v := flV f2.name (.slice a2 m2 c2) (f2.s : Int)) rfl (by kernel_rfl) (by kernel_rfl) (by kernel_rfl) (fun _ _ _ h => h) (Or.inl ⟨by rfl, fun y hy => exec_load_flr (.tmp 24) rfl rfl (HRG.out y hy.2.2)⟩) HPC.out ?_
      simp only [Act.put, List.setIfInBounds_toArray, List.set_cons_zero, List.set_cons_succ]
      refine wpAnyH_ready (rs := [8]) (by kernel_rfl) (by simp) ?_
      refine AllReadyH.cons (o := { dst := some 5, op := Op.alloc 49, type := 0, pos := "ref.go:190", after := #[], guard := none }) rfl (fun K hK => ?_) AllReadyH.nil
      go_simp
      have hn4 : FlAt (y5.alloc (.cells #[.string ⟨#[]⟩, .slice none 0 0, .int .i64 0] 49)) y5.heap.size [] (.slice none 0 0) 0 := heap_alloc_new y5 _
      obtain ⟨y4, hy4⟩ : ∃ y4, y5.alloc (.cells #[.string ⟨#[]⟩, .slice none 0 0, .int .i64 0] 49) = y4 := ⟨_, rfl⟩
      rw [hy4]
      have hb4 : Below y5.heap.size y5 y4 := by rw [← hy4]; exact (Below.refl _ _).alloc (Nat.le_refl _) _
      rw [hy4] at hn4
      have HZ : Hid (FlAt y4 y5.heap.size [] (.slice none 0 0) 0 ∧ W.heap.size ≤ y5.heap.size ∧ Below W.heap.size W y4) := ⟨hn4, HB5.out.size, below_next HB5.out hb4⟩
      have HPA : Hid ((fun y => RdAt y w.heap.size (.slice (some ⟨b0, off, none⟩) n c) q ∧ OpAt y (w.heap.size + 1) o ∧ FlsA y (some ⟨b0, off, none⟩) X) y4) := ⟨HPC.out.1.keep hb4, HPC.out.2.1.keep hb4, HPC.out.2.2.keep hb4⟩
      clear hy4 hb4 hn4
      (refine hK _ _ HPA.out ?_; clear hK K; intro _)
      try simp only [Act.put, List.setIfInBounds_toArray, List.set_cons_zero, List.set_cons_succ]
      refine wpAnyH_ready (rs := [9]) (by kernel_rfl) (by simp) ?_
      refine AllReadyH.cons (o := { dst := none, op := Op.store 49 (Operand.tmp 5) (Operand.tmp 25), type := 0, pos := "ref.go:190", after := #[{ on := 8, ground := Ground.data }, { on := 7, ground := Ground.data }, { on := 5, ground := Ground.chain }, { on := 0, ground := Ground.phase }, { on := 1, ground := Ground.phase }, { on := 2, ground := Ground.phase }, { on := 3, ground := Ground.phase }, { on := 4, ground := Ground.phase }, { on := 5, ground := Ground.phase }, { on := 6, ground := Ground.phase }, { on := 7, ground := Ground.phase }, { on := 8, ground := Ground.phase }], guard := none }) rfl (fun K hK => ?_) AllReadyH.nil
      refine step_store_fl rfl _ _ rfl rfl HZ.out.1 (slice_one a2 m2 c2) rfl rfl (nm2 := f2.name) (v2 := .slice a2 m2 c2) (s2 := (f2.s : Int)) ?_
      intro y6 hf6 ho6
      have HF6 : Hid (FlAt y6 y5.heap.size f2.name (.slice a2 m2 c2) (f2.s : Int) ∧ W.heap.size ≤ y5.heap.size ∧ Below W.heap.size W y6) := ⟨hf6, HZ.out.2.1, ho6 _ _ HZ.out.2.2 HZ.out.2.1⟩
      have hbx : Below W.heap.size W y6 := HF6.out.2.2
      have HPS : Hid ((fun y => RdAt y w.heap.size (.slice (some ⟨b0, off, none⟩) n c) q ∧ OpAt y (w.heap.size + 1) o ∧ FlsA y (some ⟨b0, off, none⟩) X) y6) := ⟨HPW.out.1.keep hbx, HPW.out.2.1.keep hbx, HPW.out.2.2.keep hbx⟩
      clear hf6 ho6 hbx
      (refine hK _ _ HPS.out ?_; clear hK K; intro _)
      try simp only [Act.put, List.setIfInBounds_toArray, List.set_cons_zero, List.set_cons_succ]
      refine wpAnyH_done (by kernel_rfl) ?_ _
      go_wp2_with fail
      go_meet
      exact ⟨y5.heap.size, a2, m2, c2, rfl, HF6.out, HFV.out⟩
    · go_simp
      have hn4 : FlAt (xd.alloc (.cells #[.string ⟨#[]⟩, .slice none 0 0, .int .i64 0] 49)) xd.heap.size [] (.slice none 0 0) 0 := heap_alloc_new xd _
      obtain ⟨y4, hy4⟩ : ∃ y4, xd.alloc (.cells #[.string ⟨#[]⟩, .slice none 0 0, .int .i64 0] 49) = y4 := ⟨_, rfl⟩
      rw [hy4]
      have hb4 : Below xd.heap.size xd y4 := by rw [← hy4]; exact (Below.refl _ _).alloc (Nat.le_refl _) _
      rw [hy4] at hn4
      have HZ : Hid (FlAt y4 xd.heap.size [] (.slice none 0 0) 0 ∧ W.heap.size ≤ xd.heap.size ∧ Below W.heap.size W y4) := ⟨hn4, HBD.out.size, below_next HBD.out hb4⟩
      have HPA : Hid ((fun y => RdAt y w.heap.size (.slice a n c) q ∧ OpAt y (w.heap.size + 1) o ∧ FlsA y a X) y4) := ⟨HPD.out.1.keep hb4, HPD.out.2.1.keep hb4, HPD.out.2.2.keep hb4⟩
      clear hy4 hb4 hn4
      (refine hK _ _ HPA.out ?_; clear hK K; intro _)
      try simp only [Act.put, List.setIfInBounds_toArray, List.set_cons_zero, List.set_cons_succ]
      refine wpAnyH_ready (rs := [5]) (by kernel_rfl) (by simp) ?_
      refine AllReadyH.cons (o := { dst := some 23, op := Op.call { callee := Callee.value (Operand.func 47), args := #[Operand.tmp 20, Operand.tmp 22], argTypes := #[28, 9] }, type := 3, pos := "ref.go:190", after := #[{ on := 2, ground := Ground.data }, { on := 4, ground := Ground.data }], guard := none }) rfl (fun K hK => ?_) AllReadyH.nil
      go_simp
      refine (rat_any y4 X a n c q HN.out.1 HPA.out.2.2 (by have := HN.out.2; omega) o.nm HO.out.nm).mono ?_
      rintro _ y5 ⟨z, rfl, hb5, hz⟩
      obtain ⟨i, f1, rfl, hi, hxi, hg⟩ : ∃ (i : Nat) (f1 : Fa), z = (i : Int) ∧ i < n ∧ (X.map Prod.fst)[i]? = some f1 ∧ f1 = f := by
        rcases hz with ⟨_, h9⟩ | ⟨i, f1, h1, h2, h3, h4, _⟩
        · rw [HG.out] at h9; cases h9
        · rw [HG.out] at h4; exact ⟨i, f1, h1, h2, h3, (Option.some.inj h4).symm⟩
      subst hg
      obtain ⟨⟨f2, bv⟩, hp, hf2⟩ : ∃ p, X[i]? = some p ∧ p.1 = f1 := by
        rw [List.getElem?_map] at hxi
        cases hh : X[i]? with
        | none => rw [hh] at hxi; cases hxi
        | some p => rw [hh] at hxi; exact ⟨p, rfl, Option.some.inj hxi⟩
      simp only at hf2
      subst hf2
      obtain ⟨a2, c2, e2, hby2⟩ := HX.out.fv (List.mem_of_getElem? hp)
      simp only at e2 hby2
      subst e2
      obtain ⟨m2, hm2⟩ : ∃ m2, f2.l.length = m2 := ⟨_, rfl⟩
      obtain ⟨b0, off, hab, hlt0, _⟩ := HX.out.range hp
      subst hab
      have HRG : Hid (∀ y : World, FlsA y (some ⟨b0, off, none⟩) X → y.rangeAt b0 (off + i * 3) [.string (bs f2.name), .slice a2 m2 c2, .int .i64 (f2.s : Int)]) := fun y hy => by
        obtain ⟨b9, off9, h1, _, h3⟩ := hy.range hp
        injection h1 with h1
        injection h1 with h4 h5
        subst h4 h5
        rw [hm2] at h3
        exact h3
      have HFV : Hid (f2.l.length = m2 ∧ FvIn w (f2, .slice a2 m2 c2) ∧ (f2, .slice a2 m2 c2) ∈ X) := ⟨hm2, ⟨a2, c2, by rw [← hm2], hby2⟩, by have h9 := List.mem_of_getElem? hp; rw [hm2] at h9; exact h9⟩
      have hiI : (i : Int) < (n : Int) := by omega
      have hi0 : (0 : Int) ≤ (i : Int) := by omega
      have HBC : Hid (Below y4.heap.size y4 y5) := hb5
      have HPC : Hid ((fun y => RdAt y w.heap.size (.slice (some ⟨b0, off, none⟩) n c) q ∧ OpAt y (w.heap.size + 1) o ∧ FlsA y (some ⟨b0, off, none⟩) X) y5) := ⟨HPA.out.1.keep HBC.out, HPA.out.2.1.keep HBC.out, HPA.out.2.2.keep HBC.out⟩
      clear hp hxi hby2 hlt0 hb5 hm2 hz
      have HZ5 : Hid (FlAt y5 xd.heap.size [] (.slice none 0 0) 0 ∧ W.heap.size ≤ xd.heap.size ∧ Below W.heap.size W y5) := ⟨HZ.out.1.keep HBC.out, HZ.out.2.1, below_next HZ.out.2.2 HBC.out⟩
      (refine hK _ _ HPC.out ?_; clear hK K; intro _)
      try simp only [Act.put, List.setIfInBounds_toArray, List.set_cons_zero, List.set_cons_succ]
      refine wpAnyH_take (i := 6) (oi := { dst := some 24, op := Op.indexAddr 26 (Operand.tmp 19) (Operand.tmp 23), type := 0, pos := "ref.go:190", after := #[{ on := 1, ground := Ground.data }, { on := 5, ground := Ground.data }], guard := none }) (v := .pointer (some ⟨b0, off + i * 3, none⟩)) rfl (by kernel_rfl) (by kernel_rfl) (by kernel_rfl) (fun _ _ _ h => h) (Or.inl ⟨by rfl, ?_⟩) HPC.out ?_
      · (intro y hy; go_simp)
      simp only [Act.put, List.setIfInBounds_toArray, List.set_cons_zero, List.set_cons_succ]
      refine wpAnyH_take (i := 7) (oi := { dst := some 25, op := Op.load 49 (Operand.tmp 24), type := 49, pos := "ref.go:190", after := #[{ on := 6, ground := Ground.data }], guard := none }) (v := flV f2.name (.slice a2 m2 c2) (f2.s : Int)) rfl (by kernel_rfl) (by kernel_rfl) (by kernel_rfl) (fun _ _ _ h => h) (Or.inl ⟨by rfl, fun y hy => exec_load_flr (.tmp 24) rfl rfl (HRG.out y hy.2.2)⟩) HPC.out ?_
      simp only [Act.put, List.setIfInBounds_toArray, List.set_cons_zero, List.set_cons_succ]
      refine wpAnyH_ready (rs := [9]) (by kernel_rfl) (by simp) ?_
      refine AllReadyH.cons (o := { dst := none, op := Op.store 49 (Operand.tmp 5) (Operand.tmp 25), type := 0, pos := "ref.go:190", after := #[{ on := 8, ground := Ground.data }, { on := 7, ground := Ground.data }, { on := 5, ground := Ground.chain }, { on := 0, ground := Ground.phase }, { on := 1, ground := Ground.phase }, { on := 2, ground := Ground.phase }, { on := 3, ground := Ground.phase }, { on := 4, ground := Ground.phase }, { on := 5, ground := Ground.phase }, { on := 6, ground := Ground.phase }, { on := 7, ground := Ground.phase }, { on := 8, ground := Ground.phase }], guard := none }) rfl (fun K hK => ?_) AllReadyH.nil
      refine step_store_fl rfl _ _ rfl rfl HZ5.out.1 (slice_one a2 m2 c2) rfl rfl (nm2 := f2.name) (v2 := .slice a2 m2 c2) (s2 := (f2.s : Int)) ?_
      intro y6 hf6 ho6
      have HF6 : Hid (FlAt y6 xd.heap.size f2.name (.slice a2 m2 c2) (f2.s : Int) ∧ W.heap.size ≤ xd.heap.size ∧ Below W.heap.size W y6) := ⟨hf6, HZ5.out.2.1, ho6 _ _ HZ5.out.2.2 HZ5.out.2.1⟩
      have hbx : Below W.heap.size W y6 := HF6.out.2.2
      have HPS : Hid ((fun y => RdAt y w.heap.size (.slice (some ⟨b0, off, none⟩) n c) q ∧ OpAt y (w.heap.size + 1) o ∧ FlsA y (some ⟨b0, off, none⟩) X) y6) := ⟨HPW.out.1.keep hbx, HPW.out.2.1.keep hbx, HPW.out.2.2.keep hbx⟩
      clear hf6 ho6 hbx
      (refine hK _ _ HPS.out ?_; clear hK K; intro _)
      try simp only [Act.put, List.setIfInBounds_toArray, List.set_cons_zero, List.set_cons_succ]
      refine wpAnyH_done (by kernel_rfl) ?_ _
      go_wp2_with fail
      go_meet
      exact ⟨xd.heap.size, a2, m2, c2, rfl, HF6.out, HFV.out⟩
  case rest =>
    obtain ⟨kf, a2, m2, c2, rfl, HF, HFV⟩ := hcut
    have HC6 : Hid (Ch3 w wc (.slice a n c) q o) := HC.out.keep HF.out.2.2
    obtain ⟨c0, c1, c2', c3, c4, c5, c6⟩ := HC6.out.op.cells
    rw [HK.out] at c0
    have d0 := HC6.out.rd.cells.1
    go_wp2_with (first
      | (go_at_call 60; refine (rtake_any wc X a n c HN.out.1 (HX.out.keep HC6.out.low) (by have := HN.out.2; omega) o.nm HO.out.nm).mono ?_; rintro _ x6 ⟨a6, j6, c6', Y6, rfl, hw6, hl6, hn6, hm6, hy6, hb6⟩; have HY6 : Hid (Y6.length = j6 ∧ j6 ≤ n ∧ (∀ e ∈ Y6, e ∈ X) ∧ Y6.map Prod.fst = delA (X.map Prod.fst) o.nm) := ⟨hl6, hn6, hm6, hy6⟩; have H6 : Hid (Ch6 w x6 (.slice a n c) q o kf f.name (.slice a2 m2 c2) (f.s : Int) a6 Y6) := ⟨HC6.out.keep hb6, HF.out.1.keep hb6, Nat.lt_of_lt_of_le HLO.out HF.out.2.1, hw6.mono (lt_of_heap HF.out.1)⟩; obtain ⟨e0, e1, e2, e3, e4, e5, e6⟩ := H6.out.c.op.cells; rw [HK.out] at e0; obtain ⟨g0, g1, g2⟩ := H6.out.fl.cells; have z0 := H6.out.fl.froz 0; have z1 := H6.out.fl.froz 1; have z2 := H6.out.fl.froz 2; have r0 := H6.out.c.rd.cells.1; have rz := H6.out.c.rd.froz 0; have HS8 : Hid (Ch3 w (x6.setCell ⟨w.heap.size, 0, none⟩ (.slice a6 j6 c6')) (.slice a6 j6 c6') q o) := H6.out.c.set _; clear hw6 hl6 hn6 hm6 hy6 hb6)
      | ((with_reducible refine guard_load 28 ?_); refine wpList_load_rd rfl _ rfl HS8.out.rd rfl ?_)
      | ((with_reducible refine guard_store 28 ?_); refine wpList_store_rd rfl _ _ rfl rfl HS8.out.rz (slice_one _ _ _) rfl rfl (v2 := .slice a6 j6 c6') (q2 := q) ?_; intro x9 hr9 hb9 hh9 hs9; have HR9 : Hid (RdAt x9 (w.heap.size + 1 + 1) (.slice a6 j6 c6') q ∧ Below w.heap.size w x9) := ⟨hr9, hb9 _ _ HS8.out.low (by omega)⟩; have HL9 : Hid (∀ k, W.heap.size ≤ k → x9.heap[k]? = x6.heap[k]?) := fun k hk => (hh9 k (by have := HLO.out; omega)).trans (heap_setCell_other x6 ⟨w.heap.size, 0, none⟩ k _ (show k ≠ w.heap.size by have := HLO.out; omega)); clear hr9 hb9 hh9 hs9)
      | go_in)
    have hfin0 : FlsA x9 a6 Y6 := (H6.out.row.turn (fun k h1 _ => HL9.out k (by have := HF.out.2.1; omega))).fls (fun e he => (HX.out.fv (HY6.out.2.2.1 e he)).keep HR9.out.2)
    have hfin : FlsB X w x9 a6 Y6 := ⟨hfin0, (H6.out.row.turn (fun k h1 _ => HL9.out k (by have := HF.out.2.1; omega))).mono (by have := HF.out.2.1; have := HC.out.low.size; omega), fun e he => .inl ⟨e, HY6.out.2.2.1 e he, rfl⟩⟩
    exact bodyPost_ret (results_rd1 rfl _ _ _ rfl HR9.out.1) rfl ⟨a6, _, c6', Y6, rfl, hfin, HY6.out.1, HY6.out.2.2.2, HR9.out.2⟩

end Go.Proofs.Ytlnhhgmdajbepaa
