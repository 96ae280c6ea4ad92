/- Own texts, joined: Rbt. -/
import Derived.Test.YtlnhhgmdajbepaaK25
namespace Go.Proofs.Ytlnhhgmdajbepaa
open Go.ChangeShapes Go.WideShapes Go.ChangeAt Go.RowKit
set_option linter.unusedVariables false
set_option linter.unusedSimpArgs false
set_option maxRecDepth 100000 in
set_option maxHeartbeats 1600000 in
theorem rbar_1full (w : World) (X : List (Fa × Value)) (a : Option Addr) (n c : Nat) (q : Rn) (hn : X.length = n) (hX : FlsA w a X) (hnl : n ≤ 1000) (o : Oa) (ho : OpIn w o) (hoff : q.off = false) (hr : rightS o.nm = true) (hk : o.k = 1) (f : Fa) (hg : getA (X.map Prod.fst) o.nm = some f) (m : Nat) (hm : f.l.length = m) (hm6 : m ≤ 67108864) (hu : usedA (X.map Prod.fst) ≤ 67108864 ∧ (usedA (X.map Prod.fst) : Int) ≤ q.room ∧ q.room ≤ 67108864) (hl : q.room - (usedA (X.map Prod.fst) : Int) < (o.lb.length : Int)) :
    Calls Try.prog 46 #[rdV (.slice a n c) q, opV o] w fun r w' => r = .returned (.int .i64 54) ∧ Below w.heap.size w w' := by
  have hC := Ch2.start w (.slice a n c) q o
  obtain ⟨W, hW⟩ : ∃ W, ((w.alloc (.cells #[.slice a n c, .int .i64 q.room, .int .i64 q.fuse, .bool q.off, .int .i64 q.steps, .int .i64 q.read] 28)).alloc (.cells #[.int .i64 o.k, .string (bs o.nm), .string (bs o.to), .slice o.P o.lb.length o.C, .int .i64 o.n, .int .i64 o.m, .slice o.K o.ks.length o.CK] 34)) = W := ⟨_, rfl⟩
  have HW : Hid (((w.alloc (.cells #[.slice a n c, .int .i64 q.room, .int .i64 q.fuse, .bool q.off, .int .i64 q.steps, .int .i64 q.read] 28)).alloc (.cells #[.int .i64 o.k, .string (bs o.nm), .string (bs o.to), .slice o.P o.lb.length o.C, .int .i64 o.n, .int .i64 o.m, .slice o.K o.ks.length o.CK] 34)) = W) := hW
  rw [hW] at hC
  have HC : Hid (Ch2 w W (.slice a n c) q o) := hC
  have HN : Hid (X.length = n ∧ n ≤ 1000) := ⟨hn, hnl⟩
  have hnI : (n : Int) ≤ 1000 := by omega
  have hn0 : (0 : Int) ≤ (n : Int) := by omega
  have HX : Hid (FlsA w a X) := hX
  have HO : Hid (OpIn w o) := ho
  have HF : Hid (q.off = false) := hoff
  have HRN : Hid (rightS o.nm = true) := hr
  clear hoff hr
  have HK : Hid (o.k = 1) := hk
  clear hk
  have HG : Hid (getA (X.map Prod.fst) o.nm = some f) := hg
  have HM : Hid (f.l.length = m) := hm
  clear hg hm
  have hmI : (m : Int) ≤ 67108864 := by omega
  have hm0 : (0 : Int) ≤ (m : Int) := by omega
  clear hm6
  have HU : Hid (usedA (X.map Prod.fst) ≤ 67108864) := hu.1
  obtain ⟨R, hR⟩ : ∃ R, q.room - (usedA (X.map Prod.fst) : Int) = R := ⟨_, rfl⟩
  have HR : Hid (IntKind.i64.wrap (q.room - (usedA (X.map Prod.fst) : Int)) = R) := by have h1 := hu; show _ = _; rw [hR, wrap_i64]; omega
  have HB : Hid (decide (R < (o.lb.length : Int)) = true) := by show _ = _; rw [← hR]; simpa using hl
  clear hu hl hR
  clear hW hC hn hX ho
  go_enter Try.func46, Try.ntmps46
  go_upto_region 1 with fail
  try simp only [Act.put]
  rw [HW.out]
  obtain ⟨c0, c1, c2, c3, c4, c5, c6⟩ := HC.out.op.cells
  obtain ⟨d0, d1, d2, d3, d4, d5⟩ := HC.out.rd.cells
  rw [HF.out] at d3
  rw [HK.out] at c0
  go_wp2_with (first
    | (go_at_call 27; refine (rright_any o.nm _ HO.out.nm).mono ?_; rw [HRN.out]; rintro _ x3 ⟨rfl, rfl⟩)
    | ((with_reducible refine guard_load 28 ?_); refine wpList_load_rd rfl _ rfl HC.out.rd rfl ?_)
    | (go_at_call 47; refine (rat_any W X a n c q HN.out.1 (HX.out.keep HC.out.low) (by have := HN.out.2; omega) o.nm HO.out.nm).mono ?_; rintro _ y5 ⟨z, rfl, hb5, hz⟩; obtain ⟨i, p, hi, rfl, hp, hpf⟩ : ∃ (i : Nat) (p : Fa × Value), i < n ∧ z = (i : Int) ∧ X[i]? = some p ∧ p.1 = f := at_found hz HG.out; obtain ⟨f2, bv⟩ := p; simp only at hpf; subst hpf; obtain ⟨a2, c2', e2', _, _, _⟩ := HX.out.fv (List.mem_of_getElem? hp); simp only at e2'; subst e2'; have HC5 : Hid (Ch2 w y5 (.slice a n c) q o) := HC.out.keep hb5; obtain ⟨b0, off, hab, hlt0, k0, k1, k2⟩ := (HX.out.keep HC5.out.low).at i _ hp; subst hab; simp only at k0 k1 k2; rw [HM.out] at k1; have HX5 : Hid (FlsA y5 (some ⟨b0, off, none⟩) X) := HX.out.keep HC5.out.low; have hiI : (i : Int) < (n : Int) := (by omega); have hi0 : (0 : Int) ≤ (i : Int) := (by omega); obtain ⟨e0, e1, e2, e3, e4, e5, e6⟩ := HC5.out.op.cells; obtain ⟨f0, f1, g2, f3, f4, f5⟩ := HC5.out.rd.cells; rw [HK.out] at e0; clear hb5 hz hp hlt0 k0 k2)
    | go_in)
  refine wp_region_held (S := (fun y => RdAt y w.heap.size (.slice (some ⟨b0, off, none⟩) n c) q ∧ OpAt y (w.heap.size + 1) o)) (by kernel_rfl) ?_
  change wpAnyH _ _ _ _ _ _ _ _ (World.drew _)
  obtain ⟨xd, hxd⟩ : ∃ xd, y5.drew = xd := ⟨_, rfl⟩
  have HB6 : Hid (Below y5.heap.size y5 xd) := by rw [← hxd]; exact (Below.refl _ _).drew
  have HPD : Hid ((fun y => RdAt y w.heap.size (.slice (some ⟨b0, off, none⟩) n c) q ∧ OpAt y (w.heap.size + 1) o) xd) := ⟨HC5.out.rd.keep HB6.out, HC5.out.op.keep HB6.out⟩
  rw [hxd]
  clear hxd
  refine wpAnyH_take (i := 0) (oi := { dst := some 46, op := Op.fieldAddr 34 (Operand.tmp 3) 0, type := 0, pos := "ref.go:151", after := #[], guard := none }) (v := ?_) rfl (by kernel_rfl) (by kernel_rfl) (by kernel_rfl) (fun _ _ _ h => h) (Or.inl ⟨by rfl, ?_⟩) HPD.out ?_
  rotate_left
  · (intro y hy; go_simp; try (with_reducible rfl))
  simp only [Act.put, List.setIfInBounds_toArray, List.set_cons_zero, List.set_cons_succ]
  refine wpAnyH_take (i := 1) (oi := { dst := some 47, op := Op.load 3 (Operand.tmp 46), type := 3, pos := "ref.go:151", after := #[{ on := 0, ground := Ground.data }], guard := none }) (v := .int .i64 1) rfl (by kernel_rfl) (by kernel_rfl) (by kernel_rfl) (fun _ _ _ h => h) (Or.inl ⟨by rfl, ?_⟩) HPD.out ?_
  · (intro y hy; have h0 := (OpAt.cells hy.2).1; rw [HK.out] at h0; go_simp)
  simp only [Act.put, List.setIfInBounds_toArray, List.set_cons_zero, List.set_cons_succ]
  refine wpAnyH_take (i := 2) (oi := { dst := some 48, op := Op.binOp BinOp.eql 3 (Operand.tmp 47) (Operand.const (Value.int IntKind.i64 1)) 3, type := 4, pos := "ref.go:151", after := #[{ on := 1, ground := Ground.data }], guard := none }) (v := ?_) rfl (by kernel_rfl) (by kernel_rfl) (by kernel_rfl) (fun _ _ _ h => h) (Or.inl ⟨by rfl, ?_⟩) HPD.out ?_
  rotate_left
  · (intro y hy; go_simp; try (with_reducible rfl))
  simp only [Act.put, List.setIfInBounds_toArray, List.set_cons_zero, List.set_cons_succ]
  refine wpAnyH_take (i := 3) (oi := { dst := some 49, op := Op.move (Operand.tmp 48), type := 4, pos := "ref.go:151", after := #[{ on := 2, ground := Ground.data }], guard := none }) (v := ?_) rfl (by kernel_rfl) (by kernel_rfl) (by kernel_rfl) (fun _ _ _ h => h) (Or.inl ⟨by rfl, ?_⟩) HPD.out ?_
  rotate_left
  · (intro y hy; go_simp; try (with_reducible rfl))
  simp only [Act.put, List.setIfInBounds_toArray, List.set_cons_zero, List.set_cons_succ]
  refine wpAnyH_take (i := 4) (oi := { dst := some 50, op := Op.fieldAddr 34 (Operand.tmp 3) 3, type := 0, pos := "ref.go:151", after := #[{ on := 3, ground := Ground.guard }], guard := some (3, true) }) (v := ?_) rfl (by kernel_rfl) (by kernel_rfl) (by kernel_rfl) (fun _ _ _ h => h) (Or.inl ⟨by rfl, ?_⟩) HPD.out ?_
  rotate_left
  · (intro y hy; go_simp; try (with_reducible rfl))
  simp only [Act.put, List.setIfInBounds_toArray, List.set_cons_zero, List.set_cons_succ]
  refine wpAnyH_take (i := 5) (oi := { dst := some 51, op := Op.load 31 (Operand.tmp 50), type := 31, pos := "ref.go:151", after := #[{ on := 4, ground := Ground.data }, { on := 3, ground := Ground.guard }], guard := some (3, true) }) (v := .slice o.P o.lb.length o.C) rfl (by kernel_rfl) (by kernel_rfl) (by kernel_rfl) (fun _ _ _ h => h) (Or.inl ⟨by rfl, ?_⟩) HPD.out ?_
  · (intro y hy; have h0 := (OpAt.cells hy.2).2.2.2.1; go_simp)
  simp only [Act.put, List.setIfInBounds_toArray, List.set_cons_zero, List.set_cons_succ]
  refine wpAnyH_take (i := 6) (oi := { dst := some 52, op := Op.call { callee := Callee.builtin Builtin.len, args := #[Operand.tmp 51], argTypes := #[31] }, type := 3, pos := "ref.go:151", after := #[{ on := 5, ground := Ground.data }, { on := 3, ground := Ground.guard }], guard := some (3, true) }) (v := ?_) rfl (by kernel_rfl) (by kernel_rfl) (by kernel_rfl) (fun _ _ _ h => h) (Or.inl ⟨by rfl, ?_⟩) HPD.out ?_
  rotate_left
  · (intro y hy; go_simp; try (with_reducible rfl))
  simp only [Act.put, List.setIfInBounds_toArray, List.set_cons_zero, List.set_cons_succ]
  refine wpAnyH_take (i := 7) (oi := { dst := some 53, op := Op.fieldAddr 28 (Operand.tmp 2) 1, type := 0, pos := "ref.go:151", after := #[{ on := 3, ground := Ground.guard }], guard := some (3, true) }) (v := ?_) rfl (by kernel_rfl) (by kernel_rfl) (by kernel_rfl) (fun _ _ _ h => h) (Or.inl ⟨by rfl, ?_⟩) HPD.out ?_
  rotate_left
  · (intro y hy; go_simp; try (with_reducible rfl))
  simp only [Act.put, List.setIfInBounds_toArray, List.set_cons_zero, List.set_cons_succ]
  refine wpAnyH_take (i := 8) (oi := { dst := some 54, op := Op.load 3 (Operand.tmp 53), type := 3, pos := "ref.go:151", after := #[{ on := 7, ground := Ground.data }, { on := 3, ground := Ground.guard }], guard := some (3, true) }) (v := .int .i64 q.room) rfl (by kernel_rfl) (by kernel_rfl) (by kernel_rfl) (fun _ _ _ h => h) (Or.inl ⟨by rfl, ?_⟩) HPD.out ?_
  · (intro y hy; have h0 := hy.1.cells.2.1; go_simp)
  simp only [Act.put, List.setIfInBounds_toArray, List.set_cons_zero, List.set_cons_succ]
  refine wpAnyH_take (i := 9) (oi := { dst := some 55, op := Op.load 28 (Operand.tmp 2), type := 28, pos := "ref.go:151", after := #[{ on := 3, ground := Ground.guard }], guard := some (3, true) }) (v := rdV (.slice (some ⟨b0, off, none⟩) n c) q) rfl (by kernel_rfl) (by kernel_rfl) (by kernel_rfl) (fun _ _ _ h => h) (Or.inl ⟨by rfl, fun y hy => exec_load_rd (.tmp 2) rfl rfl hy.1⟩) HPD.out ?_
  simp only [Act.put, List.setIfInBounds_toArray, List.set_cons_zero, List.set_cons_succ]
  refine wpAnyH_ready (rs := [10]) (by kernel_rfl) (by simp) ?_
  refine AllReadyH.cons (o := { dst := some 56, op := Op.call { callee := Callee.value (Operand.func 44), args := #[Operand.tmp 55], argTypes := #[28] }, type := 3, pos := "ref.go:151", after := #[{ on := 9, ground := Ground.data }, { on := 3, ground := Ground.chain }, { on := 3, ground := Ground.guard }], guard := some (3, true) }) rfl (fun K hK => ?_) AllReadyH.nil
  go_simp
  refine (rused_any xd X (some ⟨b0, off, none⟩) n c q HN.out.1 (HX5.out.keep HB6.out) (by have := HN.out.2; omega) HU.out).mono ?_
  rintro _ y6 ⟨rfl, hb6⟩
  have HC6 : Hid (Ch2 w y6 (.slice (some ⟨b0, off, none⟩) n c) q o) := (HC5.out.keep HB6.out).keep hb6
  have HP6 : Hid ((fun y => RdAt y w.heap.size (.slice (some ⟨b0, off, none⟩) n c) q ∧ OpAt y (w.heap.size + 1) o) y6) := ⟨HC6.out.rd, HC6.out.op⟩
  clear hb6
  (refine hK _ _ HP6.out ?_; clear hK K; intro _)
  try simp only [Act.put, List.setIfInBounds_toArray, List.set_cons_zero, List.set_cons_succ]
  refine wpAnyH_take (i := 11) (oi := { dst := some 57, op := Op.binOp BinOp.sub 3 (Operand.tmp 54) (Operand.tmp 56) 3, type := 3, pos := "ref.go:151", after := #[{ on := 8, ground := Ground.data }, { on := 10, ground := Ground.data }, { on := 3, ground := Ground.guard }], guard := some (3, true) }) (v := .int .i64 R) rfl (by kernel_rfl) (by kernel_rfl) (by kernel_rfl) (fun _ _ _ h => h) (Or.inl ⟨by rfl, ?_⟩) HP6.out ?_
  · (intro y hy; have h0 := HR.out; go_simp)
  simp only [Act.put, List.setIfInBounds_toArray, List.set_cons_zero, List.set_cons_succ]
  refine wpAnyH_take (i := 12) (oi := { dst := some 58, op := Op.binOp BinOp.gtr 3 (Operand.tmp 52) (Operand.tmp 57) 3, type := 4, pos := "ref.go:151", after := #[{ on := 6, ground := Ground.data }, { on := 11, ground := Ground.data }, { on := 3, ground := Ground.guard }], guard := some (3, true) }) (v := .bool true) rfl (by kernel_rfl) (by kernel_rfl) (by kernel_rfl) (fun _ _ _ h => h) (Or.inl ⟨by rfl, ?_⟩) HP6.out ?_
  · (intro y hy; have h0 := HB.out; go_simp)
  simp only [Act.put, List.setIfInBounds_toArray, List.set_cons_zero, List.set_cons_succ]
  refine wpAnyH_take (i := 13) (oi := { dst := some 59, op := Op.pick (Operand.tmp 49) (Operand.tmp 58) (Operand.const (Value.bool false)), type := 4, pos := "ref.go:151", after := #[{ on := 3, ground := Ground.data }, { on := 12, ground := Ground.data }], guard := none }) (v := ?_) rfl (by kernel_rfl) (by kernel_rfl) (by kernel_rfl) (fun _ _ _ h => h) (Or.inl ⟨by rfl, ?_⟩) HP6.out ?_
  rotate_left
  · (intro y hy; go_simp; try (with_reducible rfl))
  simp only [Act.put, List.setIfInBounds_toArray, List.set_cons_zero, List.set_cons_succ]
  refine wpAnyH_done (by kernel_rfl) ?_ _
  obtain ⟨e0, e1, e2, e3, e4, e5, e6⟩ := HC6.out.op.cells
  obtain ⟨f0, f1, g2, f3, f4, f5⟩ := HC6.out.rd.cells
  rw [HK.out] at e0
  go_wp2_with fail
  go_ret
  exact ⟨rfl, HC6.out.low⟩
set_option maxRecDepth 100000 in
set_option maxHeartbeats 1600000 in
theorem rbar_1ok (w : World) (X : List (Fa × Value)) (a : Option Addr) (n c : Nat) (q : Rn) (hn : X.length = n) (hX : FlsA w a X) (hnl : n ≤ 1000) (o : Oa) (ho : OpIn w o) (hoff : q.off = false) (hr : rightS o.nm = true) (hk : o.k = 1) (f : Fa) (hg : getA (X.map Prod.fst) o.nm = some f) (m : Nat) (hm : f.l.length = m) (hm6 : m ≤ 67108864) (hu : usedA (X.map Prod.fst) ≤ 67108864 ∧ (usedA (X.map Prod.fst) : Int) ≤ q.room ∧ q.room ≤ 67108864) (hl : ¬ q.room - (usedA (X.map Prod.fst) : Int) < (o.lb.length : Int)) :
    Calls Try.prog 46 #[rdV (.slice a n c) q, opV o] w fun r w' => r = .returned (.int .i64 0) ∧ Below w.heap.size w w' := by
  have hC := Ch2.start w (.slice a n c) q o
  obtain ⟨W, hW⟩ : ∃ W, ((w.alloc (.cells #[.slice a n c, .int .i64 q.room, .int .i64 q.fuse, .bool q.off, .int .i64 q.steps, .int .i64 q.read] 28)).alloc (.cells #[.int .i64 o.k, .string (bs o.nm), .string (bs o.to), .slice o.P o.lb.length o.C, .int .i64 o.n, .int .i64 o.m, .slice o.K o.ks.length o.CK] 34)) = W := ⟨_, rfl⟩
  have HW : Hid (((w.alloc (.cells #[.slice a n c, .int .i64 q.room, .int .i64 q.fuse, .bool q.off, .int .i64 q.steps, .int .i64 q.read] 28)).alloc (.cells #[.int .i64 o.k, .string (bs o.nm), .string (bs o.to), .slice o.P o.lb.length o.C, .int .i64 o.n, .int .i64 o.m, .slice o.K o.ks.length o.CK] 34)) = W) := hW
  rw [hW] at hC
  have HC : Hid (Ch2 w W (.slice a n c) q o) := hC
  have HN : Hid (X.length = n ∧ n ≤ 1000) := ⟨hn, hnl⟩
  have hnI : (n : Int) ≤ 1000 := by omega
  have hn0 : (0 : Int) ≤ (n : Int) := by omega
  have HX : Hid (FlsA w a X) := hX
  have HO : Hid (OpIn w o) := ho
  have HF : Hid (q.off = false) := hoff
  have HRN : Hid (rightS o.nm = true) := hr
  clear hoff hr
  have HK : Hid (o.k = 1) := hk
  clear hk
  have HG : Hid (getA (X.map Prod.fst) o.nm = some f) := hg
  have HM : Hid (f.l.length = m) := hm
  clear hg hm
  have hmI : (m : Int) ≤ 67108864 := by omega
  have hm0 : (0 : Int) ≤ (m : Int) := by omega
  clear hm6
  have HU : Hid (usedA (X.map Prod.fst) ≤ 67108864) := hu.1
  obtain ⟨R, hR⟩ : ∃ R, q.room - (usedA (X.map Prod.fst) : Int) = R := ⟨_, rfl⟩
  have HR : Hid (IntKind.i64.wrap (q.room - (usedA (X.map Prod.fst) : Int)) = R) := by have h1 := hu; show _ = _; rw [hR, wrap_i64]; omega
  have HB : Hid (decide (R < (o.lb.length : Int)) = false) := by show _ = _; rw [← hR]; simpa using hl
  clear hu hl hR
  clear hW hC hn hX ho
  go_enter Try.func46, Try.ntmps46
  go_upto_region 1 with fail
  try simp only [Act.put]
  rw [HW.out]
  obtain ⟨c0, c1, c2, c3, c4, c5, c6⟩ := HC.out.op.cells
  obtain ⟨d0, d1, d2, d3, d4, d5⟩ := HC.out.rd.cells
  rw [HF.out] at d3
  rw [HK.out] at c0
  go_wp2_with (first
    | (go_at_call 27; refine (rright_any o.nm _ HO.out.nm).mono ?_; rw [HRN.out]; rintro _ x3 ⟨rfl, rfl⟩)
    | ((with_reducible refine guard_load 28 ?_); refine wpList_load_rd rfl _ rfl HC.out.rd rfl ?_)
    | (go_at_call 47; refine (rat_any W X a n c q HN.out.1 (HX.out.keep HC.out.low) (by have := HN.out.2; omega) o.nm HO.out.nm).mono ?_; rintro _ y5 ⟨z, rfl, hb5, hz⟩; obtain ⟨i, p, hi, rfl, hp, hpf⟩ : ∃ (i : Nat) (p : Fa × Value), i < n ∧ z = (i : Int) ∧ X[i]? = some p ∧ p.1 = f := at_found hz HG.out; obtain ⟨f2, bv⟩ := p; simp only at hpf; subst hpf; obtain ⟨a2, c2', e2', _, _, _⟩ := HX.out.fv (List.mem_of_getElem? hp); simp only at e2'; subst e2'; have HC5 : Hid (Ch2 w y5 (.slice a n c) q o) := HC.out.keep hb5; obtain ⟨b0, off, hab, hlt0, k0, k1, k2⟩ := (HX.out.keep HC5.out.low).at i _ hp; subst hab; simp only at k0 k1 k2; rw [HM.out] at k1; have HX5 : Hid (FlsA y5 (some ⟨b0, off, none⟩) X) := HX.out.keep HC5.out.low; have hiI : (i : Int) < (n : Int) := (by omega); have hi0 : (0 : Int) ≤ (i : Int) := (by omega); obtain ⟨e0, e1, e2, e3, e4, e5, e6⟩ := HC5.out.op.cells; obtain ⟨f0, f1, g2, f3, f4, f5⟩ := HC5.out.rd.cells; rw [HK.out] at e0; clear hb5 hz hp hlt0 k0 k2)
    | go_in)
  refine wp_region_held (S := (fun y => RdAt y w.heap.size (.slice (some ⟨b0, off, none⟩) n c) q ∧ OpAt y (w.heap.size + 1) o)) (by kernel_rfl) ?_
  change wpAnyH _ _ _ _ _ _ _ _ (World.drew _)
  obtain ⟨xd, hxd⟩ : ∃ xd, y5.drew = xd := ⟨_, rfl⟩
  have HB6 : Hid (Below y5.heap.size y5 xd) := by rw [← hxd]; exact (Below.refl _ _).drew
  have HPD : Hid ((fun y => RdAt y w.heap.size (.slice (some ⟨b0, off, none⟩) n c) q ∧ OpAt y (w.heap.size + 1) o) xd) := ⟨HC5.out.rd.keep HB6.out, HC5.out.op.keep HB6.out⟩
  rw [hxd]
  clear hxd
  refine wpAnyH_take (i := 0) (oi := { dst := some 46, op := Op.fieldAddr 34 (Operand.tmp 3) 0, type := 0, pos := "ref.go:151", after := #[], guard := none }) (v := ?_) rfl (by kernel_rfl) (by kernel_rfl) (by kernel_rfl) (fun _ _ _ h => h) (Or.inl ⟨by rfl, ?_⟩) HPD.out ?_
  rotate_left
  · (intro y hy; go_simp; try (with_reducible rfl))
  simp only [Act.put, List.setIfInBounds_toArray, List.set_cons_zero, List.set_cons_succ]
  refine wpAnyH_take (i := 1) (oi := { dst := some 47, op := Op.load 3 (Operand.tmp 46), type := 3, pos := "ref.go:151", after := #[{ on := 0, ground := Ground.data }], guard := none }) (v := .int .i64 1) rfl (by kernel_rfl) (by kernel_rfl) (by kernel_rfl) (fun _ _ _ h => h) (Or.inl ⟨by rfl, ?_⟩) HPD.out ?_
  · (intro y hy; have h0 := (OpAt.cells hy.2).1; rw [HK.out] at h0; go_simp)
  simp only [Act.put, List.setIfInBounds_toArray, List.set_cons_zero, List.set_cons_succ]
  refine wpAnyH_take (i := 2) (oi := { dst := some 48, op := Op.binOp BinOp.eql 3 (Operand.tmp 47) (Operand.const (Value.int IntKind.i64 1)) 3, type := 4, pos := "ref.go:151", after := #[{ on := 1, ground := Ground.data }], guard := none }) (v := ?_) rfl (by kernel_rfl) (by kernel_rfl) (by kernel_rfl) (fun _ _ _ h => h) (Or.inl ⟨by rfl, ?_⟩) HPD.out ?_
  rotate_left
  · (intro y hy; go_simp; try (with_reducible rfl))
  simp only [Act.put, List.setIfInBounds_toArray, List.set_cons_zero, List.set_cons_succ]
  refine wpAnyH_take (i := 3) (oi := { dst := some 49, op := Op.move (Operand.tmp 48), type := 4, pos := "ref.go:151", after := #[{ on := 2, ground := Ground.data }], guard := none }) (v := ?_) rfl (by kernel_rfl) (by kernel_rfl) (by kernel_rfl) (fun _ _ _ h => h) (Or.inl ⟨by rfl, ?_⟩) HPD.out ?_
  rotate_left
  · (intro y hy; go_simp; try (with_reducible rfl))
  simp only [Act.put, List.setIfInBounds_toArray, List.set_cons_zero, List.set_cons_succ]
  refine wpAnyH_take (i := 4) (oi := { dst := some 50, op := Op.fieldAddr 34 (Operand.tmp 3) 3, type := 0, pos := "ref.go:151", after := #[{ on := 3, ground := Ground.guard }], guard := some (3, true) }) (v := ?_) rfl (by kernel_rfl) (by kernel_rfl) (by kernel_rfl) (fun _ _ _ h => h) (Or.inl ⟨by rfl, ?_⟩) HPD.out ?_
  rotate_left
  · (intro y hy; go_simp; try (with_reducible rfl))
  simp only [Act.put, List.setIfInBounds_toArray, List.set_cons_zero, List.set_cons_succ]
  refine wpAnyH_take (i := 5) (oi := { dst := some 51, op := Op.load 31 (Operand.tmp 50), type := 31, pos := "ref.go:151", after := #[{ on := 4, ground := Ground.data }, { on := 3, ground := Ground.guard }], guard := some (3, true) }) (v := .slice o.P o.lb.length o.C) rfl (by kernel_rfl) (by kernel_rfl) (by kernel_rfl) (fun _ _ _ h => h) (Or.inl ⟨by rfl, ?_⟩) HPD.out ?_
  · (intro y hy; have h0 := (OpAt.cells hy.2).2.2.2.1; go_simp)
  simp only [Act.put, List.setIfInBounds_toArray, List.set_cons_zero, List.set_cons_succ]
  refine wpAnyH_take (i := 6) (oi := { dst := some 52, op := Op.call { callee := Callee.builtin Builtin.len, args := #[Operand.tmp 51], argTypes := #[31] }, type := 3, pos := "ref.go:151", after := #[{ on := 5, ground := Ground.data }, { on := 3, ground := Ground.guard }], guard := some (3, true) }) (v := ?_) rfl (by kernel_rfl) (by kernel_rfl) (by kernel_rfl) (fun _ _ _ h => h) (Or.inl ⟨by rfl, ?_⟩) HPD.out ?_
  rotate_left
  · (intro y hy; go_simp; try (with_reducible rfl))
  simp only [Act.put, List.setIfInBounds_toArray, List.set_cons_zero, List.set_cons_succ]
  refine wpAnyH_take (i := 7) (oi := { dst := some 53, op := Op.fieldAddr 28 (Operand.tmp 2) 1, type := 0, pos := "ref.go:151", after := #[{ on := 3, ground := Ground.guard }], guard := some (3, true) }) (v := ?_) rfl (by kernel_rfl) (by kernel_rfl) (by kernel_rfl) (fun _ _ _ h => h) (Or.inl ⟨by rfl, ?_⟩) HPD.out ?_
  rotate_left
  · (intro y hy; go_simp; try (with_reducible rfl))
  simp only [Act.put, List.setIfInBounds_toArray, List.set_cons_zero, List.set_cons_succ]
  refine wpAnyH_take (i := 8) (oi := { dst := some 54, op := Op.load 3 (Operand.tmp 53), type := 3, pos := "ref.go:151", after := #[{ on := 7, ground := Ground.data }, { on := 3, ground := Ground.guard }], guard := some (3, true) }) (v := .int .i64 q.room) rfl (by kernel_rfl) (by kernel_rfl) (by kernel_rfl) (fun _ _ _ h => h) (Or.inl ⟨by rfl, ?_⟩) HPD.out ?_
  · (intro y hy; have h0 := hy.1.cells.2.1; go_simp)
  simp only [Act.put, List.setIfInBounds_toArray, List.set_cons_zero, List.set_cons_succ]
  refine wpAnyH_take (i := 9) (oi := { dst := some 55, op := Op.load 28 (Operand.tmp 2), type := 28, pos := "ref.go:151", after := #[{ on := 3, ground := Ground.guard }], guard := some (3, true) }) (v := rdV (.slice (some ⟨b0, off, none⟩) n c) q) rfl (by kernel_rfl) (by kernel_rfl) (by kernel_rfl) (fun _ _ _ h => h) (Or.inl ⟨by rfl, fun y hy => exec_load_rd (.tmp 2) rfl rfl hy.1⟩) HPD.out ?_
  simp only [Act.put, List.setIfInBounds_toArray, List.set_cons_zero, List.set_cons_succ]
  refine wpAnyH_ready (rs := [10]) (by kernel_rfl) (by simp) ?_
  refine AllReadyH.cons (o := { dst := some 56, op := Op.call { callee := Callee.value (Operand.func 44), args := #[Operand.tmp 55], argTypes := #[28] }, type := 3, pos := "ref.go:151", after := #[{ on := 9, ground := Ground.data }, { on := 3, ground := Ground.chain }, { on := 3, ground := Ground.guard }], guard := some (3, true) }) rfl (fun K hK => ?_) AllReadyH.nil
  go_simp
  refine (rused_any xd X (some ⟨b0, off, none⟩) n c q HN.out.1 (HX5.out.keep HB6.out) (by have := HN.out.2; omega) HU.out).mono ?_
  rintro _ y6 ⟨rfl, hb6⟩
  have HC6 : Hid (Ch2 w y6 (.slice (some ⟨b0, off, none⟩) n c) q o) := (HC5.out.keep HB6.out).keep hb6
  have HP6 : Hid ((fun y => RdAt y w.heap.size (.slice (some ⟨b0, off, none⟩) n c) q ∧ OpAt y (w.heap.size + 1) o) y6) := ⟨HC6.out.rd, HC6.out.op⟩
  clear hb6
  (refine hK _ _ HP6.out ?_; clear hK K; intro _)
  try simp only [Act.put, List.setIfInBounds_toArray, List.set_cons_zero, List.set_cons_succ]
  refine wpAnyH_take (i := 11) (oi := { dst := some 57, op := Op.binOp BinOp.sub 3 (Operand.tmp 54) (Operand.tmp 56) 3, type := 3, pos := "ref.go:151", after := #[{ on := 8, ground := Ground.data }, { on := 10, ground := Ground.data }, { on := 3, ground := Ground.guard }], guard := some (3, true) }) (v := .int .i64 R) rfl (by kernel_rfl) (by kernel_rfl) (by kernel_rfl) (fun _ _ _ h => h) (Or.inl ⟨by rfl, ?_⟩) HP6.out ?_
  · (intro y hy; have h0 := HR.out; go_simp)
  simp only [Act.put, List.setIfInBounds_toArray, List.set_cons_zero, List.set_cons_succ]
  refine wpAnyH_take (i := 12) (oi := { dst := some 58, op := Op.binOp BinOp.gtr 3 (Operand.tmp 52) (Operand.tmp 57) 3, type := 4, pos := "ref.go:151", after := #[{ on := 6, ground := Ground.data }, { on := 11, ground := Ground.data }, { on := 3, ground := Ground.guard }], guard := some (3, true) }) (v := .bool false) rfl (by kernel_rfl) (by kernel_rfl) (by kernel_rfl) (fun _ _ _ h => h) (Or.inl ⟨by rfl, ?_⟩) HP6.out ?_
  · (intro y hy; have h0 := HB.out; go_simp)
  simp only [Act.put, List.setIfInBounds_toArray, List.set_cons_zero, List.set_cons_succ]
  refine wpAnyH_take (i := 13) (oi := { dst := some 59, op := Op.pick (Operand.tmp 49) (Operand.tmp 58) (Operand.const (Value.bool false)), type := 4, pos := "ref.go:151", after := #[{ on := 3, ground := Ground.data }, { on := 12, ground := Ground.data }], guard := none }) (v := ?_) rfl (by kernel_rfl) (by kernel_rfl) (by kernel_rfl) (fun _ _ _ h => h) (Or.inl ⟨by rfl, ?_⟩) HP6.out ?_
  rotate_left
  · (intro y hy; go_simp; try (with_reducible rfl))
  simp only [Act.put, List.setIfInBounds_toArray, List.set_cons_zero, List.set_cons_succ]
  refine wpAnyH_done (by kernel_rfl) ?_ _
  obtain ⟨e0, e1, e2, e3, e4, e5, e6⟩ := HC6.out.op.cells
  obtain ⟨f0, f1, g2, f3, f4, f5⟩ := HC6.out.rd.cells
  rw [HK.out] at e0
  go_wp2_with fail
  go_ret
  exact ⟨rfl, HC6.out.low⟩
end Go.Proofs.Ytlnhhgmdajbepaa
