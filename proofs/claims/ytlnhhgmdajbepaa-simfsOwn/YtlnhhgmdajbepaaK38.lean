/- Own texts, joined: Rdp. -/
import Derived.Test.YtlnhhgmdajbepaaK36
namespace Go.Proofs.Ytlnhhgmdajbepaa
open Go.ChangeShapes Go.WideShapes Go.ChangeAt Go.RowKit
set_option linter.unusedVariables false
set_option linter.unusedSimpArgs false
/-- a cut in the midst of bytes -/
theorem cutb_any {w : World} {a : Option Addr} {m c : Nat} {l : List Nat} {x y E : Int} {N M : Nat} (hb : Bytes w a l) (hm : l.length = m) (hc : m ≤ c) (h0 : 0 ≤ x) (h1 : 0 ≤ y) (hE : x + y = E) (hN : x.toNat = N) (hM : y.toNat = M) (h2 : x + y ≤ (m : Int)) :
    ∃ a3 c3, (∀ u : World, (Instr.sliceAt 31 (.slice a m c) (some (.int .i64 x)) (some (.int .i64 E)) none).run Try.prog u = .ok (.slice a3 M c3) u) ∧ Hid (Bytes w a3 ((l.drop N).take M)) := by
  obtain ⟨N', rfl⟩ : ∃ N' : Nat, x = (N' : Int) := ⟨x.toNat, by omega⟩
  obtain ⟨M', rfl⟩ : ∃ M' : Nat, y = (M' : Int) := ⟨y.toNat, by omega⟩
  simp only [Int.toNat_natCast] at hN hM
  subst hN hM hE
  refine ⟨_, c - N', fun u => ?_, bytes_lh hb N' M' c (by omega) (by omega)⟩
  have hrun := run_slice_lh (P := Try.prog) u 31 a m c slice_under2 .i64 .i64 (N' : Int) ((N' : Int) + (M' : Int)) (by omega) (by omega) (by omega)
  have e1 : ((N' : Int) + (M' : Int)).toNat - N' = M' := by omega
  rw [run_sliceAt_slice (P := Try.prog) u 31 _ _ _ _ slice_under2, hrun, slice_size2]
  simp only [Result.andThen_ok, sliced, Int.toNat_natCast, e1]
theorem exec_slice_lh {o : Oper} {a : Act} {w : World} (s lo hi : Operand) (ho : o.op = .slice 31 s (some lo) (some hi) none) {A : Option Addr} {n cap : Nat} {x E : Int} {v : Value} (hs : a.eval s = .slice A n cap) (hlo : a.eval lo = .int .i64 x) (hhi : a.eval hi = .int .i64 E)
    (h : ∀ u : World, (Instr.sliceAt 31 (.slice A n cap) (some (.int .i64 x)) (some (.int .i64 E)) none).run Try.prog u = .ok v u) : (execOp a.eval o).run Try.prog w = .ok (.value v) w := by
  unfold execOp
  simp only [ho, hs, hlo, hhi, Option.map_some, Option.map_none, Sem.run_bind, Sem.run_pure, Result.andThen_ok, h w]
set_option maxRecDepth 100000 in
set_option maxHeartbeats 1600000 in
theorem rdo_sz (w : World) (X : List (Fa × Value)) (a : Option Addr) (n c : Nat) (q : Rn) (hn : X.length = n) (hX : FlsA w a X) (hnl : n ≤ 1000) (o : Oa) (ho : OpIn w o) (hk : o.k = 7) (hb : BarC X a n c q o 0) (f : Fa) (hg : getA (X.map Prod.fst) o.nm = some f) :
    Calls Try.prog 17 #[rdV (.slice a n c) q, opV o] w (DoQ X a w q (X.map Prod.fst) [] (f.l.length : Nat) 0) := by
  have hC := Ch3.start w (.slice a n c) q o
  obtain ⟨W, hW⟩ : ∃ W, (((w.alloc (.cells #[.slice a n c, .int .i64 q.room, .int .i64 q.fuse, .bool q.off, .int .i64 q.steps, .int .i64 q.read] 28)).alloc (.cells #[.int .i64 o.k, .string (bs o.nm), .string (bs o.to), .slice o.P o.lb.length o.C, .int .i64 o.n, .int .i64 o.m, .slice o.K o.ks.length o.CK] 34)).alloc (.cells #[.slice none 0 0, .int .i64 0, .int .i64 0, .bool false, .int .i64 0, .int .i64 0] 28)) = W := ⟨_, rfl⟩
  have HW : Hid ((((w.alloc (.cells #[.slice a n c, .int .i64 q.room, .int .i64 q.fuse, .bool q.off, .int .i64 q.steps, .int .i64 q.read] 28)).alloc (.cells #[.int .i64 o.k, .string (bs o.nm), .string (bs o.to), .slice o.P o.lb.length o.C, .int .i64 o.n, .int .i64 o.m, .slice o.K o.ks.length o.CK] 34)).alloc (.cells #[.slice none 0 0, .int .i64 0, .int .i64 0, .bool false, .int .i64 0, .int .i64 0] 28)) = W) := hW
  rw [hW] at hC
  have HC : Hid (Ch3 w W (.slice a n c) q o) := hC
  have HN : Hid (X.length = n ∧ n ≤ 1000) := ⟨hn, hnl⟩
  have hnI : (n : Int) ≤ 1000 := by omega
  have hn0 : (0 : Int) ≤ (n : Int) := by omega
  have HX : Hid (FlsA w a X) := hX
  have HO : Hid (OpIn w o) := ho
  have HLO : Hid (w.heap.size + 1 + 1 < W.heap.size) := hC.rz.lt
  have HK : Hid (o.k = 7) := hk
  have HB : Hid (BarC X a n c q o 0) := hb
  have HG : Hid (getA (X.map Prod.fst) o.nm = some f) := hg
  clear hk hb hg
  clear hW hC hn hX ho
  go_enter Try.func17, Try.ntmps17
  go_upto_region 1 with fail
  try simp only [Act.put]
  rw [HW.out]
  obtain ⟨c0, c1, c2, c3, c4, c5, c6⟩ := HC.out.op.cells
  obtain ⟨d0, d1, d2, d3, d4, d5⟩ := HC.out.rd.cells
  have z2 := HC.out.rd.froz 2
  have z3 := HC.out.rd.froz 3
  have z4 := HC.out.rd.froz 4
  have z5 := HC.out.rd.froz 5
  rw [HK.out] at c0
  go_wp2_with (first
    | (go_at_call 46; refine (HB.out W (HX.out.keep HC.out.low) (HO.out.keep HC.out.low)).mono ?_; rintro _ x5 ⟨rfl, hb5⟩; have HC5 : Hid (Ch3 w x5 (.slice a n c) q o) := HC.out.keep hb5; obtain ⟨e0, e1, e2, e3, e4, e5, e6⟩ := HC5.out.op.cells; obtain ⟨g0, g1, g2, g3, g4, g5⟩ := HC5.out.rd.cells; have y2 := HC5.out.rd.froz 2; have y3 := HC5.out.rd.froz 3; have y4 := HC5.out.rd.froz 4; have y5 := HC5.out.rd.froz 5; rw [HK.out] at e0; clear hb5)
    | ((with_reducible refine guard_load 28 ?_); refine wpList_load_rd rfl _ rfl HC5.out.rd rfl ?_)
    | ((with_reducible refine guard_load 28 ?_); refine wpList_load_rd rfl _ rfl HC.out.rd rfl ?_)
    | ((with_reducible refine guard_load 34 ?_); refine wpList_load_opb rfl _ rfl HC.out.op rfl ?_)
    | go_in)
  refine wp_region_held (S := (fun y => RdAt y w.heap.size (.slice a n c) q ∧ OpAt y (w.heap.size + 1) o ∧ FlsA y a X)) (by kernel_rfl) ?_
  change wpAnyH _ _ _ _ _ _ _ _ (World.drew _)
  obtain ⟨xd, hxd⟩ : ∃ xd, World.drew x5 = xd := ⟨_, rfl⟩
  have HCD : Hid (Ch3 w xd (.slice a n c) q o) := by rw [← hxd]; exact HC5.out.keep (Below.refl _ _).drew
  rw [hxd]
  clear hxd
  have HPD : Hid ((fun y => RdAt y w.heap.size (.slice a n c) q ∧ OpAt y (w.heap.size + 1) o ∧ FlsA y a X) xd) := ⟨HCD.out.rd, HCD.out.op, HX.out.keep HCD.out.low⟩
  refine wpAnyH_take (i := 0) (oi := { dst := some 74, op := Op.load 28 (Operand.tmp 2), type := 28, pos := "ref.go:237", after := #[], guard := none }) (v := rdV (.slice a n c) q) rfl (by kernel_rfl) (by kernel_rfl) (by kernel_rfl) (fun _ _ _ h => h) (Or.inl ⟨by rfl, fun y hy => exec_load_rd (.tmp 2) rfl rfl hy.1⟩) HPD.out ?_
  simp only [Act.put, List.setIfInBounds_toArray, List.set_cons_zero, List.set_cons_succ]
  refine wpAnyH_take (i := 1) (oi := { dst := some 75, op := Op.fieldAddr 28 (Operand.tmp 2) 0, type := 0, pos := "ref.go:237", after := #[], guard := none }) (v := ?_) rfl (by kernel_rfl) (by kernel_rfl) (by kernel_rfl) (fun _ _ _ h => h) (Or.inl ⟨by rfl, ?_⟩) HPD.out ?_
  rotate_left
  · (intro y hy; go_simp; try (with_reducible rfl))
  simp only [Act.put, List.setIfInBounds_toArray, List.set_cons_zero, List.set_cons_succ]
  refine wpAnyH_take (i := 2) (oi := { dst := some 76, op := Op.load 26 (Operand.tmp 75), type := 26, pos := "ref.go:237", after := #[{ on := 1, ground := Ground.data }], guard := none }) (v := .slice a n c) rfl (by kernel_rfl) (by kernel_rfl) (by kernel_rfl) (fun _ _ _ h => h) (Or.inl ⟨by rfl, ?_⟩) HPD.out ?_
  · (intro y hy; have h0 := hy.1.cells.1; go_simp)
  simp only [Act.put, List.setIfInBounds_toArray, List.set_cons_zero, List.set_cons_succ]
  refine wpAnyH_take (i := 3) (oi := { dst := some 77, op := Op.load 28 (Operand.tmp 2), type := 28, pos := "ref.go:237", after := #[], guard := none }) (v := rdV (.slice a n c) q) rfl (by kernel_rfl) (by kernel_rfl) (by kernel_rfl) (fun _ _ _ h => h) (Or.inl ⟨by rfl, fun y hy => exec_load_rd (.tmp 2) rfl rfl hy.1⟩) HPD.out ?_
  simp only [Act.put, List.setIfInBounds_toArray, List.set_cons_zero, List.set_cons_succ]
  refine wpAnyH_take (i := 4) (oi := { dst := some 78, op := Op.fieldAddr 34 (Operand.tmp 3) 1, type := 0, pos := "ref.go:237", after := #[], guard := none }) (v := ?_) rfl (by kernel_rfl) (by kernel_rfl) (by kernel_rfl) (fun _ _ _ h => h) (Or.inl ⟨by rfl, ?_⟩) HPD.out ?_
  rotate_left
  · (intro y hy; go_simp; try (with_reducible rfl))
  simp only [Act.put, List.setIfInBounds_toArray, List.set_cons_zero, List.set_cons_succ]
  refine wpAnyH_take (i := 5) (oi := { dst := some 79, op := Op.load 9 (Operand.tmp 78), type := 9, pos := "ref.go:237", after := #[{ on := 4, ground := Ground.data }], guard := none }) (v := .string (bs o.nm)) rfl (by kernel_rfl) (by kernel_rfl) (by kernel_rfl) (fun _ _ _ h => h) (Or.inl ⟨by rfl, ?_⟩) HPD.out ?_
  · (intro y hy; have h0 := hy.2.1.cells.2.1; go_simp)
  simp only [Act.put, List.setIfInBounds_toArray, List.set_cons_zero, List.set_cons_succ]
  refine wpAnyH_ready (rs := [6]) (by kernel_rfl) (by simp) ?_
  refine AllReadyH.cons (o := { dst := some 80, op := Op.call { callee := Callee.value (Operand.func 47), args := #[Operand.tmp 77, Operand.tmp 79], argTypes := #[28, 9] }, type := 3, pos := "ref.go:237", after := #[{ on := 3, ground := Ground.data }, { on := 5, ground := Ground.data }], guard := none }) rfl (fun K hK => ?_) AllReadyH.nil
  go_simp
  refine (rat_any xd X a n c q HN.out.1 HPD.out.2.2 (by have := HN.out.2; omega) o.nm HO.out.nm).mono ?_
  rintro _ y5 ⟨z, rfl, hb5, hz⟩
  obtain ⟨i, p, hi, rfl, hp, hpf⟩ : ∃ (i : Nat) (p : Fa × Value), i < n ∧ z = (i : Int) ∧ X[i]? = some p ∧ p.1 = f := at_found hz HG.out
  obtain ⟨f2, bv⟩ := p
  simp only at hpf
  subst hpf
  obtain ⟨a2, c2, e2v, hby2⟩ := HX.out.fv (List.mem_of_getElem? hp)
  simp only at e2v hby2
  subst e2v
  obtain ⟨m2, hm2⟩ : ∃ m2, f2.l.length = m2 := ⟨_, rfl⟩
  obtain ⟨b0, off, hab, hlt0, _⟩ := HX.out.range hp
  subst hab
  have HRG : Hid (∀ y : World, FlsA y (some ⟨b0, off, none⟩) X → y.cell? ⟨b0, off + i * 3 + 1, none⟩ = some (.slice a2 m2 c2)) := fun y hy => by
    obtain ⟨b9, off9, h1, _, h3⟩ := hy.range hp
    injection h1 with h1
    injection h1 with h4 h5
    subst h4 h5
    rw [hm2] at h3
    exact h3 1 _ rfl
  have HFV : Hid (f2.l.length = m2 ∧ Bytes w a2 f2.l ∧ m2 ≤ c2 ∧ (a2 = none → c2 = 0)) := ⟨hm2, hby2.1, by rw [← hm2]; exact hby2.2.2.1, hby2.2.2.2⟩
  have hiI : (i : Int) < (n : Int) := by omega
  have hi0 : (0 : Int) ≤ (i : Int) := by omega
  have HBC : Hid (Below xd.heap.size xd y5) := hb5
  have HPC : Hid ((fun y => RdAt y w.heap.size (.slice (some ⟨b0, off, none⟩) n c) q ∧ OpAt y (w.heap.size + 1) o ∧ FlsA y (some ⟨b0, off, none⟩) X) y5) := ⟨HPD.out.1.keep HBC.out, HPD.out.2.1.keep HBC.out, HPD.out.2.2.keep HBC.out⟩
  have HCC : Hid (Ch3 w y5 (.slice (some ⟨b0, off, none⟩) n c) q o) := HCD.out.keep HBC.out
  clear hp hlt0 hb5 hm2 hz hby2
  (refine hK _ _ HPC.out ?_; clear hK K; intro _)
  try simp only [Act.put, List.setIfInBounds_toArray, List.set_cons_zero, List.set_cons_succ]
  refine wpAnyH_take (i := 7) (oi := { dst := some 81, op := Op.indexAddr 26 (Operand.tmp 76) (Operand.tmp 80), type := 0, pos := "ref.go:237", after := #[{ on := 2, ground := Ground.data }, { on := 6, ground := Ground.data }], guard := none }) (v := .pointer (some ⟨b0, off + i * 3, none⟩)) rfl (by kernel_rfl) (by kernel_rfl) (by kernel_rfl) (fun _ _ _ h => h) (Or.inl ⟨by rfl, ?_⟩) HPC.out ?_
  · (intro y hy; have h0 := hiI; go_simp)
  simp only [Act.put, List.setIfInBounds_toArray, List.set_cons_zero, List.set_cons_succ]
  refine wpAnyH_take (i := 8) (oi := { dst := some 82, op := Op.fieldAddr 49 (Operand.tmp 81) 1, type := 0, pos := "ref.go:237", after := #[{ on := 7, ground := Ground.data }], guard := none }) (v := ?_) rfl (by kernel_rfl) (by kernel_rfl) (by kernel_rfl) (fun _ _ _ h => h) (Or.inl ⟨by rfl, ?_⟩) HPC.out ?_
  rotate_left
  · (intro y hy; go_simp; try (with_reducible rfl))
  simp only [Act.put, List.setIfInBounds_toArray, List.set_cons_zero, List.set_cons_succ]
  refine wpAnyH_take (i := 9) (oi := { dst := some 83, op := Op.load 31 (Operand.tmp 82), type := 31, pos := "ref.go:237", after := #[{ on := 8, ground := Ground.data }], guard := none }) (v := .slice a2 m2 c2) rfl (by kernel_rfl) (by kernel_rfl) (by kernel_rfl) (fun _ _ _ h => h) (Or.inl ⟨by rfl, ?_⟩) HPC.out ?_
  · (intro y hy; have h0 := HRG.out y hy.2.2; go_simp)
  simp only [Act.put, List.setIfInBounds_toArray, List.set_cons_zero, List.set_cons_succ]
  refine wpAnyH_take (i := 10) (oi := { dst := some 84, op := Op.call { callee := Callee.builtin Builtin.len, args := #[Operand.tmp 83], argTypes := #[31] }, type := 3, pos := "ref.go:237", after := #[{ on := 9, ground := Ground.data }], guard := none }) (v := ?_) rfl (by kernel_rfl) (by kernel_rfl) (by kernel_rfl) (fun _ _ _ h => h) (Or.inl ⟨by rfl, ?_⟩) HPC.out ?_
  rotate_left
  · (intro y hy; go_simp; try (with_reducible rfl))
  simp only [Act.put, List.setIfInBounds_toArray, List.set_cons_zero, List.set_cons_succ]
  refine wpAnyH_ready (rs := [11]) (by kernel_rfl) (by simp) ?_
  refine AllReadyH.cons (o := { dst := none, op := Op.store 28 (Operand.tmp 4) (Operand.tmp 74), type := 0, pos := "ref.go:237", after := #[{ on := 0, ground := Ground.data }, { on := 6, ground := Ground.chain }, { on := 0, ground := Ground.phase }, { on := 1, ground := Ground.textOnly Departure.lateStores }, { on := 2, ground := Ground.textOnly Departure.lateStores }, { on := 3, ground := Ground.textOnly Departure.lateStores }, { on := 4, ground := Ground.textOnly Departure.lateStores }, { on := 5, ground := Ground.textOnly Departure.lateStores }, { on := 6, ground := Ground.textOnly Departure.lateStoresUnsure }, { on := 7, ground := Ground.textOnly Departure.lateStores }, { on := 8, ground := Ground.textOnly Departure.lateStores }, { on := 9, ground := Ground.textOnly Departure.lateStores }, { on := 10, ground := Ground.textOnly Departure.lateStoresUnsure }], guard := none }) rfl (fun K hK => ?_) AllReadyH.nil
  refine step_store_rd rfl _ _ rfl rfl HCC.out.rz (slice_one _ _ _) rfl rfl (v2 := .slice (some ⟨b0, off, none⟩) n c) (q2 := q) ?_
  intro x9 hr9 hb9 hh9 hs9
  have HR9 : Hid (RdAt x9 (w.heap.size + 1 + 1) (.slice (some ⟨b0, off, none⟩) n c) q ∧ Below w.heap.size w x9 ∧ (∀ j, j ≠ w.heap.size + 1 + 1 → x9.heap[j]? = y5.heap[j]?) ∧ x9.heap.size = y5.heap.size) := ⟨hr9, hb9 _ _ HCC.out.low (by omega), hh9, hs9⟩
  have HP9 : Hid ((fun y => RdAt y w.heap.size (.slice (some ⟨b0, off, none⟩) n c) q ∧ OpAt y (w.heap.size + 1) o ∧ FlsA y (some ⟨b0, off, none⟩) X) x9) := ⟨(HR9.out.2.2.1 _ (by omega)).trans HPC.out.1, (HR9.out.2.2.1 _ (by omega)).trans HPC.out.2.1, HX.out.keep HR9.out.2.1⟩
  clear hr9 hb9 hh9 hs9
  (refine hK _ _ HP9.out ?_; clear hK K; intro _)
  try simp only [Act.put, List.setIfInBounds_toArray, List.set_cons_zero, List.set_cons_succ]
  refine wpAnyH_ready (rs := [12]) (by kernel_rfl) (by simp) ?_
  refine AllReadyH.cons (o := { dst := some 5, op := Op.assign (Operand.const (Value.slice none 0 0)), type := 31, pos := "ref.go:237", after := #[{ on := 11, ground := Ground.chain }, { on := 0, ground := Ground.phase }, { on := 1, ground := Ground.textOnly Departure.lateStores }, { on := 2, ground := Ground.textOnly Departure.lateStores }, { on := 3, ground := Ground.textOnly Departure.lateStores }, { on := 4, ground := Ground.textOnly Departure.lateStores }, { on := 5, ground := Ground.textOnly Departure.lateStores }, { on := 6, ground := Ground.textOnly Departure.lateStoresUnsure }, { on := 7, ground := Ground.textOnly Departure.lateStores }, { on := 8, ground := Ground.textOnly Departure.lateStores }, { on := 9, ground := Ground.textOnly Departure.lateStores }, { on := 10, ground := Ground.textOnly Departure.lateStoresUnsure }, { on := 11, ground := Ground.phase }], guard := none }) rfl (fun K hK => ?_) AllReadyH.nil
  go_simp
  (refine hK _ _ HP9.out ?_; clear hK K; intro _)
  try simp only [Act.put, List.setIfInBounds_toArray, List.set_cons_zero, List.set_cons_succ]
  refine wpAnyH_ready (rs := [13]) (by kernel_rfl) (by simp) ?_
  refine AllReadyH.cons (o := { dst := some 6, op := Op.assign (Operand.tmp 84), type := 3, pos := "ref.go:237", after := #[{ on := 10, ground := Ground.data }, { on := 12, ground := Ground.chain }, { on := 0, ground := Ground.phase }, { on := 1, ground := Ground.phase }, { on := 2, ground := Ground.phase }, { on := 3, ground := Ground.phase }, { on := 4, ground := Ground.phase }, { on := 5, ground := Ground.phase }, { on := 6, ground := Ground.phase }, { on := 7, ground := Ground.phase }, { on := 8, ground := Ground.phase }, { on := 9, ground := Ground.phase }, { on := 10, ground := Ground.phase }, { on := 11, ground := Ground.phase }, { on := 12, ground := Ground.phase }], guard := none }) rfl (fun K hK => ?_) AllReadyH.nil
  go_simp
  (refine hK _ _ HP9.out ?_; clear hK K; intro _)
  try simp only [Act.put, List.setIfInBounds_toArray, List.set_cons_zero, List.set_cons_succ]
  refine wpAnyH_ready (rs := [14]) (by kernel_rfl) (by simp) ?_
  refine AllReadyH.cons (o := { dst := some 7, op := Op.assign (Operand.const (Value.int IntKind.i64 0)), type := 3, pos := "ref.go:237", after := #[{ on := 13, ground := Ground.chain }, { on := 0, ground := Ground.phase }, { on := 1, ground := Ground.phase }, { on := 2, ground := Ground.phase }, { on := 3, ground := Ground.phase }, { on := 4, ground := Ground.phase }, { on := 5, ground := Ground.phase }, { on := 6, ground := Ground.phase }, { on := 7, ground := Ground.phase }, { on := 8, ground := Ground.phase }, { on := 9, ground := Ground.phase }, { on := 10, ground := Ground.phase }, { on := 11, ground := Ground.phase }, { on := 12, ground := Ground.phase }, { on := 13, ground := Ground.phase }], guard := none }) rfl (fun K hK => ?_) AllReadyH.nil
  go_simp
  (refine hK _ _ HP9.out ?_; clear hK K; intro _)
  try simp only [Act.put, List.setIfInBounds_toArray, List.set_cons_zero, List.set_cons_succ]
  refine wpAnyH_done (by kernel_rfl) ?_ _
  go_wp2_with fail
  exact bodyPost_ret (results_rd4 rfl _ _ _ rfl HR9.out.1) rfl ⟨some ⟨b0, off, none⟩, n, c, X, .slice none 0 0, by rw [HFV.out.1]; rfl, .inr ⟨rfl, rfl⟩, HN.out.1, rfl, own_nil _ _, HX.out.keep HR9.out.2.1, HR9.out.2.1⟩
set_option maxRecDepth 100000 in
set_option maxHeartbeats 1600000 in
theorem rdo_rd (w : World) (X : List (Fa × Value)) (a : Option Addr) (n c : Nat) (q : Rn) (hn : X.length = n) (hX : FlsA w a X) (hnl : n ≤ 1000) (o : Oa) (ho : OpIn w o) (hk : o.k = 6) (hb : BarC X a n c q o 0) (f : Fa) (hg : getA (X.map Prod.fst) o.nm = some f) (h6 : 0 ≤ o.n ∧ 0 ≤ o.m ∧ o.n + o.m ≤ (f.l.length : Int)) (h7 : f.l.length ≤ 67108864) :
    Calls Try.prog 17 #[rdV (.slice a n c) q, opV o] w (DoQ X a w { q with read := wrap64 (q.read + o.m) } (X.map Prod.fst) ((f.l.drop o.n.toNat).take o.m.toNat) 0 0) := by
  have hC := Ch3.start w (.slice a n c) q o
  obtain ⟨W, hW⟩ : ∃ W, (((w.alloc (.cells #[.slice a n c, .int .i64 q.room, .int .i64 q.fuse, .bool q.off, .int .i64 q.steps, .int .i64 q.read] 28)).alloc (.cells #[.int .i64 o.k, .string (bs o.nm), .string (bs o.to), .slice o.P o.lb.length o.C, .int .i64 o.n, .int .i64 o.m, .slice o.K o.ks.length o.CK] 34)).alloc (.cells #[.slice none 0 0, .int .i64 0, .int .i64 0, .bool false, .int .i64 0, .int .i64 0] 28)) = W := ⟨_, rfl⟩
  have HW : Hid ((((w.alloc (.cells #[.slice a n c, .int .i64 q.room, .int .i64 q.fuse, .bool q.off, .int .i64 q.steps, .int .i64 q.read] 28)).alloc (.cells #[.int .i64 o.k, .string (bs o.nm), .string (bs o.to), .slice o.P o.lb.length o.C, .int .i64 o.n, .int .i64 o.m, .slice o.K o.ks.length o.CK] 34)).alloc (.cells #[.slice none 0 0, .int .i64 0, .int .i64 0, .bool false, .int .i64 0, .int .i64 0] 28)) = W) := hW
  rw [hW] at hC
  have HC : Hid (Ch3 w W (.slice a n c) q o) := hC
  have HN : Hid (X.length = n ∧ n ≤ 1000) := ⟨hn, hnl⟩
  have hnI : (n : Int) ≤ 1000 := by omega
  have hn0 : (0 : Int) ≤ (n : Int) := by omega
  have HX : Hid (FlsA w a X) := hX
  have HO : Hid (OpIn w o) := ho
  have HLO : Hid (w.heap.size + 1 + 1 < W.heap.size) := hC.rz.lt
  have HK : Hid (o.k = 6) := hk
  have HB : Hid (BarC X a n c q o 0) := hb
  have HG : Hid (getA (X.map Prod.fst) o.nm = some f) := hg
  have HB6 : Hid (0 ≤ o.n ∧ 0 ≤ o.m ∧ o.n + o.m ≤ (f.l.length : Int)) := h6
  have HS6 : Hid (f.l.length ≤ 67108864) := h7
  clear hk hb hg h6 h7
  clear hW hC hn hX ho
  go_enter Try.func17, Try.ntmps17
  go_upto_region 1 with fail
  try simp only [Act.put]
  rw [HW.out]
  obtain ⟨c0, c1, c2, c3, c4, c5, c6⟩ := HC.out.op.cells
  obtain ⟨d0, d1, d2, d3, d4, d5⟩ := HC.out.rd.cells
  have z2 := HC.out.rd.froz 2
  have z3 := HC.out.rd.froz 3
  have z4 := HC.out.rd.froz 4
  have z5 := HC.out.rd.froz 5
  rw [HK.out] at c0
  go_wp2_with (first
    | (go_at_call 46; refine (HB.out W (HX.out.keep HC.out.low) (HO.out.keep HC.out.low)).mono ?_; rintro _ x5 ⟨rfl, hb5⟩; have HC5 : Hid (Ch3 w x5 (.slice a n c) q o) := HC.out.keep hb5; obtain ⟨e0, e1, e2, e3, e4, e5, e6⟩ := HC5.out.op.cells; obtain ⟨g0, g1, g2, g3, g4, g5⟩ := HC5.out.rd.cells; have y2 := HC5.out.rd.froz 2; have y3 := HC5.out.rd.froz 3; have y4 := HC5.out.rd.froz 4; have y5 := HC5.out.rd.froz 5; rw [HK.out] at e0; have HC6 : Hid (Ch3 w (x5.setCell ⟨w.heap.size, 5, none⟩ (.int .i64 (wrap64 (q.read + o.m)))) (.slice a n c) { q with read := wrap64 (q.read + o.m) } o) := HC5.out.setn 5 _ (HC5.out.rd.set5 _); clear hb5)
    | ((with_reducible refine guard_load 28 ?_); refine wpList_load_rd rfl _ rfl HC5.out.rd rfl ?_)
    | ((with_reducible refine guard_load 28 ?_); refine wpList_load_rd rfl _ rfl HC.out.rd rfl ?_)
    | ((with_reducible refine guard_load 34 ?_); refine wpList_load_opb rfl _ rfl HC.out.op rfl ?_)
    | go_in)
  obtain ⟨E, hE⟩ : ∃ E, o.n + o.m = E := ⟨_, rfl⟩
  obtain ⟨NN, hNN⟩ : ∃ NN : Nat, o.n.toNat = NN := ⟨_, rfl⟩
  obtain ⟨M, hM⟩ : ∃ M : Nat, o.m.toNat = M := ⟨_, rfl⟩
  have HSM : Hid (IntKind.i64.wrap (o.n + o.m) = E) := by show _ = _; rw [hE, wrap_i64]; have := HB6.out; have := HS6.out; omega
  have HEE : Hid (o.n + o.m = E) := hE
  have HNM : Hid (o.n.toNat = NN ∧ o.m.toNat = M) := ⟨hNN, hM⟩
  clear hE hNN hM
  refine wp_region_held (S := (fun y => RdAt y w.heap.size (.slice a n c) { q with read := wrap64 (q.read + o.m) } ∧ OpAt y (w.heap.size + 1) o ∧ FlsA y a X)) (by kernel_rfl) ?_
  change wpAnyH _ _ _ _ _ _ _ _ (World.drew _)
  obtain ⟨xd, hxd⟩ : ∃ xd, World.drew (x5.setCell ⟨w.heap.size, 5, none⟩ (.int .i64 (wrap64 (q.read + o.m)))) = xd := ⟨_, rfl⟩
  have HCD : Hid (Ch3 w xd (.slice a n c) { q with read := wrap64 (q.read + o.m) } o) := by rw [← hxd]; exact HC6.out.keep (Below.refl _ _).drew
  rw [hxd]
  clear hxd
  have HPD : Hid ((fun y => RdAt y w.heap.size (.slice a n c) { q with read := wrap64 (q.read + o.m) } ∧ OpAt y (w.heap.size + 1) o ∧ FlsA y a X) xd) := ⟨HCD.out.rd, HCD.out.op, HX.out.keep HCD.out.low⟩
  refine wpAnyH_take (i := 0) (oi := { dst := some 52, op := Op.load 28 (Operand.tmp 2), type := 28, pos := "ref.go:234", after := #[], guard := none }) (v := rdV (.slice a n c) { q with read := wrap64 (q.read + o.m) }) rfl (by kernel_rfl) (by kernel_rfl) (by kernel_rfl) (fun _ _ _ h => h) (Or.inl ⟨by rfl, fun y hy => exec_load_rd (.tmp 2) rfl rfl hy.1⟩) HPD.out ?_
  simp only [Act.put, List.setIfInBounds_toArray, List.set_cons_zero, List.set_cons_succ]
  refine wpAnyH_take (i := 1) (oi := { dst := some 53, op := Op.fieldAddr 28 (Operand.tmp 2) 0, type := 0, pos := "ref.go:234", after := #[], guard := none }) (v := ?_) rfl (by kernel_rfl) (by kernel_rfl) (by kernel_rfl) (fun _ _ _ h => h) (Or.inl ⟨by rfl, ?_⟩) HPD.out ?_
  rotate_left
  · (intro y hy; go_simp; try (with_reducible rfl))
  simp only [Act.put, List.setIfInBounds_toArray, List.set_cons_zero, List.set_cons_succ]
  refine wpAnyH_take (i := 2) (oi := { dst := some 54, op := Op.load 26 (Operand.tmp 53), type := 26, pos := "ref.go:234", after := #[{ on := 1, ground := Ground.data }], guard := none }) (v := .slice a n c) rfl (by kernel_rfl) (by kernel_rfl) (by kernel_rfl) (fun _ _ _ h => h) (Or.inl ⟨by rfl, ?_⟩) HPD.out ?_
  · (intro y hy; have h0 := hy.1.cells.1; go_simp)
  simp only [Act.put, List.setIfInBounds_toArray, List.set_cons_zero, List.set_cons_succ]
  refine wpAnyH_take (i := 3) (oi := { dst := some 55, op := Op.load 28 (Operand.tmp 2), type := 28, pos := "ref.go:234", after := #[], guard := none }) (v := rdV (.slice a n c) { q with read := wrap64 (q.read + o.m) }) rfl (by kernel_rfl) (by kernel_rfl) (by kernel_rfl) (fun _ _ _ h => h) (Or.inl ⟨by rfl, fun y hy => exec_load_rd (.tmp 2) rfl rfl hy.1⟩) HPD.out ?_
  simp only [Act.put, List.setIfInBounds_toArray, List.set_cons_zero, List.set_cons_succ]
  refine wpAnyH_take (i := 4) (oi := { dst := some 56, op := Op.fieldAddr 34 (Operand.tmp 3) 1, type := 0, pos := "ref.go:234", after := #[], guard := none }) (v := ?_) rfl (by kernel_rfl) (by kernel_rfl) (by kernel_rfl) (fun _ _ _ h => h) (Or.inl ⟨by rfl, ?_⟩) HPD.out ?_
  rotate_left
  · (intro y hy; go_simp; try (with_reducible rfl))
  simp only [Act.put, List.setIfInBounds_toArray, List.set_cons_zero, List.set_cons_succ]
  refine wpAnyH_take (i := 5) (oi := { dst := some 57, op := Op.load 9 (Operand.tmp 56), type := 9, pos := "ref.go:234", after := #[{ on := 4, ground := Ground.data }], guard := none }) (v := .string (bs o.nm)) rfl (by kernel_rfl) (by kernel_rfl) (by kernel_rfl) (fun _ _ _ h => h) (Or.inl ⟨by rfl, ?_⟩) HPD.out ?_
  · (intro y hy; have h0 := hy.2.1.cells.2.1; go_simp)
  simp only [Act.put, List.setIfInBounds_toArray, List.set_cons_zero, List.set_cons_succ]
  refine wpAnyH_take (i := 10) (oi := { dst := some 62, op := Op.fieldAddr 34 (Operand.tmp 3) 4, type := 0, pos := "ref.go:234", after := #[], guard := none }) (v := ?_) rfl (by kernel_rfl) (by kernel_rfl) (by kernel_rfl) (fun _ _ _ h => h) (Or.inl ⟨by rfl, ?_⟩) HPD.out ?_
  rotate_left
  · (intro y hy; go_simp; try (with_reducible rfl))
  simp only [Act.put, List.setIfInBounds_toArray, List.set_cons_zero, List.set_cons_succ]
  refine wpAnyH_take (i := 11) (oi := { dst := some 63, op := Op.load 3 (Operand.tmp 62), type := 3, pos := "ref.go:234", after := #[{ on := 10, ground := Ground.data }], guard := none }) (v := .int .i64 o.n) rfl (by kernel_rfl) (by kernel_rfl) (by kernel_rfl) (fun _ _ _ h => h) (Or.inl ⟨by rfl, ?_⟩) HPD.out ?_
  · (intro y hy; have h0 := hy.2.1.cells.2.2.2.2.1; go_simp)
  simp only [Act.put, List.setIfInBounds_toArray, List.set_cons_zero, List.set_cons_succ]
  refine wpAnyH_take (i := 12) (oi := { dst := some 64, op := Op.fieldAddr 34 (Operand.tmp 3) 4, type := 0, pos := "ref.go:234", after := #[], guard := none }) (v := ?_) rfl (by kernel_rfl) (by kernel_rfl) (by kernel_rfl) (fun _ _ _ h => h) (Or.inl ⟨by rfl, ?_⟩) HPD.out ?_
  rotate_left
  · (intro y hy; go_simp; try (with_reducible rfl))
  simp only [Act.put, List.setIfInBounds_toArray, List.set_cons_zero, List.set_cons_succ]
  refine wpAnyH_take (i := 13) (oi := { dst := some 65, op := Op.load 3 (Operand.tmp 64), type := 3, pos := "ref.go:234", after := #[{ on := 12, ground := Ground.data }], guard := none }) (v := .int .i64 o.n) rfl (by kernel_rfl) (by kernel_rfl) (by kernel_rfl) (fun _ _ _ h => h) (Or.inl ⟨by rfl, ?_⟩) HPD.out ?_
  · (intro y hy; have h0 := hy.2.1.cells.2.2.2.2.1; go_simp)
  simp only [Act.put, List.setIfInBounds_toArray, List.set_cons_zero, List.set_cons_succ]
  refine wpAnyH_take (i := 14) (oi := { dst := some 66, op := Op.fieldAddr 34 (Operand.tmp 3) 5, type := 0, pos := "ref.go:234", after := #[], guard := none }) (v := ?_) rfl (by kernel_rfl) (by kernel_rfl) (by kernel_rfl) (fun _ _ _ h => h) (Or.inl ⟨by rfl, ?_⟩) HPD.out ?_
  rotate_left
  · (intro y hy; go_simp; try (with_reducible rfl))
  simp only [Act.put, List.setIfInBounds_toArray, List.set_cons_zero, List.set_cons_succ]
  refine wpAnyH_take (i := 15) (oi := { dst := some 67, op := Op.load 3 (Operand.tmp 66), type := 3, pos := "ref.go:234", after := #[{ on := 14, ground := Ground.data }], guard := none }) (v := .int .i64 o.m) rfl (by kernel_rfl) (by kernel_rfl) (by kernel_rfl) (fun _ _ _ h => h) (Or.inl ⟨by rfl, ?_⟩) HPD.out ?_
  · (intro y hy; have h0 := hy.2.1.cells.2.2.2.2.2.1; go_simp)
  simp only [Act.put, List.setIfInBounds_toArray, List.set_cons_zero, List.set_cons_succ]
  refine wpAnyH_take (i := 16) (oi := { dst := some 68, op := Op.binOp BinOp.add 3 (Operand.tmp 65) (Operand.tmp 67) 3, type := 3, pos := "ref.go:234", after := #[{ on := 13, ground := Ground.data }, { on := 15, ground := Ground.data }], guard := none }) (v := .int .i64 E) rfl (by kernel_rfl) (by kernel_rfl) (by kernel_rfl) (fun _ _ _ h => h) (Or.inl ⟨by rfl, ?_⟩) HPD.out ?_
  · (intro y hy; have h0 := HSM.out; go_simp)
  simp only [Act.put, List.setIfInBounds_toArray, List.set_cons_zero, List.set_cons_succ]
  refine wpAnyH_ready (rs := [6]) (by kernel_rfl) (by simp) ?_
  refine AllReadyH.cons (o := { dst := some 58, op := Op.call { callee := Callee.value (Operand.func 47), args := #[Operand.tmp 55, Operand.tmp 57], argTypes := #[28, 9] }, type := 3, pos := "ref.go:234", after := #[{ on := 3, ground := Ground.data }, { on := 5, ground := Ground.data }], guard := none }) rfl (fun K hK => ?_) AllReadyH.nil
  go_simp
  refine (rat_any xd X a n c { q with read := wrap64 (q.read + o.m) } HN.out.1 HPD.out.2.2 (by have := HN.out.2; omega) o.nm HO.out.nm).mono ?_
  rintro _ y5 ⟨z, rfl, hb5, hz⟩
  obtain ⟨i, p, hi, rfl, hp, hpf⟩ : ∃ (i : Nat) (p : Fa × Value), i < n ∧ z = (i : Int) ∧ X[i]? = some p ∧ p.1 = f := at_found hz HG.out
  obtain ⟨f2, bv⟩ := p
  simp only at hpf
  subst hpf
  obtain ⟨a2, c2, e2v, hby2⟩ := HX.out.fv (List.mem_of_getElem? hp)
  simp only at e2v hby2
  subst e2v
  obtain ⟨m2, hm2⟩ : ∃ m2, f2.l.length = m2 := ⟨_, rfl⟩
  obtain ⟨b0, off, hab, hlt0, _⟩ := HX.out.range hp
  subst hab
  have HRG : Hid (∀ y : World, FlsA y (some ⟨b0, off, none⟩) X → y.cell? ⟨b0, off + i * 3 + 1, none⟩ = some (.slice a2 m2 c2)) := fun y hy => by
    obtain ⟨b9, off9, h1, _, h3⟩ := hy.range hp
    injection h1 with h1
    injection h1 with h4 h5
    subst h4 h5
    rw [hm2] at h3
    exact h3 1 _ rfl
  have HFV : Hid (f2.l.length = m2 ∧ Bytes w a2 f2.l ∧ m2 ≤ c2 ∧ (a2 = none → c2 = 0)) := ⟨hm2, hby2.1, by rw [← hm2]; exact hby2.2.2.1, hby2.2.2.2⟩
  have hiI : (i : Int) < (n : Int) := by omega
  have hi0 : (0 : Int) ≤ (i : Int) := by omega
  have HBC : Hid (Below xd.heap.size xd y5) := hb5
  have HPC : Hid ((fun y => RdAt y w.heap.size (.slice (some ⟨b0, off, none⟩) n c) { q with read := wrap64 (q.read + o.m) } ∧ OpAt y (w.heap.size + 1) o ∧ FlsA y (some ⟨b0, off, none⟩) X) y5) := ⟨HPD.out.1.keep HBC.out, HPD.out.2.1.keep HBC.out, HPD.out.2.2.keep HBC.out⟩
  have HCC : Hid (Ch3 w y5 (.slice (some ⟨b0, off, none⟩) n c) { q with read := wrap64 (q.read + o.m) } o) := HCD.out.keep HBC.out
  clear hp hlt0 hb5 hm2 hz hby2
  obtain ⟨a3, c3, hsl, HBY3⟩ := cutb_any (c := c2) HFV.out.2.1 HFV.out.1 HFV.out.2.2.1 HB6.out.1 HB6.out.2.1 HEE.out HNM.out.1 HNM.out.2 (by have := HB6.out; have := HFV.out.1; omega)
  have HSL : Hid (∀ u : World, (Instr.sliceAt 31 (.slice a2 m2 c2) (some (.int .i64 o.n)) (some (.int .i64 E)) none).run Try.prog u = .ok (.slice a3 M c3) u) := hsl
  have HLM : Hid (((f2.l.drop NN).take M).length = M) := by show _ = _; rw [List.length_take, List.length_drop]; have := HB6.out; have := HNM.out; omega
  have hMI : (M : Int) ≤ 140737488351232 := by have := HB6.out; have := HS6.out; have := HNM.out; omega
  clear hsl
  (refine hK _ _ HPC.out ?_; clear hK K; intro _)
  try simp only [Act.put, List.setIfInBounds_toArray, List.set_cons_zero, List.set_cons_succ]
  refine wpAnyH_take (i := 7) (oi := { dst := some 59, op := Op.indexAddr 26 (Operand.tmp 54) (Operand.tmp 58), type := 0, pos := "ref.go:234", after := #[{ on := 2, ground := Ground.data }, { on := 6, ground := Ground.data }], guard := none }) (v := .pointer (some ⟨b0, off + i * 3, none⟩)) rfl (by kernel_rfl) (by kernel_rfl) (by kernel_rfl) (fun _ _ _ h => h) (Or.inl ⟨by rfl, ?_⟩) HPC.out ?_
  · (intro y hy; have h0 := hiI; go_simp)
  simp only [Act.put, List.setIfInBounds_toArray, List.set_cons_zero, List.set_cons_succ]
  refine wpAnyH_take (i := 8) (oi := { dst := some 60, op := Op.fieldAddr 49 (Operand.tmp 59) 1, type := 0, pos := "ref.go:234", after := #[{ on := 7, ground := Ground.data }], guard := none }) (v := ?_) rfl (by kernel_rfl) (by kernel_rfl) (by kernel_rfl) (fun _ _ _ h => h) (Or.inl ⟨by rfl, ?_⟩) HPC.out ?_
  rotate_left
  · (intro y hy; go_simp; try (with_reducible rfl))
  simp only [Act.put, List.setIfInBounds_toArray, List.set_cons_zero, List.set_cons_succ]
  refine wpAnyH_take (i := 9) (oi := { dst := some 61, op := Op.load 31 (Operand.tmp 60), type := 31, pos := "ref.go:234", after := #[{ on := 8, ground := Ground.data }], guard := none }) (v := .slice a2 m2 c2) rfl (by kernel_rfl) (by kernel_rfl) (by kernel_rfl) (fun _ _ _ h => h) (Or.inl ⟨by rfl, ?_⟩) HPC.out ?_
  · (intro y hy; have h0 := HRG.out y hy.2.2; go_simp)
  simp only [Act.put, List.setIfInBounds_toArray, List.set_cons_zero, List.set_cons_succ]
  refine wpAnyH_take (i := 17) (oi := { dst := some 69, op := Op.slice 31 (Operand.tmp 61) (some (Operand.tmp 63)) (some (Operand.tmp 68)) none, type := 31, pos := "ref.go:234", after := #[{ on := 9, ground := Ground.data }, { on := 11, ground := Ground.data }, { on := 16, ground := Ground.data }], guard := none }) (v := .slice a3 M c3) rfl (by kernel_rfl) (by kernel_rfl) (by kernel_rfl) (fun _ _ _ h => h) (Or.inl ⟨by rfl, fun y hy => exec_slice_lh (.tmp 61) (.tmp 63) (.tmp 68) rfl rfl rfl rfl HSL.out⟩) HPC.out ?_
  simp only [Act.put, List.setIfInBounds_toArray, List.set_cons_zero, List.set_cons_succ]
  refine wpAnyH_ready (rs := [18]) (by kernel_rfl) (by simp) ?_
  refine AllReadyH.cons (o := { dst := some 70, op := Op.call { callee := Callee.value (Operand.func 29), args := #[Operand.tmp 69], argTypes := #[31] }, type := 31, pos := "ref.go:234", after := #[{ on := 17, ground := Ground.data }, { on := 6, ground := Ground.chain }], guard := none }) rfl (fun K hK => ?_) AllReadyH.nil
  go_simp
  refine (copy_m ((f2.l.drop NN).take M) M HLM.out a3 c3 y5 (HBY3.out.keep HCC.out.low) hMI).mono ?_
  rintro _ y7 ⟨v7, rfl, ho7, hb7⟩
  have HO7 : Hid (Own y7 y5.heap.size v7 ((f2.l.drop NN).take M)) := ho7
  have HP7 : Hid ((fun y => RdAt y w.heap.size (.slice (some ⟨b0, off, none⟩) n c) { q with read := wrap64 (q.read + o.m) } ∧ OpAt y (w.heap.size + 1) o ∧ FlsA y (some ⟨b0, off, none⟩) X) y7) := ⟨HPC.out.1.keep hb7, HPC.out.2.1.keep hb7, HPC.out.2.2.keep hb7⟩
  have HC7 : Hid (Ch3 w y7 (.slice (some ⟨b0, off, none⟩) n c) { q with read := wrap64 (q.read + o.m) } o) := HCC.out.keep hb7
  clear ho7 hb7
  (refine hK _ _ HP7.out ?_; clear hK K; intro _)
  try simp only [Act.put, List.setIfInBounds_toArray, List.set_cons_zero, List.set_cons_succ]
  refine wpAnyH_ready (rs := [19]) (by kernel_rfl) (by simp) ?_
  refine AllReadyH.cons (o := { dst := none, op := Op.store 28 (Operand.tmp 4) (Operand.tmp 52), type := 0, pos := "ref.go:234", after := #[{ on := 0, ground := Ground.data }, { on := 18, ground := Ground.chain }, { on := 0, ground := Ground.phase }, { on := 1, ground := Ground.textOnly Departure.lateStores }, { on := 2, ground := Ground.textOnly Departure.lateStores }, { on := 3, ground := Ground.textOnly Departure.lateStores }, { on := 4, ground := Ground.textOnly Departure.lateStores }, { on := 5, ground := Ground.textOnly Departure.lateStores }, { on := 6, ground := Ground.textOnly Departure.lateStoresUnsure }, { on := 7, ground := Ground.textOnly Departure.lateStores }, { on := 8, ground := Ground.textOnly Departure.lateStores }, { on := 9, ground := Ground.textOnly Departure.lateStores }, { on := 10, ground := Ground.textOnly Departure.lateStores }, { on := 11, ground := Ground.textOnly Departure.lateStores }, { on := 12, ground := Ground.textOnly Departure.lateStores }, { on := 13, ground := Ground.textOnly Departure.lateStores }, { on := 14, ground := Ground.textOnly Departure.lateStores }, { on := 15, ground := Ground.textOnly Departure.lateStores }, { on := 16, ground := Ground.textOnly Departure.lateStores }, { on := 17, ground := Ground.textOnly Departure.lateStoresUnsure }, { on := 18, ground := Ground.textOnly Departure.lateStoresUnsure }], guard := none }) rfl (fun K hK => ?_) AllReadyH.nil
  refine step_store_rd rfl _ _ rfl rfl HC7.out.rz (slice_one _ _ _) rfl rfl (v2 := .slice (some ⟨b0, off, none⟩) n c) (q2 := { q with read := wrap64 (q.read + o.m) }) ?_
  intro x9 hr9 hb9 hh9 hs9
  have HR9 : Hid (RdAt x9 (w.heap.size + 1 + 1) (.slice (some ⟨b0, off, none⟩) n c) { q with read := wrap64 (q.read + o.m) } ∧ Below w.heap.size w x9 ∧ (∀ j, j ≠ w.heap.size + 1 + 1 → x9.heap[j]? = y7.heap[j]?) ∧ x9.heap.size = y7.heap.size) := ⟨hr9, hb9 _ _ HC7.out.low (by omega), hh9, hs9⟩
  have HP9 : Hid ((fun y => RdAt y w.heap.size (.slice (some ⟨b0, off, none⟩) n c) { q with read := wrap64 (q.read + o.m) } ∧ OpAt y (w.heap.size + 1) o ∧ FlsA y (some ⟨b0, off, none⟩) X) x9) := ⟨(HR9.out.2.2.1 _ (by omega)).trans HP7.out.1, (HR9.out.2.2.1 _ (by omega)).trans HP7.out.2.1, HX.out.keep HR9.out.2.1⟩
  clear hr9 hb9 hh9 hs9
  (refine hK _ _ HP9.out ?_; clear hK K; intro _)
  try simp only [Act.put, List.setIfInBounds_toArray, List.set_cons_zero, List.set_cons_succ]
  refine wpAnyH_ready (rs := [20]) (by kernel_rfl) (by simp) ?_
  refine AllReadyH.cons (o := { dst := some 5, op := Op.assign (Operand.tmp 70), type := 31, pos := "ref.go:234", after := #[{ on := 18, ground := Ground.data }, { on := 19, ground := Ground.chain }, { on := 0, ground := Ground.phase }, { on := 1, ground := Ground.phase }, { on := 2, ground := Ground.phase }, { on := 3, ground := Ground.phase }, { on := 4, ground := Ground.phase }, { on := 5, ground := Ground.phase }, { on := 6, ground := Ground.phase }, { on := 7, ground := Ground.phase }, { on := 8, ground := Ground.phase }, { on := 9, ground := Ground.phase }, { on := 10, ground := Ground.phase }, { on := 11, ground := Ground.phase }, { on := 12, ground := Ground.phase }, { on := 13, ground := Ground.phase }, { on := 14, ground := Ground.phase }, { on := 15, ground := Ground.phase }, { on := 16, ground := Ground.phase }, { on := 17, ground := Ground.phase }, { on := 18, ground := Ground.phase }, { on := 19, ground := Ground.phase }], guard := none }) rfl (fun K hK => ?_) AllReadyH.nil
  go_simp
  (refine hK _ _ HP9.out ?_; clear hK K; intro _)
  try simp only [Act.put, List.setIfInBounds_toArray, List.set_cons_zero, List.set_cons_succ]
  refine wpAnyH_ready (rs := [21]) (by kernel_rfl) (by simp) ?_
  refine AllReadyH.cons (o := { dst := some 6, op := Op.assign (Operand.const (Value.int IntKind.i64 0)), type := 3, pos := "ref.go:234", after := #[{ on := 20, ground := Ground.chain }, { on := 0, ground := Ground.phase }, { on := 1, ground := Ground.phase }, { on := 2, ground := Ground.phase }, { on := 3, ground := Ground.phase }, { on := 4, ground := Ground.phase }, { on := 5, ground := Ground.phase }, { on := 6, ground := Ground.phase }, { on := 7, ground := Ground.phase }, { on := 8, ground := Ground.phase }, { on := 9, ground := Ground.phase }, { on := 10, ground := Ground.phase }, { on := 11, ground := Ground.phase }, { on := 12, ground := Ground.phase }, { on := 13, ground := Ground.phase }, { on := 14, ground := Ground.phase }, { on := 15, ground := Ground.phase }, { on := 16, ground := Ground.phase }, { on := 17, ground := Ground.phase }, { on := 18, ground := Ground.phase }, { on := 19, ground := Ground.phase }, { on := 20, ground := Ground.phase }], guard := none }) rfl (fun K hK => ?_) AllReadyH.nil
  go_simp
  (refine hK _ _ HP9.out ?_; clear hK K; intro _)
  try simp only [Act.put, List.setIfInBounds_toArray, List.set_cons_zero, List.set_cons_succ]
  refine wpAnyH_ready (rs := [22]) (by kernel_rfl) (by simp) ?_
  refine AllReadyH.cons (o := { dst := some 7, op := Op.assign (Operand.const (Value.int IntKind.i64 0)), type := 3, pos := "ref.go:234", after := #[{ on := 21, ground := Ground.chain }, { on := 0, ground := Ground.phase }, { on := 1, ground := Ground.phase }, { on := 2, ground := Ground.phase }, { on := 3, ground := Ground.phase }, { on := 4, ground := Ground.phase }, { on := 5, ground := Ground.phase }, { on := 6, ground := Ground.phase }, { on := 7, ground := Ground.phase }, { on := 8, ground := Ground.phase }, { on := 9, ground := Ground.phase }, { on := 10, ground := Ground.phase }, { on := 11, ground := Ground.phase }, { on := 12, ground := Ground.phase }, { on := 13, ground := Ground.phase }, { on := 14, ground := Ground.phase }, { on := 15, ground := Ground.phase }, { on := 16, ground := Ground.phase }, { on := 17, ground := Ground.phase }, { on := 18, ground := Ground.phase }, { on := 19, ground := Ground.phase }, { on := 20, ground := Ground.phase }, { on := 21, ground := Ground.phase }], guard := none }) rfl (fun K hK => ?_) AllReadyH.nil
  go_simp
  (refine hK _ _ HP9.out ?_; clear hK K; intro _)
  try simp only [Act.put, List.setIfInBounds_toArray, List.set_cons_zero, List.set_cons_succ]
  refine wpAnyH_done (by kernel_rfl) ?_ _
  go_wp2_with fail
  have HO9 : Own x9 w.heap.size v7 ((f2.l.drop o.n.toNat).take o.m.toNat) := by
    rw [HNM.out.1, HNM.out.2]
    exact (Own.turn HO7.out (Nat.le_refl _) (fun k h1 _ => HR9.out.2.2.1 k (by have := HCC.out.rz.lt; omega))).lower HCC.out.low.size
  exact bodyPost_ret (results_rd4 rfl _ _ _ rfl HR9.out.1) rfl ⟨some ⟨b0, off, none⟩, n, c, X, v7, rfl, .inr ⟨rfl, rfl⟩, HN.out.1, rfl, HO9, HX.out.keep HR9.out.2.1, HR9.out.2.1⟩
end Go.Proofs.Ytlnhhgmdajbepaa
