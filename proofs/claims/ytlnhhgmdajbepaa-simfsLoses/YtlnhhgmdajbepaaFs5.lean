/- simfs: put, find. -/
import Derived.Test.YtlnhhgmdajbepaaFs4
namespace Go.Proofs.Ytlnhhgmdajbepaa
open Go.ChangeShapes Go.WideShapes Go.ChangeAt Go.RowKit
set_option linter.unusedVariables false
set_option linter.unusedSimpArgs false
theorem cell_heapS {x y : World} {g : Nat} (h : y.heap[g]? = x.heap[g]?) (j : Nat) : y.cell? ⟨g, j, none⟩ = x.cell? ⟨g, j, none⟩ := by
  unfold World.cell?
  simp only [h]
theorem exec_load_fi {o : Oper} {a : Act} {w : World} (x : Operand) (ho : o.op = .load 85 x) {k : Nat} {v : Value} {s : Int} (hx : a.eval x = .pointer (some ⟨k, 0, none⟩)) (hL : FiAt w k v s) : (execOp a.eval o).run Try.prog w = .ok (.value (fiV v s)) w := by
  unfold execOp
  simp only [ho, hx, Sem.run_bind, Sem.run_pure, Result.andThen_ok, hL.load]
theorem map_eq (b : Nat) (w' : World) : (binOp .eql 73 (.map (some b)) (.map none)).run Try.prog w' = .ok (.bool false) w' := by kernel_rfl
theorem on_turned {w w' : World} {b : Nat} (h : w.mapTurned w' b) : On b w w' := by
  obtain ⟨es, c, es', c', hb, rfl⟩ := h
  exact ⟨rfl, rfl, rfl, by simp [Go.ChangeMaps.setBlock], fun k hk => Go.ChangeMaps.heap_setBlock_other hb _ hk⟩
theorem ins_dist (f : Fi) : ∀ {L : List Fi}, SortN L → OwnDist L → (∀ g ∈ L, g.name ≠ f.name → ∀ k, f.v.ownBlock = some k → g.v.ownBlock ≠ some k) → OwnDist (insN f L)
  | [], _, _, _ => by unfold insN; exact List.pairwise_singleton _ _
  | g :: r, hs, hd, hf => by
    obtain ⟨h1, h2⟩ := List.pairwise_cons.1 hs
    obtain ⟨d1, d2⟩ := List.pairwise_cons.1 hd
    unfold insN
    by_cases e1 : f.name < g.name
    · rw [if_pos e1]
      refine List.pairwise_cons.2 ⟨fun x hx => hf x hx (fun e => ?_), hd⟩
      rcases List.mem_cons.1 hx with h3 | h3
      · rw [h3] at e; rw [e] at e1; exact lt_irr _ e1
      · have := lt_tr e1 (h1 x h3); rw [e] at this; exact lt_irr _ this
    · rw [if_neg e1]
      by_cases e2 : f.name = g.name
      · rw [if_pos e2]
        refine List.pairwise_cons.2 ⟨fun x hx => hf x (List.mem_cons_of_mem _ hx) (fun e => ?_), d2⟩
        have := h1 x hx
        rw [e, e2] at this
        exact lt_irr _ this
      · rw [if_neg e2]
        refine List.pairwise_cons.2 ⟨fun x hx => ?_, ins_dist f h2 d2 (fun y hy => hf y (List.mem_cons_of_mem _ hy))⟩
        rcases mem_ins hx with h3 | h3
        · rw [h3]
          intro k hk hk2
          exact hf g (List.mem_cons_self ..) (fun e => e2 e.symm) k hk2 hk
        · exact d1 x h3
/-- a file laid under its name -/
abbrev putD (D : Dk) (f : Fi) : Dk := { D with fs := insN f D.fs }
theorem DkAt.putTo {w w' : World} {base q b n : Nat} {D : Dk} {M : DataW Value} (h : DkAt w base q b D) (f : Fi) (hd : DatAt w base f.v f.l) (hdis : ∀ g ∈ D.fs, g.name ≠ f.name → ∀ k, f.v.ownBlock = some k → g.v.ownBlock ≠ some k) (hr : RepN M D.fs) (hm : w'.ownsMap Try.prog 9 hvS b n (M.put (.string f.name) (.held (FiV f)))) (ho : On b w w') : DkAt w' base q b (putD D f) := by
  have hrp := hr.put h.srt f
  have hmt := owns_tight hm
  rw [hrp.sz] at hmt
  refine ⟨(ho.block q h.ne).trans h.blk, ⟨_, hmt, hrp⟩, ins_sorted f h.srt, fun g hg => ?_, ins_dist f h.srt h.dist hdis, h.lo⟩
  rcases mem_ins hg with h1 | h1
  · rw [h1]; exact hd.moved (fun k _ _ hk => ho.block k (h.dat_ne hd k hk).2)
  · exact (h.dat g h1).moved (fun k _ _ hk => ho.block k (h.dat_ne (h.dat g h1) k hk).2)
set_option maxRecDepth 20000 in
set_option maxHeartbeats 2000000 in
theorem put_any (w : World) (base q b : Nat) (D : Dk) (h : DkAt w base q b D) (hfew : D.fs.length < maxLen) (nm : List UInt8) (v : Value) (l : List Nat) (s : Nat) (hl : nm.length ≤ 281474976710656) (hd : DatAt w base v l) (hdis : ∀ g ∈ D.fs, g.name ≠ nm → ∀ k, v.ownBlock = some k → g.v.ownBlock ≠ some k) :
    Calls Try.prog 51 #[.pointer (some ⟨q, 0, none⟩), .string (bs nm), fiV v (s : Int)] w fun r w' => r = .returned (.tuple #[]) ∧ DkAt w' base q b (putD D ⟨nm, v, l, s⟩) ∧ Kept b b w w' := by
  obtain ⟨S, hS⟩ : ∃ S : Int, S = (s : Int) := ⟨_, rfl⟩
  rw [← hS]
  have hone : v.oneCell' = true := by obtain ⟨_, _, _, _, _, _, _, h1⟩ := hd.bytes; exact h1
  have hb : Below w.heap.size w (w.alloc (.cells #[v, .int .i64 S] 85)) := (Below.refl _ _).alloc (Nat.le_refl _) _
  have h2 := h.keep hb
  have h3 : DkAt (w.alloc (.cells #[v, .int .i64 S] 85)).drew base q b D := h2.keep ((Below.refl _ _).drew)
  obtain ⟨M, hm, hr⟩ := h3.map
  obtain ⟨w2, hrun, hown, hturn⟩ := hm.store fs_keyed Try.underlying73 hfew (fs_key hl) (val := fiV v S) (d := .held (fiV v S)) (ps := []) rfl
  have hlt := h.lt
  have HRUN : Hid ((Instr.mapUpdate 73 (.map (some b)) (.string (bs nm)) (fiV v S)).run Try.prog (w.alloc (.cells #[v, .int .i64 S] 85)).drew = .ok () w2) := hrun
  have hon := on_turned hturn
  have hdat3 : DatAt (w.alloc (.cells #[v, .int .i64 S] 85)).drew base v l := (hd.keep hb).keep ((Below.refl _ _).drew)
  have HE : Hid (DkAt w2 base q b (putD D ⟨nm, v, l, s⟩) ∧ Kept b b w w2) := ⟨h3.putTo ⟨nm, v, l, s⟩ hdat3 hdis hr (by rw [hS] at hown; exact hown) hon, ⟨hon.os.trans rfl, hon.tape.trans rfl, hon.output.trans rfl, by rw [hon.size]; simp, fun k hk h1 _ => (hon.block k h1).trans (Below.heap_alloc _ _ k hk)⟩⟩
  have HP0 : Hid ((w.alloc (.cells #[v, .int .i64 S] 85)).drew.heap[q]? = w.heap[q]? ∧ (w.alloc (.cells #[v, .int .i64 S] 85)).drew.heap[w.heap.size]? = some (.cells #[v, .int .i64 S] 85)) := ⟨Below.heap_alloc _ _ q hlt.1, heap_alloc_new w _⟩
  have HP2 : Hid (w2.heap[q]? = w.heap[q]? ∧ w2.heap[w.heap.size]? = some (.cells #[v, .int .i64 S] 85)) := ⟨(hon.block q h.ne).trans HP0.out.1, (hon.block _ (by omega)).trans HP0.out.2⟩
  have c1 := h2.cells.2.1
  have HC1 : Hid (w.cell? ⟨q, 1, none⟩ = some (.map (some b))) := h.cells.2.1
  have hme : ∀ w' : World, (binOp .eql 73 (.map (some b)) (.map none)).run Try.prog w' = .ok (.bool false) w' := map_eq b
  clear h h2 h3 hb hm hr hrun hown hturn hon hdat3 hd hdis hlt hS
  go_enter Try.func51, Try.ntmps51
  go_wp2
  refine wp_region_held (S := (fun y => y.heap[q]? = w.heap[q]? ∧ y.heap[w.heap.size]? = some (.cells #[v, .int .i64 S] 85))) (by kernel_rfl) ?_
  change wpAnyH _ _ _ _ _ _ _ _ (World.drew _)
  refine wpAnyH_take (i := 0) (oi := { dst := some 15, op := Op.move (Operand.tmp 0), type := 24, pos := "simfs.go:87", after := #[], guard := none }) (v := ?_) rfl (by kernel_rfl) (by kernel_rfl) (by kernel_rfl) (fun _ _ _ h => h) (Or.inl ⟨by rfl, ?_⟩) HP0.out ?_
  rotate_left
  · (intro y hy; go_simp; try (with_reducible rfl))
  simp only [Act.put, List.setIfInBounds_toArray, List.set_cons_zero, List.set_cons_succ]
  refine wpAnyH_take (i := 1) (oi := { dst := some 16, op := Op.nilCheck (Operand.tmp 15), type := 0, pos := "simfs.go:87", after := #[{ on := 0, ground := Ground.data }], guard := none }) (v := ?_) rfl (by kernel_rfl) (by kernel_rfl) (by kernel_rfl) (fun _ _ _ h => h) (Or.inl ⟨by rfl, ?_⟩) HP0.out ?_
  rotate_left
  · (intro y hy; go_simp; try (with_reducible rfl))
  simp only [Act.put, List.setIfInBounds_toArray, List.set_cons_zero, List.set_cons_succ]
  refine wpAnyH_take (i := 2) (oi := { dst := some 17, op := Op.fieldAddr 75 (Operand.tmp 16) 1, type := 0, pos := "simfs.go:87", after := #[{ on := 1, ground := Ground.data }], guard := none }) (v := ?_) rfl (by kernel_rfl) (by kernel_rfl) (by kernel_rfl) (fun _ _ _ h => h) (Or.inl ⟨by rfl, ?_⟩) HP0.out ?_
  rotate_left
  · (intro y hy; go_simp; try (with_reducible rfl))
  simp only [Act.put, List.setIfInBounds_toArray, List.set_cons_zero, List.set_cons_succ]
  refine wpAnyH_take (i := 3) (oi := { dst := some 18, op := Op.load 73 (Operand.tmp 17), type := 73, pos := "simfs.go:87", after := #[{ on := 2, ground := Ground.data }], guard := none }) (v := .map (some b)) rfl (by kernel_rfl) (by kernel_rfl) (by kernel_rfl) (fun _ _ _ h => h) (Or.inl ⟨by rfl, ?_⟩) HP0.out ?_
  · (intro y hy; have h0 := (cell_heapS hy.1 1).trans HC1.out; go_simp)
  simp only [Act.put, List.setIfInBounds_toArray, List.set_cons_zero, List.set_cons_succ]
  refine wpAnyH_take (i := 4) (oi := { dst := some 19, op := Op.move (Operand.tmp 1), type := 9, pos := "simfs.go:87", after := #[], guard := none }) (v := ?_) rfl (by kernel_rfl) (by kernel_rfl) (by kernel_rfl) (fun _ _ _ h => h) (Or.inl ⟨by rfl, ?_⟩) HP0.out ?_
  rotate_left
  · (intro y hy; go_simp; try (with_reducible rfl))
  simp only [Act.put, List.setIfInBounds_toArray, List.set_cons_zero, List.set_cons_succ]
  refine wpAnyH_take (i := 5) (oi := { dst := some 20, op := Op.load 85 (Operand.tmp 5), type := 85, pos := "simfs.go:87", after := #[], guard := none }) (v := fiV v S) rfl (by kernel_rfl) (by kernel_rfl) (by kernel_rfl) (fun _ _ _ h => h) (Or.inl ⟨by rfl, fun y hy => exec_load_fi _ rfl rfl hy.2⟩) HP0.out ?_
  simp only [Act.put, List.setIfInBounds_toArray, List.set_cons_zero, List.set_cons_succ]
  refine wpAnyH_ready (rs := [6]) (by kernel_rfl) (by simp) ?_
  refine AllReadyH.cons (o := { dst := none, op := Op.mapUpdate 73 (Operand.tmp 18) (Operand.tmp 19) (Operand.tmp 20), type := 0, pos := "simfs.go:87", after := #[{ on := 3, ground := Ground.data }, { on := 4, ground := Ground.data }, { on := 5, ground := Ground.data }, { on := 0, ground := Ground.phase }, { on := 1, ground := Ground.phase }, { on := 2, ground := Ground.phase }, { on := 3, ground := Ground.phase }, { on := 4, ground := Ground.phase }, { on := 5, ground := Ground.phase }], guard := none }) rfl (fun K hK => ?_) AllReadyH.nil
  refine step_mapUpdateS rfl _ _ _ rfl rfl rfl rfl HRUN.out ?_
  (refine hK _ _ HP2.out ?_; clear hK K; intro _)
  try simp only [Act.put, List.setIfInBounds_toArray, List.set_cons_zero, List.set_cons_succ]
  refine wpAnyH_done (by kernel_rfl) ?_ _
  go_wp2
  go_end0
  exact ⟨rfl, HE.out.1, HE.out.2⟩
/-- what find answers -/
def findE (D : Dk) (nm : List UInt8) : Nat := if barE D [nm] ≠ 0 then barE D [nm] else if (getN D.fs nm).isSome = true then 0 else 51
theorem zero_fi (w : World) : (zeroValue 85).run Try.prog w = .ok (fiV (.slice none 0 0) 0) w := by kernel_rfl
theorem lookS {w : World} {b n : Nat} {M : DataW Value} {L : List Fi} {nm : List UInt8} (hm : w.ownsMap Try.prog 9 hvS b n M) (hr : RepN M L) (hl : nm.length ≤ 281474976710656) :
    (Instr.lookup 73 (.map (some b)) (.string (bs nm)) true).run Try.prog w = .ok (.tuple #[(match getN L nm with | some f => FiV f | none => fiV (.slice none 0 0) 0), .bool (getN L nm).isSome]) w := by
  obtain ⟨v, ps, hrun, hR⟩ := hm.look_ok fs_keyed Try.underlying73 (zero_fi w) (zd := .held (fiV (.slice none 0 0) 0)) (zp := []) rfl (fs_key hl)
  rw [hr.look] at hR
  have h1 := hvS_inv hR
  rw [hr.hs] at hrun
  cases hg : getN L nm with
  | none =>
    rw [hg] at h1 hrun
    simp only [DataW.held.injEq] at h1
    rw [hrun, ← h1]
  | some f =>
    rw [hg] at h1 hrun
    simp only [DataW.held.injEq] at h1
    rw [hrun, ← h1]
theorem wpList_lookS {ops : Array Oper} {rest : List Oper} {o : Oper} {a : Act} {w : World} {Q : Exit → Act → World → Prop} (hg : o.guard = none) (m x : Operand) (hop : o.op = Op.lookup 73 m x true) {b : Nat} {nm : List UInt8} {v : Value} (hm : a.eval m = .map (some b)) (hx : a.eval x = .string (bs nm))
    (hrun : (Instr.lookup 73 (.map (some b)) (.string (bs nm)) true).run Try.prog w = .ok v w) (hK : wpList Try.prog ops Q rest (a.put o.dst v) w) : wpList Try.prog ops Q (o :: rest) a w := by
  refine wpList_plain hg fun K' hK' => ?_
  unfold Oper.wp
  simp [execOp, hop, hm, hx, hrun, Result.andThen]
  exact hK' _ _ hK
set_option maxRecDepth 20000 in
set_option maxHeartbeats 2000000 in
theorem find_bar (w : World) (base q b : Nat) (D : Dk) (h : DkAt w base q b D) (nm : List UInt8) (hl : nm.length ≤ 281474976710656) (hE : barE D [nm] ≠ 0) :
    Calls Try.prog 57 #[.pointer (some ⟨q, 0, none⟩), .string (bs nm)] w fun r w' => r = .returned (.tuple #[fiV (.slice none 0 0) 0, .int .i64 (barE D [nm] : Nat)]) ∧ Below w.heap.size w w' := by
  have hb0 : Below w.heap.size w (w.alloc (.cells #[.slice none 0 0, .int .i64 0] 85)) := (Below.refl _ _).alloc (Nat.le_refl _) _
  have HD1 : Hid (DkAt (w.alloc (.cells #[.slice none 0 0, .int .i64 0] 85)) base q b D) := h.keep hb0
  have HF1 : Hid (FiAt ((w.alloc (.cells #[.slice none 0 0, .int .i64 0] 85)).alloc (.cells #[.string (bs nm)] 9)) w.heap.size (.slice none 0 0) 0) := (FiAt.new w _ _).keep ((Below.refl _ _).alloc (Nat.le_refl _) _)
  have HB1 : Hid (Below w.heap.size w ((w.alloc (.cells #[.slice none 0 0, .int .i64 0] 85)).alloc (.cells #[.string (bs nm)] 9))) := hb0.alloc hb0.size _
  have hd2 : DkAt ((w.alloc (.cells #[.slice none 0 0, .int .i64 0] 85)).alloc (.cells #[.string (bs nm)] 9)) base q b D := HD1.out.keep ((Below.refl _ _).alloc (Nat.le_refl _) _)
  have HD2 : Hid (DkAt ((w.alloc (.cells #[.slice none 0 0, .int .i64 0] 85)).alloc (.cells #[.string (bs nm)] 9)) base q b D) := hd2
  have HN2 : Hid (FiAt (((w.alloc (.cells #[.slice none 0 0, .int .i64 0] 85)).alloc (.cells #[.string (bs nm)] 9)).alloc (.cells #[.slice none 0 0, .int .i64 0] 85)) (w.heap.size + 1 + 1) (.slice none 0 0) 0) := by have h := FiAt.new ((w.alloc (.cells #[.slice none 0 0, .int .i64 0] 85)).alloc (.cells #[.string (bs nm)] 9)) (.slice none 0 0) 0; rw [World.size_alloc, World.size_alloc] at h; exact h
  have c1 := hd2.cells.2.1
  obtain ⟨M, hm, hr⟩ := hd2.map
  have hlk := lookS hm hr hl
  obtain ⟨E, hEE⟩ : ∃ E, barE D [nm] = E := ⟨_, rfl⟩
  rw [hEE] at hE ⊢
  have HB : Hid (barE D [nm] = E) := hEE
  have hq : ((E : Int) != 0) = true := by simp; exact hE
  clear hE hEE hlk
  have T1 : Hid True := trivial
  clear h hb0 hd2 hm hr
  go_enter Try.func57, Try.ntmps57
  go_wp2_with (first
    | (go_at_call 55; refine (barred_one _ base q b D HD1.out nm (w.heap.size + 1) (by simp) hl).mono ?_; rw [HB.out]; rintro _ x1 ⟨rfl, rfl⟩)
    | ((with_reducible refine guard_store 85 ?_); refine wpList_store_fi rfl _ _ rfl rfl HF1.out rfl rfl rfl (v2 := .slice none 0 0) (s2 := 0) ?_; intro x3 hf ho hh hs; have HF3 : Hid (_) := hf; have HB3 : Hid (Below w.heap.size w x3) := ho _ _ HB1.out (Nat.le_refl _); clear hf ho hh hs))
  exact bodyPost_ret (results_fi2 rfl _ _ _ _ rfl rfl HF3.out) rfl ⟨rfl, HB3.out⟩
set_option maxRecDepth 20000 in
set_option maxHeartbeats 2000000 in
theorem find_none (w : World) (base q b : Nat) (D : Dk) (h : DkAt w base q b D) (nm : List UInt8) (hl : nm.length ≤ 281474976710656) (hE : barE D [nm] = 0) (hN : getN D.fs nm = none) :
    Calls Try.prog 57 #[.pointer (some ⟨q, 0, none⟩), .string (bs nm)] w fun r w' => r = .returned (.tuple #[fiV (.slice none 0 0) 0, .int .i64 51]) ∧ Below w.heap.size w w' := by
  have hb0 : Below w.heap.size w (w.alloc (.cells #[.slice none 0 0, .int .i64 0] 85)) := (Below.refl _ _).alloc (Nat.le_refl _) _
  have HD1 : Hid (DkAt (w.alloc (.cells #[.slice none 0 0, .int .i64 0] 85)) base q b D) := h.keep hb0
  have HF1 : Hid (FiAt ((w.alloc (.cells #[.slice none 0 0, .int .i64 0] 85)).alloc (.cells #[.string (bs nm)] 9)) w.heap.size (.slice none 0 0) 0) := (FiAt.new w _ _).keep ((Below.refl _ _).alloc (Nat.le_refl _) _)
  have HB1 : Hid (Below w.heap.size w ((w.alloc (.cells #[.slice none 0 0, .int .i64 0] 85)).alloc (.cells #[.string (bs nm)] 9))) := hb0.alloc hb0.size _
  have hd2 : DkAt ((w.alloc (.cells #[.slice none 0 0, .int .i64 0] 85)).alloc (.cells #[.string (bs nm)] 9)) base q b D := HD1.out.keep ((Below.refl _ _).alloc (Nat.le_refl _) _)
  have HD2 : Hid (DkAt ((w.alloc (.cells #[.slice none 0 0, .int .i64 0] 85)).alloc (.cells #[.string (bs nm)] 9)) base q b D) := hd2
  have HN2 : Hid (FiAt (((w.alloc (.cells #[.slice none 0 0, .int .i64 0] 85)).alloc (.cells #[.string (bs nm)] 9)).alloc (.cells #[.slice none 0 0, .int .i64 0] 85)) (w.heap.size + 1 + 1) (.slice none 0 0) 0) := by have h := FiAt.new ((w.alloc (.cells #[.slice none 0 0, .int .i64 0] 85)).alloc (.cells #[.string (bs nm)] 9)) (.slice none 0 0) 0; rw [World.size_alloc, World.size_alloc] at h; exact h
  have c1 := hd2.cells.2.1
  obtain ⟨M, hm, hr⟩ := hd2.map
  have hlk := lookS hm hr hl
  have HB : Hid (barE D [nm] = 0) := hE
  have HONE : Hid ((Value.slice none 0 0).oneCell' = true) := rfl
  rw [hN] at hlk
  simp only [Option.isSome_none] at hlk
  clear hE hN
  have T1 : Hid True := trivial
  clear h hb0 hd2 hm hr
  go_enter Try.func57, Try.ntmps57
  go_wp2_with (first
    | (go_at_call 55; refine (barred_one _ base q b D HD1.out nm (w.heap.size + 1) (by simp) hl).mono ?_; rw [HB.out]; rintro _ x1 ⟨rfl, rfl⟩)
    | (at_lookup; refine wpList_lookS rfl _ _ rfl rfl rfl hlk ?_)
    | ((with_reducible refine guard_store 85 ?_); clear T1; refine wpList_store_fi rfl _ _ rfl rfl HN2.out HONE.out rfl rfl (v2 := .slice none 0 0) (s2 := 0) ?_; intro x3 hf ho hh hs; have hb3 : Below ((w.alloc (.cells #[.slice none 0 0, .int .i64 0] 85)).alloc (.cells #[.string (bs nm)] 9)).heap.size ((w.alloc (.cells #[.slice none 0 0, .int .i64 0] 85)).alloc (.cells #[.string (bs nm)] 9)) x3 := ho _ _ ((Below.refl _ _).alloc (Nat.le_refl _) _) (by simp); have HF3 : Hid (FiAt x3 (w.heap.size + 1 + 1) (.slice none 0 0) (0)) := hf; have HG3 : Hid (FiAt x3 w.heap.size (.slice none 0 0) 0) := HF1.out.keep hb3; have HB3 : Hid (Below w.heap.size w x3) := HB1.out.trans (hb3.mono HB1.out.size); clear hf ho hh hs hb3)
    | ((with_reducible refine guard_store 85 ?_); refine wpList_store_fi rfl _ _ rfl rfl HG3.out rfl rfl rfl (v2 := .slice none 0 0) (s2 := 0) ?_; intro x4 hf ho hh hs; have HF4 : Hid (_) := hf; have HB4 : Hid (Below w.heap.size w x4) := ho _ _ HB3.out (Nat.le_refl _); clear hf ho hh hs))
  exact bodyPost_ret (results_fi2 rfl _ _ _ _ rfl rfl HF4.out) rfl ⟨rfl, HB4.out⟩
set_option maxRecDepth 20000 in
set_option maxHeartbeats 2000000 in
theorem find_ok (w : World) (base q b : Nat) (D : Dk) (h : DkAt w base q b D) (nm : List UInt8) (hl : nm.length ≤ 281474976710656) (hE : barE D [nm] = 0) (f : Fi) (hN : getN D.fs nm = some f) :
    Calls Try.prog 57 #[.pointer (some ⟨q, 0, none⟩), .string (bs nm)] w fun r w' => r = .returned (.tuple #[FiV f, .int .i64 0]) ∧ Below w.heap.size w w' := by
  have hb0 : Below w.heap.size w (w.alloc (.cells #[.slice none 0 0, .int .i64 0] 85)) := (Below.refl _ _).alloc (Nat.le_refl _) _
  have HD1 : Hid (DkAt (w.alloc (.cells #[.slice none 0 0, .int .i64 0] 85)) base q b D) := h.keep hb0
  have HF1 : Hid (FiAt ((w.alloc (.cells #[.slice none 0 0, .int .i64 0] 85)).alloc (.cells #[.string (bs nm)] 9)) w.heap.size (.slice none 0 0) 0) := (FiAt.new w _ _).keep ((Below.refl _ _).alloc (Nat.le_refl _) _)
  have HB1 : Hid (Below w.heap.size w ((w.alloc (.cells #[.slice none 0 0, .int .i64 0] 85)).alloc (.cells #[.string (bs nm)] 9))) := hb0.alloc hb0.size _
  have hd2 : DkAt ((w.alloc (.cells #[.slice none 0 0, .int .i64 0] 85)).alloc (.cells #[.string (bs nm)] 9)) base q b D := HD1.out.keep ((Below.refl _ _).alloc (Nat.le_refl _) _)
  have HD2 : Hid (DkAt ((w.alloc (.cells #[.slice none 0 0, .int .i64 0] 85)).alloc (.cells #[.string (bs nm)] 9)) base q b D) := hd2
  have HN2 : Hid (FiAt (((w.alloc (.cells #[.slice none 0 0, .int .i64 0] 85)).alloc (.cells #[.string (bs nm)] 9)).alloc (.cells #[.slice none 0 0, .int .i64 0] 85)) (w.heap.size + 1 + 1) (.slice none 0 0) 0) := by have h := FiAt.new ((w.alloc (.cells #[.slice none 0 0, .int .i64 0] 85)).alloc (.cells #[.string (bs nm)] 9)) (.slice none 0 0) 0; rw [World.size_alloc, World.size_alloc] at h; exact h
  have c1 := hd2.cells.2.1
  obtain ⟨M, hm, hr⟩ := hd2.map
  have hlk := lookS hm hr hl
  have HB : Hid (barE D [nm] = 0) := hE
  have hone : f.v.oneCell' = true := by obtain ⟨_, _, _, _, _, _, _, h1⟩ := (h.dat f (getN_mem hN).1).bytes; exact h1
  rw [hN] at hlk
  simp only [Option.isSome_some] at hlk
  obtain ⟨V, hV⟩ : ∃ V, f.v = V := ⟨_, rfl⟩
  obtain ⟨S, hS⟩ : ∃ S : Int, (f.s : Int) = S := ⟨_, rfl⟩
  have HVS : Hid (FiV f = fiV V S) := by show _ = _; rw [← hV, ← hS]
  rw [HVS.out] at hlk
  rw [hV] at hone
  have HONE : Hid (V.oneCell' = true) := hone
  clear hE hN hV hS hone
  have T1 : Hid True := trivial
  clear h hb0 hd2 hm hr
  go_enter Try.func57, Try.ntmps57
  go_wp2_with (first
    | (go_at_call 55; refine (barred_one _ base q b D HD1.out nm (w.heap.size + 1) (by simp) hl).mono ?_; rw [HB.out]; rintro _ x1 ⟨rfl, rfl⟩)
    | (at_lookup; refine wpList_lookS rfl _ _ rfl rfl rfl hlk ?_)
    | ((with_reducible refine guard_store 85 ?_); clear T1; refine wpList_store_fi rfl _ _ rfl rfl HN2.out HONE.out rfl rfl (v2 := V) (s2 := S) ?_; intro x3 hf ho hh hs; have hb3 : Below ((w.alloc (.cells #[.slice none 0 0, .int .i64 0] 85)).alloc (.cells #[.string (bs nm)] 9)).heap.size ((w.alloc (.cells #[.slice none 0 0, .int .i64 0] 85)).alloc (.cells #[.string (bs nm)] 9)) x3 := ho _ _ ((Below.refl _ _).alloc (Nat.le_refl _) _) (by simp); have HF3 : Hid (FiAt x3 (w.heap.size + 1 + 1) (V) (S)) := hf; have HG3 : Hid (FiAt x3 w.heap.size (.slice none 0 0) 0) := HF1.out.keep hb3; have HB3 : Hid (Below w.heap.size w x3) := HB1.out.trans (hb3.mono HB1.out.size); clear hf ho hh hs hb3)
    | ((with_reducible refine guard_load 85 ?_); refine wpList_load_fi rfl _ rfl HF3.out rfl ?_)
    | ((with_reducible refine guard_store 85 ?_); refine wpList_store_fi rfl _ _ rfl rfl HG3.out HONE.out rfl rfl (v2 := V) (s2 := S) ?_; intro x4 hf ho hh hs; have HF4 : Hid (_) := hf; have HB4 : Hid (Below w.heap.size w x4) := ho _ _ HB3.out (Nat.le_refl _); clear hf ho hh hs))
  exact bodyPost_ret (results_fi2 rfl _ _ _ _ rfl rfl HF4.out) rfl ⟨by rw [HVS.out]; rfl, HB4.out⟩


end Go.Proofs.Ytlnhhgmdajbepaa
