/- Own texts, joined: Fse. -/
import Derived.Test.YtnfkdgjgglnniaaDoorK48
namespace Go.Proofs.YtnfkdgjgglnniaaDoor
open Go.ChangeShapes Go.WideShapes Go.ChangeAt Go.RowKit
set_option linter.unusedVariables false
set_option linter.unusedSimpArgs false
theorem step_store_fi {ops : Array Oper} {o : Oper} {a : Act} {w : World} {K : Act → World → Prop} {Q : Exit → Act → World → Prop} {X : Prop} (hgd : o.guard = none) (x y : Operand) (ho : o.op = .store 60 x y) (hd : o.dst = none)
    {k : Nat} {v v2 : Value} {s s2 : Int} (hL : FiAt w k v s) (hv : v2.oneCell' = true) (hx : a.eval x = .pointer (some ⟨k, 0, none⟩)) (hy : a.eval y = fiV v2 s2)
    (h : ∀ w2, FiAt w2 k v2 s2 → (∀ B a, Below B a w → B ≤ k → Below B a w2) → K a w2) :
    if Region.wanted o (yielded ops a.tmps) = true then Oper.wp Tryd.prog o a w K Q else X := by
  have hw : Region.wanted o (yielded ops a.tmps) = true := by simp [Region.wanted, hgd]
  rw [if_pos hw]
  obtain ⟨w2, h1, h2, h3, h4, h5⟩ := hL.store v2 s2 hv
  unfold Oper.wp execOp
  simp only [ho, hx, hy, Sem.run_bind, Sem.run_pure, Result.andThen_ok, h1]
  have hp : a.put o.dst undef = a := by rw [hd]; rfl
  exact (show K (a.put o.dst undef) w2 from by rw [hp]; exact h w2 h2 h3)
theorem first_sl (a : Option Addr) (m c N : Nat) (hN : N ≤ m) (hmc : m ≤ c) (ha : a = none ∨ ∃ g, a = some ⟨g, 0, none⟩) : ∀ w' : World, (Instr.sliceAt 40 (.slice a m c) none (some (.int .i64 (N : Int))) (some (.int .i64 (N : Int)))).run Tryd.prog w' = .ok (.slice a N N) w' := by
  intro w'
  have hrun := run_slice_hm (P := Tryd.prog) w' 40 a m c slice_under2 .i64 .i64 (N : Int) (N : Int) (by omega) (Int.le_refl _) (by omega)
  rw [run_sliceAt_slice (P := Tryd.prog) w' 40 _ _ _ _ slice_under2, hrun, slice_size2]
  simp only [Result.andThen_ok, sliced, Int.toNat_natCast, Nat.sub_zero]
  rcases ha with rfl | ⟨g, rfl⟩
  · simp
  · simp [Addr.add]
set_option maxRecDepth 100000 in
set_option maxHeartbeats 2000000 in
theorem first_any (w : World) (a : Option Addr) (m c N : Nat) (S n : Int) (hn : n = (N : Int)) (hN : N ≤ m) (hmc : m ≤ c) (hm : (m : Int) ≤ 67108864) (ha : a = none ∨ ∃ g, a = some ⟨g, 0, none⟩) :
    Calls Tryd.prog 44 #[fiV (.slice a m c) S, .int .i64 n] w fun r w' => r = .returned (fiV (.slice a N N) (if (N : Int) < S then (N : Int) else S)) ∧ Below w.heap.size w w' := by
  subst hn
  obtain ⟨MS, hMS⟩ : ∃ MS, (if (N : Int) < S then (N : Int) else S) = MS := ⟨_, rfl⟩
  rw [hMS]
  have HMS : Hid ((if (N : Int) < S then (N : Int) else S) = MS) := hMS
  clear hMS
  have hsl := first_sl a m c N hN hmc ha
  have HP0 : Hid (FiAt ((w.alloc (.cells #[.slice a m c, .int .i64 S] 60)).alloc (.cells #[.slice none 0 0, .int .i64 0] 60)).drew w.heap.size (.slice a m c) S) := by have h : FiAt ((w.alloc (.cells #[.slice a m c, .int .i64 S] 60)).alloc (.cells #[.slice none 0 0, .int .i64 0] 60)) w.heap.size (.slice a m c) S := (FiAt.new w _ _).keep ((Below.refl _ _).alloc (Nat.le_refl _) _); exact h
  have HN0 : Hid (FiAt ((w.alloc (.cells #[.slice a m c, .int .i64 S] 60)).alloc (.cells #[.slice none 0 0, .int .i64 0] 60)).drew (w.heap.size + 1) (.slice none 0 0) 0) := by have h := FiAt.new (w.alloc (.cells #[.slice a m c, .int .i64 S] 60)) (.slice none 0 0) 0; rw [World.size_alloc] at h; exact h
  have HB0 : Hid (Below w.heap.size w ((w.alloc (.cells #[.slice a m c, .int .i64 S] 60)).alloc (.cells #[.slice none 0 0, .int .i64 0] 60)).drew) := (((Below.refl _ _).alloc (Nat.le_refl _) _).alloc (by simp) _).trans (Below.refl _ _).drew
  have hNn : (0 : Int) ≤ (N : Int) := by omega
  by_cases hc : (N : Int) < S
  · have HMS : Hid ((N : Int) = MS) := by show _ = _; rw [← HMS.out, if_pos hc]
    go_enter Tryd.func44, Tryd.ntmps44
    go_wp2
    have hc2 : (N : Int) < S := by omega
    refine wp_region_held (S := (fun y => FiAt y w.heap.size (.slice a m c) S)) (by kernel_rfl) ?_
    change wpAnyH _ _ _ _ _ _ _ _ (World.drew _)
    refine wpAnyH_take (i := 0) (oi := { dst := some 5, op := Op.fieldAddr 60 (Operand.tmp 2) 0, type := 0, pos := "steps.go:100", after := #[], guard := none }) (v := ?_) rfl (by kernel_rfl) (by kernel_rfl) (by kernel_rfl) (fun _ _ _ h => h) (Or.inl ⟨by rfl, ?_⟩) HP0.out ?_
    rotate_left
    · (intro y hy; go_simp; try (with_reducible rfl))
    simp only [Act.put, List.setIfInBounds_toArray, List.set_cons_zero, List.set_cons_succ]
    refine wpAnyH_take (i := 1) (oi := { dst := some 6, op := Op.load 40 (Operand.tmp 5), type := 40, pos := "steps.go:100", after := #[{ on := 0, ground := Ground.data }], guard := none }) (v := .slice a m c) rfl (by kernel_rfl) (by kernel_rfl) (by kernel_rfl) (fun _ _ _ h => h) (Or.inl ⟨by rfl, ?_⟩) HP0.out ?_
    · (intro y hy; have h0 := (FiAt.cells hy).1; go_simp)
    simp only [Act.put, List.setIfInBounds_toArray, List.set_cons_zero, List.set_cons_succ]
    refine wpAnyH_take (i := 2) (oi := { dst := some 7, op := Op.move (Operand.tmp 1), type := 3, pos := "steps.go:100", after := #[], guard := none }) (v := ?_) rfl (by kernel_rfl) (by kernel_rfl) (by kernel_rfl) (fun _ _ _ h => h) (Or.inl ⟨by rfl, ?_⟩) HP0.out ?_
    rotate_left
    · (intro y hy; go_simp; try (with_reducible rfl))
    simp only [Act.put, List.setIfInBounds_toArray, List.set_cons_zero, List.set_cons_succ]
    refine wpAnyH_take (i := 3) (oi := { dst := some 8, op := Op.move (Operand.tmp 1), type := 3, pos := "steps.go:100", after := #[], guard := none }) (v := ?_) rfl (by kernel_rfl) (by kernel_rfl) (by kernel_rfl) (fun _ _ _ h => h) (Or.inl ⟨by rfl, ?_⟩) HP0.out ?_
    rotate_left
    · (intro y hy; go_simp; try (with_reducible rfl))
    simp only [Act.put, List.setIfInBounds_toArray, List.set_cons_zero, List.set_cons_succ]
    refine wpAnyH_take (i := 4) (oi := { dst := some 9, op := Op.slice 40 (Operand.tmp 6) none (some (Operand.tmp 7)) (some (Operand.tmp 8)), type := 40, pos := "steps.go:100", after := #[{ on := 1, ground := Ground.data }, { on := 2, ground := Ground.data }, { on := 3, ground := Ground.data }], guard := none }) (v := .slice a N N) rfl (by kernel_rfl) (by kernel_rfl) (by kernel_rfl) (fun _ _ _ h => h) (Or.inl ⟨by rfl, ?_⟩) HP0.out ?_
    · (intro y hy; have h0 := hsl y; go_simp)
    simp only [Act.put, List.setIfInBounds_toArray, List.set_cons_zero, List.set_cons_succ]
    refine wpAnyH_take (i := 5) (oi := { dst := some 10, op := Op.fieldAddr 60 (Operand.tmp 2) 1, type := 0, pos := "steps.go:100", after := #[], guard := none }) (v := ?_) rfl (by kernel_rfl) (by kernel_rfl) (by kernel_rfl) (fun _ _ _ h => h) (Or.inl ⟨by rfl, ?_⟩) HP0.out ?_
    rotate_left
    · (intro y hy; go_simp; try (with_reducible rfl))
    simp only [Act.put, List.setIfInBounds_toArray, List.set_cons_zero, List.set_cons_succ]
    refine wpAnyH_take (i := 6) (oi := { dst := some 11, op := Op.load 3 (Operand.tmp 10), type := 3, pos := "steps.go:100", after := #[{ on := 5, ground := Ground.data }], guard := none }) (v := .int .i64 S) rfl (by kernel_rfl) (by kernel_rfl) (by kernel_rfl) (fun _ _ _ h => h) (Or.inl ⟨by rfl, ?_⟩) HP0.out ?_
    · (intro y hy; have h0 := (FiAt.cells hy).2; go_simp)
    simp only [Act.put, List.setIfInBounds_toArray, List.set_cons_zero, List.set_cons_succ]
    refine wpAnyH_take (i := 7) (oi := { dst := some 12, op := Op.move (Operand.tmp 1), type := 3, pos := "steps.go:100", after := #[], guard := none }) (v := ?_) rfl (by kernel_rfl) (by kernel_rfl) (by kernel_rfl) (fun _ _ _ h => h) (Or.inl ⟨by rfl, ?_⟩) HP0.out ?_
    rotate_left
    · (intro y hy; go_simp; try (with_reducible rfl))
    simp only [Act.put, List.setIfInBounds_toArray, List.set_cons_zero, List.set_cons_succ]
    refine wpAnyH_take (i := 8) (oi := { dst := some 13, op := Op.call { callee := Callee.builtin Builtin.min, args := #[Operand.tmp 11, Operand.tmp 12], argTypes := #[3, 3] }, type := 3, pos := "steps.go:100", after := #[{ on := 6, ground := Ground.data }, { on := 7, ground := Ground.data }], guard := none }) (v := ?_) rfl (by kernel_rfl) (by kernel_rfl) (by kernel_rfl) (fun _ _ _ h => h) (Or.inl ⟨by rfl, ?_⟩) HP0.out ?_
    rotate_left
    · (intro y hy; go_simp; try (with_reducible rfl))
    simp only [Act.put, List.setIfInBounds_toArray, List.set_cons_zero, List.set_cons_succ]
    refine wpAnyH_take (i := 9) (oi := { dst := some 14, op := Op.build 60 #[(0, Operand.tmp 9), (1, Operand.tmp 13)], type := 60, pos := "steps.go:100", after := #[{ on := 4, ground := Ground.data }, { on := 8, ground := Ground.data }], guard := none }) (v := ?_) rfl (by kernel_rfl) (by kernel_rfl) (by kernel_rfl) (fun _ _ _ h => h) (Or.inl ⟨by rfl, ?_⟩) HP0.out ?_
    rotate_left
    · (intro y hy; go_simp; try (with_reducible rfl))
    simp only [Act.put, List.setIfInBounds_toArray, List.set_cons_zero, List.set_cons_succ]
    refine wpAnyH_ready (rs := [10]) (by kernel_rfl) (by simp) ?_
    refine AllReadyH.cons (o := { dst := none, op := Op.store 60 (Operand.tmp 4) (Operand.tmp 14), type := 0, pos := "steps.go:100", after := #[{ on := 9, ground := Ground.data }, { on := 0, ground := Ground.phase }, { on := 1, ground := Ground.phase }, { on := 2, ground := Ground.phase }, { on := 3, ground := Ground.phase }, { on := 4, ground := Ground.phase }, { on := 5, ground := Ground.phase }, { on := 6, ground := Ground.phase }, { on := 7, ground := Ground.phase }, { on := 8, ground := Ground.phase }, { on := 9, ground := Ground.phase }], guard := none }) rfl (fun K hK => ?_) AllReadyH.nil
    refine step_store_fi rfl _ _ rfl rfl HN0.out rfl rfl rfl (v2 := .slice a N N) (s2 := (N : Int)) ?_
    intro x2 hf2 ho2
    have HF2 : Hid (FiAt x2 (w.heap.size + 1) (.slice a N N) MS) := (by rw [HMS.out] at hf2; exact hf2)
    have HB2 : Hid (Below w.heap.size w x2) := ho2 _ _ HB0.out (by omega)
    have HP2 : Hid (FiAt x2 w.heap.size (.slice a m c) S) := (ho2 _ _ (Below.refl (w.heap.size + 1) _) (Nat.le_refl _)).block _ (by omega) |>.trans HP0.out
    clear hf2 ho2
    (refine hK _ _ HP2.out ?_; clear hK K; intro _)
    try simp only [Act.put, List.setIfInBounds_toArray, List.set_cons_zero, List.set_cons_succ]
    refine wpAnyH_done (by kernel_rfl) ?_ _
    go_wp2
    exact bodyPost_ret (results_fi1 rfl _ _ _ rfl HF2.out) rfl ⟨rfl, HB2.out⟩
  · have HMS : Hid (S = MS) := by show _ = _; rw [← HMS.out, if_neg hc]
    go_enter Tryd.func44, Tryd.ntmps44
    go_wp2
    have hc2 : ¬ (N : Int) < S := by omega
    refine wp_region_held (S := (fun y => FiAt y w.heap.size (.slice a m c) S)) (by kernel_rfl) ?_
    change wpAnyH _ _ _ _ _ _ _ _ (World.drew _)
    refine wpAnyH_take (i := 0) (oi := { dst := some 5, op := Op.fieldAddr 60 (Operand.tmp 2) 0, type := 0, pos := "steps.go:100", after := #[], guard := none }) (v := ?_) rfl (by kernel_rfl) (by kernel_rfl) (by kernel_rfl) (fun _ _ _ h => h) (Or.inl ⟨by rfl, ?_⟩) HP0.out ?_
    rotate_left
    · (intro y hy; go_simp; try (with_reducible rfl))
    simp only [Act.put, List.setIfInBounds_toArray, List.set_cons_zero, List.set_cons_succ]
    refine wpAnyH_take (i := 1) (oi := { dst := some 6, op := Op.load 40 (Operand.tmp 5), type := 40, pos := "steps.go:100", after := #[{ on := 0, ground := Ground.data }], guard := none }) (v := .slice a m c) rfl (by kernel_rfl) (by kernel_rfl) (by kernel_rfl) (fun _ _ _ h => h) (Or.inl ⟨by rfl, ?_⟩) HP0.out ?_
    · (intro y hy; have h0 := (FiAt.cells hy).1; go_simp)
    simp only [Act.put, List.setIfInBounds_toArray, List.set_cons_zero, List.set_cons_succ]
    refine wpAnyH_take (i := 2) (oi := { dst := some 7, op := Op.move (Operand.tmp 1), type := 3, pos := "steps.go:100", after := #[], guard := none }) (v := ?_) rfl (by kernel_rfl) (by kernel_rfl) (by kernel_rfl) (fun _ _ _ h => h) (Or.inl ⟨by rfl, ?_⟩) HP0.out ?_
    rotate_left
    · (intro y hy; go_simp; try (with_reducible rfl))
    simp only [Act.put, List.setIfInBounds_toArray, List.set_cons_zero, List.set_cons_succ]
    refine wpAnyH_take (i := 3) (oi := { dst := some 8, op := Op.move (Operand.tmp 1), type := 3, pos := "steps.go:100", after := #[], guard := none }) (v := ?_) rfl (by kernel_rfl) (by kernel_rfl) (by kernel_rfl) (fun _ _ _ h => h) (Or.inl ⟨by rfl, ?_⟩) HP0.out ?_
    rotate_left
    · (intro y hy; go_simp; try (with_reducible rfl))
    simp only [Act.put, List.setIfInBounds_toArray, List.set_cons_zero, List.set_cons_succ]
    refine wpAnyH_take (i := 4) (oi := { dst := some 9, op := Op.slice 40 (Operand.tmp 6) none (some (Operand.tmp 7)) (some (Operand.tmp 8)), type := 40, pos := "steps.go:100", after := #[{ on := 1, ground := Ground.data }, { on := 2, ground := Ground.data }, { on := 3, ground := Ground.data }], guard := none }) (v := .slice a N N) rfl (by kernel_rfl) (by kernel_rfl) (by kernel_rfl) (fun _ _ _ h => h) (Or.inl ⟨by rfl, ?_⟩) HP0.out ?_
    · (intro y hy; have h0 := hsl y; go_simp)
    simp only [Act.put, List.setIfInBounds_toArray, List.set_cons_zero, List.set_cons_succ]
    refine wpAnyH_take (i := 5) (oi := { dst := some 10, op := Op.fieldAddr 60 (Operand.tmp 2) 1, type := 0, pos := "steps.go:100", after := #[], guard := none }) (v := ?_) rfl (by kernel_rfl) (by kernel_rfl) (by kernel_rfl) (fun _ _ _ h => h) (Or.inl ⟨by rfl, ?_⟩) HP0.out ?_
    rotate_left
    · (intro y hy; go_simp; try (with_reducible rfl))
    simp only [Act.put, List.setIfInBounds_toArray, List.set_cons_zero, List.set_cons_succ]
    refine wpAnyH_take (i := 6) (oi := { dst := some 11, op := Op.load 3 (Operand.tmp 10), type := 3, pos := "steps.go:100", after := #[{ on := 5, ground := Ground.data }], guard := none }) (v := .int .i64 S) rfl (by kernel_rfl) (by kernel_rfl) (by kernel_rfl) (fun _ _ _ h => h) (Or.inl ⟨by rfl, ?_⟩) HP0.out ?_
    · (intro y hy; have h0 := (FiAt.cells hy).2; go_simp)
    simp only [Act.put, List.setIfInBounds_toArray, List.set_cons_zero, List.set_cons_succ]
    refine wpAnyH_take (i := 7) (oi := { dst := some 12, op := Op.move (Operand.tmp 1), type := 3, pos := "steps.go:100", after := #[], guard := none }) (v := ?_) rfl (by kernel_rfl) (by kernel_rfl) (by kernel_rfl) (fun _ _ _ h => h) (Or.inl ⟨by rfl, ?_⟩) HP0.out ?_
    rotate_left
    · (intro y hy; go_simp; try (with_reducible rfl))
    simp only [Act.put, List.setIfInBounds_toArray, List.set_cons_zero, List.set_cons_succ]
    refine wpAnyH_take (i := 8) (oi := { dst := some 13, op := Op.call { callee := Callee.builtin Builtin.min, args := #[Operand.tmp 11, Operand.tmp 12], argTypes := #[3, 3] }, type := 3, pos := "steps.go:100", after := #[{ on := 6, ground := Ground.data }, { on := 7, ground := Ground.data }], guard := none }) (v := ?_) rfl (by kernel_rfl) (by kernel_rfl) (by kernel_rfl) (fun _ _ _ h => h) (Or.inl ⟨by rfl, ?_⟩) HP0.out ?_
    rotate_left
    · (intro y hy; go_simp; try (with_reducible rfl))
    simp only [Act.put, List.setIfInBounds_toArray, List.set_cons_zero, List.set_cons_succ]
    refine wpAnyH_take (i := 9) (oi := { dst := some 14, op := Op.build 60 #[(0, Operand.tmp 9), (1, Operand.tmp 13)], type := 60, pos := "steps.go:100", after := #[{ on := 4, ground := Ground.data }, { on := 8, ground := Ground.data }], guard := none }) (v := ?_) rfl (by kernel_rfl) (by kernel_rfl) (by kernel_rfl) (fun _ _ _ h => h) (Or.inl ⟨by rfl, ?_⟩) HP0.out ?_
    rotate_left
    · (intro y hy; go_simp; try (with_reducible rfl))
    simp only [Act.put, List.setIfInBounds_toArray, List.set_cons_zero, List.set_cons_succ]
    refine wpAnyH_ready (rs := [10]) (by kernel_rfl) (by simp) ?_
    refine AllReadyH.cons (o := { dst := none, op := Op.store 60 (Operand.tmp 4) (Operand.tmp 14), type := 0, pos := "steps.go:100", after := #[{ on := 9, ground := Ground.data }, { on := 0, ground := Ground.phase }, { on := 1, ground := Ground.phase }, { on := 2, ground := Ground.phase }, { on := 3, ground := Ground.phase }, { on := 4, ground := Ground.phase }, { on := 5, ground := Ground.phase }, { on := 6, ground := Ground.phase }, { on := 7, ground := Ground.phase }, { on := 8, ground := Ground.phase }, { on := 9, ground := Ground.phase }], guard := none }) rfl (fun K hK => ?_) AllReadyH.nil
    refine step_store_fi rfl _ _ rfl rfl HN0.out rfl rfl rfl (v2 := .slice a N N) (s2 := S) ?_
    intro x2 hf2 ho2
    have HF2 : Hid (FiAt x2 (w.heap.size + 1) (.slice a N N) MS) := (by rw [HMS.out] at hf2; exact hf2)
    have HB2 : Hid (Below w.heap.size w x2) := ho2 _ _ HB0.out (by omega)
    have HP2 : Hid (FiAt x2 w.heap.size (.slice a m c) S) := (ho2 _ _ (Below.refl (w.heap.size + 1) _) (Nat.le_refl _)).block _ (by omega) |>.trans HP0.out
    clear hf2 ho2
    (refine hK _ _ HP2.out ?_; clear hK K; intro _)
    try simp only [Act.put, List.setIfInBounds_toArray, List.set_cons_zero, List.set_cons_succ]
    refine wpAnyH_done (by kernel_rfl) ?_ _
    go_wp2
    exact bodyPost_ret (results_fi1 rfl _ _ _ rfl HF2.out) rfl ⟨rfl, HB2.out⟩
/-- how many bytes outlive a loss of power -/
def keepI (s m : Nat) (k : Int) : Nat := s + (if k < 0 then 0 else min k.toNat (m - s))
set_option maxRecDepth 100000 in
set_option maxHeartbeats 2000000 in
theorem survivor_any (w : World) (a : Option Addr) (m c s : Nat) (k : Int) (hs : s ≤ m) (hmc : m ≤ c) (hm : (m : Int) ≤ 67108864) (ha : a = none ∨ ∃ g, a = some ⟨g, 0, none⟩) (hk1 : -9223372036854775808 ≤ k) (hk2 : k ≤ 9223372036854775807) :
    Calls Tryd.prog 29 #[fiV (.slice a m c) (s : Int), .int .i64 k] w fun r w' => r = .returned (fiV (.slice a (keepI s m k) (keepI s m k)) (keepI s m k : Nat)) ∧ Below w.heap.size w w' := by
  obtain ⟨S, hS⟩ : ∃ S : Int, S = (s : Int) := ⟨_, rfl⟩
  rw [← hS]
  have hS0 : 0 ≤ S := by omega
  have hSm : S ≤ (m : Int) := by omega
  obtain ⟨N, hN⟩ : ∃ N, keepI s m k = N := ⟨_, rfl⟩
  have hw1 : IntKind.i64.wrap ((m : Int) - S) = (m : Int) - S := by rw [wrap_i64]; omega
  have HKI : Hid (keepI s m k = N) := hN
  have HA : Hid (a = none ∨ ∃ g, a = some ⟨g, 0, none⟩) := ha
  have HMC : Hid (m ≤ c) := hmc
  have HX0 : Hid (FiAt ((w.alloc (.cells #[.slice a m c, .int .i64 S] 60)).alloc (.cells #[.slice none 0 0, .int .i64 0] 60)) w.heap.size (.slice a m c) S) := ((FiAt.new w _ _).keep ((Below.refl _ _).alloc (Nat.le_refl _) _))
  have HR0 : Hid (FiAt ((w.alloc (.cells #[.slice a m c, .int .i64 S] 60)).alloc (.cells #[.slice none 0 0, .int .i64 0] 60)) (w.heap.size + 1) (.slice none 0 0) 0) := by have h := FiAt.new (w.alloc (.cells #[.slice a m c, .int .i64 S] 60)) (.slice none 0 0) 0; rw [World.size_alloc] at h; exact h
  have cx0 := HX0.out.cells.1
  have cx1 := HX0.out.cells.2
  by_cases b1 : k < 0
  · have hNs : N = s := by rw [← hN]; unfold keepI; rw [if_pos b1]; rfl
    have hNI : (N : Int) = S := by omega
    have HNM : Hid (N ≤ m) := by show _ ≤ _; omega
    have HSN : Hid (¬ (N : Int) < S) := by show ¬ _; omega
    have hb : ¬ (m : Int) - S < 0 := by omega
    have HNI : Hid ((N : Int) = S) := hNI
    clear hN hS hs hmc ha hk1 hk2 hNs hNI
    go_enter Tryd.func29, Tryd.ntmps29
    go_wp2_with (first
      | (go_at_call 44; (refine (first_any _ a m c N S _ (by have := HNI.out; omega) HNM.out HMC.out hm HA.out).mono ?_; rw [if_neg HSN.out]; rintro _ x1 ⟨rfl, hb1⟩; have HB1 : Hid (Below w.heap.size w x1) := ((((Below.refl _ w).alloc (Nat.le_refl _) _).alloc (by simp) _).trans (hb1.mono (by rw [World.size_alloc, World.size_alloc]; omega))); have HR1 : Hid (FiAt x1 (w.heap.size + 1) (.slice none 0 0) 0) := HR0.out.keep hb1; have HF1 : Hid (FiAt (x1.alloc (.cells #[.slice none 0 0, .int .i64 0] 60)) x1.heap.size (.slice none 0 0) 0) := FiAt.new x1 _ _; clear hb1))
      | ((with_reducible refine guard_load 60 ?_); refine wpList_load_fi rfl _ rfl HX0.out rfl ?_)
      | ((with_reducible refine guard_store 60 ?_); refine wpList_store_fi rfl _ _ rfl rfl HF1.out rfl rfl rfl (v2 := .slice a N N) (s2 := S) ?_; intro x3 hf ho hh hs; have HB3 : Hid (Below w.heap.size w x3) := ho _ _ (HB1.out.alloc HB1.out.size _) HB1.out.size; have HR3 : Hid (FiAt x3 (w.heap.size + 1) (.slice none 0 0) 0) := (ho _ _ ((Below.refl _ x1).alloc (Nat.le_refl _) _) (Nat.le_refl _)).block _ (lt_of_heap HR1.out) |>.trans HR1.out; have cf3 := hf.cells.1; have zf3 := hf.froz 1; have cs3 := hf.cells.2; have HF5 : Hid (FiAt (x3.setCell ⟨x1.heap.size, 1, none⟩ (.int .i64 (N : Int))) x1.heap.size (.slice a N N) (N : Int)) := (by unfold FiAt; rw [heap_setCell_same x3 _ 1 _ _ _ hf]; rfl); have HR5 : Hid (FiAt (x3.setCell ⟨x1.heap.size, 1, none⟩ (.int .i64 (N : Int))) (w.heap.size + 1) (.slice none 0 0) 0) := (heap_setCell_other x3 ⟨x1.heap.size, 1, none⟩ _ _ (by have h9 := lt_of_heap HR1.out; show w.heap.size + 1 ≠ x1.heap.size; omega)).trans HR3.out; have HB5 : Hid (Below w.heap.size w (x3.setCell ⟨x1.heap.size, 1, none⟩ (.int .i64 (N : Int)))) := HB3.out.trans (((On.refl x1.heap.size x3).set 1 _).below HB1.out.size); clear hf ho hh hs)
      | ((with_reducible refine guard_load 60 ?_); refine wpList_load_fi rfl _ rfl HF5.out rfl ?_)
      | ((with_reducible refine guard_store 60 ?_); refine wpList_store_fi rfl _ _ rfl rfl HR5.out rfl rfl rfl (v2 := .slice a N N) (s2 := (N : Int)) ?_; intro x6 hf ho hh hs; have HF6 : Hid (FiAt x6 (w.heap.size + 1) (.slice a N N) (N : Int)) := hf; have HB6 : Hid (Below w.heap.size w x6) := ho _ _ HB5.out (by omega); clear hf ho hh hs)
      | go_in)
    exact bodyPost_ret (results_fi1 rfl _ _ _ rfl HF6.out) rfl ⟨by rw [HKI.out], HB6.out⟩
  · by_cases b2 : k ≤ (m : Int) - S
    · have hNs : (N : Int) = S + k := by rw [← hN]; unfold keepI; rw [if_neg b1]; omega
      have HNM : Hid (N ≤ m) := by show _ ≤ _; omega
      have HSN : Hid (¬ (N : Int) < S) := by show ¬ _; omega
      have HNI : Hid ((N : Int) = S + k) := hNs
      have hb4 : 0 ≤ k := by omega
      clear hN hS hs hmc ha hk1 hk2 hNs
      go_enter Tryd.func29, Tryd.ntmps29
      go_wp2_with (first
        | (go_at_call 44; (refine (first_any _ a m c N S _ (by have := HNI.out; omega) HNM.out HMC.out hm HA.out).mono ?_; rw [if_neg HSN.out]; rintro _ x1 ⟨rfl, hb1⟩; have HB1 : Hid (Below w.heap.size w x1) := ((((Below.refl _ w).alloc (Nat.le_refl _) _).alloc (by simp) _).trans (hb1.mono (by rw [World.size_alloc, World.size_alloc]; omega))); have HR1 : Hid (FiAt x1 (w.heap.size + 1) (.slice none 0 0) 0) := HR0.out.keep hb1; have HF1 : Hid (FiAt (x1.alloc (.cells #[.slice none 0 0, .int .i64 0] 60)) x1.heap.size (.slice none 0 0) 0) := FiAt.new x1 _ _; clear hb1))
        | ((with_reducible refine guard_load 60 ?_); refine wpList_load_fi rfl _ rfl HX0.out rfl ?_)
        | ((with_reducible refine guard_store 60 ?_); refine wpList_store_fi rfl _ _ rfl rfl HF1.out rfl rfl rfl (v2 := .slice a N N) (s2 := S) ?_; intro x3 hf ho hh hs; have HB3 : Hid (Below w.heap.size w x3) := ho _ _ (HB1.out.alloc HB1.out.size _) HB1.out.size; have HR3 : Hid (FiAt x3 (w.heap.size + 1) (.slice none 0 0) 0) := (ho _ _ ((Below.refl _ x1).alloc (Nat.le_refl _) _) (Nat.le_refl _)).block _ (lt_of_heap HR1.out) |>.trans HR1.out; have cf3 := hf.cells.1; have zf3 := hf.froz 1; have cs3 := hf.cells.2; have HF5 : Hid (FiAt (x3.setCell ⟨x1.heap.size, 1, none⟩ (.int .i64 (N : Int))) x1.heap.size (.slice a N N) (N : Int)) := (by unfold FiAt; rw [heap_setCell_same x3 _ 1 _ _ _ hf]; rfl); have HR5 : Hid (FiAt (x3.setCell ⟨x1.heap.size, 1, none⟩ (.int .i64 (N : Int))) (w.heap.size + 1) (.slice none 0 0) 0) := (heap_setCell_other x3 ⟨x1.heap.size, 1, none⟩ _ _ (by have h9 := lt_of_heap HR1.out; show w.heap.size + 1 ≠ x1.heap.size; omega)).trans HR3.out; have HB5 : Hid (Below w.heap.size w (x3.setCell ⟨x1.heap.size, 1, none⟩ (.int .i64 (N : Int)))) := HB3.out.trans (((On.refl x1.heap.size x3).set 1 _).below HB1.out.size); clear hf ho hh hs)
        | ((with_reducible refine guard_load 60 ?_); refine wpList_load_fi rfl _ rfl HF5.out rfl ?_)
        | ((with_reducible refine guard_store 60 ?_); refine wpList_store_fi rfl _ _ rfl rfl HR5.out rfl rfl rfl (v2 := .slice a N N) (s2 := (N : Int)) ?_; intro x6 hf ho hh hs; have HF6 : Hid (FiAt x6 (w.heap.size + 1) (.slice a N N) (N : Int)) := hf; have HB6 : Hid (Below w.heap.size w x6) := ho _ _ HB5.out (by omega); clear hf ho hh hs)
        | go_in)
      exact bodyPost_ret (results_fi1 rfl _ _ _ rfl HF6.out) rfl ⟨by rw [HKI.out], HB6.out⟩
    · have hNs : N = m := by rw [← hN]; unfold keepI; rw [if_neg b1]; omega
      have HNM : Hid (N ≤ m) := by show _ ≤ _; omega
      have HSN : Hid (¬ (N : Int) < S) := by show ¬ _; omega
      have HNI : Hid ((N : Int) = m) := by show _ = _; omega
      have b3 : (m : Int) - S < k := by omega
      clear hN hS hs hmc ha hk1 hk2 hNs b2
      go_enter Tryd.func29, Tryd.ntmps29
      go_wp2_with (first
        | (go_at_call 44; (refine (first_any _ a m c N S _ (by have := HNI.out; omega) HNM.out HMC.out hm HA.out).mono ?_; rw [if_neg HSN.out]; rintro _ x1 ⟨rfl, hb1⟩; have HB1 : Hid (Below w.heap.size w x1) := ((((Below.refl _ w).alloc (Nat.le_refl _) _).alloc (by simp) _).trans (hb1.mono (by rw [World.size_alloc, World.size_alloc]; omega))); have HR1 : Hid (FiAt x1 (w.heap.size + 1) (.slice none 0 0) 0) := HR0.out.keep hb1; have HF1 : Hid (FiAt (x1.alloc (.cells #[.slice none 0 0, .int .i64 0] 60)) x1.heap.size (.slice none 0 0) 0) := FiAt.new x1 _ _; clear hb1))
        | ((with_reducible refine guard_load 60 ?_); refine wpList_load_fi rfl _ rfl HX0.out rfl ?_)
        | ((with_reducible refine guard_store 60 ?_); refine wpList_store_fi rfl _ _ rfl rfl HF1.out rfl rfl rfl (v2 := .slice a N N) (s2 := S) ?_; intro x3 hf ho hh hs; have HB3 : Hid (Below w.heap.size w x3) := ho _ _ (HB1.out.alloc HB1.out.size _) HB1.out.size; have HR3 : Hid (FiAt x3 (w.heap.size + 1) (.slice none 0 0) 0) := (ho _ _ ((Below.refl _ x1).alloc (Nat.le_refl _) _) (Nat.le_refl _)).block _ (lt_of_heap HR1.out) |>.trans HR1.out; have cf3 := hf.cells.1; have zf3 := hf.froz 1; have cs3 := hf.cells.2; have HF5 : Hid (FiAt (x3.setCell ⟨x1.heap.size, 1, none⟩ (.int .i64 (N : Int))) x1.heap.size (.slice a N N) (N : Int)) := (by unfold FiAt; rw [heap_setCell_same x3 _ 1 _ _ _ hf]; rfl); have HR5 : Hid (FiAt (x3.setCell ⟨x1.heap.size, 1, none⟩ (.int .i64 (N : Int))) (w.heap.size + 1) (.slice none 0 0) 0) := (heap_setCell_other x3 ⟨x1.heap.size, 1, none⟩ _ _ (by have h9 := lt_of_heap HR1.out; show w.heap.size + 1 ≠ x1.heap.size; omega)).trans HR3.out; have HB5 : Hid (Below w.heap.size w (x3.setCell ⟨x1.heap.size, 1, none⟩ (.int .i64 (N : Int)))) := HB3.out.trans (((On.refl x1.heap.size x3).set 1 _).below HB1.out.size); clear hf ho hh hs)
        | ((with_reducible refine guard_load 60 ?_); refine wpList_load_fi rfl _ rfl HF5.out rfl ?_)
        | ((with_reducible refine guard_store 60 ?_); refine wpList_store_fi rfl _ _ rfl rfl HR5.out rfl rfl rfl (v2 := .slice a N N) (s2 := (N : Int)) ?_; intro x6 hf ho hh hs; have HF6 : Hid (FiAt x6 (w.heap.size + 1) (.slice a N N) (N : Int)) := hf; have HB6 : Hid (Below w.heap.size w x6) := ho _ _ HB5.out (by omega); clear hf ho hh hs)
        | go_in)
      exact bodyPost_ret (results_fi1 rfl _ _ _ rfl HF6.out) rfl ⟨by rw [HKI.out], HB6.out⟩
end Go.Proofs.YtnfkdgjgglnniaaDoor
