/- daybooklaw22.digits; audit.Words. -/
import Derived.Test.YtdjldbhglaohkaaDoorDn0
import Derived.Test.YtdjldbhglaohkaaDoorFnd
import Derived.Test.YtdjldbhglaohkaaDoorAwTie
import Derived.Test.YtdjldbhglaohkaaDoorSenB
import Derived.Test.YtdjldbhglaohkaaDoorSenR
import Derived.Test.YtdjldbhglaohkaaDoorNb
import Derived.OrdersHeld
import Derived.Deep.RegionHeld
namespace Go.Proofs.YtdjldbhglaohkaaDoor
open Go.ChangeShapes Go.WideShapes Go.ChangeAt Go.RowKit
set_option linter.unusedVariables false
set_option linter.unusedSimpArgs false
theorem conv_oneA (W : World) (b d : Nat) (hd : d ≤ 9) (h : W.cell? ⟨b, 0, none⟩ = some (.int .u8 (48 + (d : Int)))) : (convert 31 9 (.slice (some ⟨b, 0, none⟩) 1 1)).run Tryd.prog W = .ok (.string (bs [dg d])) W :=
  run_convert_bytes_back (P := Tryd.prog) W 31 9 5 ⟨b, 0, none⟩ 1 [dg d] Tryd.underlying31 Tryd.underlying5 Tryd.underlying9 (fun i hi => by
    obtain rfl : i = 0 := by simpa using hi
    rw [show [dg d][0] = dg d from rfl, dg_toNat d hd]
    simpa [Addr.add] using h)
set_option maxRecDepth 20000 in
set_option maxHeartbeats 4000000 in
theorem digits_any : ∀ (k u : Nat), u ≤ k → u ≤ 9223372036854775808 → ∀ w, Calls Tryd.prog 5 #[.int .u64 (u : Int)] w fun e w' => e = .returned (.string (bs (Lib.decDigits u))) ∧ Below w.heap.size w w' := by
  intro k
  induction k with
  | zero =>
    intro u hu _ w
    obtain rfl : u = 0 := by omega
    have hcv := conv_oneA (w.alloc (.cells #[.int .u8 48] 5)) w.heap.size 0 (by omega) (by simp)
    have HR : Hid (Lib.decDigits 0 = [dg 0]) := dd_one 0 (by omega)
    go_enter Tryd.func5, Tryd.ntmps5
    go_wp2
    go_ret
    exact ⟨ret_str (by rw [HR.out]), (Below.refl _ _).alloc (Nat.le_refl _) _⟩
  | succ k ih =>
    intro u hu hmax w
    by_cases h10 : u < 10
    · have h10I : (u : Int) < 10 := by omega
      have hcv := conv_oneA (w.alloc (.cells #[.int .u8 (48 + (u : Int))] 5)) w.heap.size u (by omega) (by simp)
      have HR : Hid (Lib.decDigits u = [dg u]) := dd_one u h10
      clear hu hmax ih
      go_enter Tryd.func5, Tryd.ntmps5
      go_wp2
      go_ret
      exact ⟨ret_str (by rw [HR.out]), (Below.refl _ _).alloc (Nat.le_refl _) _⟩
    · obtain ⟨d, hd⟩ : ∃ d : Nat, u % 10 = d := ⟨_, rfl⟩
      obtain ⟨Q, hQ⟩ : ∃ Q : Nat, u / 10 = Q := ⟨_, rfl⟩
      obtain ⟨U, hU⟩ : ∃ U : Int, (u : Int) = U := ⟨_, rfl⟩
      have hd9 : d ≤ 9 := by omega
      have hdI : (d : Int) ≤ 9 := by omega
      have e1 : U / 10 = (Q : Int) := by omega
      have e2 : U % 10 = (d : Int) := by omega
      have e3 : U.tdiv 10 = (Q : Int) := by rw [Int.tdiv_eq_ediv_of_nonneg (by omega)]; exact e1
      have e4 : U.tmod 10 = (d : Int) := by rw [Int.tmod_eq_emod_of_nonneg (by omega)]; exact e2
      have h10I : ¬ U < 10 := by omega
      have hU0 : 0 ≤ U := by omega
      have hU1 : U ≤ 9223372036854775808 := by omega
      have HR : Hid (Lib.decDigits u = Lib.decDigits Q ++ [dg d]) := by show _ = _; rw [dd_step u (by omega), hQ, hd]
      have C : Hid (∀ w, Calls Tryd.prog 5 #[.int .u64 (Q : Int)] w fun e w' => e = .returned (.string (bs (Lib.decDigits Q))) ∧ Below w.heap.size w w') := fun w => ih Q (by omega) (by omega) w
      have hlen := dd_len _ Q (Nat.le_refl _) 18 (by rw [show (10 : Nat) ^ (18 + 1) = 10000000000000000000 from by decide]; omega)
      obtain ⟨T, hT⟩ : ∃ T, Lib.decDigits Q = T := ⟨_, rfl⟩
      rw [hT] at HR C hlen
      have hcat : ¬ 9223372036854775807 < T.length + 1 := by omega
      have hwd : IntKind.u64.wrap (48 + (d : Int)) = 48 + (d : Int) := by rw [IntKind.wrap_u64]; omega
      have hwq : IntKind.u64.wrap (Q : Int) = (Q : Int) := by rw [IntKind.wrap_u64]; omega
      have hwu : IntKind.u8.wrap (48 + (d : Int)) = 48 + (d : Int) := by rw [IntKind.wrap_u8']; omega
      rw [hU]
      clear hu hmax ih hd hQ hT hlen h10 hU
      go_enter Tryd.func5, Tryd.ntmps5
      go_wp2
      refine wp_region_held (S := fun y => True) (by kernel_rfl) ?_
      change wpAnyH _ _ _ _ _ _ _ _ (World.drew _)
      obtain ⟨D, hD⟩ : ∃ D, w.drew = D := ⟨_, rfl⟩
      have HB0 : Hid (Below w.heap.size w D) := by rw [← hD]; exact (Below.refl _ _).drew
      rw [hD]
      clear hD
      refine wpAnyH_take (i := 0) (oi := { dst := some 10, op := Op.move (Operand.tmp 0), type := 27, pos := "law.go:70", after := #[], guard := none }) (v := ?_) rfl (by kernel_rfl) (by kernel_rfl) (by kernel_rfl) (fun _ _ _ h => h) (Or.inl ⟨by rfl, ?_⟩) trivial ?_
      rotate_left
      · (intro y hy; go_simp; try (with_reducible rfl))
      simp only [Act.put, List.setIfInBounds_toArray, List.set_cons_zero, List.set_cons_succ]
      refine wpAnyH_take (i := 1) (oi := { dst := some 11, op := Op.binOp BinOp.quo 27 (Operand.tmp 10) (Operand.const (Value.int IntKind.u64 10)) 27, type := 27, pos := "law.go:70", after := #[{ on := 0, ground := Ground.data }], guard := none }) (v := ?_) rfl (by kernel_rfl) (by kernel_rfl) (by kernel_rfl) (fun _ _ _ h => h) (Or.inl ⟨by rfl, ?_⟩) trivial ?_
      rotate_left
      · (intro y hy; go_simp; try (with_reducible rfl))
      simp only [Act.put, List.setIfInBounds_toArray, List.set_cons_zero, List.set_cons_succ]
      refine wpAnyH_take (i := 3) (oi := { dst := some 13, op := Op.move (Operand.tmp 0), type := 27, pos := "law.go:70", after := #[], guard := none }) (v := ?_) rfl (by kernel_rfl) (by kernel_rfl) (by kernel_rfl) (fun _ _ _ h => h) (Or.inl ⟨by rfl, ?_⟩) trivial ?_
      rotate_left
      · (intro y hy; go_simp; try (with_reducible rfl))
      simp only [Act.put, List.setIfInBounds_toArray, List.set_cons_zero, List.set_cons_succ]
      refine wpAnyH_take (i := 4) (oi := { dst := some 14, op := Op.binOp BinOp.rem 27 (Operand.tmp 13) (Operand.const (Value.int IntKind.u64 10)) 27, type := 27, pos := "law.go:70", after := #[{ on := 3, ground := Ground.data }], guard := none }) (v := ?_) rfl (by kernel_rfl) (by kernel_rfl) (by kernel_rfl) (fun _ _ _ h => h) (Or.inl ⟨by rfl, ?_⟩) trivial ?_
      rotate_left
      · (intro y hy; go_simp; try (with_reducible rfl))
      simp only [Act.put, List.setIfInBounds_toArray, List.set_cons_zero, List.set_cons_succ]
      refine wpAnyH_take (i := 5) (oi := { dst := some 15, op := Op.binOp BinOp.add 27 (Operand.const (Value.int IntKind.u64 48)) (Operand.tmp 14) 27, type := 27, pos := "law.go:70", after := #[{ on := 4, ground := Ground.data }], guard := none }) (v := ?_) rfl (by kernel_rfl) (by kernel_rfl) (by kernel_rfl) (fun _ _ _ h => h) (Or.inl ⟨by rfl, ?_⟩) trivial ?_
      rotate_left
      · (intro y hy; go_simp; try (with_reducible rfl))
      simp only [Act.put, List.setIfInBounds_toArray, List.set_cons_zero, List.set_cons_succ]
      refine wpAnyH_take (i := 6) (oi := { dst := some 16, op := Op.convert 27 5 (Operand.tmp 15), type := 5, pos := "law.go:70", after := #[{ on := 5, ground := Ground.data }], guard := none }) (v := ?_) rfl (by kernel_rfl) (by kernel_rfl) (by kernel_rfl) (fun _ _ _ h => h) (Or.inl ⟨by rfl, ?_⟩) trivial ?_
      rotate_left
      · (intro y hy; go_simp; try (with_reducible rfl))
      simp only [Act.put, List.setIfInBounds_toArray, List.set_cons_zero, List.set_cons_succ]
      refine wpAnyH_ready (rs := [2, 7]) (by kernel_rfl) (by simp) ?_
      refine AllReadyH.cons (o := { dst := some 12, op := Op.call { callee := Callee.value (Operand.func 5), args := #[Operand.tmp 11], argTypes := #[27] }, type := 9, pos := "law.go:70", after := #[{ on := 1, ground := Ground.data }], guard := none }) rfl (fun K hK => ?_) (AllReadyH.cons (o := { dst := some 17, op := Op.buildSlice 31 1 #[(0, Operand.tmp 16)], type := 31, pos := "law.go:70", after := #[{ on := 6, ground := Ground.data }], guard := none }) rfl (fun K hK => ?_) AllReadyH.nil)
      · go_simp
        refine (C.out _).mono ?_
        rintro _ y1 ⟨rfl, hb1⟩
        have HB2 : Hid (Below w.heap.size w y1) := below_next HB0.out hb1
        clear hb1
        (refine hK _ _ trivial ?_; clear hK K; intro _)
        try simp only [Act.put, List.setIfInBounds_toArray, List.set_cons_zero, List.set_cons_succ]
        refine wpAnyH_ready (rs := [7]) (by kernel_rfl) (by simp) ?_
        refine AllReadyH.cons (o := { dst := some 17, op := Op.buildSlice 31 1 #[(0, Operand.tmp 16)], type := 31, pos := "law.go:70", after := #[{ on := 6, ground := Ground.data }], guard := none }) rfl (fun K hK => ?_) AllReadyH.nil
        go_simp
        obtain ⟨y3, hY⟩ : ∃ Y, y1.alloc (.cells #[.int .u8 (48 + (d : Int))] 5) = Y := ⟨_, rfl⟩
        rw [hY]
        have HB4 : Hid (Below w.heap.size w y3) := by rw [← hY]; exact below_next HB2.out ((Below.refl _ _).alloc (Nat.le_refl _) _)
        have HC5 : Hid (y3.cell? ⟨y1.heap.size, 0, none⟩ = some (.int .u8 (48 + (d : Int)))) := by show _ = _; rw [← hY]; simp
        clear hY
        (refine hK _ _ trivial ?_; clear hK K; intro _)
        try simp only [Act.put, List.setIfInBounds_toArray, List.set_cons_zero, List.set_cons_succ]
        refine wpAnyH_ready (rs := [8]) (by kernel_rfl) (by simp) ?_
        refine AllReadyH.cons (o := { dst := some 18, op := Op.convert 31 9 (Operand.tmp 17), type := 9, pos := "law.go:70", after := #[{ on := 7, ground := Ground.data }], guard := none }) rfl (fun K hK => ?_) AllReadyH.nil
        have hcv := conv_oneA y3 y1.heap.size d hd9 HC5.out
        go_simp
        (refine hK _ _ trivial ?_; clear hK K; intro _)
        try simp only [Act.put, List.setIfInBounds_toArray, List.set_cons_zero, List.set_cons_succ]
        refine wpAnyH_take (i := 9) (oi := { dst := some 19, op := Op.binOp BinOp.add 9 (Operand.tmp 12) (Operand.tmp 18) 9, type := 9, pos := "law.go:70", after := #[{ on := 2, ground := Ground.data }, { on := 8, ground := Ground.data }], guard := none }) (v := ?_) rfl (by kernel_rfl) (by kernel_rfl) (by kernel_rfl) (fun _ _ _ h => h) (Or.inl ⟨by rfl, ?_⟩) trivial ?_
        rotate_left
        · (intro y hy; go_simp; try (with_reducible rfl))
        simp only [Act.put, List.setIfInBounds_toArray, List.set_cons_zero, List.set_cons_succ]
        refine wpAnyH_take (i := 10) (oi := { dst := some 2, op := Op.assign (Operand.tmp 19), type := 9, pos := "law.go:70", after := #[{ on := 9, ground := Ground.data }, { on := 2, ground := Ground.chain }, { on := 0, ground := Ground.phase }, { on := 1, ground := Ground.phase }, { on := 2, ground := Ground.phase }, { on := 3, ground := Ground.phase }, { on := 4, ground := Ground.phase }, { on := 5, ground := Ground.phase }, { on := 6, ground := Ground.phase }, { on := 7, ground := Ground.phase }, { on := 8, ground := Ground.phase }, { on := 9, ground := Ground.phase }], guard := none }) (v := ?_) rfl (by kernel_rfl) (by kernel_rfl) (by kernel_rfl) (fun _ _ _ h => h) (Or.inl ⟨by rfl, ?_⟩) trivial ?_
        rotate_left
        · (intro y hy; go_simp; try (with_reducible rfl))
        simp only [Act.put, List.setIfInBounds_toArray, List.set_cons_zero, List.set_cons_succ]
        refine wpAnyH_done (by kernel_rfl) ?_ _
        go_wp2
        go_ret
        exact ⟨ret_str (by rw [HR.out]; exact bs_append T [dg d]), HB4.out⟩
      · go_simp
        obtain ⟨y6, hY⟩ : ∃ Y, D.alloc (.cells #[.int .u8 (48 + (d : Int))] 5) = Y := ⟨_, rfl⟩
        rw [hY]
        have HB7 : Hid (Below w.heap.size w y6) := by rw [← hY]; exact below_next HB0.out ((Below.refl _ _).alloc (Nat.le_refl _) _)
        have HC8 : Hid (y6.cell? ⟨D.heap.size, 0, none⟩ = some (.int .u8 (48 + (d : Int)))) := by show _ = _; rw [← hY]; simp
        clear hY
        (refine hK _ _ trivial ?_; clear hK K; intro _)
        try simp only [Act.put, List.setIfInBounds_toArray, List.set_cons_zero, List.set_cons_succ]
        refine wpAnyH_ready (rs := [2, 8]) (by kernel_rfl) (by simp) ?_
        refine AllReadyH.cons (o := { dst := some 12, op := Op.call { callee := Callee.value (Operand.func 5), args := #[Operand.tmp 11], argTypes := #[27] }, type := 9, pos := "law.go:70", after := #[{ on := 1, ground := Ground.data }], guard := none }) rfl (fun K hK => ?_) (AllReadyH.cons (o := { dst := some 18, op := Op.convert 31 9 (Operand.tmp 17), type := 9, pos := "law.go:70", after := #[{ on := 7, ground := Ground.data }], guard := none }) rfl (fun K hK => ?_) AllReadyH.nil)
        · go_simp
          refine (C.out _).mono ?_
          rintro _ y9 ⟨rfl, hb1⟩
          have HB10 : Hid (Below w.heap.size w y9) := below_next HB7.out hb1
          have HC11 : Hid (y9.cell? ⟨D.heap.size, 0, none⟩ = some (.int .u8 (48 + (d : Int)))) := (hb1.cell (p := ⟨D.heap.size, 0, none⟩) (World.block_lt_of_cell? _ _ HC8.out)).trans HC8.out
          clear hb1
          (refine hK _ _ trivial ?_; clear hK K; intro _)
          try simp only [Act.put, List.setIfInBounds_toArray, List.set_cons_zero, List.set_cons_succ]
          refine wpAnyH_ready (rs := [8]) (by kernel_rfl) (by simp) ?_
          refine AllReadyH.cons (o := { dst := some 18, op := Op.convert 31 9 (Operand.tmp 17), type := 9, pos := "law.go:70", after := #[{ on := 7, ground := Ground.data }], guard := none }) rfl (fun K hK => ?_) AllReadyH.nil
          have hcv := conv_oneA y9 D.heap.size d hd9 HC11.out
          go_simp
          (refine hK _ _ trivial ?_; clear hK K; intro _)
          try simp only [Act.put, List.setIfInBounds_toArray, List.set_cons_zero, List.set_cons_succ]
          refine wpAnyH_take (i := 9) (oi := { dst := some 19, op := Op.binOp BinOp.add 9 (Operand.tmp 12) (Operand.tmp 18) 9, type := 9, pos := "law.go:70", after := #[{ on := 2, ground := Ground.data }, { on := 8, ground := Ground.data }], guard := none }) (v := ?_) rfl (by kernel_rfl) (by kernel_rfl) (by kernel_rfl) (fun _ _ _ h => h) (Or.inl ⟨by rfl, ?_⟩) trivial ?_
          rotate_left
          · (intro y hy; go_simp; try (with_reducible rfl))
          simp only [Act.put, List.setIfInBounds_toArray, List.set_cons_zero, List.set_cons_succ]
          refine wpAnyH_take (i := 10) (oi := { dst := some 2, op := Op.assign (Operand.tmp 19), type := 9, pos := "law.go:70", after := #[{ on := 9, ground := Ground.data }, { on := 2, ground := Ground.chain }, { on := 0, ground := Ground.phase }, { on := 1, ground := Ground.phase }, { on := 2, ground := Ground.phase }, { on := 3, ground := Ground.phase }, { on := 4, ground := Ground.phase }, { on := 5, ground := Ground.phase }, { on := 6, ground := Ground.phase }, { on := 7, ground := Ground.phase }, { on := 8, ground := Ground.phase }, { on := 9, ground := Ground.phase }], guard := none }) (v := ?_) rfl (by kernel_rfl) (by kernel_rfl) (by kernel_rfl) (fun _ _ _ h => h) (Or.inl ⟨by rfl, ?_⟩) trivial ?_
          rotate_left
          · (intro y hy; go_simp; try (with_reducible rfl))
          simp only [Act.put, List.setIfInBounds_toArray, List.set_cons_zero, List.set_cons_succ]
          refine wpAnyH_done (by kernel_rfl) ?_ _
          go_wp2
          go_ret
          exact ⟨ret_str (by rw [HR.out]; exact bs_append T [dg d]), HB10.out⟩
        · have hcv := conv_oneA y6 D.heap.size d hd9 HC8.out
          go_simp
          (refine hK _ _ trivial ?_; clear hK K; intro _)
          try simp only [Act.put, List.setIfInBounds_toArray, List.set_cons_zero, List.set_cons_succ]
          refine wpAnyH_ready (rs := [2]) (by kernel_rfl) (by simp) ?_
          refine AllReadyH.cons (o := { dst := some 12, op := Op.call { callee := Callee.value (Operand.func 5), args := #[Operand.tmp 11], argTypes := #[27] }, type := 9, pos := "law.go:70", after := #[{ on := 1, ground := Ground.data }], guard := none }) rfl (fun K hK => ?_) AllReadyH.nil
          go_simp
          refine (C.out _).mono ?_
          rintro _ y12 ⟨rfl, hb1⟩
          have HB13 : Hid (Below w.heap.size w y12) := below_next HB7.out hb1
          have HC14 : Hid (y12.cell? ⟨D.heap.size, 0, none⟩ = some (.int .u8 (48 + (d : Int)))) := (hb1.cell (p := ⟨D.heap.size, 0, none⟩) (World.block_lt_of_cell? _ _ HC8.out)).trans HC8.out
          clear hb1
          (refine hK _ _ trivial ?_; clear hK K; intro _)
          try simp only [Act.put, List.setIfInBounds_toArray, List.set_cons_zero, List.set_cons_succ]
          refine wpAnyH_take (i := 9) (oi := { dst := some 19, op := Op.binOp BinOp.add 9 (Operand.tmp 12) (Operand.tmp 18) 9, type := 9, pos := "law.go:70", after := #[{ on := 2, ground := Ground.data }, { on := 8, ground := Ground.data }], guard := none }) (v := ?_) rfl (by kernel_rfl) (by kernel_rfl) (by kernel_rfl) (fun _ _ _ h => h) (Or.inl ⟨by rfl, ?_⟩) trivial ?_
          rotate_left
          · (intro y hy; go_simp; try (with_reducible rfl))
          simp only [Act.put, List.setIfInBounds_toArray, List.set_cons_zero, List.set_cons_succ]
          refine wpAnyH_take (i := 10) (oi := { dst := some 2, op := Op.assign (Operand.tmp 19), type := 9, pos := "law.go:70", after := #[{ on := 9, ground := Ground.data }, { on := 2, ground := Ground.chain }, { on := 0, ground := Ground.phase }, { on := 1, ground := Ground.phase }, { on := 2, ground := Ground.phase }, { on := 3, ground := Ground.phase }, { on := 4, ground := Ground.phase }, { on := 5, ground := Ground.phase }, { on := 6, ground := Ground.phase }, { on := 7, ground := Ground.phase }, { on := 8, ground := Ground.phase }, { on := 9, ground := Ground.phase }], guard := none }) (v := ?_) rfl (by kernel_rfl) (by kernel_rfl) (by kernel_rfl) (fun _ _ _ h => h) (Or.inl ⟨by rfl, ?_⟩) trivial ?_
          rotate_left
          · (intro y hy; go_simp; try (with_reducible rfl))
          simp only [Act.put, List.setIfInBounds_toArray, List.set_cons_zero, List.set_cons_succ]
          refine wpAnyH_done (by kernel_rfl) ?_ _
          go_wp2
          go_ret
          exact ⟨ret_str (by rw [HR.out]; exact bs_append T [dg d]), HB13.out⟩
theorem bs_eq (s : ByteArray) : bs s.data.toList = s := by apply ByteArray.ext; simp
theorem itoa_lenA (n : Int) (h : inW n) : (Lib.itoa n).length ≤ 20 := by
  obtain ⟨h1, h2⟩ := h
  have p19 : (10 : Nat) ^ (18 + 1) = 10000000000000000000 := by decide
  unfold Lib.itoa
  split
  · have := dd_len _ n.natAbs (Nat.le_refl _) 18 (by rw [p19]; omega)
    simp only [List.length_cons]; omega
  · have := dd_len _ n.toNat (Nat.le_refl _) 18 (by rw [p19]; omega)
    omega
def lineOf (nl : List UInt8) (a : Int) (T : List UInt8) : List UInt8 := nl ++ [32, 97, 116, 32] ++ Lib.itoa a ++ [58, 32] ++ T
theorem nameT (e : Int) : ∃ T : List UInt8, NameIs e (bs T) ∧ T.length ≤ 40 := by
  by_cases h0 : e = 0
  · exact ⟨[111, 107], .inl ⟨h0, rfl⟩, by simp⟩
  by_cases hk : ∃ k, k < 42 ∧ numS k = e
  · obtain ⟨k, h1, h2⟩ := hk
    have key : ∀ i : Fin 42, (txtS i.val).data.toList.length ≤ 40 := by decide +kernel
    exact ⟨(txtS k).data.toList, .inr (.inl ⟨k, h1, h2, (bs_eq _).symm⟩), key ⟨k, h1⟩⟩
  · exact ⟨[], .inr (.inr ⟨h0, fun k h1 h2 => hk ⟨k, h1, h2⟩, rfl⟩), by simp⟩
set_option maxRecDepth 20000 in
set_option maxHeartbeats 8000000 in
theorem awords_any (f : Fd) (nl T : List UInt8) (w : World) (hn : f.name = bs nl) (hf : f.Fit) (hsb : f.name.size ≤ 140737488351232) (hT : NameIs f.code (bs T)) (hTl : T.length ≤ 40) (hp : Psn w) :
    Calls Tryd.prog 4 #[.agg (fdA f)] w fun e w' => e = .returned (.string (bs (lineOf nl f.at_ T))) ∧ Below w.heap.size w w' := by
  obtain ⟨h1, pa, h2⟩ := hp
  have HPW : Hid (Pow w ∧ True) := ⟨h1, trivial⟩
  have HSN : Hid (Sen w pa) := h2
  have HT : Hid (NameIs f.code (bs T)) := hT
  have HIN : Hid (inW f.at_) := hf.at_
  obtain ⟨I, hI⟩ : ∃ I, Lib.itoa f.at_ = I := ⟨_, rfl⟩
  have HI : Hid (Lib.itoa f.at_ = I) := hI
  have hIl : I.length ≤ 20 := by rw [← hI]; exact itoa_lenA _ HIN.out
  have hnl : nl.length ≤ 140737488351232 := by rw [hn] at hsb; exact hsb
  obtain ⟨L1, hL1⟩ : ∃ L, nl ++ [32, 97, 116, 32] = L := ⟨_, rfl⟩
  obtain ⟨L2, hL2⟩ : ∃ L, L1 ++ I = L := ⟨_, rfl⟩
  obtain ⟨L3, hL3⟩ : ∃ L, L2 ++ [58, 32] = L := ⟨_, rfl⟩
  obtain ⟨L4, hL4⟩ : ∃ L, L3 ++ T = L := ⟨_, rfl⟩
  have l1 : L1.length = nl.length + 4 := by rw [← hL1]; simp
  have l2 : L2.length = L1.length + I.length := by rw [← hL2]; simp
  have l3 : L3.length = L2.length + 2 := by rw [← hL3]; simp
  have k1 : ¬ 9223372036854775807 < nl.length + 4 := by omega
  have k2 : ¬ 9223372036854775807 < L1.length + I.length := by omega
  have k3 : ¬ 9223372036854775807 < L2.length + 2 := by omega
  have k4 : ¬ 9223372036854775807 < L3.length + T.length := by omega
  have c1 : bs nl ++ ({ data := #[32, 97, 116, 32] } : ByteArray) = bs L1 := by rw [← hL1]; exact bs_append nl [32, 97, 116, 32]
  have c2 : bs L1 ++ bs I = bs L2 := by rw [← hL2]; exact bs_append L1 I
  have c3 : bs L2 ++ ({ data := #[58, 32] } : ByteArray) = bs L3 := by rw [← hL3]; exact bs_append L2 [58, 32]
  have c4 : bs L3 ++ bs T = bs L4 := by rw [← hL4]; exact bs_append L3 T
  have HLL : Hid (nl ++ [32, 97, 116, 32] ++ I ++ [58, 32] ++ T = L4) := by show _ = _; rw [hL1, hL2, hL3, hL4]
  have hfa : fdA f = #[.string (bs nl), .int .i64 f.at_, .int .i64 f.code] := by unfold fdA; rw [hn]
  unfold lineOf
  rw [hI, HLL.out]
  obtain ⟨W, hW⟩ : ∃ W, w.alloc (.cells (fdA f) 24) = W := ⟨_, rfl⟩
  have HF : Hid (FdAt W w.heap.size f) := by show FdAt W w.heap.size f; rw [← hW]; exact FdAt.new w f
  have HB : Hid (Below w.heap.size w W) := by show Below _ _ _; rw [← hW]; exact (Below.refl _ _).alloc (Nat.le_refl _) _
  have HFN : Hid (fdA f = #[.string (bs nl), .int .i64 f.at_, .int .i64 f.code]) := hfa
  clear hI hIl hnl hf hT hn h1 h2 hTl hfa hsb hL1 hL2 hL3 hL4 l1 l2 l3
  go_enter Tryd.func4, Tryd.ntmps4
  go_wp2
  refine wp_region_held (S := fun y => FdAt y w.heap.size f) (by kernel_rfl) ?_
  change wpAnyH _ _ _ _ _ _ _ _ (World.drew _)
  obtain ⟨D, hD⟩ : ∃ D, W.drew = D := ⟨_, rfl⟩
  have HB1 : Hid (Below W.heap.size W D) := by rw [← hD]; exact (Below.refl _ _).drew
  rw [hD]
  clear hD
  refine wpAnyH_take (i := 0) (oi := { dst := some 3, op := Op.fieldAddr 24 (Operand.tmp 1) 0, type := 0, pos := "audit.go:44", after := #[], guard := none }) (v := ?_) rfl (by kernel_rfl) (by kernel_rfl) (by kernel_rfl) (fun _ _ _ h => h) (Or.inl ⟨by rfl, ?_⟩) (HF.out.after HB1.out) ?_
  rotate_left
  · (intro y hy; go_simp; try (with_reducible rfl))
  simp only [Act.put, List.setIfInBounds_toArray, List.set_cons_zero, List.set_cons_succ]
  refine wpAnyH_take (i := 1) (oi := { dst := some 4, op := Op.load 9 (Operand.tmp 3), type := 9, pos := "audit.go:44", after := #[{ on := 0, ground := Ground.data }], guard := none }) (v := ?_) rfl (by kernel_rfl) (by kernel_rfl) (by kernel_rfl) (fun _ _ _ h => h) (Or.inl ⟨by rfl, ?_⟩) (HF.out.after HB1.out) ?_
  rotate_left
  · (intro y hy; have cq := hy.cell 0 (.string (bs nl)) (by rw [HFN.out]; rfl); go_simp; try (with_reducible rfl))
  simp only [Act.put, List.setIfInBounds_toArray, List.set_cons_zero, List.set_cons_succ]
  refine wpAnyH_take (i := 2) (oi := { dst := some 5, op := Op.binOp BinOp.add 9 (Operand.tmp 4) (Operand.const (Value.string { data := #[32, 97, 116, 32] })) 9, type := 9, pos := "audit.go:44", after := #[{ on := 1, ground := Ground.data }], guard := none }) (v := ?_) rfl (by kernel_rfl) (by kernel_rfl) (by kernel_rfl) (fun _ _ _ h => h) (Or.inl ⟨by rfl, ?_⟩) (HF.out.after HB1.out) ?_
  rotate_left
  · (intro y hy; go_simp; try (with_reducible rfl))
  simp only [Act.put, List.setIfInBounds_toArray, List.set_cons_zero, List.set_cons_succ]
  refine wpAnyH_take (i := 3) (oi := { dst := some 6, op := Op.fieldAddr 24 (Operand.tmp 1) 1, type := 0, pos := "audit.go:44", after := #[], guard := none }) (v := ?_) rfl (by kernel_rfl) (by kernel_rfl) (by kernel_rfl) (fun _ _ _ h => h) (Or.inl ⟨by rfl, ?_⟩) (HF.out.after HB1.out) ?_
  rotate_left
  · (intro y hy; go_simp; try (with_reducible rfl))
  simp only [Act.put, List.setIfInBounds_toArray, List.set_cons_zero, List.set_cons_succ]
  refine wpAnyH_take (i := 4) (oi := { dst := some 7, op := Op.load 3 (Operand.tmp 6), type := 3, pos := "audit.go:44", after := #[{ on := 3, ground := Ground.data }], guard := none }) (v := ?_) rfl (by kernel_rfl) (by kernel_rfl) (by kernel_rfl) (fun _ _ _ h => h) (Or.inl ⟨by rfl, ?_⟩) (HF.out.after HB1.out) ?_
  rotate_left
  · (intro y hy; have cq := hy.cell 1 (.int .i64 f.at_) rfl; go_simp; try (with_reducible rfl))
  simp only [Act.put, List.setIfInBounds_toArray, List.set_cons_zero, List.set_cons_succ]
  refine wpAnyH_take (i := 8) (oi := { dst := some 11, op := Op.fieldAddr 24 (Operand.tmp 1) 2, type := 0, pos := "audit.go:44", after := #[], guard := none }) (v := ?_) rfl (by kernel_rfl) (by kernel_rfl) (by kernel_rfl) (fun _ _ _ h => h) (Or.inl ⟨by rfl, ?_⟩) (HF.out.after HB1.out) ?_
  rotate_left
  · (intro y hy; go_simp; try (with_reducible rfl))
  simp only [Act.put, List.setIfInBounds_toArray, List.set_cons_zero, List.set_cons_succ]
  refine wpAnyH_take (i := 9) (oi := { dst := some 12, op := Op.load 22 (Operand.tmp 11), type := 22, pos := "audit.go:44", after := #[{ on := 8, ground := Ground.data }], guard := none }) (v := ?_) rfl (by kernel_rfl) (by kernel_rfl) (by kernel_rfl) (fun _ _ _ h => h) (Or.inl ⟨by rfl, ?_⟩) (HF.out.after HB1.out) ?_
  rotate_left
  · (intro y hy; have cq := hy.cell 2 (.int .i64 f.code) rfl; go_simp; try (with_reducible rfl))
  simp only [Act.put, List.setIfInBounds_toArray, List.set_cons_zero, List.set_cons_succ]
  refine wpAnyH_ready (rs := [5]) (by kernel_rfl) (by simp) ?_
  refine AllReadyH.cons (o := { dst := some 8, op := Op.call { callee := Callee.value (Operand.func 7), args := #[Operand.tmp 7], argTypes := #[3] }, type := 9, pos := "audit.go:44", after := #[{ on := 4, ground := Ground.data }], guard := none }) rfl (fun K hK => ?_) AllReadyH.nil
  go_simp
  refine (itoa_any f.at_ _ HIN.out.1 HIN.out.2 (HPW.out.1.keep (below_next HB.out HB1.out))).mono ?_
  rw [HI.out]
  rintro _ Y1 ⟨rfl, hb2⟩
  have HB2 : Hid (Below W.heap.size W Y1) := below_next HB1.out hb2
  clear hb2
  (refine hK _ _ (HF.out.after HB2.out) ?_; clear hK K; intro _)
  try simp only [Act.put, List.setIfInBounds_toArray, List.set_cons_zero, List.set_cons_succ]
  refine wpAnyH_take (i := 6) (oi := { dst := some 9, op := Op.binOp BinOp.add 9 (Operand.tmp 5) (Operand.tmp 8) 9, type := 9, pos := "audit.go:44", after := #[{ on := 2, ground := Ground.data }, { on := 5, ground := Ground.data }], guard := none }) (v := ?_) rfl (by kernel_rfl) (by kernel_rfl) (by kernel_rfl) (fun _ _ _ h => h) (Or.inl ⟨by rfl, ?_⟩) (HF.out.after HB2.out) ?_
  rotate_left
  · (intro y hy; go_simp; try (with_reducible rfl))
  simp only [Act.put, List.setIfInBounds_toArray, List.set_cons_zero, List.set_cons_succ]
  refine wpAnyH_take (i := 7) (oi := { dst := some 10, op := Op.binOp BinOp.add 9 (Operand.tmp 9) (Operand.const (Value.string { data := #[58, 32] })) 9, type := 9, pos := "audit.go:44", after := #[{ on := 6, ground := Ground.data }], guard := none }) (v := ?_) rfl (by kernel_rfl) (by kernel_rfl) (by kernel_rfl) (fun _ _ _ h => h) (Or.inl ⟨by rfl, ?_⟩) (HF.out.after HB2.out) ?_
  rotate_left
  · (intro y hy; go_simp; try (with_reducible rfl))
  simp only [Act.put, List.setIfInBounds_toArray, List.set_cons_zero, List.set_cons_succ]
  refine wpAnyH_ready (rs := [10]) (by kernel_rfl) (by simp) ?_
  refine AllReadyH.cons (o := { dst := some 13, op := Op.call { callee := Callee.value (Operand.func 8), args := #[Operand.tmp 12], argTypes := #[22] }, type := 9, pos := "audit.go:44", after := #[{ on := 9, ground := Ground.data }, { on := 5, ground := Ground.chain }], guard := none }) rfl (fun K hK => ?_) AllReadyH.nil
  go_simp
  refine (name_any pa f.code _ (HSN.out.keep (below_next HB.out HB2.out))).mono ?_
  rintro _ Y2 ⟨s2, rfl, hs2, hb3⟩
  obtain rfl : s2 = bs T := hs2.one HT.out
  have HB3 : Hid (Below W.heap.size W Y2) := below_next HB2.out hb3
  clear hb3 hs2
  (refine hK _ _ (HF.out.after HB3.out) ?_; clear hK K; intro _)
  try simp only [Act.put, List.setIfInBounds_toArray, List.set_cons_zero, List.set_cons_succ]
  refine wpAnyH_take (i := 11) (oi := { dst := some 14, op := Op.binOp BinOp.add 9 (Operand.tmp 10) (Operand.tmp 13) 9, type := 9, pos := "audit.go:44", after := #[{ on := 7, ground := Ground.data }, { on := 10, ground := Ground.data }], guard := none }) (v := ?_) rfl (by kernel_rfl) (by kernel_rfl) (by kernel_rfl) (fun _ _ _ h => h) (Or.inl ⟨by rfl, ?_⟩) (HF.out.after HB3.out) ?_
  rotate_left
  · (intro y hy; go_simp; try (with_reducible rfl))
  simp only [Act.put, List.setIfInBounds_toArray, List.set_cons_zero, List.set_cons_succ]
  refine wpAnyH_take (i := 12) (oi := { dst := some 2, op := Op.assign (Operand.tmp 14), type := 9, pos := "audit.go:44", after := #[{ on := 11, ground := Ground.data }, { on := 10, ground := Ground.chain }, { on := 0, ground := Ground.phase }, { on := 1, ground := Ground.phase }, { on := 2, ground := Ground.phase }, { on := 3, ground := Ground.phase }, { on := 4, ground := Ground.phase }, { on := 5, ground := Ground.phase }, { on := 6, ground := Ground.phase }, { on := 7, ground := Ground.phase }, { on := 8, ground := Ground.phase }, { on := 9, ground := Ground.phase }, { on := 10, ground := Ground.phase }, { on := 11, ground := Ground.phase }], guard := none }) (v := ?_) rfl (by kernel_rfl) (by kernel_rfl) (by kernel_rfl) (fun _ _ _ h => h) (Or.inl ⟨by rfl, ?_⟩) (HF.out.after HB3.out) ?_
  rotate_left
  · (intro y hy; go_simp; try (with_reducible rfl))
  simp only [Act.put, List.setIfInBounds_toArray, List.set_cons_zero, List.set_cons_succ]
  refine wpAnyH_done (by kernel_rfl) ?_ _
  go_wp2
  go_ret
  exact ⟨rfl, below_next HB.out HB3.out⟩
end Go.Proofs.YtdjldbhglaohkaaDoor
