/- dump.Number; daybookref24.Show. -/
import Derived.Test.YtomgnbhajhkhfaaDoorDn0
import Derived.Test.YtomgnbhajhkhfaaDoorNm2
import Derived.Test.YtomgnbhajhkhfaaDoorCpn
import Derived.OrdersHeld
import Derived.Deep.RegionHeld
import Derived.Test.YtomgnbhajhkhfaaDoorNb
namespace Go.Proofs.YtomgnbhajhkhfaaDoor
open Go.ChangeShapes Go.WideShapes Go.ChangeAt Go.RowKit
set_option linter.unusedVariables false
set_option linter.unusedSimpArgs false
def nmV (l : List UInt8) : Int := match numR l with | some v => v | none => 0
def nmE (l : List UInt8) : Int := match numR l with | some _ => 0 | none => 101
theorem nm_some {l : List UInt8} {v : Int} (h : numR l = some v) : nmV l = v ∧ nmE l = 0 := by unfold nmV nmE; rw [h]; exact ⟨rfl, rfl⟩
theorem nm_none {l : List UInt8} (h : numR l = none) : nmV l = 0 ∧ nmE l = 101 := by unfold nmV nmE; rw [h]; exact ⟨rfl, rfl⟩
theorem ret2n {a b a' b' : Int} (h1 : a' = a) (h2 : b' = b) : Ending.returned (.tuple #[.int .i64 a, .int .i64 b]) = .returned (.tuple #[.int .i64 a', .int .i64 b']) := by rw [h1, h2]
set_option maxRecDepth 20000 in
set_option maxHeartbeats 1000000 in
theorem number_any (l : List UInt8) (w : World) (hl : l.length ≤ 281474976710656) (he : Ers w) :
    Calls Tryd.prog 11 #[.string (bs l)] w fun e w' => e = .returned (.tuple #[.int .i64 (nmV l), .int .i64 (nmE l)]) ∧ Below w.heap.size w w' := by
  have HE : Hid (Ers w) := he
  cases hr : Lib.atoiAll l with
  | ok v =>
    have hin := atoi_range hr
    have C1 : Hid (Calls Tryd.prog 15 #[.string (bs l)] w fun e w' => e = .returned (.tuple #[.int .i64 v, .nilIface]) ∧ Below w.heap.size w w') := by
      refine (Tryd.strconv_Atoi_ok (bs l) (by rw [bs_size]; omega) v hr w).mono ?_
      rintro e w' ⟨rfl, hw⟩
      refine ⟨rfl, ?_⟩
      rcases hw with rfl | ⟨t, rfl⟩
      · exact Below.refl _ _
      · exact below_bytes _ _ _
    obtain ⟨I, hI⟩ : ∃ I, Lib.itoa v = I := ⟨_, rfl⟩
    have HI : Hid (Lib.itoa v = I) := hI
    have HB : Hid (inI64 v) := hin
    by_cases hx : I = l
    · have HN : Hid (numR l = some v) := by show _ = _; unfold numR; rw [hr]; simp only; rw [if_pos (hI.trans hx)]
      subst hx
      clear hr hI hl he hin
      go_enter Tryd.func11, Tryd.ntmps11
      go_wp2_with (first
        | (go_at_call 15; refine C1.out.mono ?_; rintro e w1 ⟨rfl, hb1⟩)
        | (go_at_call 16; refine (itoa_any v _ HB.out.1 HB.out.2 (HE.out.keep hb1).1).mono ?_; rw [HI.out]; rintro e w2 ⟨rfl, hb2⟩))
      go_ret2
      exact ⟨ret2n (nm_some HN.out).1 (nm_some HN.out).2, hb1.trans (hb2.mono hb1.size)⟩
    · have HN : Hid (numR l = none) := by show _ = _; unfold numR; rw [hr]; simp only; rw [if_neg (fun h => hx (hI.symm.trans h))]
      have hne : (I == l) = false := by simpa using hx
      clear hr hI hl he hin hx
      go_enter Tryd.func11, Tryd.ntmps11
      go_wp2_with (first
        | (go_at_call 15; refine C1.out.mono ?_; rintro e w1 ⟨rfl, hb1⟩)
        | (go_at_call 16; refine (itoa_any v _ HB.out.1 HB.out.2 (HE.out.keep hb1).1).mono ?_; rw [HI.out]; rintro e w2 ⟨rfl, hb2⟩))
      go_ret2
      exact ⟨ret2n (nm_none HN.out).1 (nm_none HN.out).2, hb1.trans (hb2.mono hb1.size)⟩
  | «syntax» =>
    have HN : Hid (numR l = none) := by show _ = _; unfold numR; rw [hr]
    have C1 : Hid (Calls Tryd.prog 15 #[.string (bs l)] w fun e w' => ∃ (t : TypeId) (N : Nat), e = .returned (.tuple #[.int .i64 0, .iface t (.pointer (some ⟨N, 0, none⟩))]) ∧ Below w.heap.size w w') := by
      obtain ⟨_, ⟨a, b, h2⟩, c, d, h3⟩ := he
      refine (Tryd.strconv_Atoi_syntax (bs l) (by rw [bs_size]; omega) hr _ w h2 (.inr ⟨_, _, rfl⟩)).mono ?_
      rintro e w' ⟨N, rfl, _, _, hb⟩
      exact ⟨_, N, rfl, hb⟩
    clear hr hl he
    go_enter Tryd.func11, Tryd.ntmps11
    go_wp2_with (go_at_call 15; refine C1.out.mono ?_; rintro e w1 ⟨t, N, rfl, hb1⟩)
    go_ret2
    exact ⟨ret2n (nm_none HN.out).1 (nm_none HN.out).2, hb1⟩
  | range =>
    have HN : Hid (numR l = none) := by show _ = _; unfold numR; rw [hr]
    obtain ⟨V, hV⟩ : ∃ V, Lib.atoiSat l = V := ⟨_, rfl⟩
    have C1 : Hid (Calls Tryd.prog 15 #[.string (bs l)] w fun e w' => ∃ (t : TypeId) (N : Nat), e = .returned (.tuple #[.int .i64 V, .iface t (.pointer (some ⟨N, 0, none⟩))]) ∧ Below w.heap.size w w') := by
      obtain ⟨_, ⟨a, b, h2⟩, c, d, h3⟩ := he
      refine (Tryd.strconv_Atoi_range (bs l) (by rw [bs_size]; omega) hr _ w h3 (.inr ⟨_, _, rfl⟩)).mono ?_
      rintro e w' ⟨N, rfl, _, _, hb⟩
      exact ⟨_, N, by rw [← hV], hb⟩
    clear hr hl he hV
    go_enter Tryd.func11, Tryd.ntmps11
    go_wp2_with (go_at_call 15; refine C1.out.mono ?_; rintro e w1 ⟨t, N, rfl, hb1⟩)
    go_ret2
    exact ⟨ret2n (nm_none HN.out).1 (nm_none HN.out).2, hb1⟩
theorem conv_one (W : World) (b d : Nat) (hd : d ≤ 9) (h : W.cell? ⟨b, 0, none⟩ = some (.int .u8 (48 + (d : Int)))) : (convert 22 9 (.slice (some ⟨b, 0, none⟩) 1 1)).run Tryd.prog W = .ok (.string (bs [dg d])) W :=
  run_convert_bytes_back (P := Tryd.prog) W 22 9 5 ⟨b, 0, none⟩ 1 [dg d] Tryd.underlying22 Tryd.underlying5 Tryd.underlying9 (fun i hi => by
    obtain rfl : i = 0 := by simpa using hi
    rw [show [dg d][0] = dg d from rfl, dg_toNat d hd]
    simpa [Addr.add] using h)
theorem itoa_pos (n : Int) (h : 10 ≤ n) : Lib.itoa n = Lib.itoa (n / 10) ++ [dg (n % 10).toNat] := by
  unfold Lib.itoa
  rw [if_neg (by omega), if_neg (by omega), dd_step _ (by omega), show (n / 10).toNat = n.toNat / 10 from by omega, show (n % 10).toNat = n.toNat % 10 from by omega]
theorem itoa_neg (n : Int) (h : n ≤ -10) : Lib.itoa n = Lib.itoa (-(-n / 10)) ++ [dg (-n % 10).toNat] := by
  unfold Lib.itoa
  rw [if_pos (by omega), if_pos (by omega), dd_step _ (by omega), show (-(-n / 10)).natAbs = n.natAbs / 10 from by omega, show (-n % 10).toNat = n.natAbs % 10 from by omega]
  rfl
theorem itoa_small (n : Int) (h0 : 0 ≤ n) (h : n < 10) : Lib.itoa n = [dg n.toNat] := by
  unfold Lib.itoa
  rw [if_neg (by omega), dd_one _ (by omega)]
theorem itoa_minus (n : Int) (h0 : n < 0) (h : -10 < n) : Lib.itoa n = 45 :: Lib.itoa (-n) := by
  unfold Lib.itoa
  rw [if_pos h0, if_neg (by omega), show (-n).toNat = n.natAbs from by omega]
theorem itoa_len (n : Int) (h : inI64 n) : (Lib.itoa n).length ≤ 20 := by
  obtain ⟨h1, h2⟩ := h
  have p19 : (10 : Nat) ^ (18 + 1) = 10000000000000000000 := by decide
  unfold Lib.itoa
  split
  · have := dd_len _ n.natAbs (Nat.le_refl _) 18 (by rw [p19]; omega)
    simp only [List.length_cons]; omega
  · have := dd_len _ n.toNat (Nat.le_refl _) 18 (by rw [p19]; omega)
    omega
set_option maxRecDepth 20000 in
set_option maxHeartbeats 1000000 in
theorem show_small (d : Nat) (w : World) (h : d ≤ 9) : Calls Tryd.prog 12 #[.int .i64 (d : Int)] w fun e w' => e = .returned (.string (bs (Lib.itoa (d : Int)))) ∧ Below w.heap.size w w' := by
  have hcv := conv_one (w.alloc (.cells #[.int .u8 (48 + (d : Int))] 5)) w.heap.size d h (by simp)
  have HR : Hid (Lib.itoa (d : Int) = [dg d]) := itoa_small _ (by omega) (by omega)
  have h1 : (d : Int) < 10 := by omega
  go_enter Tryd.func12, Tryd.ntmps12
  go_wp2
  go_ret
  exact ⟨ret_str (by rw [HR.out]), (Below.refl _ _).alloc (Nat.le_refl _) _⟩
theorem bcellD {W w1 : World} (hb : Below W.heap.size W w1) : ∀ b o, b < W.heap.size → w1.cell? ⟨b, o, none⟩ = W.cell? ⟨b, o, none⟩ := fun b o h => hb.cell (p := ⟨b, o, none⟩) h
set_option maxRecDepth 20000 in
set_option maxHeartbeats 4000000 in
theorem show_any : ∀ (k : Nat) (n : Int), n.natAbs ≤ k → inI64 n → ∀ w, Calls Tryd.prog 12 #[.int .i64 n] w fun e w' => e = .returned (.string (bs (Lib.itoa n))) ∧ Below w.heap.size w w' := by
  intro k
  induction k with
  | zero =>
    intro n hn hin w
    obtain rfl : n = 0 := by omega
    exact show_small 0 w (by omega)
  | succ k ih =>
    intro n hn hin w
    have hin1 := hin.1
    have hin2 := hin.2
    by_cases hs : 0 ≤ n ∧ n < 10
    · obtain ⟨h0, h1⟩ := hs
      obtain ⟨d, rfl⟩ := Int.eq_ofNat_of_zero_le h0
      exact show_small d w (by omega)
    by_cases hneg : n < 0
    · by_cases h10 : -10 < n
      · obtain ⟨d, hd⟩ : ∃ d : Nat, -n = (d : Int) := ⟨n.natAbs, by omega⟩
        have HR : Hid (Lib.itoa n = 45 :: Lib.itoa (d : Int)) := by show _ = _; rw [← hd]; exact itoa_minus n hneg h10
        have C : Hid (∀ w, Calls Tryd.prog 12 #[.int .i64 (-n)] w fun e w' => e = .returned (.string (bs (Lib.itoa (d : Int)))) ∧ Below w.heap.size w w') := fun w => by rw [hd]; exact show_small d w (by omega)
        have hlen := itoa_len (d : Int) ⟨by omega, by omega⟩
        obtain ⟨T, hT⟩ : ∃ T, Lib.itoa (d : Int) = T := ⟨_, rfl⟩
        rw [hT] at HR C hlen
        have hcat : ¬ 9223372036854775807 < 1 + T.length := by omega
        clear hn hin ih hs hd hT hlen
        go_enter Tryd.func12, Tryd.ntmps12
        go_wp2_with (go_at_call 12; refine (C.out _).mono ?_; rintro e w1 ⟨rfl, hb1⟩)
        go_ret
        exact ⟨ret_str (by rw [HR.out]; exact bs_append [45] T), hb1⟩
      · obtain ⟨d, hd⟩ : ∃ d : Nat, -n % 10 = (d : Int) := ⟨(-n % 10).toNat, by omega⟩
        obtain ⟨Q, hQ⟩ : ∃ Q : Int, -(-n / 10) = Q := ⟨_, rfl⟩
        have hd9 : d ≤ 9 := by omega
        have hdI : (d : Int) ≤ 9 := by omega
        have e1 : n.tdiv 10 = Q := by rw [← hQ, show n = -(-n) from by omega, Int.neg_tdiv, Int.tdiv_eq_ediv_of_nonneg (by omega)]; omega
        have e2 : n.tmod 10 = -(d : Int) := by rw [show n = -(-n) from by omega, Int.neg_tmod, Int.tmod_eq_emod_of_nonneg (by omega), hd]
        have HR : Hid (Lib.itoa n = Lib.itoa Q ++ [dg d]) := by show _ = _; rw [itoa_neg n (by omega), hQ, hd]; rfl
        have hlen := itoa_len Q ⟨by omega, by omega⟩
        have C : Hid (∀ w, Calls Tryd.prog 12 #[.int .i64 Q] w fun e w' => e = .returned (.string (bs (Lib.itoa Q))) ∧ Below w.heap.size w w') := fun w => ih Q (by omega) ⟨by omega, by omega⟩ w
        obtain ⟨T, hT⟩ : ∃ T, Lib.itoa Q = T := ⟨_, rfl⟩
        rw [hT] at HR C hlen
        have hcat : ¬ 9223372036854775807 < T.length + 1 := by omega
        have hwd : IntKind.i64.wrap (48 + (d : Int)) = 48 + (d : Int) := by rw [wrap_i64]; omega
        have hwq : IntKind.i64.wrap Q = Q := by rw [wrap_i64]; omega
        have hwu : IntKind.u8.wrap (48 + (d : Int)) = 48 + (d : Int) := by rw [IntKind.wrap_u8']; omega
        clear hn hin ih hs hd hT hlen hQ
        go_enter Tryd.func12, Tryd.ntmps12
        go_wp2
        refine wp_region_held (S := fun y => True) (by kernel_rfl) ?_
        change wpAnyH _ _ _ _ _ _ _ _ (World.drew _)
        obtain ⟨D, hD⟩ : ∃ D, w.drew = D := ⟨_, rfl⟩
        have HB0 : Hid (Below w.heap.size w D) := by rw [← hD]; exact (Below.refl _ _).drew
        rw [hD]
        clear hD
        refine wpAnyH_take (i := 0) (oi := { dst := some 22, op := Op.move (Operand.tmp 0), type := 3, pos := "ref.go:25", after := #[], guard := none }) (v := ?_) rfl (by kernel_rfl) (by kernel_rfl) (by kernel_rfl) (fun _ _ _ h => h) (Or.inl ⟨by rfl, ?_⟩) trivial ?_
        rotate_left
        · (intro y hy; go_simp; try (with_reducible rfl))
        simp only [Act.put, List.setIfInBounds_toArray, List.set_cons_zero, List.set_cons_succ]
        refine wpAnyH_take (i := 1) (oi := { dst := some 23, op := Op.binOp BinOp.quo 3 (Operand.tmp 22) (Operand.const (Value.int IntKind.i64 10)) 3, type := 3, pos := "ref.go:25", after := #[{ on := 0, ground := Ground.data }], guard := none }) (v := ?_) rfl (by kernel_rfl) (by kernel_rfl) (by kernel_rfl) (fun _ _ _ h => h) (Or.inl ⟨by rfl, ?_⟩) trivial ?_
        rotate_left
        · (intro y hy; go_simp; try (with_reducible rfl))
        simp only [Act.put, List.setIfInBounds_toArray, List.set_cons_zero, List.set_cons_succ]
        refine wpAnyH_take (i := 3) (oi := { dst := some 25, op := Op.move (Operand.tmp 0), type := 3, pos := "ref.go:25", after := #[], guard := none }) (v := ?_) rfl (by kernel_rfl) (by kernel_rfl) (by kernel_rfl) (fun _ _ _ h => h) (Or.inl ⟨by rfl, ?_⟩) trivial ?_
        rotate_left
        · (intro y hy; go_simp; try (with_reducible rfl))
        simp only [Act.put, List.setIfInBounds_toArray, List.set_cons_zero, List.set_cons_succ]
        refine wpAnyH_take (i := 4) (oi := { dst := some 26, op := Op.binOp BinOp.rem 3 (Operand.tmp 25) (Operand.const (Value.int IntKind.i64 10)) 3, type := 3, pos := "ref.go:25", after := #[{ on := 3, ground := Ground.data }], guard := none }) (v := ?_) rfl (by kernel_rfl) (by kernel_rfl) (by kernel_rfl) (fun _ _ _ h => h) (Or.inl ⟨by rfl, ?_⟩) trivial ?_
        rotate_left
        · (intro y hy; go_simp; try (with_reducible rfl))
        simp only [Act.put, List.setIfInBounds_toArray, List.set_cons_zero, List.set_cons_succ]
        refine wpAnyH_take (i := 5) (oi := { dst := some 27, op := Op.binOp BinOp.sub 3 (Operand.const (Value.int IntKind.i64 48)) (Operand.tmp 26) 3, type := 3, pos := "ref.go:25", after := #[{ on := 4, ground := Ground.data }], guard := none }) (v := ?_) rfl (by kernel_rfl) (by kernel_rfl) (by kernel_rfl) (fun _ _ _ h => h) (Or.inl ⟨by rfl, ?_⟩) trivial ?_
        rotate_left
        · (intro y hy; go_simp; try (with_reducible rfl))
        simp only [Act.put, List.setIfInBounds_toArray, List.set_cons_zero, List.set_cons_succ]
        refine wpAnyH_take (i := 6) (oi := { dst := some 28, op := Op.convert 3 5 (Operand.tmp 27), type := 5, pos := "ref.go:25", after := #[{ on := 5, ground := Ground.data }], guard := none }) (v := ?_) rfl (by kernel_rfl) (by kernel_rfl) (by kernel_rfl) (fun _ _ _ h => h) (Or.inl ⟨by rfl, ?_⟩) trivial ?_
        rotate_left
        · (intro y hy; go_simp; try (with_reducible rfl))
        simp only [Act.put, List.setIfInBounds_toArray, List.set_cons_zero, List.set_cons_succ]
        refine wpAnyH_ready (rs := [2, 7]) (by kernel_rfl) (by simp) ?_
        refine AllReadyH.cons (o := { dst := some 24, op := Op.call { callee := Callee.value (Operand.func 12), args := #[Operand.tmp 23], argTypes := #[3] }, type := 9, pos := "ref.go:25", after := #[{ on := 1, ground := Ground.data }], guard := none }) rfl (fun K hK => ?_) (AllReadyH.cons (o := { dst := some 29, op := Op.buildSlice 22 1 #[(0, Operand.tmp 28)], type := 22, pos := "ref.go:25", after := #[{ on := 6, ground := Ground.data }], guard := none }) rfl (fun K hK => ?_) AllReadyH.nil)
        · go_simp
          refine (C.out _).mono ?_
          rintro _ y1 ⟨rfl, hb1⟩
          have HB2 : Hid (Below w.heap.size w y1) := below_next HB0.out hb1
          clear hb1
          (refine hK _ _ trivial ?_; clear hK K; intro _)
          try simp only [Act.put, List.setIfInBounds_toArray, List.set_cons_zero, List.set_cons_succ]
          refine wpAnyH_ready (rs := [7]) (by kernel_rfl) (by simp) ?_
          refine AllReadyH.cons (o := { dst := some 29, op := Op.buildSlice 22 1 #[(0, Operand.tmp 28)], type := 22, pos := "ref.go:25", after := #[{ on := 6, ground := Ground.data }], guard := none }) rfl (fun K hK => ?_) AllReadyH.nil
          go_simp
          obtain ⟨y3, hY⟩ : ∃ Y, y1.alloc (.cells #[.int .u8 (48 + (d : Int))] 5) = Y := ⟨_, rfl⟩
          rw [hY]
          have HB4 : Hid (Below w.heap.size w y3) := by rw [← hY]; exact below_next HB2.out ((Below.refl _ _).alloc (Nat.le_refl _) _)
          have HC5 : Hid (y3.cell? ⟨y1.heap.size, 0, none⟩ = some (.int .u8 (48 + (d : Int)))) := by show _ = _; rw [← hY]; simp
          clear hY
          (refine hK _ _ trivial ?_; clear hK K; intro _)
          try simp only [Act.put, List.setIfInBounds_toArray, List.set_cons_zero, List.set_cons_succ]
          refine wpAnyH_ready (rs := [8]) (by kernel_rfl) (by simp) ?_
          refine AllReadyH.cons (o := { dst := some 30, op := Op.convert 22 9 (Operand.tmp 29), type := 9, pos := "ref.go:25", after := #[{ on := 7, ground := Ground.data }], guard := none }) rfl (fun K hK => ?_) AllReadyH.nil
          have hcv := conv_one y3 y1.heap.size d hd9 HC5.out
          go_simp
          (refine hK _ _ trivial ?_; clear hK K; intro _)
          try simp only [Act.put, List.setIfInBounds_toArray, List.set_cons_zero, List.set_cons_succ]
          refine wpAnyH_take (i := 9) (oi := { dst := some 31, op := Op.binOp BinOp.add 9 (Operand.tmp 24) (Operand.tmp 30) 9, type := 9, pos := "ref.go:25", after := #[{ on := 2, ground := Ground.data }, { on := 8, ground := Ground.data }], guard := none }) (v := ?_) rfl (by kernel_rfl) (by kernel_rfl) (by kernel_rfl) (fun _ _ _ h => h) (Or.inl ⟨by rfl, ?_⟩) trivial ?_
          rotate_left
          · (intro y hy; go_simp; try (with_reducible rfl))
          simp only [Act.put, List.setIfInBounds_toArray, List.set_cons_zero, List.set_cons_succ]
          refine wpAnyH_take (i := 10) (oi := { dst := some 2, op := Op.assign (Operand.tmp 31), type := 9, pos := "ref.go:25", after := #[{ on := 9, ground := Ground.data }, { on := 2, ground := Ground.chain }, { on := 0, ground := Ground.phase }, { on := 1, ground := Ground.phase }, { on := 2, ground := Ground.phase }, { on := 3, ground := Ground.phase }, { on := 4, ground := Ground.phase }, { on := 5, ground := Ground.phase }, { on := 6, ground := Ground.phase }, { on := 7, ground := Ground.phase }, { on := 8, ground := Ground.phase }, { on := 9, ground := Ground.phase }], guard := none }) (v := ?_) rfl (by kernel_rfl) (by kernel_rfl) (by kernel_rfl) (fun _ _ _ h => h) (Or.inl ⟨by rfl, ?_⟩) trivial ?_
          rotate_left
          · (intro y hy; go_simp; try (with_reducible rfl))
          simp only [Act.put, List.setIfInBounds_toArray, List.set_cons_zero, List.set_cons_succ]
          refine wpAnyH_done (by kernel_rfl) ?_ _
          go_wp2
          go_ret
          exact ⟨ret_str (by rw [HR.out]; exact bs_append T [dg d]), HB4.out⟩
        · go_simp
          obtain ⟨y6, hY⟩ : ∃ Y, D.alloc (.cells #[.int .u8 (48 + (d : Int))] 5) = Y := ⟨_, rfl⟩
          rw [hY]
          have HB7 : Hid (Below w.heap.size w y6) := by rw [← hY]; exact below_next HB0.out ((Below.refl _ _).alloc (Nat.le_refl _) _)
          have HC8 : Hid (y6.cell? ⟨D.heap.size, 0, none⟩ = some (.int .u8 (48 + (d : Int)))) := by show _ = _; rw [← hY]; simp
          clear hY
          (refine hK _ _ trivial ?_; clear hK K; intro _)
          try simp only [Act.put, List.setIfInBounds_toArray, List.set_cons_zero, List.set_cons_succ]
          refine wpAnyH_ready (rs := [2, 8]) (by kernel_rfl) (by simp) ?_
          refine AllReadyH.cons (o := { dst := some 24, op := Op.call { callee := Callee.value (Operand.func 12), args := #[Operand.tmp 23], argTypes := #[3] }, type := 9, pos := "ref.go:25", after := #[{ on := 1, ground := Ground.data }], guard := none }) rfl (fun K hK => ?_) (AllReadyH.cons (o := { dst := some 30, op := Op.convert 22 9 (Operand.tmp 29), type := 9, pos := "ref.go:25", after := #[{ on := 7, ground := Ground.data }], guard := none }) rfl (fun K hK => ?_) AllReadyH.nil)
          · go_simp
            refine (C.out _).mono ?_
            rintro _ y9 ⟨rfl, hb1⟩
            have HB10 : Hid (Below w.heap.size w y9) := below_next HB7.out hb1
            have HC11 : Hid (y9.cell? ⟨D.heap.size, 0, none⟩ = some (.int .u8 (48 + (d : Int)))) := (bcellD hb1 _ _ (World.block_lt_of_cell? _ _ HC8.out)).trans HC8.out
            clear hb1
            (refine hK _ _ trivial ?_; clear hK K; intro _)
            try simp only [Act.put, List.setIfInBounds_toArray, List.set_cons_zero, List.set_cons_succ]
            refine wpAnyH_ready (rs := [8]) (by kernel_rfl) (by simp) ?_
            refine AllReadyH.cons (o := { dst := some 30, op := Op.convert 22 9 (Operand.tmp 29), type := 9, pos := "ref.go:25", after := #[{ on := 7, ground := Ground.data }], guard := none }) rfl (fun K hK => ?_) AllReadyH.nil
            have hcv := conv_one y9 D.heap.size d hd9 HC11.out
            go_simp
            (refine hK _ _ trivial ?_; clear hK K; intro _)
            try simp only [Act.put, List.setIfInBounds_toArray, List.set_cons_zero, List.set_cons_succ]
            refine wpAnyH_take (i := 9) (oi := { dst := some 31, op := Op.binOp BinOp.add 9 (Operand.tmp 24) (Operand.tmp 30) 9, type := 9, pos := "ref.go:25", after := #[{ on := 2, ground := Ground.data }, { on := 8, ground := Ground.data }], guard := none }) (v := ?_) rfl (by kernel_rfl) (by kernel_rfl) (by kernel_rfl) (fun _ _ _ h => h) (Or.inl ⟨by rfl, ?_⟩) trivial ?_
            rotate_left
            · (intro y hy; go_simp; try (with_reducible rfl))
            simp only [Act.put, List.setIfInBounds_toArray, List.set_cons_zero, List.set_cons_succ]
            refine wpAnyH_take (i := 10) (oi := { dst := some 2, op := Op.assign (Operand.tmp 31), type := 9, pos := "ref.go:25", after := #[{ on := 9, ground := Ground.data }, { on := 2, ground := Ground.chain }, { on := 0, ground := Ground.phase }, { on := 1, ground := Ground.phase }, { on := 2, ground := Ground.phase }, { on := 3, ground := Ground.phase }, { on := 4, ground := Ground.phase }, { on := 5, ground := Ground.phase }, { on := 6, ground := Ground.phase }, { on := 7, ground := Ground.phase }, { on := 8, ground := Ground.phase }, { on := 9, ground := Ground.phase }], guard := none }) (v := ?_) rfl (by kernel_rfl) (by kernel_rfl) (by kernel_rfl) (fun _ _ _ h => h) (Or.inl ⟨by rfl, ?_⟩) trivial ?_
            rotate_left
            · (intro y hy; go_simp; try (with_reducible rfl))
            simp only [Act.put, List.setIfInBounds_toArray, List.set_cons_zero, List.set_cons_succ]
            refine wpAnyH_done (by kernel_rfl) ?_ _
            go_wp2
            go_ret
            exact ⟨ret_str (by rw [HR.out]; exact bs_append T [dg d]), HB10.out⟩
          · have hcv := conv_one y6 D.heap.size d hd9 HC8.out
            go_simp
            (refine hK _ _ trivial ?_; clear hK K; intro _)
            try simp only [Act.put, List.setIfInBounds_toArray, List.set_cons_zero, List.set_cons_succ]
            refine wpAnyH_ready (rs := [2]) (by kernel_rfl) (by simp) ?_
            refine AllReadyH.cons (o := { dst := some 24, op := Op.call { callee := Callee.value (Operand.func 12), args := #[Operand.tmp 23], argTypes := #[3] }, type := 9, pos := "ref.go:25", after := #[{ on := 1, ground := Ground.data }], guard := none }) rfl (fun K hK => ?_) AllReadyH.nil
            go_simp
            refine (C.out _).mono ?_
            rintro _ y12 ⟨rfl, hb1⟩
            have HB13 : Hid (Below w.heap.size w y12) := below_next HB7.out hb1
            have HC14 : Hid (y12.cell? ⟨D.heap.size, 0, none⟩ = some (.int .u8 (48 + (d : Int)))) := (bcellD hb1 _ _ (World.block_lt_of_cell? _ _ HC8.out)).trans HC8.out
            clear hb1
            (refine hK _ _ trivial ?_; clear hK K; intro _)
            try simp only [Act.put, List.setIfInBounds_toArray, List.set_cons_zero, List.set_cons_succ]
            refine wpAnyH_take (i := 9) (oi := { dst := some 31, op := Op.binOp BinOp.add 9 (Operand.tmp 24) (Operand.tmp 30) 9, type := 9, pos := "ref.go:25", after := #[{ on := 2, ground := Ground.data }, { on := 8, ground := Ground.data }], guard := none }) (v := ?_) rfl (by kernel_rfl) (by kernel_rfl) (by kernel_rfl) (fun _ _ _ h => h) (Or.inl ⟨by rfl, ?_⟩) trivial ?_
            rotate_left
            · (intro y hy; go_simp; try (with_reducible rfl))
            simp only [Act.put, List.setIfInBounds_toArray, List.set_cons_zero, List.set_cons_succ]
            refine wpAnyH_take (i := 10) (oi := { dst := some 2, op := Op.assign (Operand.tmp 31), type := 9, pos := "ref.go:25", after := #[{ on := 9, ground := Ground.data }, { on := 2, ground := Ground.chain }, { on := 0, ground := Ground.phase }, { on := 1, ground := Ground.phase }, { on := 2, ground := Ground.phase }, { on := 3, ground := Ground.phase }, { on := 4, ground := Ground.phase }, { on := 5, ground := Ground.phase }, { on := 6, ground := Ground.phase }, { on := 7, ground := Ground.phase }, { on := 8, ground := Ground.phase }, { on := 9, ground := Ground.phase }], guard := none }) (v := ?_) rfl (by kernel_rfl) (by kernel_rfl) (by kernel_rfl) (fun _ _ _ h => h) (Or.inl ⟨by rfl, ?_⟩) trivial ?_
            rotate_left
            · (intro y hy; go_simp; try (with_reducible rfl))
            simp only [Act.put, List.setIfInBounds_toArray, List.set_cons_zero, List.set_cons_succ]
            refine wpAnyH_done (by kernel_rfl) ?_ _
            go_wp2
            go_ret
            exact ⟨ret_str (by rw [HR.out]; exact bs_append T [dg d]), HB13.out⟩
    · obtain ⟨d, hd⟩ : ∃ d : Nat, n % 10 = (d : Int) := ⟨(n % 10).toNat, by omega⟩
      obtain ⟨Q, hQ⟩ : ∃ Q : Int, n / 10 = Q := ⟨_, rfl⟩
      have h10 : 10 ≤ n := by omega
      have hd9 : d ≤ 9 := by omega
      have hdI : (d : Int) ≤ 9 := by omega
      have e1 : n.tdiv 10 = Q := by rw [Int.tdiv_eq_ediv_of_nonneg (by omega)]; exact hQ
      have e2 : n.tmod 10 = (d : Int) := by rw [Int.tmod_eq_emod_of_nonneg (by omega), hd]
      have HR : Hid (Lib.itoa n = Lib.itoa Q ++ [dg d]) := by show _ = _; rw [itoa_pos n h10, hQ, hd]; rfl
      have hlen := itoa_len Q ⟨by omega, by omega⟩
      have C : Hid (∀ w, Calls Tryd.prog 12 #[.int .i64 Q] w fun e w' => e = .returned (.string (bs (Lib.itoa Q))) ∧ Below w.heap.size w w') := fun w => ih Q (by omega) ⟨by omega, by omega⟩ w
      obtain ⟨T, hT⟩ : ∃ T, Lib.itoa Q = T := ⟨_, rfl⟩
      rw [hT] at HR C hlen
      have hcat : ¬ 9223372036854775807 < T.length + 1 := by omega
      have hwd : IntKind.i64.wrap (48 + (d : Int)) = 48 + (d : Int) := by rw [wrap_i64]; omega
      have hwq : IntKind.i64.wrap Q = Q := by rw [wrap_i64]; omega
      have hwu : IntKind.u8.wrap (48 + (d : Int)) = 48 + (d : Int) := by rw [IntKind.wrap_u8']; omega
      have h10a : ¬ n < 10 := by omega
      clear hn hin ih hs
      go_enter Tryd.func12, Tryd.ntmps12
      go_wp2
      clear hT hlen
      refine wp_region_held (S := fun y => True) (by kernel_rfl) ?_
      change wpAnyH _ _ _ _ _ _ _ _ (World.drew _)
      obtain ⟨D, hD⟩ : ∃ D, w.drew = D := ⟨_, rfl⟩
      have HB0 : Hid (Below w.heap.size w D) := by rw [← hD]; exact (Below.refl _ _).drew
      rw [hD]
      clear hD
      refine wpAnyH_take (i := 0) (oi := { dst := some 32, op := Op.move (Operand.tmp 0), type := 3, pos := "ref.go:27", after := #[], guard := none }) (v := ?_) rfl (by kernel_rfl) (by kernel_rfl) (by kernel_rfl) (fun _ _ _ h => h) (Or.inl ⟨by rfl, ?_⟩) trivial ?_
      rotate_left
      · (intro y hy; go_simp; try (with_reducible rfl))
      simp only [Act.put, List.setIfInBounds_toArray, List.set_cons_zero, List.set_cons_succ]
      refine wpAnyH_take (i := 1) (oi := { dst := some 33, op := Op.binOp BinOp.quo 3 (Operand.tmp 32) (Operand.const (Value.int IntKind.i64 10)) 3, type := 3, pos := "ref.go:27", after := #[{ on := 0, ground := Ground.data }], guard := none }) (v := ?_) rfl (by kernel_rfl) (by kernel_rfl) (by kernel_rfl) (fun _ _ _ h => h) (Or.inl ⟨by rfl, ?_⟩) trivial ?_
      rotate_left
      · (intro y hy; go_simp; try (with_reducible rfl))
      simp only [Act.put, List.setIfInBounds_toArray, List.set_cons_zero, List.set_cons_succ]
      refine wpAnyH_take (i := 3) (oi := { dst := some 35, op := Op.move (Operand.tmp 0), type := 3, pos := "ref.go:27", after := #[], guard := none }) (v := ?_) rfl (by kernel_rfl) (by kernel_rfl) (by kernel_rfl) (fun _ _ _ h => h) (Or.inl ⟨by rfl, ?_⟩) trivial ?_
      rotate_left
      · (intro y hy; go_simp; try (with_reducible rfl))
      simp only [Act.put, List.setIfInBounds_toArray, List.set_cons_zero, List.set_cons_succ]
      refine wpAnyH_take (i := 4) (oi := { dst := some 36, op := Op.binOp BinOp.rem 3 (Operand.tmp 35) (Operand.const (Value.int IntKind.i64 10)) 3, type := 3, pos := "ref.go:27", after := #[{ on := 3, ground := Ground.data }], guard := none }) (v := ?_) rfl (by kernel_rfl) (by kernel_rfl) (by kernel_rfl) (fun _ _ _ h => h) (Or.inl ⟨by rfl, ?_⟩) trivial ?_
      rotate_left
      · (intro y hy; go_simp; try (with_reducible rfl))
      simp only [Act.put, List.setIfInBounds_toArray, List.set_cons_zero, List.set_cons_succ]
      refine wpAnyH_take (i := 5) (oi := { dst := some 37, op := Op.binOp BinOp.add 3 (Operand.const (Value.int IntKind.i64 48)) (Operand.tmp 36) 3, type := 3, pos := "ref.go:27", after := #[{ on := 4, ground := Ground.data }], guard := none }) (v := ?_) rfl (by kernel_rfl) (by kernel_rfl) (by kernel_rfl) (fun _ _ _ h => h) (Or.inl ⟨by rfl, ?_⟩) trivial ?_
      rotate_left
      · (intro y hy; go_simp; try (with_reducible rfl))
      simp only [Act.put, List.setIfInBounds_toArray, List.set_cons_zero, List.set_cons_succ]
      refine wpAnyH_take (i := 6) (oi := { dst := some 38, op := Op.convert 3 5 (Operand.tmp 37), type := 5, pos := "ref.go:27", after := #[{ on := 5, ground := Ground.data }], guard := none }) (v := ?_) rfl (by kernel_rfl) (by kernel_rfl) (by kernel_rfl) (fun _ _ _ h => h) (Or.inl ⟨by rfl, ?_⟩) trivial ?_
      rotate_left
      · (intro y hy; go_simp; try (with_reducible rfl))
      simp only [Act.put, List.setIfInBounds_toArray, List.set_cons_zero, List.set_cons_succ]
      refine wpAnyH_ready (rs := [2, 7]) (by kernel_rfl) (by simp) ?_
      refine AllReadyH.cons (o := { dst := some 34, op := Op.call { callee := Callee.value (Operand.func 12), args := #[Operand.tmp 33], argTypes := #[3] }, type := 9, pos := "ref.go:27", after := #[{ on := 1, ground := Ground.data }], guard := none }) rfl (fun K hK => ?_) (AllReadyH.cons (o := { dst := some 39, op := Op.buildSlice 22 1 #[(0, Operand.tmp 38)], type := 22, pos := "ref.go:27", after := #[{ on := 6, ground := Ground.data }], guard := none }) rfl (fun K hK => ?_) AllReadyH.nil)
      · go_simp
        refine (C.out _).mono ?_
        rintro _ y1 ⟨rfl, hb1⟩
        have HB2 : Hid (Below w.heap.size w y1) := below_next HB0.out hb1
        clear hb1
        (refine hK _ _ trivial ?_; clear hK K; intro _)
        try simp only [Act.put, List.setIfInBounds_toArray, List.set_cons_zero, List.set_cons_succ]
        refine wpAnyH_ready (rs := [7]) (by kernel_rfl) (by simp) ?_
        refine AllReadyH.cons (o := { dst := some 39, op := Op.buildSlice 22 1 #[(0, Operand.tmp 38)], type := 22, pos := "ref.go:27", after := #[{ on := 6, ground := Ground.data }], guard := none }) rfl (fun K hK => ?_) AllReadyH.nil
        go_simp
        obtain ⟨y3, hY⟩ : ∃ Y, y1.alloc (.cells #[.int .u8 (48 + (d : Int))] 5) = Y := ⟨_, rfl⟩
        rw [hY]
        have HB4 : Hid (Below w.heap.size w y3) := by rw [← hY]; exact below_next HB2.out ((Below.refl _ _).alloc (Nat.le_refl _) _)
        have HC5 : Hid (y3.cell? ⟨y1.heap.size, 0, none⟩ = some (.int .u8 (48 + (d : Int)))) := by show _ = _; rw [← hY]; simp
        clear hY
        (refine hK _ _ trivial ?_; clear hK K; intro _)
        try simp only [Act.put, List.setIfInBounds_toArray, List.set_cons_zero, List.set_cons_succ]
        refine wpAnyH_ready (rs := [8]) (by kernel_rfl) (by simp) ?_
        refine AllReadyH.cons (o := { dst := some 40, op := Op.convert 22 9 (Operand.tmp 39), type := 9, pos := "ref.go:27", after := #[{ on := 7, ground := Ground.data }], guard := none }) rfl (fun K hK => ?_) AllReadyH.nil
        have hcv := conv_one y3 y1.heap.size d hd9 HC5.out
        go_simp
        (refine hK _ _ trivial ?_; clear hK K; intro _)
        try simp only [Act.put, List.setIfInBounds_toArray, List.set_cons_zero, List.set_cons_succ]
        refine wpAnyH_take (i := 9) (oi := { dst := some 41, op := Op.binOp BinOp.add 9 (Operand.tmp 34) (Operand.tmp 40) 9, type := 9, pos := "ref.go:27", after := #[{ on := 2, ground := Ground.data }, { on := 8, ground := Ground.data }], guard := none }) (v := ?_) rfl (by kernel_rfl) (by kernel_rfl) (by kernel_rfl) (fun _ _ _ h => h) (Or.inl ⟨by rfl, ?_⟩) trivial ?_
        rotate_left
        · (intro y hy; go_simp; try (with_reducible rfl))
        simp only [Act.put, List.setIfInBounds_toArray, List.set_cons_zero, List.set_cons_succ]
        refine wpAnyH_take (i := 10) (oi := { dst := some 2, op := Op.assign (Operand.tmp 41), type := 9, pos := "ref.go:27", after := #[{ on := 9, ground := Ground.data }, { on := 2, ground := Ground.chain }, { on := 0, ground := Ground.phase }, { on := 1, ground := Ground.phase }, { on := 2, ground := Ground.phase }, { on := 3, ground := Ground.phase }, { on := 4, ground := Ground.phase }, { on := 5, ground := Ground.phase }, { on := 6, ground := Ground.phase }, { on := 7, ground := Ground.phase }, { on := 8, ground := Ground.phase }, { on := 9, ground := Ground.phase }], guard := none }) (v := ?_) rfl (by kernel_rfl) (by kernel_rfl) (by kernel_rfl) (fun _ _ _ h => h) (Or.inl ⟨by rfl, ?_⟩) trivial ?_
        rotate_left
        · (intro y hy; go_simp; try (with_reducible rfl))
        simp only [Act.put, List.setIfInBounds_toArray, List.set_cons_zero, List.set_cons_succ]
        refine wpAnyH_done (by kernel_rfl) ?_ _
        go_wp2
        go_ret
        exact ⟨ret_str (by rw [HR.out]; exact bs_append T [dg d]), HB4.out⟩
      · go_simp
        obtain ⟨y6, hY⟩ : ∃ Y, D.alloc (.cells #[.int .u8 (48 + (d : Int))] 5) = Y := ⟨_, rfl⟩
        rw [hY]
        have HB7 : Hid (Below w.heap.size w y6) := by rw [← hY]; exact below_next HB0.out ((Below.refl _ _).alloc (Nat.le_refl _) _)
        have HC8 : Hid (y6.cell? ⟨D.heap.size, 0, none⟩ = some (.int .u8 (48 + (d : Int)))) := by show _ = _; rw [← hY]; simp
        clear hY
        (refine hK _ _ trivial ?_; clear hK K; intro _)
        try simp only [Act.put, List.setIfInBounds_toArray, List.set_cons_zero, List.set_cons_succ]
        refine wpAnyH_ready (rs := [2, 8]) (by kernel_rfl) (by simp) ?_
        refine AllReadyH.cons (o := { dst := some 34, op := Op.call { callee := Callee.value (Operand.func 12), args := #[Operand.tmp 33], argTypes := #[3] }, type := 9, pos := "ref.go:27", after := #[{ on := 1, ground := Ground.data }], guard := none }) rfl (fun K hK => ?_) (AllReadyH.cons (o := { dst := some 40, op := Op.convert 22 9 (Operand.tmp 39), type := 9, pos := "ref.go:27", after := #[{ on := 7, ground := Ground.data }], guard := none }) rfl (fun K hK => ?_) AllReadyH.nil)
        · go_simp
          refine (C.out _).mono ?_
          rintro _ y9 ⟨rfl, hb1⟩
          have HB10 : Hid (Below w.heap.size w y9) := below_next HB7.out hb1
          have HC11 : Hid (y9.cell? ⟨D.heap.size, 0, none⟩ = some (.int .u8 (48 + (d : Int)))) := (bcellD hb1 _ _ (World.block_lt_of_cell? _ _ HC8.out)).trans HC8.out
          clear hb1
          (refine hK _ _ trivial ?_; clear hK K; intro _)
          try simp only [Act.put, List.setIfInBounds_toArray, List.set_cons_zero, List.set_cons_succ]
          refine wpAnyH_ready (rs := [8]) (by kernel_rfl) (by simp) ?_
          refine AllReadyH.cons (o := { dst := some 40, op := Op.convert 22 9 (Operand.tmp 39), type := 9, pos := "ref.go:27", after := #[{ on := 7, ground := Ground.data }], guard := none }) rfl (fun K hK => ?_) AllReadyH.nil
          have hcv := conv_one y9 D.heap.size d hd9 HC11.out
          go_simp
          (refine hK _ _ trivial ?_; clear hK K; intro _)
          try simp only [Act.put, List.setIfInBounds_toArray, List.set_cons_zero, List.set_cons_succ]
          refine wpAnyH_take (i := 9) (oi := { dst := some 41, op := Op.binOp BinOp.add 9 (Operand.tmp 34) (Operand.tmp 40) 9, type := 9, pos := "ref.go:27", after := #[{ on := 2, ground := Ground.data }, { on := 8, ground := Ground.data }], guard := none }) (v := ?_) rfl (by kernel_rfl) (by kernel_rfl) (by kernel_rfl) (fun _ _ _ h => h) (Or.inl ⟨by rfl, ?_⟩) trivial ?_
          rotate_left
          · (intro y hy; go_simp; try (with_reducible rfl))
          simp only [Act.put, List.setIfInBounds_toArray, List.set_cons_zero, List.set_cons_succ]
          refine wpAnyH_take (i := 10) (oi := { dst := some 2, op := Op.assign (Operand.tmp 41), type := 9, pos := "ref.go:27", after := #[{ on := 9, ground := Ground.data }, { on := 2, ground := Ground.chain }, { on := 0, ground := Ground.phase }, { on := 1, ground := Ground.phase }, { on := 2, ground := Ground.phase }, { on := 3, ground := Ground.phase }, { on := 4, ground := Ground.phase }, { on := 5, ground := Ground.phase }, { on := 6, ground := Ground.phase }, { on := 7, ground := Ground.phase }, { on := 8, ground := Ground.phase }, { on := 9, ground := Ground.phase }], guard := none }) (v := ?_) rfl (by kernel_rfl) (by kernel_rfl) (by kernel_rfl) (fun _ _ _ h => h) (Or.inl ⟨by rfl, ?_⟩) trivial ?_
          rotate_left
          · (intro y hy; go_simp; try (with_reducible rfl))
          simp only [Act.put, List.setIfInBounds_toArray, List.set_cons_zero, List.set_cons_succ]
          refine wpAnyH_done (by kernel_rfl) ?_ _
          go_wp2
          go_ret
          exact ⟨ret_str (by rw [HR.out]; exact bs_append T [dg d]), HB10.out⟩
        · have hcv := conv_one y6 D.heap.size d hd9 HC8.out
          go_simp
          (refine hK _ _ trivial ?_; clear hK K; intro _)
          try simp only [Act.put, List.setIfInBounds_toArray, List.set_cons_zero, List.set_cons_succ]
          refine wpAnyH_ready (rs := [2]) (by kernel_rfl) (by simp) ?_
          refine AllReadyH.cons (o := { dst := some 34, op := Op.call { callee := Callee.value (Operand.func 12), args := #[Operand.tmp 33], argTypes := #[3] }, type := 9, pos := "ref.go:27", after := #[{ on := 1, ground := Ground.data }], guard := none }) rfl (fun K hK => ?_) AllReadyH.nil
          go_simp
          refine (C.out _).mono ?_
          rintro _ y12 ⟨rfl, hb1⟩
          have HB13 : Hid (Below w.heap.size w y12) := below_next HB7.out hb1
          have HC14 : Hid (y12.cell? ⟨D.heap.size, 0, none⟩ = some (.int .u8 (48 + (d : Int)))) := (bcellD hb1 _ _ (World.block_lt_of_cell? _ _ HC8.out)).trans HC8.out
          clear hb1
          (refine hK _ _ trivial ?_; clear hK K; intro _)
          try simp only [Act.put, List.setIfInBounds_toArray, List.set_cons_zero, List.set_cons_succ]
          refine wpAnyH_take (i := 9) (oi := { dst := some 41, op := Op.binOp BinOp.add 9 (Operand.tmp 34) (Operand.tmp 40) 9, type := 9, pos := "ref.go:27", after := #[{ on := 2, ground := Ground.data }, { on := 8, ground := Ground.data }], guard := none }) (v := ?_) rfl (by kernel_rfl) (by kernel_rfl) (by kernel_rfl) (fun _ _ _ h => h) (Or.inl ⟨by rfl, ?_⟩) trivial ?_
          rotate_left
          · (intro y hy; go_simp; try (with_reducible rfl))
          simp only [Act.put, List.setIfInBounds_toArray, List.set_cons_zero, List.set_cons_succ]
          refine wpAnyH_take (i := 10) (oi := { dst := some 2, op := Op.assign (Operand.tmp 41), type := 9, pos := "ref.go:27", after := #[{ on := 9, ground := Ground.data }, { on := 2, ground := Ground.chain }, { on := 0, ground := Ground.phase }, { on := 1, ground := Ground.phase }, { on := 2, ground := Ground.phase }, { on := 3, ground := Ground.phase }, { on := 4, ground := Ground.phase }, { on := 5, ground := Ground.phase }, { on := 6, ground := Ground.phase }, { on := 7, ground := Ground.phase }, { on := 8, ground := Ground.phase }, { on := 9, ground := Ground.phase }], guard := none }) (v := ?_) rfl (by kernel_rfl) (by kernel_rfl) (by kernel_rfl) (fun _ _ _ h => h) (Or.inl ⟨by rfl, ?_⟩) trivial ?_
          rotate_left
          · (intro y hy; go_simp; try (with_reducible rfl))
          simp only [Act.put, List.setIfInBounds_toArray, List.set_cons_zero, List.set_cons_succ]
          refine wpAnyH_done (by kernel_rfl) ?_ _
          go_wp2
          go_ret
          exact ⟨ret_str (by rw [HR.out]; exact bs_append T [dg d]), HB13.out⟩
end Go.Proofs.YtomgnbhajhkhfaaDoor
