/- Every line of a finding is the document's: for every finding. -/
import Derived.Test.YtdjldbhglaohkaaDoorAw1
import Derived.SizedLaws
import Derived.ChangeOld
namespace Go.Proofs.YtdjldbhglaohkaaDoor.auditWords
open Go.ChangeShapes Go.WideShapes Go.ChangeAt Go.RowKit
set_option linter.unusedVariables false
set_option linter.unusedSimpArgs false
theorem Psn.keep {w w' : World} (h : Psn w) (hb : Below w.heap.size w w') : Psn w' := ⟨h.1.keep hb, h.2.imp fun pa hp => hp.keep hb⟩
theorem sum62 : NameIs 62 (bs [115, 117, 109]) := .inr (.inl ⟨24, by omega, by decide, by decide⟩)
theorem fit43 : Fd.Fit ⟨bs [115, 101, 103, 45, 48, 48, 48, 48, 48, 49], 43, 62⟩ ∧ (bs [115, 101, 103, 45, 48, 48, 48, 48, 48, 49]).size ≤ 140737488351232 := ⟨⟨by unfold maxLen; decide, by unfold inW; simp only; omega, by unfold inW; simp only; omega⟩, by decide⟩
theorem line43 : lineOf [115, 101, 103, 45, 48, 48, 48, 48, 48, 49] 43 [115, 117, 109] = [115, 101, 103, 45, 48, 48, 48, 48, 48, 49, 32, 97, 116, 32, 52, 51, 58, 32, 115, 117, 109] := by
  unfold lineOf
  rw [show Lib.itoa 43 = [52, 51] from by unfold Lib.itoa; rw [if_neg (by omega), dd_step _ (by omega), dd_one _ (by omega)]; decide]
  rfl
set_option maxRecDepth 20000 in
set_option maxHeartbeats 8000000 in
theorem walk (f : Fd) (w : World) (hf : f.Fit) (hsb : f.name.size ≤ 140737488351232) (hp : Psn w) :
    Calls Tryd.prog 3 #[.agg (fdA f)] w fun e w' => e = .returned (.bool true) ∧ Below w.heap.size w w' := by
  obtain ⟨nl, hn⟩ : ∃ nl, f.name = bs nl := ⟨f.name.data.toList, (bs_eq _).symm⟩
  obtain ⟨T, hT, hTl⟩ := nameT f.code
  have HNL : Hid (f.name = bs nl) := hn
  have HFT : Hid f.Fit := hf
  have HTT : Hid (NameIs f.code (bs T) ∧ T.length ≤ 40) := ⟨hT, hTl⟩
  have HPS : Hid (Psn w) := hp
  have HS62 : Hid (NameIs 62 (bs [115, 117, 109])) := sum62
  have HF43 : Hid (Fd.Fit ⟨bs [115, 101, 103, 45, 48, 48, 48, 48, 48, 49], 43, 62⟩ ∧ (bs [115, 101, 103, 45, 48, 48, 48, 48, 48, 49]).size ≤ 140737488351232) := fit43
  have HL43 : Hid (lineOf [115, 101, 103, 45, 48, 48, 48, 48, 48, 49] 43 [115, 117, 109] = [115, 101, 103, 45, 48, 48, 48, 48, 48, 49, 32, 97, 116, 32, 52, 51, 58, 32, 115, 117, 109]) := line43
  obtain ⟨I, hI⟩ : ∃ I, Lib.itoa f.at_ = I := ⟨_, rfl⟩
  have hIl : I.length ≤ 20 := by rw [← hI]; exact itoa_lenA _ hf.at_
  have hnl : nl.length ≤ 140737488351232 := by have := hsb; rw [hn] at this; exact this
  obtain ⟨L1, hL1⟩ : ∃ L, nl ++ [32, 97, 116, 32] = L := ⟨_, rfl⟩
  obtain ⟨L2, hL2⟩ : ∃ L, L1 ++ I = L := ⟨_, rfl⟩
  obtain ⟨L3, hL3⟩ : ∃ L, L2 ++ [58, 32] = L := ⟨_, rfl⟩
  obtain ⟨L4, hL4⟩ : ∃ L, L3 ++ T = L := ⟨_, rfl⟩
  have l1 : L1.length = nl.length + 4 := by rw [← hL1]; simp
  have l2 : L2.length = L1.length + I.length := by rw [← hL2]; simp
  have l3 : L3.length = L2.length + 2 := by rw [← hL3]; simp
  have k1 : ¬ 9223372036854775807 < nl.length + 4 := by omega
  have k2 : ¬ 9223372036854775807 < L1.length + I.length := by omega
  have k3 : ¬ 9223372036854775807 < L2.length + 2 := by omega
  have k4 : ¬ 9223372036854775807 < L3.length + T.length := by omega
  have c1 : bs nl ++ ({ data := #[32, 97, 116, 32] } : ByteArray) = bs L1 := by rw [← hL1]; exact bs_append nl [32, 97, 116, 32]
  have c2 : bs L1 ++ bs I = bs L2 := by rw [← hL2]; exact bs_append L1 I
  have c3 : bs L2 ++ ({ data := #[58, 32] } : ByteArray) = bs L3 := by rw [← hL3]; exact bs_append L2 [58, 32]
  have c4 : bs L3 ++ bs T = bs L4 := by rw [← hL4]; exact bs_append L3 T
  have HLN : Hid (lineOf nl f.at_ T = L4) := by show _ = _; unfold lineOf; rw [hI, hL1, hL2, hL3, hL4]
  have HFN : Hid (fdA f = #[.string (bs nl), .int .i64 f.at_, .int .i64 f.code]) := by show _ = _; unfold fdA; rw [hn]
  obtain ⟨W0, hW0⟩ : ∃ W, w.alloc (.cells (fdA f) 24) = W := ⟨_, rfl⟩
  have HF0 : Hid (FdAt W0 w.heap.size f) := by show FdAt W0 w.heap.size f; rw [← hW0]; exact FdAt.new w f
  have HB0 : Hid (Below w.heap.size w W0) := by show Below _ _ _; rw [← hW0]; exact (Below.refl _ _).alloc (Nat.le_refl _) _
  have ha := hf.at_
  obtain ⟨ha1, ha2⟩ := ha
  clear hL1 hL2 hL3 hL4 hn hf hp hT hTl
  by_cases hneg : f.at_ < 0
  · obtain ⟨U, hU⟩ : ∃ U : Nat, f.at_.natAbs = U := ⟨_, rfl⟩
    have hU9 : U ≤ 9223372036854775808 := by omega
    obtain ⟨DD, hDD⟩ : ∃ D, Lib.decDigits U = D := ⟨_, rfl⟩
    have HDD : Hid (Lib.decDigits U = DD) := hDD
    have hIi : I = 45 :: DD := by rw [← hI, ← hDD, ← hU]; unfold Lib.itoa; rw [if_pos hneg]
    have c0 : ({ data := #[45] } : ByteArray) ++ bs DD = bs I := by rw [hIi]; exact bs_append [45] DD
    have k0 : ¬ 9223372036854775807 < 1 + DD.length := by rw [hIi] at hIl; simp at hIl; omega
    have CD : Hid (∀ w, Calls Tryd.prog 5 #[.int .u64 (-(f.at_ + 1) + 1)] w fun e w' => e = .returned (.string (bs DD)) ∧ Below w.heap.size w w') := fun w => by rw [show -(f.at_ + 1) + 1 = (U : Int) from by omega, ← hDD]; exact digits_any U U (Nat.le_refl _) hU9 w
    clear hI hDD hIi hIl hU l1 l2 l3 hnl
    have T1 : Hid True := trivial
    go_enter Tryd.func3, Tryd.ntmps3
    go_wp2_with (first
      | (go_at_call 4; clear T1; refine (awords_any ⟨bs [115, 101, 103, 45, 48, 48, 48, 48, 48, 49], 43, 62⟩ [115, 101, 103, 45, 48, 48, 48, 48, 48, 49] [115, 117, 109] _ rfl HF43.out.1 HF43.out.2 HS62.out (by simp) (Psn.keep HPS.out HB0.out)).mono ?_; rw [HL43.out]; rintro _ x1 ⟨rfl, hb1⟩; have HB1 : Hid (Below w.heap.size w x1 ∧ FdAt x1 w.heap.size f) := ⟨below_next HB0.out hb1, HF0.out.after hb1⟩; have q0 := HB1.out.2.cell 0 (.string (bs nl)) (by rw [HFN.out]; rfl); have q1 := HB1.out.2.cell 1 (.int .i64 f.at_) rfl; clear hb1)
      | (go_at_call 5; refine (CD.out _).mono ?_; rintro _ X ⟨rfl, hb2⟩; have HB : Hid (Below w.heap.size w X) := below_next HB1.out.1 hb2; have HF : Hid (FdAt X w.heap.size f) := HB1.out.2.after hb2; clear hb2))
    clear q0 q1
    refine wp_region_held (S := fun y => FdAt y w.heap.size f) (by kernel_rfl) ?_
    change wpAnyH _ _ _ _ _ _ _ _ (World.drew _)
    obtain ⟨D, hD⟩ : ∃ D, X.drew = D := ⟨_, rfl⟩
    have HC1 : Hid (Below X.heap.size X D) := by rw [← hD]; exact (Below.refl _ _).drew
    rw [hD]
    clear hD
    refine wpAnyH_take (i := 0) (oi := { dst := some 29, op := Op.load 24 (Operand.tmp 1), type := 24, pos := "law.go:63", after := #[], guard := none }) (v := .agg (fdA f)) rfl (by kernel_rfl) (by kernel_rfl) (by kernel_rfl) (fun _ _ _ h => h) (Or.inl ⟨by rfl, fun y hy => exec_load_fd (.tmp 1) rfl rfl hy⟩) (HF.out.after HC1.out) ?_
    simp only [Act.put, List.setIfInBounds_toArray, List.set_cons_zero, List.set_cons_succ]
    refine wpAnyH_take (i := 2) (oi := { dst := some 31, op := Op.move (Operand.tmp 3), type := 9, pos := "law.go:63", after := #[], guard := none }) (v := ?_) rfl (by kernel_rfl) (by kernel_rfl) (by kernel_rfl) (fun _ _ _ h => h) (Or.inl ⟨by rfl, ?_⟩) (HF.out.after HC1.out) ?_
    rotate_left
    · (intro y hy; go_simp; try (with_reducible rfl))
    simp only [Act.put, List.setIfInBounds_toArray, List.set_cons_zero, List.set_cons_succ]
    refine wpAnyH_take (i := 3) (oi := { dst := some 32, op := Op.binOp BinOp.add 9 (Operand.tmp 31) (Operand.const (Value.string { data := #[58, 32] })) 9, type := 9, pos := "law.go:63", after := #[{ on := 2, ground := Ground.data }], guard := none }) (v := ?_) rfl (by kernel_rfl) (by kernel_rfl) (by kernel_rfl) (fun _ _ _ h => h) (Or.inl ⟨by rfl, ?_⟩) (HF.out.after HC1.out) ?_
    rotate_left
    · (intro y hy; go_simp; try (with_reducible rfl))
    simp only [Act.put, List.setIfInBounds_toArray, List.set_cons_zero, List.set_cons_succ]
    refine wpAnyH_take (i := 4) (oi := { dst := some 33, op := Op.fieldAddr 24 (Operand.tmp 1) 2, type := 0, pos := "law.go:63", after := #[], guard := none }) (v := ?_) rfl (by kernel_rfl) (by kernel_rfl) (by kernel_rfl) (fun _ _ _ h => h) (Or.inl ⟨by rfl, ?_⟩) (HF.out.after HC1.out) ?_
    rotate_left
    · (intro y hy; go_simp; try (with_reducible rfl))
    simp only [Act.put, List.setIfInBounds_toArray, List.set_cons_zero, List.set_cons_succ]
    refine wpAnyH_take (i := 5) (oi := { dst := some 34, op := Op.load 22 (Operand.tmp 33), type := 22, pos := "law.go:63", after := #[{ on := 4, ground := Ground.data }], guard := none }) (v := ?_) rfl (by kernel_rfl) (by kernel_rfl) (by kernel_rfl) (fun _ _ _ h => h) (Or.inl ⟨by rfl, ?_⟩) (HF.out.after HC1.out) ?_
    rotate_left
    · (intro y hy; have cq := hy.cell 2 (.int .i64 f.code) rfl; go_simp; try (with_reducible rfl))
    simp only [Act.put, List.setIfInBounds_toArray, List.set_cons_zero, List.set_cons_succ]
    refine wpAnyH_ready (rs := [1]) (by kernel_rfl) (by simp) ?_
    refine AllReadyH.cons (o := { dst := some 30, op := Op.call { callee := Callee.value (Operand.func 4), args := #[Operand.tmp 29], argTypes := #[24] }, type := 9, pos := "law.go:63", after := #[{ on := 0, ground := Ground.data }], guard := none }) rfl (fun K hK => ?_) AllReadyH.nil
    go_simp
    refine (awords_any f nl T _ HNL.out HFT.out hsb HTT.out.1 HTT.out.2 (Psn.keep HPS.out (below_next HB.out HC1.out))).mono ?_
    rw [HLN.out]
    rintro _ Y1 ⟨rfl, hb2⟩
    have HC2 : Hid (Below X.heap.size X Y1) := below_next HC1.out hb2
    clear hb2
    (refine hK _ _ (HF.out.after HC2.out) ?_; clear hK K; intro _)
    try simp only [Act.put, List.setIfInBounds_toArray, List.set_cons_zero, List.set_cons_succ]
    refine wpAnyH_ready (rs := [6]) (by kernel_rfl) (by simp) ?_
    refine AllReadyH.cons (o := { dst := some 35, op := Op.call { callee := Callee.value (Operand.func 6), args := #[Operand.tmp 34], argTypes := #[3] }, type := 9, pos := "law.go:63", after := #[{ on := 5, ground := Ground.data }, { on := 1, ground := Ground.chain }], guard := none }) rfl (fun K hK => ?_) AllReadyH.nil
    go_simp
    refine (rname_any f.code _).mono ?_
    rintro _ Y2 ⟨s2, rfl, hs2, hb3⟩
    obtain rfl : s2 = bs T := hs2.one HTT.out.1
    have HC3 : Hid (Below X.heap.size X Y2) := below_next HC2.out hb3
    clear hb3 hs2
    (refine hK _ _ (HF.out.after HC3.out) ?_; clear hK K; intro _)
    try simp only [Act.put, List.setIfInBounds_toArray, List.set_cons_zero, List.set_cons_succ]
    refine wpAnyH_take (i := 7) (oi := { dst := some 36, op := Op.binOp BinOp.add 9 (Operand.tmp 32) (Operand.tmp 35) 9, type := 9, pos := "law.go:63", after := #[{ on := 3, ground := Ground.data }, { on := 6, ground := Ground.data }], guard := none }) (v := ?_) rfl (by kernel_rfl) (by kernel_rfl) (by kernel_rfl) (fun _ _ _ h => h) (Or.inl ⟨by rfl, ?_⟩) (HF.out.after HC3.out) ?_
    rotate_left
    · (intro y hy; go_simp; try (with_reducible rfl))
    simp only [Act.put, List.setIfInBounds_toArray, List.set_cons_zero, List.set_cons_succ]
    refine wpAnyH_take (i := 8) (oi := { dst := some 37, op := Op.binOp BinOp.eql 9 (Operand.tmp 30) (Operand.tmp 36) 9, type := 4, pos := "law.go:63", after := #[{ on := 1, ground := Ground.data }, { on := 7, ground := Ground.data }], guard := none }) (v := ?_) rfl (by kernel_rfl) (by kernel_rfl) (by kernel_rfl) (fun _ _ _ h => h) (Or.inl ⟨by rfl, ?_⟩) (HF.out.after HC3.out) ?_
    rotate_left
    · (intro y hy; go_simp; try (with_reducible rfl))
    simp only [Act.put, List.setIfInBounds_toArray, List.set_cons_zero, List.set_cons_succ]
    refine wpAnyH_take (i := 9) (oi := { dst := some 2, op := Op.assign (Operand.tmp 37), type := 4, pos := "law.go:63", after := #[{ on := 8, ground := Ground.data }, { on := 6, ground := Ground.chain }, { on := 0, ground := Ground.phase }, { on := 1, ground := Ground.phase }, { on := 2, ground := Ground.phase }, { on := 3, ground := Ground.phase }, { on := 4, ground := Ground.phase }, { on := 5, ground := Ground.phase }, { on := 6, ground := Ground.phase }, { on := 7, ground := Ground.phase }, { on := 8, ground := Ground.phase }], guard := none }) (v := ?_) rfl (by kernel_rfl) (by kernel_rfl) (by kernel_rfl) (fun _ _ _ h => h) (Or.inl ⟨by rfl, ?_⟩) (HF.out.after HC3.out) ?_
    rotate_left
    · (intro y hy; go_simp; try (with_reducible rfl))
    simp only [Act.put, List.setIfInBounds_toArray, List.set_cons_zero, List.set_cons_succ]
    refine wpAnyH_done (by kernel_rfl) ?_ _
    go_wp2
    go_ret
    exact ⟨rfl, below_next HB.out HC3.out⟩

  · obtain ⟨U, hU⟩ : ∃ U : Nat, f.at_.toNat = U := ⟨_, rfl⟩
    have hU9 : U ≤ 9223372036854775808 := by omega
    have HDD : Hid (Lib.decDigits U = I) := by show _ = _; rw [← hI, ← hU]; unfold Lib.itoa; rw [if_neg hneg]
    have CD : Hid (∀ w, Calls Tryd.prog 5 #[.int .u64 f.at_] w fun e w' => e = .returned (.string (bs I)) ∧ Below w.heap.size w w') := fun w => by rw [← HDD.out, show f.at_ = (U : Int) from by omega]; exact digits_any U U (Nat.le_refl _) hU9 w
    clear hI hIl hU l1 l2 l3 hnl
    have T1 : Hid True := trivial
    go_enter Tryd.func3, Tryd.ntmps3
    go_wp2_with (first
      | (go_at_call 4; clear T1; refine (awords_any ⟨bs [115, 101, 103, 45, 48, 48, 48, 48, 48, 49], 43, 62⟩ [115, 101, 103, 45, 48, 48, 48, 48, 48, 49] [115, 117, 109] _ rfl HF43.out.1 HF43.out.2 HS62.out (by simp) (Psn.keep HPS.out HB0.out)).mono ?_; rw [HL43.out]; rintro _ x1 ⟨rfl, hb1⟩; have HB1 : Hid (Below w.heap.size w x1 ∧ FdAt x1 w.heap.size f) := ⟨below_next HB0.out hb1, HF0.out.after hb1⟩; have q0 := HB1.out.2.cell 0 (.string (bs nl)) (by rw [HFN.out]; rfl); have q1 := HB1.out.2.cell 1 (.int .i64 f.at_) rfl; clear hb1)
      | (go_at_call 5; refine (CD.out _).mono ?_; rintro _ X ⟨rfl, hb2⟩; have HB : Hid (Below w.heap.size w X) := below_next HB1.out.1 hb2; have HF : Hid (FdAt X w.heap.size f) := HB1.out.2.after hb2; clear hb2))
    clear q0 q1
    refine wp_region_held (S := fun y => FdAt y w.heap.size f) (by kernel_rfl) ?_
    change wpAnyH _ _ _ _ _ _ _ _ (World.drew _)
    obtain ⟨D, hD⟩ : ∃ D, X.drew = D := ⟨_, rfl⟩
    have HC1 : Hid (Below X.heap.size X D) := by rw [← hD]; exact (Below.refl _ _).drew
    rw [hD]
    clear hD
    refine wpAnyH_take (i := 0) (oi := { dst := some 29, op := Op.load 24 (Operand.tmp 1), type := 24, pos := "law.go:63", after := #[], guard := none }) (v := .agg (fdA f)) rfl (by kernel_rfl) (by kernel_rfl) (by kernel_rfl) (fun _ _ _ h => h) (Or.inl ⟨by rfl, fun y hy => exec_load_fd (.tmp 1) rfl rfl hy⟩) (HF.out.after HC1.out) ?_
    simp only [Act.put, List.setIfInBounds_toArray, List.set_cons_zero, List.set_cons_succ]
    refine wpAnyH_take (i := 2) (oi := { dst := some 31, op := Op.move (Operand.tmp 3), type := 9, pos := "law.go:63", after := #[], guard := none }) (v := ?_) rfl (by kernel_rfl) (by kernel_rfl) (by kernel_rfl) (fun _ _ _ h => h) (Or.inl ⟨by rfl, ?_⟩) (HF.out.after HC1.out) ?_
    rotate_left
    · (intro y hy; go_simp; try (with_reducible rfl))
    simp only [Act.put, List.setIfInBounds_toArray, List.set_cons_zero, List.set_cons_succ]
    refine wpAnyH_take (i := 3) (oi := { dst := some 32, op := Op.binOp BinOp.add 9 (Operand.tmp 31) (Operand.const (Value.string { data := #[58, 32] })) 9, type := 9, pos := "law.go:63", after := #[{ on := 2, ground := Ground.data }], guard := none }) (v := ?_) rfl (by kernel_rfl) (by kernel_rfl) (by kernel_rfl) (fun _ _ _ h => h) (Or.inl ⟨by rfl, ?_⟩) (HF.out.after HC1.out) ?_
    rotate_left
    · (intro y hy; go_simp; try (with_reducible rfl))
    simp only [Act.put, List.setIfInBounds_toArray, List.set_cons_zero, List.set_cons_succ]
    refine wpAnyH_take (i := 4) (oi := { dst := some 33, op := Op.fieldAddr 24 (Operand.tmp 1) 2, type := 0, pos := "law.go:63", after := #[], guard := none }) (v := ?_) rfl (by kernel_rfl) (by kernel_rfl) (by kernel_rfl) (fun _ _ _ h => h) (Or.inl ⟨by rfl, ?_⟩) (HF.out.after HC1.out) ?_
    rotate_left
    · (intro y hy; go_simp; try (with_reducible rfl))
    simp only [Act.put, List.setIfInBounds_toArray, List.set_cons_zero, List.set_cons_succ]
    refine wpAnyH_take (i := 5) (oi := { dst := some 34, op := Op.load 22 (Operand.tmp 33), type := 22, pos := "law.go:63", after := #[{ on := 4, ground := Ground.data }], guard := none }) (v := ?_) rfl (by kernel_rfl) (by kernel_rfl) (by kernel_rfl) (fun _ _ _ h => h) (Or.inl ⟨by rfl, ?_⟩) (HF.out.after HC1.out) ?_
    rotate_left
    · (intro y hy; have cq := hy.cell 2 (.int .i64 f.code) rfl; go_simp; try (with_reducible rfl))
    simp only [Act.put, List.setIfInBounds_toArray, List.set_cons_zero, List.set_cons_succ]
    refine wpAnyH_ready (rs := [1]) (by kernel_rfl) (by simp) ?_
    refine AllReadyH.cons (o := { dst := some 30, op := Op.call { callee := Callee.value (Operand.func 4), args := #[Operand.tmp 29], argTypes := #[24] }, type := 9, pos := "law.go:63", after := #[{ on := 0, ground := Ground.data }], guard := none }) rfl (fun K hK => ?_) AllReadyH.nil
    go_simp
    refine (awords_any f nl T _ HNL.out HFT.out hsb HTT.out.1 HTT.out.2 (Psn.keep HPS.out (below_next HB.out HC1.out))).mono ?_
    rw [HLN.out]
    rintro _ Y1 ⟨rfl, hb2⟩
    have HC2 : Hid (Below X.heap.size X Y1) := below_next HC1.out hb2
    clear hb2
    (refine hK _ _ (HF.out.after HC2.out) ?_; clear hK K; intro _)
    try simp only [Act.put, List.setIfInBounds_toArray, List.set_cons_zero, List.set_cons_succ]
    refine wpAnyH_ready (rs := [6]) (by kernel_rfl) (by simp) ?_
    refine AllReadyH.cons (o := { dst := some 35, op := Op.call { callee := Callee.value (Operand.func 6), args := #[Operand.tmp 34], argTypes := #[3] }, type := 9, pos := "law.go:63", after := #[{ on := 5, ground := Ground.data }, { on := 1, ground := Ground.chain }], guard := none }) rfl (fun K hK => ?_) AllReadyH.nil
    go_simp
    refine (rname_any f.code _).mono ?_
    rintro _ Y2 ⟨s2, rfl, hs2, hb3⟩
    obtain rfl : s2 = bs T := hs2.one HTT.out.1
    have HC3 : Hid (Below X.heap.size X Y2) := below_next HC2.out hb3
    clear hb3 hs2
    (refine hK _ _ (HF.out.after HC3.out) ?_; clear hK K; intro _)
    try simp only [Act.put, List.setIfInBounds_toArray, List.set_cons_zero, List.set_cons_succ]
    refine wpAnyH_take (i := 7) (oi := { dst := some 36, op := Op.binOp BinOp.add 9 (Operand.tmp 32) (Operand.tmp 35) 9, type := 9, pos := "law.go:63", after := #[{ on := 3, ground := Ground.data }, { on := 6, ground := Ground.data }], guard := none }) (v := ?_) rfl (by kernel_rfl) (by kernel_rfl) (by kernel_rfl) (fun _ _ _ h => h) (Or.inl ⟨by rfl, ?_⟩) (HF.out.after HC3.out) ?_
    rotate_left
    · (intro y hy; go_simp; try (with_reducible rfl))
    simp only [Act.put, List.setIfInBounds_toArray, List.set_cons_zero, List.set_cons_succ]
    refine wpAnyH_take (i := 8) (oi := { dst := some 37, op := Op.binOp BinOp.eql 9 (Operand.tmp 30) (Operand.tmp 36) 9, type := 4, pos := "law.go:63", after := #[{ on := 1, ground := Ground.data }, { on := 7, ground := Ground.data }], guard := none }) (v := ?_) rfl (by kernel_rfl) (by kernel_rfl) (by kernel_rfl) (fun _ _ _ h => h) (Or.inl ⟨by rfl, ?_⟩) (HF.out.after HC3.out) ?_
    rotate_left
    · (intro y hy; go_simp; try (with_reducible rfl))
    simp only [Act.put, List.setIfInBounds_toArray, List.set_cons_zero, List.set_cons_succ]
    refine wpAnyH_take (i := 9) (oi := { dst := some 2, op := Op.assign (Operand.tmp 37), type := 4, pos := "law.go:63", after := #[{ on := 8, ground := Ground.data }, { on := 6, ground := Ground.chain }, { on := 0, ground := Ground.phase }, { on := 1, ground := Ground.phase }, { on := 2, ground := Ground.phase }, { on := 3, ground := Ground.phase }, { on := 4, ground := Ground.phase }, { on := 5, ground := Ground.phase }, { on := 6, ground := Ground.phase }, { on := 7, ground := Ground.phase }, { on := 8, ground := Ground.phase }], guard := none }) (v := ?_) rfl (by kernel_rfl) (by kernel_rfl) (by kernel_rfl) (fun _ _ _ h => h) (Or.inl ⟨by rfl, ?_⟩) (HF.out.after HC3.out) ?_
    rotate_left
    · (intro y hy; go_simp; try (with_reducible rfl))
    simp only [Act.put, List.setIfInBounds_toArray, List.set_cons_zero, List.set_cons_succ]
    refine wpAnyH_done (by kernel_rfl) ?_ _
    go_wp2
    go_ret
    exact ⟨rfl, below_next HB.out HC3.out⟩
theorem own : ownKnob Tryd.prog.godebug = none := by kernel_rfl
theorem laidOut : laidOutB Tryd.prog = true := by kernel_rfl
set_option maxRecDepth 100000 in
theorem contract (H : Type) (enc : TypeId × Value → H) (W : World) (base : Nat) (args : Array Value) (ds gs : List (DataW H)) (before : List MemPlace)
    (hval : ∀ (j : Nat) t v, Tryd.f3.params[j]? = some t → args[j]? = some v → Value.okWide Tryd.prog W .any base t v)
    (hW : DataW.Whole enc Tryd.prog Tryd.f3.params.toList Rows.auditWordsSpec.vars false W args.toList ds gs before)
    (hsz : (DataW.weightsEach Tryd.prog (Tryd.f3.params.toList ++ Rows.auditWordsSpec.plain.varTypes Tryd.prog) (ds ++ gs)).all (· ≤ reachBytes) = true) (hL : laidMetH Tryd.prog (("math/bits.deBruijn32tab", Rows.laid_math_bits_deBruijn32tab) :: ("math/bits.deBruijn64tab", Rows.laid_math_bits_deBruijn64tab) :: ("internal/strconv.uint64pow10", Rows.laid_internal_strconv_uint64pow10) :: laidOf sents) W) :
    Calls Tryd.prog 3 args W fun e W' => ∃ v, e = .returned v ∧ Rows.auditWordsSpec.post enc Tryd.prog Tryd.f3 false true false false W args v W' := by
  have hW' := hW
  obtain ⟨p, q, hA0, hV, rfl, hfz, hnd⟩ := hW
  have hA : DataW.TrodAll enc Tryd.prog W 0 (fun _ => true) true Tryd.f3.params.toList args.toList ds p := hA0
  rw [Tryd.params3] at hA hval hsz
  obtain ⟨v0, vs0, d0, ds0, p0, q0, hargs, rfl, rfl, h0, r0⟩ := trodAll_cons hA
  obtain ⟨rfl, rfl, rfl⟩ := trodAll_nil r0
  obtain rfl : args = #[v0] := by cases args; simp_all
  obtain ⟨rfl, rfl⟩ := trodVars_none hV
  have k0 := h0
  have lt0 : ∀ x ∈ p0, x.block < W.heap.size := by obtain ⟨m, hm⟩ := k0; exact DataW.trod_lt m _ _ _ hm
  obtain ⟨a0, rfl, _, w0, hd0⟩ := open_finding Tryd.underlying24 (by kernel_rfl) (by kernel_rfl) (by kernel_rfl) (by kernel_rfl) (by kernel_rfl) (hval 0 24 v0 rfl rfl) h0
  have s0 : a0.name.size ≤ 140737488351232 := by have := sized_finding hsz (j := 0) rfl (by rw [hd0]; rfl); rwa [Array.length_toList] at this
  clear hA0
  refine (walk a0 W w0 s0 (psn_of hL)).mono fun e W' ⟨he, bel⟩ => ?_
  subst he
  exact ⟨_, rfl, _, _, _, [], _, [], hW', trodAll_mk1 (shut_bool Tryd.underlying4 _), (trodAll_cons_mk (Below.trod laidOut (by kernel_rfl) (of_decide_eq_true (by kernel_rfl)) k0 bel lt0) trodAll_mk0), rfl, bel.frame _, fun h => by cases h⟩
set_option maxRecDepth 100000 in
theorem start (os : Os) : ∃ w0 : World, w0.os = os ∧ (w0.forCall (fun _ _ => 0) ⟨#[], #[.agg #[.string ⟨#[]⟩, .int .i64 0, .int .i64 0]], []⟩).variablesB Tryd.prog = true ∧
    ((w0.forCall (fun _ _ => 0) ⟨#[], #[.agg #[.string ⟨#[]⟩, .int .i64 0, .int .i64 0]], []⟩).heap.toList.drop Tryd.prog.globals.size).take ((begin Tryd.prog (fun _ _ => 0) default).world.heap.size - Tryd.prog.globals.size) = (begin Tryd.prog (fun _ _ => 0) default).world.heap.toList.drop Tryd.prog.globals.size ∧
    Input.okWideB Tryd.prog (w0.forCall (fun _ _ => 0) ⟨#[], #[.agg #[.string ⟨#[]⟩, .int .i64 0, .int .i64 0]], []⟩) 3 ⟨#[], #[.agg #[.string ⟨#[]⟩, .int .i64 0, .int .i64 0]], []⟩ = true ∧
    laidMet Tryd.prog Rows.auditWordsRow.laid (w0.forCall (fun _ _ => 0) ⟨#[], #[.agg #[.string ⟨#[]⟩, .int .i64 0, .int .i64 0]], []⟩).memory ∧
    ∀ (H : Type) (enc : TypeId × Value → H), DataW.whole enc Tryd.prog (w0.forCall (fun _ _ => 0) ⟨#[], #[.agg #[.string ⟨#[]⟩, .int .i64 0, .int .i64 0]], []⟩).memory Tryd.f3.params.toList Rows.auditWordsSpec.vars false (#[.agg #[.string ⟨#[]⟩, .int .i64 0, .int .i64 0]] : Array Value).toList 8 = some ([.agg [.lit (.string []), .lit (.int .i64 0), .lit (.int .i64 0)]], [], []) :=
  ⟨{ World.holding Tryd.prog os ⟨#[.cells #[.string ⟨#[97, 114, 103, 117, 109, 101, 110, 116]⟩] 75, .cells #[.string ⟨#[99, 108, 111, 115, 101, 100]⟩] 75, .cells #[.string ⟨#[112, 111, 119, 101, 114, 32, 111, 102, 102]⟩] 75, .cells #[.string ⟨#[99, 111, 114, 114, 117, 112, 116]⟩] 75, .cells #[.string ⟨#[101, 110, 100, 115, 32, 101, 97, 114, 108, 121]⟩] 75, .cells #[.string ⟨#[111, 118, 101, 114, 108, 111, 110, 103]⟩] 75, .cells #[.string ⟨#[116, 111, 111, 32, 119, 105, 100, 101]⟩] 75, .cells #[.string ⟨#[116, 97, 103]⟩] 75, .cells #[.string ⟨#[111, 114, 100, 101, 114, 32, 111, 102, 32, 116, 97, 103, 115]⟩] 75, .cells #[.string ⟨#[101, 109, 112, 116, 121, 32, 102, 105, 101, 108, 100]⟩] 75, .cells #[.string ⟨#[108, 111, 110, 103, 32, 116, 101, 120, 116]⟩] 75, .cells #[.string ⟨#[116, 111, 111, 32, 98, 105, 103]⟩] 75, .cells #[.string ⟨#[118, 101, 114, 115, 105, 111, 110]⟩] 75, .cells #[.string ⟨#[107, 105, 110, 100]⟩] 75, .cells #[.string ⟨#[102, 105, 101, 108, 100]⟩] 75, .cells #[.string ⟨#[102, 111, 114, 109]⟩] 75, .cells #[.string ⟨#[115, 116, 97, 116, 101]⟩] 75, .cells #[.string ⟨#[110, 97, 109, 101]⟩] 75, .cells #[.string ⟨#[110, 111, 32, 102, 105, 108, 101]⟩] 75, .cells #[.string ⟨#[101, 120, 105, 115, 116, 115]⟩] 75, .cells #[.string ⟨#[102, 105, 108, 101, 115]⟩] 75, .cells #[.string ⟨#[100, 105, 115, 107, 32, 102, 117, 108, 108]⟩] 75, .cells #[.string ⟨#[116, 111, 114, 110]⟩] 75, .cells #[.string ⟨#[109, 97, 114, 107]⟩] 75, .cells #[.string ⟨#[115, 117, 109]⟩] 75, .cells #[.string ⟨#[114, 97, 110, 103, 101]⟩] 75, .cells #[.string ⟨#[105, 110, 100, 101, 120]⟩] 75, .cells #[.string ⟨#[104, 101, 97, 100, 101, 114]⟩] 75, .cells #[.string ⟨#[115, 101, 97, 108, 101, 100]⟩] 75, .cells #[.string ⟨#[109, 105, 115, 115, 105, 110, 103]⟩] 75, .cells #[.string ⟨#[109, 97, 110, 105, 102, 101, 115, 116]⟩] 75, .cells #[.string ⟨#[98, 111, 111, 107]⟩] 75, .cells #[.string ⟨#[115, 101, 103, 109, 101, 110, 116, 115]⟩] 75, .cells #[.string ⟨#[110, 117, 109, 98, 101, 114, 115]⟩] 75, .cells #[.string ⟨#[115, 101, 113, 117, 101, 110, 99, 101]⟩] 75, .cells #[.string ⟨#[101, 109, 112, 116, 121]⟩] 75, .cells #[.string ⟨#[110, 111, 32, 115, 110, 97, 112, 115, 104, 111, 116]⟩] 75, .cells #[.string ⟨#[99, 111, 109, 112, 97, 99, 116, 101, 100]⟩] 75, .cells #[.string ⟨#[108, 105, 110, 101]⟩] 75, .cells #[.string ⟨#[119, 111, 114, 100]⟩] 75, .cells #[.string ⟨#[108, 105, 110, 101, 115]⟩] 75, .cells #[.string ⟨#[111, 117, 116, 112, 117, 116]⟩] 75], #[], []⟩ with heap := ((((List.range 42).foldl (fun h i => h.modify i fun x => match x with | .cells _ t frozen => .cells #[.iface 59 (.pointer (some ⟨(World.holding Tryd.prog default ⟨#[], #[], []⟩).heap.size + i, 0, none⟩))] t frozen | o => o) (World.holding Tryd.prog os ⟨#[.cells #[.string ⟨#[97, 114, 103, 117, 109, 101, 110, 116]⟩] 75, .cells #[.string ⟨#[99, 108, 111, 115, 101, 100]⟩] 75, .cells #[.string ⟨#[112, 111, 119, 101, 114, 32, 111, 102, 102]⟩] 75, .cells #[.string ⟨#[99, 111, 114, 114, 117, 112, 116]⟩] 75, .cells #[.string ⟨#[101, 110, 100, 115, 32, 101, 97, 114, 108, 121]⟩] 75, .cells #[.string ⟨#[111, 118, 101, 114, 108, 111, 110, 103]⟩] 75, .cells #[.string ⟨#[116, 111, 111, 32, 119, 105, 100, 101]⟩] 75, .cells #[.string ⟨#[116, 97, 103]⟩] 75, .cells #[.string ⟨#[111, 114, 100, 101, 114, 32, 111, 102, 32, 116, 97, 103, 115]⟩] 75, .cells #[.string ⟨#[101, 109, 112, 116, 121, 32, 102, 105, 101, 108, 100]⟩] 75, .cells #[.string ⟨#[108, 111, 110, 103, 32, 116, 101, 120, 116]⟩] 75, .cells #[.string ⟨#[116, 111, 111, 32, 98, 105, 103]⟩] 75, .cells #[.string ⟨#[118, 101, 114, 115, 105, 111, 110]⟩] 75, .cells #[.string ⟨#[107, 105, 110, 100]⟩] 75, .cells #[.string ⟨#[102, 105, 101, 108, 100]⟩] 75, .cells #[.string ⟨#[102, 111, 114, 109]⟩] 75, .cells #[.string ⟨#[115, 116, 97, 116, 101]⟩] 75, .cells #[.string ⟨#[110, 97, 109, 101]⟩] 75, .cells #[.string ⟨#[110, 111, 32, 102, 105, 108, 101]⟩] 75, .cells #[.string ⟨#[101, 120, 105, 115, 116, 115]⟩] 75, .cells #[.string ⟨#[102, 105, 108, 101, 115]⟩] 75, .cells #[.string ⟨#[100, 105, 115, 107, 32, 102, 117, 108, 108]⟩] 75, .cells #[.string ⟨#[116, 111, 114, 110]⟩] 75, .cells #[.string ⟨#[109, 97, 114, 107]⟩] 75, .cells #[.string ⟨#[115, 117, 109]⟩] 75, .cells #[.string ⟨#[114, 97, 110, 103, 101]⟩] 75, .cells #[.string ⟨#[105, 110, 100, 101, 120]⟩] 75, .cells #[.string ⟨#[104, 101, 97, 100, 101, 114]⟩] 75, .cells #[.string ⟨#[115, 101, 97, 108, 101, 100]⟩] 75, .cells #[.string ⟨#[109, 105, 115, 115, 105, 110, 103]⟩] 75, .cells #[.string ⟨#[109, 97, 110, 105, 102, 101, 115, 116]⟩] 75, .cells #[.string ⟨#[98, 111, 111, 107]⟩] 75, .cells #[.string ⟨#[115, 101, 103, 109, 101, 110, 116, 115]⟩] 75, .cells #[.string ⟨#[110, 117, 109, 98, 101, 114, 115]⟩] 75, .cells #[.string ⟨#[115, 101, 113, 117, 101, 110, 99, 101]⟩] 75, .cells #[.string ⟨#[101, 109, 112, 116, 121]⟩] 75, .cells #[.string ⟨#[110, 111, 32, 115, 110, 97, 112, 115, 104, 111, 116]⟩] 75, .cells #[.string ⟨#[99, 111, 109, 112, 97, 99, 116, 101, 100]⟩] 75, .cells #[.string ⟨#[108, 105, 110, 101]⟩] 75, .cells #[.string ⟨#[119, 111, 114, 100]⟩] 75, .cells #[.string ⟨#[108, 105, 110, 101, 115]⟩] 75, .cells #[.string ⟨#[111, 117, 116, 112, 117, 116]⟩] 75], #[], []⟩).heap).modify 43 fun x => match x with | .cells _ t frozen => .cells #[.int .u8 0, .int .u8 1, .int .u8 28, .int .u8 2, .int .u8 29, .int .u8 14, .int .u8 24, .int .u8 3, .int .u8 30, .int .u8 22, .int .u8 20, .int .u8 15, .int .u8 25, .int .u8 17, .int .u8 4, .int .u8 8, .int .u8 31, .int .u8 27, .int .u8 13, .int .u8 23, .int .u8 21, .int .u8 19, .int .u8 16, .int .u8 7, .int .u8 26, .int .u8 12, .int .u8 18, .int .u8 6, .int .u8 11, .int .u8 5, .int .u8 10, .int .u8 9] t frozen | o => o).modify 44 fun x => match x with | .cells _ t frozen => .cells #[.int .u8 0, .int .u8 1, .int .u8 56, .int .u8 2, .int .u8 57, .int .u8 49, .int .u8 28, .int .u8 3, .int .u8 61, .int .u8 58, .int .u8 42, .int .u8 50, .int .u8 38, .int .u8 29, .int .u8 17, .int .u8 4, .int .u8 62, .int .u8 47, .int .u8 59, .int .u8 36, .int .u8 45, .int .u8 43, .int .u8 51, .int .u8 22, .int .u8 53, .int .u8 39, .int .u8 33, .int .u8 30, .int .u8 24, .int .u8 18, .int .u8 12, .int .u8 5, .int .u8 63, .int .u8 55, .int .u8 48, .int .u8 27, .int .u8 60, .int .u8 41, .int .u8 37, .int .u8 16, .int .u8 46, .int .u8 35, .int .u8 44, .int .u8 21, .int .u8 52, .int .u8 32, .int .u8 23, .int .u8 11, .int .u8 54, .int .u8 26, .int .u8 40, .int .u8 15, .int .u8 34, .int .u8 20, .int .u8 31, .int .u8 10, .int .u8 25, .int .u8 14, .int .u8 19, .int .u8 9, .int .u8 13, .int .u8 8, .int .u8 7, .int .u8 6] t frozen | o => o).modify 42 fun x => match x with | .cells _ t frozen => .cells #[.int .u64 1, .int .u64 10, .int .u64 100, .int .u64 1000, .int .u64 10000, .int .u64 100000, .int .u64 1000000, .int .u64 10000000, .int .u64 100000000, .int .u64 1000000000, .int .u64 10000000000, .int .u64 100000000000, .int .u64 1000000000000, .int .u64 10000000000000, .int .u64 100000000000000, .int .u64 1000000000000000, .int .u64 10000000000000000, .int .u64 100000000000000000, .int .u64 1000000000000000000, .int .u64 10000000000000000000] t frozen | o => o }, rfl, by kernel_rfl, by kernel_rfl, by kernel_rfl, laidMet_of_run' 8 (by kernel_rfl) (by kernel_rfl), fun _ _ => by kernel_rfl⟩
set_option maxRecDepth 100000 in
theorem lifted (os : Os) (started : os.Started) (H : Type) (enc : TypeId × Value → H) (F : Stop.Interp) :
    ReturnsInHanded {} Tryd.checked os 3 .any ((OpenSpec.ofChange Rows.auditWordsSpec).preRow enc Tryd.prog Tryd.f3 Rows.auditWordsRow.domain false Rows.auditWordsRow.laid) (((OpenSpec.ofChange Rows.auditWordsSpec).at F).post enc Tryd.prog Tryd.f3 false true false false) := by
  obtain ⟨w0, h1, h2, h3, h4, h5, h6⟩ := start os
  refine returnsInHanded_of_row (C := Tryd.checked) (s := OpenSpec.ofChange Rows.auditWordsSpec) own started (by kernel_rfl) Tryd.func3
    (witness_row_at (enc := enc) (C := Tryd.checked) false w0 #[.agg #[.string ⟨#[]⟩, .int .i64 0, .int .i64 0]] h1 h2 h3 h4
      (OpenSpec.preRow_of_cond 8 (h6 H enc) (by kernel_rfl) (fun k hk => by cases hk) (by kernel_rfl) h5)) ?_
  intro W base args ds gs before hval hW _ hcond hsz hL _ _
  exact contract H enc W base args ds gs before hval hW hsz hL
theorem said : Rows.AuditWordsSaid :=
  OpenClaim.holds_of_cond 3 Tryd.f3 rfl rfl rfl rfl rfl rfl rfl ⟨rfl, rfl, rfl, rfl, rfl⟩ rfl rfl rfl rfl rfl (by kernel_rfl) Tryd.func3 (by kernel_rfl)
    (of_decide_eq_true (by kernel_rfl)) (by unfold Func.isWrapper; first | (rw [if_pos (by decide +kernel)]; kernel_rfl) | (rw [if_neg (by decide +kernel)]; exact ⟨rfl, rfl⟩))
    (fun os started H enc _ F => by rw [OpenClaim.pre_eq_preRow]; exact lifted os started H enc F)
theorem plain (f : FuncId) (fn : Func) (hf : Tryd.pinned.checked.prog.funcNamed "daybook/daybooklaw22.AuditWords" = some f) (hfn : Tryd.pinned.checked.prog.funcs[f]? = some fn) :
    false = Tryd.pinned.checked.prog.looks [] ∧ ∀ (j : Nat) t, fn.params[j]? = some t → Tryd.pinned.checked.prog.wantsStandIn t = false := by
  obtain rfl : f = 3 := Option.some.inj ((show Tryd.prog.funcNamed "daybook/daybooklaw22.AuditWords" = some 3 by kernel_rfl).symm.trans hf) |>.symm
  obtain rfl : fn = Tryd.f3 := (Option.some.inj (Tryd.func3.symm.trans hfn)).symm
  refine ⟨by kernel_rfl, fun j t ht => ?_⟩
  rw [Tryd.params3] at ht
  have hm := Array.mem_of_getElem? ht
  have hall : ∀ t ∈ (#[24] : Array TypeId), Tryd.prog.wantsStandIn t = false := by
    intro t ht
    simp only [List.mem_toArray, List.mem_cons, List.not_mem_nil, or_false] at ht
    rcases ht with rfl <;> kernel_rfl
  exact hall t hm
theorem card : Rows.AuditWordsCardSaid :=
  Claim7.holds_tied_plain_at .later [] _ _ _ _ said (fun _ h => by cases h) (by kernel_rfl) (fun _ h => by cases h) auditWords_row_tie rfl ⟨rfl, rfl⟩ (by kernel_rfl) rfl plain (by kernel_rfl)
end Go.Proofs.YtdjldbhglaohkaaDoor.auditWords
