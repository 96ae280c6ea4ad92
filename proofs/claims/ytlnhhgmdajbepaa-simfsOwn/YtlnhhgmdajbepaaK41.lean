/- Own texts, joined: Tld. -/
import Derived.Test.YtlnhhgmdajbepaaK40
import Derived.Test.YtlnhhgmdajbepaaK19
namespace Go.Proofs.Ytlnhhgmdajbepaa
open Go.ChangeShapes Go.WideShapes Go.ChangeAt Go.RowKit
set_option linter.unusedVariables false
set_option linter.unusedSimpArgs false
theorem readb_A {x : World} {base q b : Nat} {A : Ak} (h : DA x base q b A) : Calls Try.prog 41 #[.pointer (some ⟨q, 0, none⟩)] x fun r x' => r = .returned (.int .i64 A.read) ∧ x = x' := by
  obtain ⟨D, hd, rfl⟩ := h; exact readbytes_any x base q b D hd
theorem names_of {y : World} {base : Nat} {v : Value} {A : Ak} {n : Nat} (h : OwnT y base v (A.fs.map (·.name))) (hn : A.fs.length = n) : ∃ g7 c7, v = .slice g7 n c7 ∧ ∀ (z : World), Below y.heap.size y z → ∀ k, k < n → ∃ g f, g7 = some ⟨g, 0, none⟩ ∧ A.fs[k]? = some f ∧ z.cell? ⟨g, k, none⟩ = some (.string (bs f.name)) := by
  have hl : (A.fs.map (·.name)).length = n := by rw [List.length_map, hn]
  rcases ownT_slice h with ⟨e1, e2⟩ | ⟨g, cp, e1, _⟩
  · rw [e2] at hl
    have h0 : n = 0 := by rw [← hl]; rfl
    exact ⟨none, 0, by rw [e1, h0], fun z _ k hk => by omega⟩
  · rw [hl] at e1
    refine ⟨some ⟨g, 0, none⟩, cp, e1, fun z hz k hk => ?_⟩
    have hk2 : k < A.fs.length := by omega
    have h2 := h.keep hz
    rw [e1] at h2
    have h3 := ownT_at h2 hl k (by rw [hl]; exact hk)
    rw [List.getElem_map] at h3
    exact ⟨g, A.fs[k], rfl, List.getElem?_eq_getElem hk2, h3⟩
set_option maxRecDepth 100000 in
set_option maxHeartbeats 4000000 in
theorem told_down (x : World) (base qq b : Nat) (A : Ak) (X : List (Fa × Value)) (a : Option Addr) (n c : Nat) (h : DA x base qq b A) (ok : AkOk A) (hR : RefD x A X a n) (hoff : A.off = true) :
    Calls Try.prog 16 #[.pointer (some ⟨qq, 0, none⟩), rdV (.slice a n c) A.rn] x fun r x' => r = .returned (.bool true) ∧ Below x.heap.size x x' := by
  obtain ⟨⟨qr, qf, qo, qs, qd⟩, hq⟩ : ∃ Q, A.rn = Q := ⟨_, rfl⟩
  have HQ : Hid (A.room = qr ∧ A.off = qo ∧ A.steps = qs ∧ A.read = qd) := ⟨congrArg Rn.room hq, congrArg Rn.off hq, congrArg Rn.steps hq, congrArg Rn.read hq⟩
  rw [hq]
  obtain ⟨U, hU⟩ : ∃ U, usedA A.fs = U := ⟨_, rfl⟩
  have HU : Hid (usedA A.fs = U) := hU
  obtain ⟨R, hRR⟩ : ∃ R, qr - (U : Int) = R := ⟨_, rfl⟩
  have HRR : Hid (qr - (U : Int) = R) := hRR
  have HR : Hid (IntKind.i64.wrap (qr - (U : Int)) = R) := by
    show _ = _
    have h1 := ok.room; have h2 := ok.used; rw [hU] at h2; rw [HQ.out.1] at h1 h2
    rw [hRR, wrap_i64]; omega
  have HOK : Hid (AkOk A) := ok
  have HD : Hid (DA x base qq b A) := h
  have HRF : Hid (RefD x A X a n) := hR
  have HLN : Hid (A.fs.length = n) := by show _ = _; rw [← hR.ab, List.length_map, hR.len]
  have hnI : (n : Int) ≤ 700 := by have h1 := ok.few; rw [HLN.out] at h1; omega
  have hn0 : (0 : Int) ≤ (n : Int) := by omega
  have hU0 : (0 : Int) ≤ (U : Int) := by omega
  have HOFF : Hid (A.off = true) := hoff
  obtain rfl : qo = true := HQ.out.2.1.symm.trans hoff
  have hr0 := RdAt.new x (.slice a n c) ⟨qr, qf, true, qs, qd⟩
  obtain ⟨z0, hz0⟩ : ∃ z0, x.alloc (.cells #[.slice a n c, .int .i64 qr, .int .i64 qf, .bool true, .int .i64 qs, .int .i64 qd] 28) = z0 := ⟨_, rfl⟩
  have HZ0 : Hid (x.alloc (.cells #[.slice a n c, .int .i64 qr, .int .i64 qf, .bool true, .int .i64 qs, .int .i64 qd] 28) = z0) := hz0
  rw [hz0] at hr0
  have HR0 : Hid (RdAt z0 x.heap.size (.slice a n c) ⟨qr, qf, true, qs, qd⟩ ∧ Below x.heap.size x z0) := ⟨hr0, by rw [← hz0]; exact (Below.refl _ _).alloc (Nat.le_refl _) _⟩
  clear h ok hR hq hU hRR hoff hr0 hz0
  go_enter Try.func16, Try.ntmps16
  go_upto_region 1 with fail
  try simp only [Act.put]
  rw [HZ0.out]
  go_wp2_with (first
    | ((with_reducible refine guard_load 28 ?_); refine wpList_load_rd rfl _ rfl HR0.out.1 rfl ?_)
    | (go_at_call 44; refine (rused_any z0 X a n c ⟨qr, qf, true, qs, qd⟩ HRF.out.len (HRF.out.fls.keep HR0.out.2) (by omega) (by rw [HRF.out.ab]; have h1 := HOK.out.used; have h2 := HOK.out.room.2; omega)).mono ?_; rw [HRF.out.ab, HU.out]; rintro _ z1 ⟨rfl, hb1⟩; have HB1 : Hid (Below x.heap.size x z1) := HR0.out.2.trans (hb1.mono HR0.out.2.size); have HR1 : Hid (RdAt z1 x.heap.size (.slice a n c) ⟨qr, qf, true, qs, qd⟩) := HR0.out.1.keep hb1; clear hb1)
    | go_in)
  refine wp_region_held (S := (fun y => RdAt y x.heap.size (.slice a n c) ⟨qr, qf, true, qs, qd⟩)) (by kernel_rfl) ?_
  change wpAnyH _ _ _ _ _ _ _ _ (World.drew _)
  obtain ⟨xd, hxd⟩ : ∃ xd, World.drew z1 = xd := ⟨_, rfl⟩
  have HL0 : Hid (Below x.heap.size x xd) := by rw [← hxd]; exact HB1.out.drew
  have HPD : Hid ((fun y => RdAt y x.heap.size (.slice a n c) ⟨qr, qf, true, qs, qd⟩) xd) := by rw [← hxd]; exact HR1.out.keep (Below.refl _ _).drew
  have HD0 : Hid (DA xd base qq b A) := HD.out.keep HL0.out
  rw [hxd]
  clear hxd
  refine wpAnyH_take (i := 0) (oi := { dst := some 10, op := Op.move (Operand.tmp 0), type := 24, pos := "law.go:57", after := #[], guard := none }) (v := ?_) rfl (by kernel_rfl) (by kernel_rfl) (by kernel_rfl) (fun _ _ _ h => h) (Or.inl ⟨by rfl, ?_⟩) HPD.out ?_
  rotate_left
  · (intro y hy; go_simp; try (with_reducible rfl))
  simp only [Act.put, List.setIfInBounds_toArray, List.set_cons_zero, List.set_cons_succ]
  refine wpAnyH_take (i := 2) (oi := { dst := some 12, op := Op.move (Operand.tmp 5), type := 3, pos := "law.go:57", after := #[], guard := none }) (v := ?_) rfl (by kernel_rfl) (by kernel_rfl) (by kernel_rfl) (fun _ _ _ h => h) (Or.inl ⟨by rfl, ?_⟩) HPD.out ?_
  rotate_left
  · (intro y hy; go_simp; try (with_reducible rfl))
  simp only [Act.put, List.setIfInBounds_toArray, List.set_cons_zero, List.set_cons_succ]
  refine wpAnyH_ready (rs := [1]) (by kernel_rfl) (by simp) ?_
  refine AllReadyH.cons (o := { dst := some 11, op := Op.call { callee := Callee.value (Operand.func 38), args := #[Operand.tmp 10], argTypes := #[24] }, type := 3, pos := "law.go:57", after := #[{ on := 0, ground := Ground.data }], guard := none }) rfl (fun K hK => ?_) AllReadyH.nil
  go_simp
  refine (used_A HD0.out HOK.out).mono ?_
  rw [HU.out]
  rintro _ y1 ⟨rfl, hc1⟩
  have HD1 : Hid (DA y1 base qq b A) := HD0.out.keep hc1
  have HL1 : Hid (Below x.heap.size x y1) := HL0.out.trans (hc1.mono HL0.out.size)
  have HS1 : Hid ((fun y => RdAt y x.heap.size (.slice a n c) ⟨qr, qf, true, qs, qd⟩) y1) := HPD.out.keep hc1
  clear hc1
  (refine hK _ _ HS1.out ?_; clear hK K; intro _)
  try simp only [Act.put, List.setIfInBounds_toArray, List.set_cons_zero, List.set_cons_succ]
  refine wpAnyH_take (i := 3) (oi := { dst := some 13, op := Op.binOp BinOp.neq 3 (Operand.tmp 11) (Operand.tmp 12) 3, type := 4, pos := "law.go:57", after := #[{ on := 1, ground := Ground.data }, { on := 2, ground := Ground.data }], guard := none }) (v := .bool false) rfl (by kernel_rfl) (by kernel_rfl) (by kernel_rfl) (fun _ _ _ h => h) (Or.inl ⟨by rfl, ?_⟩) HS1.out ?_
  · (intro y hy; go_simp)
  simp only [Act.put, List.setIfInBounds_toArray, List.set_cons_zero, List.set_cons_succ]
  refine wpAnyH_take (i := 4) (oi := { dst := some 14, op := Op.move (Operand.tmp 13), type := 4, pos := "law.go:57", after := #[{ on := 3, ground := Ground.data }, { on := 1, ground := Ground.chain }], guard := none }) (v := ?_) rfl (by kernel_rfl) (by kernel_rfl) (by kernel_rfl) (fun _ _ _ h => h) (Or.inl ⟨by rfl, ?_⟩) HS1.out ?_
  rotate_left
  · (intro y hy; go_simp; try (with_reducible rfl))
  simp only [Act.put, List.setIfInBounds_toArray, List.set_cons_zero, List.set_cons_succ]
  refine wpAnyH_take (i := 5) (oi := { dst := some 15, op := Op.move (Operand.tmp 0), type := 24, pos := "law.go:57", after := #[{ on := 4, ground := Ground.guard }], guard := some (4, false) }) (v := ?_) rfl (by kernel_rfl) (by kernel_rfl) (by kernel_rfl) (fun _ _ _ h => h) (Or.inl ⟨by rfl, ?_⟩) HS1.out ?_
  rotate_left
  · (intro y hy; go_simp; try (with_reducible rfl))
  simp only [Act.put, List.setIfInBounds_toArray, List.set_cons_zero, List.set_cons_succ]
  refine wpAnyH_take (i := 7) (oi := { dst := some 17, op := Op.fieldAddr 28 (Operand.tmp 3) 1, type := 0, pos := "law.go:57", after := #[{ on := 4, ground := Ground.guard }], guard := some (4, false) }) (v := ?_) rfl (by kernel_rfl) (by kernel_rfl) (by kernel_rfl) (fun _ _ _ h => h) (Or.inl ⟨by rfl, ?_⟩) HS1.out ?_
  rotate_left
  · (intro y hy; go_simp; try (with_reducible rfl))
  simp only [Act.put, List.setIfInBounds_toArray, List.set_cons_zero, List.set_cons_succ]
  refine wpAnyH_take (i := 8) (oi := { dst := some 18, op := Op.load 3 (Operand.tmp 17), type := 3, pos := "law.go:57", after := #[{ on := 7, ground := Ground.data }, { on := 4, ground := Ground.guard }], guard := some (4, false) }) (v := .int .i64 qr) rfl (by kernel_rfl) (by kernel_rfl) (by kernel_rfl) (fun _ _ _ h => h) (Or.inl ⟨by rfl, ?_⟩) HS1.out ?_
  · (intro y hy; have h0 := (RdAt.cells hy).2.1; go_simp)
  simp only [Act.put, List.setIfInBounds_toArray, List.set_cons_zero, List.set_cons_succ]
  refine wpAnyH_take (i := 9) (oi := { dst := some 19, op := Op.move (Operand.tmp 5), type := 3, pos := "law.go:57", after := #[{ on := 4, ground := Ground.guard }], guard := some (4, false) }) (v := ?_) rfl (by kernel_rfl) (by kernel_rfl) (by kernel_rfl) (fun _ _ _ h => h) (Or.inl ⟨by rfl, ?_⟩) HS1.out ?_
  rotate_left
  · (intro y hy; go_simp; try (with_reducible rfl))
  simp only [Act.put, List.setIfInBounds_toArray, List.set_cons_zero, List.set_cons_succ]
  refine wpAnyH_take (i := 10) (oi := { dst := some 20, op := Op.binOp BinOp.sub 3 (Operand.tmp 18) (Operand.tmp 19) 3, type := 3, pos := "law.go:57", after := #[{ on := 8, ground := Ground.data }, { on := 9, ground := Ground.data }, { on := 4, ground := Ground.guard }], guard := some (4, false) }) (v := .int .i64 R) rfl (by kernel_rfl) (by kernel_rfl) (by kernel_rfl) (fun _ _ _ h => h) (Or.inl ⟨by rfl, ?_⟩) HS1.out ?_
  · (intro y hy; have h0 := HR.out; go_simp)
  simp only [Act.put, List.setIfInBounds_toArray, List.set_cons_zero, List.set_cons_succ]
  refine wpAnyH_ready (rs := [6]) (by kernel_rfl) (by simp) ?_
  refine AllReadyH.cons (o := { dst := some 16, op := Op.call { callee := Callee.value (Operand.func 31), args := #[Operand.tmp 15], argTypes := #[24] }, type := 3, pos := "law.go:57", after := #[{ on := 5, ground := Ground.data }, { on := 4, ground := Ground.chain }, { on := 4, ground := Ground.guard }], guard := some (4, false) }) rfl (fun K hK => ?_) AllReadyH.nil
  go_simp
  refine (free_A HD1.out HOK.out).mono ?_
  rw [HU.out, HQ.out.1, HRR.out]
  rintro _ y6 ⟨rfl, hc6⟩
  have HD2 : Hid (DA y6 base qq b A) := HD1.out.keep hc6
  have HL2 : Hid (Below x.heap.size x y6) := HL1.out.trans (hc6.mono HL1.out.size)
  have HS6 : Hid ((fun y => RdAt y x.heap.size (.slice a n c) ⟨qr, qf, true, qs, qd⟩) y6) := HS1.out.keep hc6
  clear hc6
  (refine hK _ _ HS6.out ?_; clear hK K; intro _)
  try simp only [Act.put, List.setIfInBounds_toArray, List.set_cons_zero, List.set_cons_succ]
  refine wpAnyH_take (i := 11) (oi := { dst := some 21, op := Op.binOp BinOp.neq 3 (Operand.tmp 16) (Operand.tmp 20) 3, type := 4, pos := "law.go:57", after := #[{ on := 6, ground := Ground.data }, { on := 10, ground := Ground.data }, { on := 4, ground := Ground.guard }], guard := some (4, false) }) (v := .bool false) rfl (by kernel_rfl) (by kernel_rfl) (by kernel_rfl) (fun _ _ _ h => h) (Or.inl ⟨by rfl, ?_⟩) HS6.out ?_
  · (intro y hy; go_simp)
  simp only [Act.put, List.setIfInBounds_toArray, List.set_cons_zero, List.set_cons_succ]
  refine wpAnyH_take (i := 12) (oi := { dst := some 22, op := Op.pick (Operand.tmp 14) (Operand.const (Value.bool true)) (Operand.tmp 21), type := 4, pos := "law.go:57", after := #[{ on := 4, ground := Ground.data }, { on := 11, ground := Ground.data }], guard := none }) (v := .bool false) rfl (by kernel_rfl) (by kernel_rfl) (by kernel_rfl) (fun _ _ _ h => h) (Or.inl ⟨by rfl, ?_⟩) HS6.out ?_
  · (intro y hy; go_simp)
  simp only [Act.put, List.setIfInBounds_toArray, List.set_cons_zero, List.set_cons_succ]
  refine wpAnyH_take (i := 13) (oi := { dst := some 23, op := Op.move (Operand.tmp 22), type := 4, pos := "law.go:57", after := #[{ on := 12, ground := Ground.data }, { on := 6, ground := Ground.chain }], guard := none }) (v := ?_) rfl (by kernel_rfl) (by kernel_rfl) (by kernel_rfl) (fun _ _ _ h => h) (Or.inl ⟨by rfl, ?_⟩) HS6.out ?_
  rotate_left
  · (intro y hy; go_simp; try (with_reducible rfl))
  simp only [Act.put, List.setIfInBounds_toArray, List.set_cons_zero, List.set_cons_succ]
  refine wpAnyH_take (i := 14) (oi := { dst := some 24, op := Op.move (Operand.tmp 0), type := 24, pos := "law.go:57", after := #[{ on := 13, ground := Ground.guard }], guard := some (13, false) }) (v := ?_) rfl (by kernel_rfl) (by kernel_rfl) (by kernel_rfl) (fun _ _ _ h => h) (Or.inl ⟨by rfl, ?_⟩) HS6.out ?_
  rotate_left
  · (intro y hy; go_simp; try (with_reducible rfl))
  simp only [Act.put, List.setIfInBounds_toArray, List.set_cons_zero, List.set_cons_succ]
  refine wpAnyH_take (i := 16) (oi := { dst := some 26, op := Op.fieldAddr 28 (Operand.tmp 3) 4, type := 0, pos := "law.go:57", after := #[{ on := 13, ground := Ground.guard }], guard := some (13, false) }) (v := ?_) rfl (by kernel_rfl) (by kernel_rfl) (by kernel_rfl) (fun _ _ _ h => h) (Or.inl ⟨by rfl, ?_⟩) HS6.out ?_
  rotate_left
  · (intro y hy; go_simp; try (with_reducible rfl))
  simp only [Act.put, List.setIfInBounds_toArray, List.set_cons_zero, List.set_cons_succ]
  refine wpAnyH_take (i := 17) (oi := { dst := some 27, op := Op.load 3 (Operand.tmp 26), type := 3, pos := "law.go:57", after := #[{ on := 16, ground := Ground.data }, { on := 13, ground := Ground.guard }], guard := some (13, false) }) (v := .int .i64 qs) rfl (by kernel_rfl) (by kernel_rfl) (by kernel_rfl) (fun _ _ _ h => h) (Or.inl ⟨by rfl, ?_⟩) HS6.out ?_
  · (intro y hy; have h0 := (RdAt.cells hy).2.2.2.2.1; go_simp)
  simp only [Act.put, List.setIfInBounds_toArray, List.set_cons_zero, List.set_cons_succ]
  refine wpAnyH_ready (rs := [15]) (by kernel_rfl) (by simp) ?_
  refine AllReadyH.cons (o := { dst := some 25, op := Op.call { callee := Callee.value (Operand.func 37), args := #[Operand.tmp 24], argTypes := #[24] }, type := 3, pos := "law.go:57", after := #[{ on := 14, ground := Ground.data }, { on := 13, ground := Ground.chain }, { on := 13, ground := Ground.guard }], guard := some (13, false) }) rfl (fun K hK => ?_) AllReadyH.nil
  go_simp
  refine (steps_A HD2.out).mono ?_
  rw [HQ.out.2.2.1]
  rintro _ y15 ⟨rfl, rfl⟩
  have HS15 : Hid ((fun y => RdAt y x.heap.size (.slice a n c) ⟨qr, qf, true, qs, qd⟩) y6) := HS6.out
  (refine hK _ _ HS15.out ?_; clear hK K; intro _)
  try simp only [Act.put, List.setIfInBounds_toArray, List.set_cons_zero, List.set_cons_succ]
  refine wpAnyH_take (i := 18) (oi := { dst := some 28, op := Op.binOp BinOp.neq 3 (Operand.tmp 25) (Operand.tmp 27) 3, type := 4, pos := "law.go:57", after := #[{ on := 15, ground := Ground.data }, { on := 17, ground := Ground.data }, { on := 13, ground := Ground.guard }], guard := some (13, false) }) (v := .bool false) rfl (by kernel_rfl) (by kernel_rfl) (by kernel_rfl) (fun _ _ _ h => h) (Or.inl ⟨by rfl, ?_⟩) HS15.out ?_
  · (intro y hy; go_simp)
  simp only [Act.put, List.setIfInBounds_toArray, List.set_cons_zero, List.set_cons_succ]
  refine wpAnyH_take (i := 19) (oi := { dst := some 29, op := Op.pick (Operand.tmp 23) (Operand.const (Value.bool true)) (Operand.tmp 28), type := 4, pos := "law.go:57", after := #[{ on := 13, ground := Ground.data }, { on := 18, ground := Ground.data }], guard := none }) (v := .bool false) rfl (by kernel_rfl) (by kernel_rfl) (by kernel_rfl) (fun _ _ _ h => h) (Or.inl ⟨by rfl, ?_⟩) HS15.out ?_
  · (intro y hy; go_simp)
  simp only [Act.put, List.setIfInBounds_toArray, List.set_cons_zero, List.set_cons_succ]
  refine wpAnyH_take (i := 20) (oi := { dst := some 30, op := Op.move (Operand.tmp 29), type := 4, pos := "law.go:57", after := #[{ on := 19, ground := Ground.data }, { on := 15, ground := Ground.chain }], guard := none }) (v := ?_) rfl (by kernel_rfl) (by kernel_rfl) (by kernel_rfl) (fun _ _ _ h => h) (Or.inl ⟨by rfl, ?_⟩) HS15.out ?_
  rotate_left
  · (intro y hy; go_simp; try (with_reducible rfl))
  simp only [Act.put, List.setIfInBounds_toArray, List.set_cons_zero, List.set_cons_succ]
  refine wpAnyH_take (i := 21) (oi := { dst := some 31, op := Op.move (Operand.tmp 0), type := 24, pos := "law.go:57", after := #[{ on := 20, ground := Ground.guard }], guard := some (20, false) }) (v := ?_) rfl (by kernel_rfl) (by kernel_rfl) (by kernel_rfl) (fun _ _ _ h => h) (Or.inl ⟨by rfl, ?_⟩) HS15.out ?_
  rotate_left
  · (intro y hy; go_simp; try (with_reducible rfl))
  simp only [Act.put, List.setIfInBounds_toArray, List.set_cons_zero, List.set_cons_succ]
  refine wpAnyH_take (i := 23) (oi := { dst := some 33, op := Op.fieldAddr 28 (Operand.tmp 3) 5, type := 0, pos := "law.go:57", after := #[{ on := 20, ground := Ground.guard }], guard := some (20, false) }) (v := ?_) rfl (by kernel_rfl) (by kernel_rfl) (by kernel_rfl) (fun _ _ _ h => h) (Or.inl ⟨by rfl, ?_⟩) HS15.out ?_
  rotate_left
  · (intro y hy; go_simp; try (with_reducible rfl))
  simp only [Act.put, List.setIfInBounds_toArray, List.set_cons_zero, List.set_cons_succ]
  refine wpAnyH_take (i := 24) (oi := { dst := some 34, op := Op.load 3 (Operand.tmp 33), type := 3, pos := "law.go:57", after := #[{ on := 23, ground := Ground.data }, { on := 20, ground := Ground.guard }], guard := some (20, false) }) (v := .int .i64 qd) rfl (by kernel_rfl) (by kernel_rfl) (by kernel_rfl) (fun _ _ _ h => h) (Or.inl ⟨by rfl, ?_⟩) HS15.out ?_
  · (intro y hy; have h0 := (RdAt.cells hy).2.2.2.2.2; go_simp)
  simp only [Act.put, List.setIfInBounds_toArray, List.set_cons_zero, List.set_cons_succ]
  refine wpAnyH_ready (rs := [22]) (by kernel_rfl) (by simp) ?_
  refine AllReadyH.cons (o := { dst := some 32, op := Op.call { callee := Callee.value (Operand.func 41), args := #[Operand.tmp 31], argTypes := #[24] }, type := 3, pos := "law.go:57", after := #[{ on := 21, ground := Ground.data }, { on := 20, ground := Ground.chain }, { on := 20, ground := Ground.guard }], guard := some (20, false) }) rfl (fun K hK => ?_) AllReadyH.nil
  go_simp
  refine (readb_A HD2.out).mono ?_
  rw [HQ.out.2.2.2]
  rintro _ y22 ⟨rfl, rfl⟩
  have HS22 : Hid ((fun y => RdAt y x.heap.size (.slice a n c) ⟨qr, qf, true, qs, qd⟩) y6) := HS15.out
  (refine hK _ _ HS22.out ?_; clear hK K; intro _)
  try simp only [Act.put, List.setIfInBounds_toArray, List.set_cons_zero, List.set_cons_succ]
  refine wpAnyH_take (i := 25) (oi := { dst := some 35, op := Op.binOp BinOp.neq 3 (Operand.tmp 32) (Operand.tmp 34) 3, type := 4, pos := "law.go:57", after := #[{ on := 22, ground := Ground.data }, { on := 24, ground := Ground.data }, { on := 20, ground := Ground.guard }], guard := some (20, false) }) (v := .bool false) rfl (by kernel_rfl) (by kernel_rfl) (by kernel_rfl) (fun _ _ _ h => h) (Or.inl ⟨by rfl, ?_⟩) HS22.out ?_
  · (intro y hy; go_simp)
  simp only [Act.put, List.setIfInBounds_toArray, List.set_cons_zero, List.set_cons_succ]
  refine wpAnyH_take (i := 26) (oi := { dst := some 36, op := Op.pick (Operand.tmp 30) (Operand.const (Value.bool true)) (Operand.tmp 35), type := 4, pos := "law.go:57", after := #[{ on := 20, ground := Ground.data }, { on := 25, ground := Ground.data }], guard := none }) (v := .bool false) rfl (by kernel_rfl) (by kernel_rfl) (by kernel_rfl) (fun _ _ _ h => h) (Or.inl ⟨by rfl, ?_⟩) HS22.out ?_
  · (intro y hy; go_simp)
  simp only [Act.put, List.setIfInBounds_toArray, List.set_cons_zero, List.set_cons_succ]
  refine wpAnyH_take (i := 27) (oi := { dst := some 37, op := Op.move (Operand.tmp 36), type := 4, pos := "law.go:57", after := #[{ on := 26, ground := Ground.data }, { on := 22, ground := Ground.chain }], guard := none }) (v := ?_) rfl (by kernel_rfl) (by kernel_rfl) (by kernel_rfl) (fun _ _ _ h => h) (Or.inl ⟨by rfl, ?_⟩) HS22.out ?_
  rotate_left
  · (intro y hy; go_simp; try (with_reducible rfl))
  simp only [Act.put, List.setIfInBounds_toArray, List.set_cons_zero, List.set_cons_succ]
  refine wpAnyH_take (i := 28) (oi := { dst := some 38, op := Op.move (Operand.tmp 0), type := 24, pos := "law.go:57", after := #[{ on := 27, ground := Ground.guard }], guard := some (27, false) }) (v := ?_) rfl (by kernel_rfl) (by kernel_rfl) (by kernel_rfl) (fun _ _ _ h => h) (Or.inl ⟨by rfl, ?_⟩) HS22.out ?_
  rotate_left
  · (intro y hy; go_simp; try (with_reducible rfl))
  simp only [Act.put, List.setIfInBounds_toArray, List.set_cons_zero, List.set_cons_succ]
  refine wpAnyH_take (i := 30) (oi := { dst := some 40, op := Op.fieldAddr 28 (Operand.tmp 3) 3, type := 0, pos := "law.go:57", after := #[{ on := 27, ground := Ground.guard }], guard := some (27, false) }) (v := ?_) rfl (by kernel_rfl) (by kernel_rfl) (by kernel_rfl) (fun _ _ _ h => h) (Or.inl ⟨by rfl, ?_⟩) HS22.out ?_
  rotate_left
  · (intro y hy; go_simp; try (with_reducible rfl))
  simp only [Act.put, List.setIfInBounds_toArray, List.set_cons_zero, List.set_cons_succ]
  refine wpAnyH_take (i := 31) (oi := { dst := some 41, op := Op.load 4 (Operand.tmp 40), type := 4, pos := "law.go:57", after := #[{ on := 30, ground := Ground.data }, { on := 27, ground := Ground.guard }], guard := some (27, false) }) (v := .bool true) rfl (by kernel_rfl) (by kernel_rfl) (by kernel_rfl) (fun _ _ _ h => h) (Or.inl ⟨by rfl, ?_⟩) HS22.out ?_
  · (intro y hy; have h0 := (RdAt.cells hy).2.2.2.1; go_simp)
  simp only [Act.put, List.setIfInBounds_toArray, List.set_cons_zero, List.set_cons_succ]
  refine wpAnyH_ready (rs := [29]) (by kernel_rfl) (by simp) ?_
  refine AllReadyH.cons (o := { dst := some 39, op := Op.call { callee := Callee.value (Operand.func 34), args := #[Operand.tmp 38], argTypes := #[24] }, type := 4, pos := "law.go:57", after := #[{ on := 28, ground := Ground.data }, { on := 27, ground := Ground.chain }, { on := 27, ground := Ground.guard }], guard := some (27, false) }) rfl (fun K hK => ?_) AllReadyH.nil
  go_simp
  refine (down_A HD2.out).mono ?_
  rw [HQ.out.2.1]
  rintro _ y29 ⟨rfl, rfl⟩
  have HS29 : Hid ((fun y => RdAt y x.heap.size (.slice a n c) ⟨qr, qf, true, qs, qd⟩) y6) := HS22.out
  (refine hK _ _ HS29.out ?_; clear hK K; intro _)
  try simp only [Act.put, List.setIfInBounds_toArray, List.set_cons_zero, List.set_cons_succ]
  refine wpAnyH_take (i := 32) (oi := { dst := some 42, op := Op.binOp BinOp.neq 4 (Operand.tmp 39) (Operand.tmp 41) 4, type := 4, pos := "law.go:57", after := #[{ on := 29, ground := Ground.data }, { on := 31, ground := Ground.data }, { on := 27, ground := Ground.guard }], guard := some (27, false) }) (v := .bool false) rfl (by kernel_rfl) (by kernel_rfl) (by kernel_rfl) (fun _ _ _ h => h) (Or.inl ⟨by rfl, ?_⟩) HS29.out ?_
  · (intro y hy; go_simp)
  simp only [Act.put, List.setIfInBounds_toArray, List.set_cons_zero, List.set_cons_succ]
  refine wpAnyH_take (i := 33) (oi := { dst := some 43, op := Op.pick (Operand.tmp 37) (Operand.const (Value.bool true)) (Operand.tmp 42), type := 4, pos := "law.go:57", after := #[{ on := 27, ground := Ground.data }, { on := 32, ground := Ground.data }], guard := none }) (v := .bool false) rfl (by kernel_rfl) (by kernel_rfl) (by kernel_rfl) (fun _ _ _ h => h) (Or.inl ⟨by rfl, ?_⟩) HS29.out ?_
  · (intro y hy; go_simp)
  simp only [Act.put, List.setIfInBounds_toArray, List.set_cons_zero, List.set_cons_succ]
  refine wpAnyH_done (by kernel_rfl) ?_ _
  go_wp2_with (first
    | (go_at_call 35; refine (list_A HD2.out HOK.out).mono ?_; rw [HOFF.out]; rintro _ y7 ⟨v7, rfl, hv7, hb7⟩; have HL7 : Hid (Below x.heap.size x y7) := HL2.out.trans (hb7.mono HL2.out.size); have HS7 : Hid (RdAt y7 x.heap.size (.slice a n c) ⟨qr, qf, true, qs, qd⟩) := HS29.out.keep hb7; obtain ⟨e0, e1, e2, e3, e4, e5⟩ := HS7.out.cells; obtain ⟨g7, c7, rfl⟩ : ∃ g7 c7, v7 = .slice g7 0 c7 := (by rcases ownT_slice hv7 with ⟨h1, _⟩ | ⟨g, cp, h1, h2, h3⟩; exact ⟨_, _, h1⟩; exact ⟨_, _, h1⟩); clear hb7 hv7)
    | go_in)
  go_ret
  exact ⟨rfl, HL7.out⟩
set_option maxRecDepth 100000 in
set_option maxHeartbeats 4000000 in
theorem told_up (x : World) (base qq b : Nat) (A : Ak) (X : List (Fa × Value)) (a : Option Addr) (n c : Nat) (h : DA x base qq b A) (ok : AkOk A) (hR : RefD x A X a n) (hoff : A.off = false) :
    Calls Try.prog 16 #[.pointer (some ⟨qq, 0, none⟩), rdV (.slice a n c) A.rn] x fun r x' => r = .returned (.bool true) ∧ Below x.heap.size x x' := by
  obtain ⟨⟨qr, qf, qo, qs, qd⟩, hq⟩ : ∃ Q, A.rn = Q := ⟨_, rfl⟩
  have HQ : Hid (A.room = qr ∧ A.off = qo ∧ A.steps = qs ∧ A.read = qd) := ⟨congrArg Rn.room hq, congrArg Rn.off hq, congrArg Rn.steps hq, congrArg Rn.read hq⟩
  rw [hq]
  obtain ⟨U, hU⟩ : ∃ U, usedA A.fs = U := ⟨_, rfl⟩
  have HU : Hid (usedA A.fs = U) := hU
  obtain ⟨R, hRR⟩ : ∃ R, qr - (U : Int) = R := ⟨_, rfl⟩
  have HRR : Hid (qr - (U : Int) = R) := hRR
  have HR : Hid (IntKind.i64.wrap (qr - (U : Int)) = R) := by
    show _ = _
    have h1 := ok.room; have h2 := ok.used; rw [hU] at h2; rw [HQ.out.1] at h1 h2
    rw [hRR, wrap_i64]; omega
  have HOK : Hid (AkOk A) := ok
  have HD : Hid (DA x base qq b A) := h
  have HRF : Hid (RefD x A X a n) := hR
  have HLN : Hid (A.fs.length = n) := by show _ = _; rw [← hR.ab, List.length_map, hR.len]
  have hnI : (n : Int) ≤ 700 := by have h1 := ok.few; rw [HLN.out] at h1; omega
  have hn0 : (0 : Int) ≤ (n : Int) := by omega
  have hU0 : (0 : Int) ≤ (U : Int) := by omega
  have HOFF : Hid (A.off = false) := hoff
  obtain rfl : qo = false := HQ.out.2.1.symm.trans hoff
  have hr0 := RdAt.new x (.slice a n c) ⟨qr, qf, false, qs, qd⟩
  obtain ⟨z0, hz0⟩ : ∃ z0, x.alloc (.cells #[.slice a n c, .int .i64 qr, .int .i64 qf, .bool false, .int .i64 qs, .int .i64 qd] 28) = z0 := ⟨_, rfl⟩
  have HZ0 : Hid (x.alloc (.cells #[.slice a n c, .int .i64 qr, .int .i64 qf, .bool false, .int .i64 qs, .int .i64 qd] 28) = z0) := hz0
  rw [hz0] at hr0
  have HR0 : Hid (RdAt z0 x.heap.size (.slice a n c) ⟨qr, qf, false, qs, qd⟩ ∧ Below x.heap.size x z0) := ⟨hr0, by rw [← hz0]; exact (Below.refl _ _).alloc (Nat.le_refl _) _⟩
  clear h ok hR hq hU hRR hoff hr0 hz0
  go_enter Try.func16, Try.ntmps16
  go_upto_region 1 with fail
  try simp only [Act.put]
  rw [HZ0.out]
  go_wp2_with (first
    | ((with_reducible refine guard_load 28 ?_); refine wpList_load_rd rfl _ rfl HR0.out.1 rfl ?_)
    | (go_at_call 44; refine (rused_any z0 X a n c ⟨qr, qf, false, qs, qd⟩ HRF.out.len (HRF.out.fls.keep HR0.out.2) (by omega) (by rw [HRF.out.ab]; have h1 := HOK.out.used; have h2 := HOK.out.room.2; omega)).mono ?_; rw [HRF.out.ab, HU.out]; rintro _ z1 ⟨rfl, hb1⟩; have HB1 : Hid (Below x.heap.size x z1) := HR0.out.2.trans (hb1.mono HR0.out.2.size); have HR1 : Hid (RdAt z1 x.heap.size (.slice a n c) ⟨qr, qf, false, qs, qd⟩) := HR0.out.1.keep hb1; clear hb1)
    | go_in)
  refine wp_region_held (S := (fun y => RdAt y x.heap.size (.slice a n c) ⟨qr, qf, false, qs, qd⟩)) (by kernel_rfl) ?_
  change wpAnyH _ _ _ _ _ _ _ _ (World.drew _)
  obtain ⟨xd, hxd⟩ : ∃ xd, World.drew z1 = xd := ⟨_, rfl⟩
  have HL0 : Hid (Below x.heap.size x xd) := by rw [← hxd]; exact HB1.out.drew
  have HPD : Hid ((fun y => RdAt y x.heap.size (.slice a n c) ⟨qr, qf, false, qs, qd⟩) xd) := by rw [← hxd]; exact HR1.out.keep (Below.refl _ _).drew
  have HD0 : Hid (DA xd base qq b A) := HD.out.keep HL0.out
  rw [hxd]
  clear hxd
  refine wpAnyH_take (i := 0) (oi := { dst := some 10, op := Op.move (Operand.tmp 0), type := 24, pos := "law.go:57", after := #[], guard := none }) (v := ?_) rfl (by kernel_rfl) (by kernel_rfl) (by kernel_rfl) (fun _ _ _ h => h) (Or.inl ⟨by rfl, ?_⟩) HPD.out ?_
  rotate_left
  · (intro y hy; go_simp; try (with_reducible rfl))
  simp only [Act.put, List.setIfInBounds_toArray, List.set_cons_zero, List.set_cons_succ]
  refine wpAnyH_take (i := 2) (oi := { dst := some 12, op := Op.move (Operand.tmp 5), type := 3, pos := "law.go:57", after := #[], guard := none }) (v := ?_) rfl (by kernel_rfl) (by kernel_rfl) (by kernel_rfl) (fun _ _ _ h => h) (Or.inl ⟨by rfl, ?_⟩) HPD.out ?_
  rotate_left
  · (intro y hy; go_simp; try (with_reducible rfl))
  simp only [Act.put, List.setIfInBounds_toArray, List.set_cons_zero, List.set_cons_succ]
  refine wpAnyH_ready (rs := [1]) (by kernel_rfl) (by simp) ?_
  refine AllReadyH.cons (o := { dst := some 11, op := Op.call { callee := Callee.value (Operand.func 38), args := #[Operand.tmp 10], argTypes := #[24] }, type := 3, pos := "law.go:57", after := #[{ on := 0, ground := Ground.data }], guard := none }) rfl (fun K hK => ?_) AllReadyH.nil
  go_simp
  refine (used_A HD0.out HOK.out).mono ?_
  rw [HU.out]
  rintro _ y1 ⟨rfl, hc1⟩
  have HD1 : Hid (DA y1 base qq b A) := HD0.out.keep hc1
  have HL1 : Hid (Below x.heap.size x y1) := HL0.out.trans (hc1.mono HL0.out.size)
  have HS1 : Hid ((fun y => RdAt y x.heap.size (.slice a n c) ⟨qr, qf, false, qs, qd⟩) y1) := HPD.out.keep hc1
  clear hc1
  (refine hK _ _ HS1.out ?_; clear hK K; intro _)
  try simp only [Act.put, List.setIfInBounds_toArray, List.set_cons_zero, List.set_cons_succ]
  refine wpAnyH_take (i := 3) (oi := { dst := some 13, op := Op.binOp BinOp.neq 3 (Operand.tmp 11) (Operand.tmp 12) 3, type := 4, pos := "law.go:57", after := #[{ on := 1, ground := Ground.data }, { on := 2, ground := Ground.data }], guard := none }) (v := .bool false) rfl (by kernel_rfl) (by kernel_rfl) (by kernel_rfl) (fun _ _ _ h => h) (Or.inl ⟨by rfl, ?_⟩) HS1.out ?_
  · (intro y hy; go_simp)
  simp only [Act.put, List.setIfInBounds_toArray, List.set_cons_zero, List.set_cons_succ]
  refine wpAnyH_take (i := 4) (oi := { dst := some 14, op := Op.move (Operand.tmp 13), type := 4, pos := "law.go:57", after := #[{ on := 3, ground := Ground.data }, { on := 1, ground := Ground.chain }], guard := none }) (v := ?_) rfl (by kernel_rfl) (by kernel_rfl) (by kernel_rfl) (fun _ _ _ h => h) (Or.inl ⟨by rfl, ?_⟩) HS1.out ?_
  rotate_left
  · (intro y hy; go_simp; try (with_reducible rfl))
  simp only [Act.put, List.setIfInBounds_toArray, List.set_cons_zero, List.set_cons_succ]
  refine wpAnyH_take (i := 5) (oi := { dst := some 15, op := Op.move (Operand.tmp 0), type := 24, pos := "law.go:57", after := #[{ on := 4, ground := Ground.guard }], guard := some (4, false) }) (v := ?_) rfl (by kernel_rfl) (by kernel_rfl) (by kernel_rfl) (fun _ _ _ h => h) (Or.inl ⟨by rfl, ?_⟩) HS1.out ?_
  rotate_left
  · (intro y hy; go_simp; try (with_reducible rfl))
  simp only [Act.put, List.setIfInBounds_toArray, List.set_cons_zero, List.set_cons_succ]
  refine wpAnyH_take (i := 7) (oi := { dst := some 17, op := Op.fieldAddr 28 (Operand.tmp 3) 1, type := 0, pos := "law.go:57", after := #[{ on := 4, ground := Ground.guard }], guard := some (4, false) }) (v := ?_) rfl (by kernel_rfl) (by kernel_rfl) (by kernel_rfl) (fun _ _ _ h => h) (Or.inl ⟨by rfl, ?_⟩) HS1.out ?_
  rotate_left
  · (intro y hy; go_simp; try (with_reducible rfl))
  simp only [Act.put, List.setIfInBounds_toArray, List.set_cons_zero, List.set_cons_succ]
  refine wpAnyH_take (i := 8) (oi := { dst := some 18, op := Op.load 3 (Operand.tmp 17), type := 3, pos := "law.go:57", after := #[{ on := 7, ground := Ground.data }, { on := 4, ground := Ground.guard }], guard := some (4, false) }) (v := .int .i64 qr) rfl (by kernel_rfl) (by kernel_rfl) (by kernel_rfl) (fun _ _ _ h => h) (Or.inl ⟨by rfl, ?_⟩) HS1.out ?_
  · (intro y hy; have h0 := (RdAt.cells hy).2.1; go_simp)
  simp only [Act.put, List.setIfInBounds_toArray, List.set_cons_zero, List.set_cons_succ]
  refine wpAnyH_take (i := 9) (oi := { dst := some 19, op := Op.move (Operand.tmp 5), type := 3, pos := "law.go:57", after := #[{ on := 4, ground := Ground.guard }], guard := some (4, false) }) (v := ?_) rfl (by kernel_rfl) (by kernel_rfl) (by kernel_rfl) (fun _ _ _ h => h) (Or.inl ⟨by rfl, ?_⟩) HS1.out ?_
  rotate_left
  · (intro y hy; go_simp; try (with_reducible rfl))
  simp only [Act.put, List.setIfInBounds_toArray, List.set_cons_zero, List.set_cons_succ]
  refine wpAnyH_take (i := 10) (oi := { dst := some 20, op := Op.binOp BinOp.sub 3 (Operand.tmp 18) (Operand.tmp 19) 3, type := 3, pos := "law.go:57", after := #[{ on := 8, ground := Ground.data }, { on := 9, ground := Ground.data }, { on := 4, ground := Ground.guard }], guard := some (4, false) }) (v := .int .i64 R) rfl (by kernel_rfl) (by kernel_rfl) (by kernel_rfl) (fun _ _ _ h => h) (Or.inl ⟨by rfl, ?_⟩) HS1.out ?_
  · (intro y hy; have h0 := HR.out; go_simp)
  simp only [Act.put, List.setIfInBounds_toArray, List.set_cons_zero, List.set_cons_succ]
  refine wpAnyH_ready (rs := [6]) (by kernel_rfl) (by simp) ?_
  refine AllReadyH.cons (o := { dst := some 16, op := Op.call { callee := Callee.value (Operand.func 31), args := #[Operand.tmp 15], argTypes := #[24] }, type := 3, pos := "law.go:57", after := #[{ on := 5, ground := Ground.data }, { on := 4, ground := Ground.chain }, { on := 4, ground := Ground.guard }], guard := some (4, false) }) rfl (fun K hK => ?_) AllReadyH.nil
  go_simp
  refine (free_A HD1.out HOK.out).mono ?_
  rw [HU.out, HQ.out.1, HRR.out]
  rintro _ y6 ⟨rfl, hc6⟩
  have HD2 : Hid (DA y6 base qq b A) := HD1.out.keep hc6
  have HL2 : Hid (Below x.heap.size x y6) := HL1.out.trans (hc6.mono HL1.out.size)
  have HS6 : Hid ((fun y => RdAt y x.heap.size (.slice a n c) ⟨qr, qf, false, qs, qd⟩) y6) := HS1.out.keep hc6
  clear hc6
  (refine hK _ _ HS6.out ?_; clear hK K; intro _)
  try simp only [Act.put, List.setIfInBounds_toArray, List.set_cons_zero, List.set_cons_succ]
  refine wpAnyH_take (i := 11) (oi := { dst := some 21, op := Op.binOp BinOp.neq 3 (Operand.tmp 16) (Operand.tmp 20) 3, type := 4, pos := "law.go:57", after := #[{ on := 6, ground := Ground.data }, { on := 10, ground := Ground.data }, { on := 4, ground := Ground.guard }], guard := some (4, false) }) (v := .bool false) rfl (by kernel_rfl) (by kernel_rfl) (by kernel_rfl) (fun _ _ _ h => h) (Or.inl ⟨by rfl, ?_⟩) HS6.out ?_
  · (intro y hy; go_simp)
  simp only [Act.put, List.setIfInBounds_toArray, List.set_cons_zero, List.set_cons_succ]
  refine wpAnyH_take (i := 12) (oi := { dst := some 22, op := Op.pick (Operand.tmp 14) (Operand.const (Value.bool true)) (Operand.tmp 21), type := 4, pos := "law.go:57", after := #[{ on := 4, ground := Ground.data }, { on := 11, ground := Ground.data }], guard := none }) (v := .bool false) rfl (by kernel_rfl) (by kernel_rfl) (by kernel_rfl) (fun _ _ _ h => h) (Or.inl ⟨by rfl, ?_⟩) HS6.out ?_
  · (intro y hy; go_simp)
  simp only [Act.put, List.setIfInBounds_toArray, List.set_cons_zero, List.set_cons_succ]
  refine wpAnyH_take (i := 13) (oi := { dst := some 23, op := Op.move (Operand.tmp 22), type := 4, pos := "law.go:57", after := #[{ on := 12, ground := Ground.data }, { on := 6, ground := Ground.chain }], guard := none }) (v := ?_) rfl (by kernel_rfl) (by kernel_rfl) (by kernel_rfl) (fun _ _ _ h => h) (Or.inl ⟨by rfl, ?_⟩) HS6.out ?_
  rotate_left
  · (intro y hy; go_simp; try (with_reducible rfl))
  simp only [Act.put, List.setIfInBounds_toArray, List.set_cons_zero, List.set_cons_succ]
  refine wpAnyH_take (i := 14) (oi := { dst := some 24, op := Op.move (Operand.tmp 0), type := 24, pos := "law.go:57", after := #[{ on := 13, ground := Ground.guard }], guard := some (13, false) }) (v := ?_) rfl (by kernel_rfl) (by kernel_rfl) (by kernel_rfl) (fun _ _ _ h => h) (Or.inl ⟨by rfl, ?_⟩) HS6.out ?_
  rotate_left
  · (intro y hy; go_simp; try (with_reducible rfl))
  simp only [Act.put, List.setIfInBounds_toArray, List.set_cons_zero, List.set_cons_succ]
  refine wpAnyH_take (i := 16) (oi := { dst := some 26, op := Op.fieldAddr 28 (Operand.tmp 3) 4, type := 0, pos := "law.go:57", after := #[{ on := 13, ground := Ground.guard }], guard := some (13, false) }) (v := ?_) rfl (by kernel_rfl) (by kernel_rfl) (by kernel_rfl) (fun _ _ _ h => h) (Or.inl ⟨by rfl, ?_⟩) HS6.out ?_
  rotate_left
  · (intro y hy; go_simp; try (with_reducible rfl))
  simp only [Act.put, List.setIfInBounds_toArray, List.set_cons_zero, List.set_cons_succ]
  refine wpAnyH_take (i := 17) (oi := { dst := some 27, op := Op.load 3 (Operand.tmp 26), type := 3, pos := "law.go:57", after := #[{ on := 16, ground := Ground.data }, { on := 13, ground := Ground.guard }], guard := some (13, false) }) (v := .int .i64 qs) rfl (by kernel_rfl) (by kernel_rfl) (by kernel_rfl) (fun _ _ _ h => h) (Or.inl ⟨by rfl, ?_⟩) HS6.out ?_
  · (intro y hy; have h0 := (RdAt.cells hy).2.2.2.2.1; go_simp)
  simp only [Act.put, List.setIfInBounds_toArray, List.set_cons_zero, List.set_cons_succ]
  refine wpAnyH_ready (rs := [15]) (by kernel_rfl) (by simp) ?_
  refine AllReadyH.cons (o := { dst := some 25, op := Op.call { callee := Callee.value (Operand.func 37), args := #[Operand.tmp 24], argTypes := #[24] }, type := 3, pos := "law.go:57", after := #[{ on := 14, ground := Ground.data }, { on := 13, ground := Ground.chain }, { on := 13, ground := Ground.guard }], guard := some (13, false) }) rfl (fun K hK => ?_) AllReadyH.nil
  go_simp
  refine (steps_A HD2.out).mono ?_
  rw [HQ.out.2.2.1]
  rintro _ y15 ⟨rfl, rfl⟩
  have HS15 : Hid ((fun y => RdAt y x.heap.size (.slice a n c) ⟨qr, qf, false, qs, qd⟩) y6) := HS6.out
  (refine hK _ _ HS15.out ?_; clear hK K; intro _)
  try simp only [Act.put, List.setIfInBounds_toArray, List.set_cons_zero, List.set_cons_succ]
  refine wpAnyH_take (i := 18) (oi := { dst := some 28, op := Op.binOp BinOp.neq 3 (Operand.tmp 25) (Operand.tmp 27) 3, type := 4, pos := "law.go:57", after := #[{ on := 15, ground := Ground.data }, { on := 17, ground := Ground.data }, { on := 13, ground := Ground.guard }], guard := some (13, false) }) (v := .bool false) rfl (by kernel_rfl) (by kernel_rfl) (by kernel_rfl) (fun _ _ _ h => h) (Or.inl ⟨by rfl, ?_⟩) HS15.out ?_
  · (intro y hy; go_simp)
  simp only [Act.put, List.setIfInBounds_toArray, List.set_cons_zero, List.set_cons_succ]
  refine wpAnyH_take (i := 19) (oi := { dst := some 29, op := Op.pick (Operand.tmp 23) (Operand.const (Value.bool true)) (Operand.tmp 28), type := 4, pos := "law.go:57", after := #[{ on := 13, ground := Ground.data }, { on := 18, ground := Ground.data }], guard := none }) (v := .bool false) rfl (by kernel_rfl) (by kernel_rfl) (by kernel_rfl) (fun _ _ _ h => h) (Or.inl ⟨by rfl, ?_⟩) HS15.out ?_
  · (intro y hy; go_simp)
  simp only [Act.put, List.setIfInBounds_toArray, List.set_cons_zero, List.set_cons_succ]
  refine wpAnyH_take (i := 20) (oi := { dst := some 30, op := Op.move (Operand.tmp 29), type := 4, pos := "law.go:57", after := #[{ on := 19, ground := Ground.data }, { on := 15, ground := Ground.chain }], guard := none }) (v := ?_) rfl (by kernel_rfl) (by kernel_rfl) (by kernel_rfl) (fun _ _ _ h => h) (Or.inl ⟨by rfl, ?_⟩) HS15.out ?_
  rotate_left
  · (intro y hy; go_simp; try (with_reducible rfl))
  simp only [Act.put, List.setIfInBounds_toArray, List.set_cons_zero, List.set_cons_succ]
  refine wpAnyH_take (i := 21) (oi := { dst := some 31, op := Op.move (Operand.tmp 0), type := 24, pos := "law.go:57", after := #[{ on := 20, ground := Ground.guard }], guard := some (20, false) }) (v := ?_) rfl (by kernel_rfl) (by kernel_rfl) (by kernel_rfl) (fun _ _ _ h => h) (Or.inl ⟨by rfl, ?_⟩) HS15.out ?_
  rotate_left
  · (intro y hy; go_simp; try (with_reducible rfl))
  simp only [Act.put, List.setIfInBounds_toArray, List.set_cons_zero, List.set_cons_succ]
  refine wpAnyH_take (i := 23) (oi := { dst := some 33, op := Op.fieldAddr 28 (Operand.tmp 3) 5, type := 0, pos := "law.go:57", after := #[{ on := 20, ground := Ground.guard }], guard := some (20, false) }) (v := ?_) rfl (by kernel_rfl) (by kernel_rfl) (by kernel_rfl) (fun _ _ _ h => h) (Or.inl ⟨by rfl, ?_⟩) HS15.out ?_
  rotate_left
  · (intro y hy; go_simp; try (with_reducible rfl))
  simp only [Act.put, List.setIfInBounds_toArray, List.set_cons_zero, List.set_cons_succ]
  refine wpAnyH_take (i := 24) (oi := { dst := some 34, op := Op.load 3 (Operand.tmp 33), type := 3, pos := "law.go:57", after := #[{ on := 23, ground := Ground.data }, { on := 20, ground := Ground.guard }], guard := some (20, false) }) (v := .int .i64 qd) rfl (by kernel_rfl) (by kernel_rfl) (by kernel_rfl) (fun _ _ _ h => h) (Or.inl ⟨by rfl, ?_⟩) HS15.out ?_
  · (intro y hy; have h0 := (RdAt.cells hy).2.2.2.2.2; go_simp)
  simp only [Act.put, List.setIfInBounds_toArray, List.set_cons_zero, List.set_cons_succ]
  refine wpAnyH_ready (rs := [22]) (by kernel_rfl) (by simp) ?_
  refine AllReadyH.cons (o := { dst := some 32, op := Op.call { callee := Callee.value (Operand.func 41), args := #[Operand.tmp 31], argTypes := #[24] }, type := 3, pos := "law.go:57", after := #[{ on := 21, ground := Ground.data }, { on := 20, ground := Ground.chain }, { on := 20, ground := Ground.guard }], guard := some (20, false) }) rfl (fun K hK => ?_) AllReadyH.nil
  go_simp
  refine (readb_A HD2.out).mono ?_
  rw [HQ.out.2.2.2]
  rintro _ y22 ⟨rfl, rfl⟩
  have HS22 : Hid ((fun y => RdAt y x.heap.size (.slice a n c) ⟨qr, qf, false, qs, qd⟩) y6) := HS15.out
  (refine hK _ _ HS22.out ?_; clear hK K; intro _)
  try simp only [Act.put, List.setIfInBounds_toArray, List.set_cons_zero, List.set_cons_succ]
  refine wpAnyH_take (i := 25) (oi := { dst := some 35, op := Op.binOp BinOp.neq 3 (Operand.tmp 32) (Operand.tmp 34) 3, type := 4, pos := "law.go:57", after := #[{ on := 22, ground := Ground.data }, { on := 24, ground := Ground.data }, { on := 20, ground := Ground.guard }], guard := some (20, false) }) (v := .bool false) rfl (by kernel_rfl) (by kernel_rfl) (by kernel_rfl) (fun _ _ _ h => h) (Or.inl ⟨by rfl, ?_⟩) HS22.out ?_
  · (intro y hy; go_simp)
  simp only [Act.put, List.setIfInBounds_toArray, List.set_cons_zero, List.set_cons_succ]
  refine wpAnyH_take (i := 26) (oi := { dst := some 36, op := Op.pick (Operand.tmp 30) (Operand.const (Value.bool true)) (Operand.tmp 35), type := 4, pos := "law.go:57", after := #[{ on := 20, ground := Ground.data }, { on := 25, ground := Ground.data }], guard := none }) (v := .bool false) rfl (by kernel_rfl) (by kernel_rfl) (by kernel_rfl) (fun _ _ _ h => h) (Or.inl ⟨by rfl, ?_⟩) HS22.out ?_
  · (intro y hy; go_simp)
  simp only [Act.put, List.setIfInBounds_toArray, List.set_cons_zero, List.set_cons_succ]
  refine wpAnyH_take (i := 27) (oi := { dst := some 37, op := Op.move (Operand.tmp 36), type := 4, pos := "law.go:57", after := #[{ on := 26, ground := Ground.data }, { on := 22, ground := Ground.chain }], guard := none }) (v := ?_) rfl (by kernel_rfl) (by kernel_rfl) (by kernel_rfl) (fun _ _ _ h => h) (Or.inl ⟨by rfl, ?_⟩) HS22.out ?_
  rotate_left
  · (intro y hy; go_simp; try (with_reducible rfl))
  simp only [Act.put, List.setIfInBounds_toArray, List.set_cons_zero, List.set_cons_succ]
  refine wpAnyH_take (i := 28) (oi := { dst := some 38, op := Op.move (Operand.tmp 0), type := 24, pos := "law.go:57", after := #[{ on := 27, ground := Ground.guard }], guard := some (27, false) }) (v := ?_) rfl (by kernel_rfl) (by kernel_rfl) (by kernel_rfl) (fun _ _ _ h => h) (Or.inl ⟨by rfl, ?_⟩) HS22.out ?_
  rotate_left
  · (intro y hy; go_simp; try (with_reducible rfl))
  simp only [Act.put, List.setIfInBounds_toArray, List.set_cons_zero, List.set_cons_succ]
  refine wpAnyH_take (i := 30) (oi := { dst := some 40, op := Op.fieldAddr 28 (Operand.tmp 3) 3, type := 0, pos := "law.go:57", after := #[{ on := 27, ground := Ground.guard }], guard := some (27, false) }) (v := ?_) rfl (by kernel_rfl) (by kernel_rfl) (by kernel_rfl) (fun _ _ _ h => h) (Or.inl ⟨by rfl, ?_⟩) HS22.out ?_
  rotate_left
  · (intro y hy; go_simp; try (with_reducible rfl))
  simp only [Act.put, List.setIfInBounds_toArray, List.set_cons_zero, List.set_cons_succ]
  refine wpAnyH_take (i := 31) (oi := { dst := some 41, op := Op.load 4 (Operand.tmp 40), type := 4, pos := "law.go:57", after := #[{ on := 30, ground := Ground.data }, { on := 27, ground := Ground.guard }], guard := some (27, false) }) (v := .bool false) rfl (by kernel_rfl) (by kernel_rfl) (by kernel_rfl) (fun _ _ _ h => h) (Or.inl ⟨by rfl, ?_⟩) HS22.out ?_
  · (intro y hy; have h0 := (RdAt.cells hy).2.2.2.1; go_simp)
  simp only [Act.put, List.setIfInBounds_toArray, List.set_cons_zero, List.set_cons_succ]
  refine wpAnyH_ready (rs := [29]) (by kernel_rfl) (by simp) ?_
  refine AllReadyH.cons (o := { dst := some 39, op := Op.call { callee := Callee.value (Operand.func 34), args := #[Operand.tmp 38], argTypes := #[24] }, type := 4, pos := "law.go:57", after := #[{ on := 28, ground := Ground.data }, { on := 27, ground := Ground.chain }, { on := 27, ground := Ground.guard }], guard := some (27, false) }) rfl (fun K hK => ?_) AllReadyH.nil
  go_simp
  refine (down_A HD2.out).mono ?_
  rw [HQ.out.2.1]
  rintro _ y29 ⟨rfl, rfl⟩
  have HS29 : Hid ((fun y => RdAt y x.heap.size (.slice a n c) ⟨qr, qf, false, qs, qd⟩) y6) := HS22.out
  (refine hK _ _ HS29.out ?_; clear hK K; intro _)
  try simp only [Act.put, List.setIfInBounds_toArray, List.set_cons_zero, List.set_cons_succ]
  refine wpAnyH_take (i := 32) (oi := { dst := some 42, op := Op.binOp BinOp.neq 4 (Operand.tmp 39) (Operand.tmp 41) 4, type := 4, pos := "law.go:57", after := #[{ on := 29, ground := Ground.data }, { on := 31, ground := Ground.data }, { on := 27, ground := Ground.guard }], guard := some (27, false) }) (v := .bool false) rfl (by kernel_rfl) (by kernel_rfl) (by kernel_rfl) (fun _ _ _ h => h) (Or.inl ⟨by rfl, ?_⟩) HS29.out ?_
  · (intro y hy; go_simp)
  simp only [Act.put, List.setIfInBounds_toArray, List.set_cons_zero, List.set_cons_succ]
  refine wpAnyH_take (i := 33) (oi := { dst := some 43, op := Op.pick (Operand.tmp 37) (Operand.const (Value.bool true)) (Operand.tmp 42), type := 4, pos := "law.go:57", after := #[{ on := 27, ground := Ground.data }, { on := 32, ground := Ground.data }], guard := none }) (v := .bool false) rfl (by kernel_rfl) (by kernel_rfl) (by kernel_rfl) (fun _ _ _ h => h) (Or.inl ⟨by rfl, ?_⟩) HS29.out ?_
  · (intro y hy; go_simp)
  simp only [Act.put, List.setIfInBounds_toArray, List.set_cons_zero, List.set_cons_succ]
  refine wpAnyH_done (by kernel_rfl) ?_ _
  go_wp2_with (first
    | (go_at_call 35; refine (list_A HD2.out HOK.out).mono ?_; rw [HOFF.out]; rintro _ y7 ⟨v7, rfl, hv7, hb7⟩; have HL7 : Hid (Below x.heap.size x y7) := HL2.out.trans (hb7.mono HL2.out.size); have HS7 : Hid (RdAt y7 x.heap.size (.slice a n c) ⟨qr, qf, false, qs, qd⟩) := HS29.out.keep hb7; obtain ⟨e0, e1, e2, e3, e4, e5⟩ := HS7.out.cells; obtain ⟨g7, c7, rfl, hat⟩ : ∃ g7 c7, v7 = .slice g7 n c7 ∧ ∀ (y : World), Below y7.heap.size y7 y → ∀ k, k < n → ∃ g f, g7 = some ⟨g, 0, none⟩ ∧ A.fs[k]? = some f ∧ y.cell? ⟨g, k, none⟩ = some (.string (bs f.name)) := names_of hv7 HLN.out; have HAT : Hid (∀ (y : World), Below y7.heap.size y7 y → ∀ k, k < n → ∃ g f, g7 = some ⟨g, 0, none⟩ ∧ A.fs[k]? = some f ∧ y.cell? ⟨g, k, none⟩ = some (.string (bs f.name))) := hat; clear hat; clear hb7 hv7)
    | go_in)
  go_loopw [59] (fun v59 wr => ∃ k : Nat, v59 = .int .i64 (k : Int) ∧ k ≤ n ∧ Hid (Below y7.heap.size y7 wr)) (fun v59 _ => n - (intOf v59).toNat)
  case atStart => exact ⟨0, rfl, Nat.zero_le _, Below.refl _ _⟩
  case round =>
    obtain ⟨k, rfl, hk, HRW⟩ := hrel
    by_cases hkn : k < n
    · obtain ⟨g, f, rfl, hf, _⟩ := HAT.out y7 (Below.refl _ _) k hkn
      have HBZ : Hid (Below y7.heap.size y7 wr.drew) := HRW.out.drew
      obtain ⟨_, _, e9, hf2, hc9⟩ := HAT.out wr.drew HBZ.out k hkn
      injection e9 with e9
      injection e9 with e9 _ _
      subst e9
      rw [hf] at hf2
      injection hf2 with hf2
      subst hf2
      obtain ⟨⟨f2, bv⟩, hp, hpf⟩ : ∃ p, X[k]? = some p ∧ p.1 = f := by
        have h1 := hf
        rw [← HRF.out.ab, List.getElem?_map] at h1
        cases hh : X[k]? with
        | none => rw [hh] at h1; cases h1
        | some p => rw [hh] at h1; exact ⟨p, rfl, Option.some.inj h1⟩
      simp only at hpf
      subst hpf
      have hlow : Below x.heap.size x wr.drew := HL7.out.trans (HBZ.out.mono HL7.out.size)
      obtain ⟨b9, off, rfl, hlt9, d0, d1, d2⟩ := (HRF.out.fls.keep hlow).at k _ hp
      simp only at d0
      obtain ⟨nm, hnm⟩ : ∃ nm, f2.name = nm := ⟨_, rfl⟩
      rw [hnm] at d0 hc9
      have hr9 := (HS7.out.keep HBZ.out).cells.1
      have hkI : (k : Int) < (n : Int) := by omega
      have hk0 : (0 : Int) ≤ (k : Int) := by omega
      clear hp hf hlt9 d1 d2 hnm hlow
      go_wp2
      go_region
      obtain ⟨wz, hwz⟩ : ∃ wz, wr.drew = wz := ⟨_, rfl⟩
      have HBZ2 : Hid (Below y7.heap.size y7 wz) := by rw [← hwz]; exact HBZ.out
      rw [hwz]
      clear hwz
      go_wp2
      go_roundw
      case rel => exact ⟨k + 1, by go_num, by omega, HBZ2.out⟩
      case measure => simp [intOf]; omega
    · obtain rfl : k = n := by omega
      clear hkn hk
      go_wp2
      go_ret
      exact ⟨rfl, HL7.out.trans (HRW.out.mono HL7.out.size)⟩
theorem told_any (x : World) (base qq b : Nat) (A : Ak) (X : List (Fa × Value)) (a : Option Addr) (n c : Nat) (h : DA x base qq b A) (ok : AkOk A) (hR : RefD x A X a n) :
    Calls Try.prog 16 #[.pointer (some ⟨qq, 0, none⟩), rdV (.slice a n c) A.rn] x fun r x' => r = .returned (.bool true) ∧ Below x.heap.size x x' := by
  cases hoff : A.off with
  | true => exact told_down x base qq b A X a n c h ok hR hoff
  | false => exact told_up x base qq b A X a n c h ok hR hoff
end Go.Proofs.Ytlnhhgmdajbepaa
