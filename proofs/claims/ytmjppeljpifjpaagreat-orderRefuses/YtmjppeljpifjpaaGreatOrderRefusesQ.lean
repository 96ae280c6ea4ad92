/- What is refused is counted and changes nothing else: for every state and every event. -/
import Derived.Test.YtmjppeljpifjpaaGreatK39
import Derived.Test.YtmjppeljpifjpaaGreatK41
import Derived.SizedLaws
import Derived.ChangeOld
import Derived.OrdersHeld
import Derived.Deep.RegionHeld
import Derived.Deep.DeepCutAuto
namespace Go.Proofs.YtmjppeljpifjpaaGreat.orderRefuses
open Go.ChangeShapes Go.WideShapes Go.ChangeAt Go.RowKit
set_option linter.unusedVariables false
set_option linter.unusedSimpArgs false
theorem SE.stored {w x y : World} {s : St} {e : Ev} {a : Option Addr} {n cap b : Nat} (hl : Lns w a s.lines) (h : SE w s e a n cap x) (hb : w.heap.size + 2 ≤ b) (z2 : ∀ B a, Below B a x → B ≤ b → Below B a y) (z3 : ∀ k, k ≠ b → y.heap[k]? = x.heap[k]?) : SE w s e a n cap y :=
  ⟨(z3 _ (by omega)).trans h.st, (z3 _ (by omega)).trans h.ev, hl.keep (z2 _ _ h.bel (by omega)), z2 _ _ h.bel (by omega)⟩
theorem do_order (s : St) (e : Ev) : (doS s e).order = s.order ∧ (doS s e).refused = s.refused := by
  unfold doS payS shipS
  repeat' split
  all_goals exact ⟨rfl, rfl⟩
/-- while the answer is looked at: the state, the event, the answer's state -/
def RfC (w : World) (s : St) (e : Ev) (a : Option Addr) (n cap b : Nat) (t : St) (a3 : Option Addr) (n3 c3 : Nat) (x : World) : Prop :=
  SE w s e a n cap x ∧ StAt x b t (.slice a3 n3 c3) ∧ OwnL x w.heap.size (.slice a3 n3 c3) t.lines ∧ w.heap.size + 2 ≤ b
set_option maxRecDepth 20000 in
set_option maxHeartbeats 8000000 in
theorem walk (s : St) (a : Option Addr) (n cap : Nat) (e : Ev) (w : World) (hn : s.lines.length = n) (hl : Lns w a s.lines) (hc : n ≤ cap) (hm : n * 32 ≤ 140737488351232) (hfit : e.Fit) :
    Calls Tryz.prog 10 #[.agg (stA s (.slice a n cap)), .agg (evA e)] w fun r w' => r = .returned (.bool true) ∧ Below w.heap.size w w' := by
  have HN : Hid (s.lines.length = n) := hn
  have HL : Hid (Lns w a s.lines) := hl
  have hlm : n ≤ maxLen := by unfold maxLen; omega
  have HS0 : Hid (SE w s e a n cap ((w.alloc (.cells (stA s (.slice a n cap)) 25)).alloc (.cells (evA e) 37))) := SE.new w s e a n cap hl
  clear hn hl hfit
  go_enter Tryz.func10, Tryz.ntmps10
  go_upto_region 3 with (go_at_call 13; refine (head08_any _).mono ?_; rintro _ x1 ⟨rfl, hb1⟩; have HS1 : Hid (SE w s e a n cap x1) := SE.keep HS0.out hb1; clear hb1)
  go_cut [5, 6] (fun v5 v6 wx => ∃ b a3 n3 c3, v5 = .pointer (some ⟨b, 0, none⟩) ∧ v6 = .int .i64 (judS s e) ∧ Hid (RfC w s e a n cap b (nextS s e) a3 n3 c3 wx))
  case first =>
    refine wp_region_held (S := fun y => StAt y w.heap.size s (.slice a n cap) ∧ EvAt y (w.heap.size + 1) e) (by kernel_rfl) ?_
    change wpAnyH _ _ _ _ _ _ _ _ (World.drew _)
    have HSP : Hid (SE w s e a n cap x1.drew) := SE.drew HS1.out
    refine wpAnyH_take (i := 0) (oi := { dst := some 10, op := Op.load 25 (Operand.tmp 2), type := 25, pos := "law.go:135", after := #[], guard := none }) (v := .agg (stA s (.slice a n cap))) rfl (by kernel_rfl) (by kernel_rfl) (by kernel_rfl) (fun _ _ _ h => h) (Or.inl ⟨by rfl, fun y hy => exec_load_st (.tmp 2) rfl rfl hy.1⟩) ⟨HSP.out.st, HSP.out.ev⟩ ?_
    simp only [Act.put, List.setIfInBounds_toArray, List.set_cons_zero, List.set_cons_succ]
    refine wpAnyH_take (i := 2) (oi := { dst := some 12, op := Op.load 37 (Operand.tmp 3), type := 37, pos := "law.go:135", after := #[], guard := none }) (v := .agg (evA e)) rfl (by kernel_rfl) (by kernel_rfl) (by kernel_rfl) (fun _ _ _ h => h) (Or.inl ⟨by rfl, fun y hy => exec_load_ev (.tmp 3) rfl rfl hy.2⟩) ⟨HSP.out.st, HSP.out.ev⟩ ?_
    simp only [Act.put, List.setIfInBounds_toArray, List.set_cons_zero, List.set_cons_succ]
    refine wpAnyH_ready (rs := [1, 7]) (by kernel_rfl) (by simp) ?_
    refine AllReadyH.cons (o := { dst := some 11, op := Op.call { callee := Callee.value (Operand.func 14), args := #[Operand.tmp 10], argTypes := #[25] }, type := 25, pos := "law.go:135", after := #[{ on := 0, ground := Ground.data }], guard := none }) rfl (fun K hK => ?_) (AllReadyH.cons (o := { dst := some 5, op := Op.alloc 25, type := 0, pos := "law.go:135", after := #[], guard := none }) rfl (fun K hK => ?_) AllReadyH.nil)
    · go_simp
      refine (scopy_any s a n cap _ HN.out HSP.out.ln hm).mono ?_
      rintro _ x2 ⟨v2, rfl, ho2, hb2⟩
      obtain ⟨a2, c2, hv2, _, _, hl2, _⟩ := ho2.shape
      simp only [HN.out] at hv2
      subst hv2
      have HL2 : Hid (Lns x2 a2 s.lines) := hl2
      have HSQ : Hid (SE w s e a n cap x2) := SE.keep HSP.out hb2
      clear hb2 ho2 hl2
      (refine hK _ _ ⟨HSQ.out.st, HSQ.out.ev⟩ ?_; clear hK K; intro _)
      try simp only [Act.put, List.setIfInBounds_toArray, List.set_cons_zero, List.set_cons_succ]
      refine wpAnyH_ready (rs := [3, 7]) (by kernel_rfl) (by simp) ?_
      refine AllReadyH.cons (o := { dst := some 13, op := Op.call { callee := Callee.value (Operand.func 24), args := #[Operand.tmp 11, Operand.tmp 12], argTypes := #[25, 37] }, type := 41, pos := "law.go:135", after := #[{ on := 1, ground := Ground.data }, { on := 2, ground := Ground.data }, { on := 1, ground := Ground.chain }], guard := none }) rfl (fun K hK => ?_) (AllReadyH.cons (o := { dst := some 5, op := Op.alloc 25, type := 0, pos := "law.go:135", after := #[], guard := none }) rfl (fun K hK => ?_) AllReadyH.nil)
      · go_simp
        refine (apply_any s e a2 n c2 _ HN.out HL2.out hm).mono ?_
        rintro _ x3 ⟨a3, n3, c3, rfl, ho3, hb3⟩
        have HSR : Hid (SE w s e a n cap x3) := SE.keep HSQ.out hb3
        have HSQ' : Hid (SE w s e a n cap (x3.alloc (.cells (stA zeroS (.slice none 0 0)) 25))) := SE.keep HSR.out ((Below.refl _ _).alloc (Nat.le_refl _) _)
        have HO3' : Hid (OwnL x3 w.heap.size (.slice a3 n3 c3) (nextS s e).lines) := ho3.mono HSQ.out.bel.size
        clear ho3 hb3 HSQ
        have HSQ : Hid (SE w s e a n cap x3) := HSR
        clear HSR
        (refine hK _ _ ⟨HSQ.out.st, HSQ.out.ev⟩ ?_; clear hK K; intro _)
        try simp only [Act.put, List.setIfInBounds_toArray, List.set_cons_zero, List.set_cons_succ]
        refine wpAnyH_take (i := 4) (oi := { dst := some 9, op := Op.move (Operand.tmp 13), type := 41, pos := "law.go:135", after := #[{ on := 3, ground := Ground.data }], guard := none }) (v := ?_) rfl (by kernel_rfl) (by kernel_rfl) (by kernel_rfl) (fun _ _ _ h => h) (Or.inl ⟨by rfl, ?_⟩) ⟨HSQ.out.st, HSQ.out.ev⟩ ?_
        rotate_left
        · (intro y hy; go_simp; try (with_reducible rfl))
        simp only [Act.put, List.setIfInBounds_toArray, List.set_cons_zero, List.set_cons_succ]
        refine wpAnyH_take (i := 5) (oi := { dst := some 14, op := Op.extract (Operand.tmp 9) 0, type := 25, pos := "law.go:135", after := #[{ on := 4, ground := Ground.data }], guard := none }) (v := ?_) rfl (by kernel_rfl) (by kernel_rfl) (by kernel_rfl) (fun _ _ _ h => h) (Or.inl ⟨by rfl, ?_⟩) ⟨HSQ.out.st, HSQ.out.ev⟩ ?_
        rotate_left
        · (intro y hy; go_simp; try (with_reducible rfl))
        simp only [Act.put, List.setIfInBounds_toArray, List.set_cons_zero, List.set_cons_succ]
        refine wpAnyH_take (i := 6) (oi := { dst := some 15, op := Op.extract (Operand.tmp 9) 1, type := 38, pos := "law.go:135", after := #[{ on := 4, ground := Ground.data }, { on := 8, ground := Ground.gcOnly Departure.lateStores }], guard := none }) (v := ?_) rfl (by kernel_rfl) (by kernel_rfl) (by kernel_rfl) (fun _ _ _ h => h) (Or.inl ⟨by rfl, ?_⟩) ⟨HSQ.out.st, HSQ.out.ev⟩ ?_
        rotate_left
        · (intro y hy; go_simp; try (with_reducible rfl))
        simp only [Act.put, List.setIfInBounds_toArray, List.set_cons_zero, List.set_cons_succ]
        refine wpAnyH_ready (rs := [7]) (by kernel_rfl) (by simp) ?_
        refine AllReadyH.cons (o := { dst := some 5, op := Op.alloc 25, type := 0, pos := "law.go:135", after := #[], guard := none }) rfl (fun K hK => ?_) AllReadyH.nil
        go_simp
        (refine hK _ _ ⟨HSQ'.out.st, HSQ'.out.ev⟩ ?_; clear hK K; intro _)
        try simp only [Act.put, List.setIfInBounds_toArray, List.set_cons_zero, List.set_cons_succ]
        have HLO : Hid (w.heap.size + 2 ≤ x3.heap.size) := HSQ.out.ev.lt
        have HZ : Hid (StAt (x3.alloc (.cells (stA zeroS (.slice none 0 0)) 25)) x3.heap.size zeroS (.slice none 0 0)) := StAt.new x3 zeroS _
        have HO3 : Hid (OwnL (x3.alloc (.cells (stA zeroS (.slice none 0 0)) 25)) w.heap.size (.slice a3 n3 c3) (nextS s e).lines) := HO3'.out.keep ((Below.refl _ _).alloc (Nat.le_refl _) _)
        clear HSQ HO3'
        have HSQ : Hid (SE w s e a n cap (x3.alloc (.cells (stA zeroS (.slice none 0 0)) 25))) := HSQ'
        clear HSQ'
        refine wpAnyH_ready (rs := [8]) (by kernel_rfl) (by simp) ?_
        refine AllReadyH.cons (o := { dst := none, op := Op.store 25 (Operand.tmp 5) (Operand.tmp 14), type := 0, pos := "law.go:135", after := #[{ on := 7, ground := Ground.data }, { on := 5, ground := Ground.data }, { on := 3, ground := Ground.chain }, { on := 0, ground := Ground.phase }, { on := 1, ground := Ground.phase }, { on := 2, ground := Ground.phase }, { on := 3, ground := Ground.phase }, { on := 4, ground := Ground.phase }, { on := 5, ground := Ground.phase }, { on := 6, ground := Ground.textOnly Departure.lateStores }, { on := 7, ground := Ground.phase }], guard := none }) rfl (fun K hK => ?_) AllReadyH.nil
        refine step_store_st (s := zeroS) (s2 := nextS s e) (a2 := a3) (n2 := n3) (c2 := c3) rfl _ _ rfl HZ.out rfl rfl ?_
        intro x4 z1 z2 z3 z4
        have HS4 : Hid (SE w s e a n cap x4) := SE.stored HL.out HSQ.out HLO.out z2 z3
        have HO4 : Hid (OwnL x4 w.heap.size (.slice a3 n3 c3) (nextS s e).lines) := HO3.out.keepOther (fun g hg => z3 g (fun hh => own_st_ne HO3.out (hh ▸ HZ.out) hg.symm))
        have HT4 : Hid (StAt x4 x3.heap.size (nextS s e) (.slice a3 n3 c3)) := z1
        clear z1 z2 z3 z4
        (refine hK _ _ ⟨HS4.out.st, HS4.out.ev⟩ ?_; clear hK K; intro _)
        try simp only [Act.put, List.setIfInBounds_toArray, List.set_cons_zero, List.set_cons_succ]
        refine wpAnyH_ready (rs := [9]) (by kernel_rfl) (by simp) ?_
        refine AllReadyH.cons (o := { dst := some 6, op := Op.assign (Operand.tmp 15), type := 38, pos := "law.go:135", after := #[{ on := 6, ground := Ground.data }, { on := 8, ground := Ground.chain }, { on := 0, ground := Ground.phase }, { on := 1, ground := Ground.phase }, { on := 2, ground := Ground.phase }, { on := 3, ground := Ground.phase }, { on := 4, ground := Ground.phase }, { on := 5, ground := Ground.phase }, { on := 6, ground := Ground.phase }, { on := 7, ground := Ground.phase }, { on := 8, ground := Ground.phase }], guard := none }) rfl (fun K hK => ?_) AllReadyH.nil
        go_simp
        (refine hK _ _ ⟨HS4.out.st, HS4.out.ev⟩ ?_; clear hK K; intro _)
        try simp only [Act.put, List.setIfInBounds_toArray, List.set_cons_zero, List.set_cons_succ]
        refine wpAnyH_done (by kernel_rfl) ?_ _
        go_wp2
        go_meet
        exact ⟨x3.heap.size, a3, n3, c3, rfl, rfl, HS4.out, HT4.out, HO4.out, HLO.out⟩
      · go_simp
        have HSR : Hid (SE w s e a n cap (x2.alloc (.cells (stA zeroS (.slice none 0 0)) 25))) := SE.keep HSQ.out ((Below.refl _ _).alloc (Nat.le_refl _) _)
        (refine hK _ _ ⟨HSR.out.st, HSR.out.ev⟩ ?_; clear hK K; intro _)
        try simp only [Act.put, List.setIfInBounds_toArray, List.set_cons_zero, List.set_cons_succ]
        have HLO : Hid (w.heap.size + 2 ≤ x2.heap.size) := HSQ.out.ev.lt
        clear HSQ
        refine wpAnyH_ready (rs := [3]) (by kernel_rfl) (by simp) ?_
        refine AllReadyH.cons (o := { dst := some 13, op := Op.call { callee := Callee.value (Operand.func 24), args := #[Operand.tmp 11, Operand.tmp 12], argTypes := #[25, 37] }, type := 41, pos := "law.go:135", after := #[{ on := 1, ground := Ground.data }, { on := 2, ground := Ground.data }, { on := 1, ground := Ground.chain }], guard := none }) rfl (fun K hK => ?_) AllReadyH.nil
        go_simp
        refine (apply_any s e a2 n c2 _ HN.out (HL2.out.keep ((Below.refl _ _).alloc (Nat.le_refl _) _)) hm).mono ?_
        rintro _ x3 ⟨a3, n3, c3, rfl, ho3, hb3⟩
        have HSQ : Hid (SE w s e a n cap x3) := SE.keep HSR.out hb3
        have HO3 : Hid (OwnL x3 w.heap.size (.slice a3 n3 c3) (nextS s e).lines) := ho3.mono HSR.out.bel.size
        have HZ : Hid (StAt x3 x2.heap.size zeroS (.slice none 0 0)) := (StAt.new x2 zeroS _).after hb3
        clear ho3 hb3
        (refine hK _ _ ⟨HSQ.out.st, HSQ.out.ev⟩ ?_; clear hK K; intro _)
        try simp only [Act.put, List.setIfInBounds_toArray, List.set_cons_zero, List.set_cons_succ]
        refine wpAnyH_take (i := 4) (oi := { dst := some 9, op := Op.move (Operand.tmp 13), type := 41, pos := "law.go:135", after := #[{ on := 3, ground := Ground.data }], guard := none }) (v := ?_) rfl (by kernel_rfl) (by kernel_rfl) (by kernel_rfl) (fun _ _ _ h => h) (Or.inl ⟨by rfl, ?_⟩) ⟨HSQ.out.st, HSQ.out.ev⟩ ?_
        rotate_left
        · (intro y hy; go_simp; try (with_reducible rfl))
        simp only [Act.put, List.setIfInBounds_toArray, List.set_cons_zero, List.set_cons_succ]
        refine wpAnyH_take (i := 5) (oi := { dst := some 14, op := Op.extract (Operand.tmp 9) 0, type := 25, pos := "law.go:135", after := #[{ on := 4, ground := Ground.data }], guard := none }) (v := ?_) rfl (by kernel_rfl) (by kernel_rfl) (by kernel_rfl) (fun _ _ _ h => h) (Or.inl ⟨by rfl, ?_⟩) ⟨HSQ.out.st, HSQ.out.ev⟩ ?_
        rotate_left
        · (intro y hy; go_simp; try (with_reducible rfl))
        simp only [Act.put, List.setIfInBounds_toArray, List.set_cons_zero, List.set_cons_succ]
        refine wpAnyH_take (i := 6) (oi := { dst := some 15, op := Op.extract (Operand.tmp 9) 1, type := 38, pos := "law.go:135", after := #[{ on := 4, ground := Ground.data }, { on := 8, ground := Ground.gcOnly Departure.lateStores }], guard := none }) (v := ?_) rfl (by kernel_rfl) (by kernel_rfl) (by kernel_rfl) (fun _ _ _ h => h) (Or.inl ⟨by rfl, ?_⟩) ⟨HSQ.out.st, HSQ.out.ev⟩ ?_
        rotate_left
        · (intro y hy; go_simp; try (with_reducible rfl))
        simp only [Act.put, List.setIfInBounds_toArray, List.set_cons_zero, List.set_cons_succ]
        refine wpAnyH_ready (rs := [8]) (by kernel_rfl) (by simp) ?_
        refine AllReadyH.cons (o := { dst := none, op := Op.store 25 (Operand.tmp 5) (Operand.tmp 14), type := 0, pos := "law.go:135", after := #[{ on := 7, ground := Ground.data }, { on := 5, ground := Ground.data }, { on := 3, ground := Ground.chain }, { on := 0, ground := Ground.phase }, { on := 1, ground := Ground.phase }, { on := 2, ground := Ground.phase }, { on := 3, ground := Ground.phase }, { on := 4, ground := Ground.phase }, { on := 5, ground := Ground.phase }, { on := 6, ground := Ground.textOnly Departure.lateStores }, { on := 7, ground := Ground.phase }], guard := none }) rfl (fun K hK => ?_) AllReadyH.nil
        refine step_store_st (s := zeroS) (s2 := nextS s e) (a2 := a3) (n2 := n3) (c2 := c3) rfl _ _ rfl HZ.out rfl rfl ?_
        intro x4 z1 z2 z3 z4
        have HS4 : Hid (SE w s e a n cap x4) := SE.stored HL.out HSQ.out HLO.out z2 z3
        have HO4 : Hid (OwnL x4 w.heap.size (.slice a3 n3 c3) (nextS s e).lines) := HO3.out.keepOther (fun g hg => z3 g (fun hh => own_st_ne HO3.out (hh ▸ HZ.out) hg.symm))
        have HT4 : Hid (StAt x4 x2.heap.size (nextS s e) (.slice a3 n3 c3)) := z1
        clear z1 z2 z3 z4
        (refine hK _ _ ⟨HS4.out.st, HS4.out.ev⟩ ?_; clear hK K; intro _)
        try simp only [Act.put, List.setIfInBounds_toArray, List.set_cons_zero, List.set_cons_succ]
        refine wpAnyH_ready (rs := [9]) (by kernel_rfl) (by simp) ?_
        refine AllReadyH.cons (o := { dst := some 6, op := Op.assign (Operand.tmp 15), type := 38, pos := "law.go:135", after := #[{ on := 6, ground := Ground.data }, { on := 8, ground := Ground.chain }, { on := 0, ground := Ground.phase }, { on := 1, ground := Ground.phase }, { on := 2, ground := Ground.phase }, { on := 3, ground := Ground.phase }, { on := 4, ground := Ground.phase }, { on := 5, ground := Ground.phase }, { on := 6, ground := Ground.phase }, { on := 7, ground := Ground.phase }, { on := 8, ground := Ground.phase }], guard := none }) rfl (fun K hK => ?_) AllReadyH.nil
        go_simp
        (refine hK _ _ ⟨HS4.out.st, HS4.out.ev⟩ ?_; clear hK K; intro _)
        try simp only [Act.put, List.setIfInBounds_toArray, List.set_cons_zero, List.set_cons_succ]
        refine wpAnyH_done (by kernel_rfl) ?_ _
        go_wp2
        go_meet
        exact ⟨x2.heap.size, a3, n3, c3, rfl, rfl, HS4.out, HT4.out, HO4.out, HLO.out⟩
    · go_simp
      have HSR : Hid (SE w s e a n cap (x1.drew.alloc (.cells (stA zeroS (.slice none 0 0)) 25))) := SE.keep HSP.out ((Below.refl _ _).alloc (Nat.le_refl _) _)
      (refine hK _ _ ⟨HSR.out.st, HSR.out.ev⟩ ?_; clear hK K; intro _)
      try simp only [Act.put, List.setIfInBounds_toArray, List.set_cons_zero, List.set_cons_succ]
      have HLO : Hid (w.heap.size + 2 ≤ x1.heap.size) := HSP.out.ev.lt
      clear HSP
      have HSP : Hid (SE w s e a n cap (x1.drew.alloc (.cells (stA zeroS (.slice none 0 0)) 25))) := HSR
      clear HSR
      have HZ0 : Hid (StAt (x1.drew.alloc (.cells (stA zeroS (.slice none 0 0)) 25)) x1.heap.size zeroS (.slice none 0 0)) := StAt.new x1.drew zeroS _
      refine wpAnyH_ready (rs := [1]) (by kernel_rfl) (by simp) ?_
      refine AllReadyH.cons (o := { dst := some 11, op := Op.call { callee := Callee.value (Operand.func 14), args := #[Operand.tmp 10], argTypes := #[25] }, type := 25, pos := "law.go:135", after := #[{ on := 0, ground := Ground.data }], guard := none }) rfl (fun K hK => ?_) AllReadyH.nil
      go_simp
      refine (scopy_any s a n cap _ HN.out HSP.out.ln hm).mono ?_
      rintro _ x2 ⟨v2, rfl, ho2, hb2⟩
      obtain ⟨a2, c2, hv2, _, _, hl2, _⟩ := ho2.shape
      simp only [HN.out] at hv2
      subst hv2
      have HL2 : Hid (Lns x2 a2 s.lines) := hl2
      have HSR : Hid (SE w s e a n cap x2) := SE.keep HSP.out hb2
      have HZ1 : Hid (StAt x2 x1.heap.size zeroS (.slice none 0 0)) := HZ0.out.after hb2
      clear hb2 ho2 hl2
      (refine hK _ _ ⟨HSR.out.st, HSR.out.ev⟩ ?_; clear hK K; intro _)
      try simp only [Act.put, List.setIfInBounds_toArray, List.set_cons_zero, List.set_cons_succ]
      refine wpAnyH_ready (rs := [3]) (by kernel_rfl) (by simp) ?_
      refine AllReadyH.cons (o := { dst := some 13, op := Op.call { callee := Callee.value (Operand.func 24), args := #[Operand.tmp 11, Operand.tmp 12], argTypes := #[25, 37] }, type := 41, pos := "law.go:135", after := #[{ on := 1, ground := Ground.data }, { on := 2, ground := Ground.data }, { on := 1, ground := Ground.chain }], guard := none }) rfl (fun K hK => ?_) AllReadyH.nil
      go_simp
      refine (apply_any s e a2 n c2 _ HN.out HL2.out hm).mono ?_
      rintro _ x3 ⟨a3, n3, c3, rfl, ho3, hb3⟩
      have HSQ : Hid (SE w s e a n cap x3) := SE.keep HSR.out hb3
      have HO3 : Hid (OwnL x3 w.heap.size (.slice a3 n3 c3) (nextS s e).lines) := ho3.mono HSR.out.bel.size
      have HZ : Hid (StAt x3 x1.heap.size zeroS (.slice none 0 0)) := HZ1.out.after hb3
      clear ho3 hb3
      (refine hK _ _ ⟨HSQ.out.st, HSQ.out.ev⟩ ?_; clear hK K; intro _)
      try simp only [Act.put, List.setIfInBounds_toArray, List.set_cons_zero, List.set_cons_succ]
      refine wpAnyH_take (i := 4) (oi := { dst := some 9, op := Op.move (Operand.tmp 13), type := 41, pos := "law.go:135", after := #[{ on := 3, ground := Ground.data }], guard := none }) (v := ?_) rfl (by kernel_rfl) (by kernel_rfl) (by kernel_rfl) (fun _ _ _ h => h) (Or.inl ⟨by rfl, ?_⟩) ⟨HSQ.out.st, HSQ.out.ev⟩ ?_
      rotate_left
      · (intro y hy; go_simp; try (with_reducible rfl))
      simp only [Act.put, List.setIfInBounds_toArray, List.set_cons_zero, List.set_cons_succ]
      refine wpAnyH_take (i := 5) (oi := { dst := some 14, op := Op.extract (Operand.tmp 9) 0, type := 25, pos := "law.go:135", after := #[{ on := 4, ground := Ground.data }], guard := none }) (v := ?_) rfl (by kernel_rfl) (by kernel_rfl) (by kernel_rfl) (fun _ _ _ h => h) (Or.inl ⟨by rfl, ?_⟩) ⟨HSQ.out.st, HSQ.out.ev⟩ ?_
      rotate_left
      · (intro y hy; go_simp; try (with_reducible rfl))
      simp only [Act.put, List.setIfInBounds_toArray, List.set_cons_zero, List.set_cons_succ]
      refine wpAnyH_take (i := 6) (oi := { dst := some 15, op := Op.extract (Operand.tmp 9) 1, type := 38, pos := "law.go:135", after := #[{ on := 4, ground := Ground.data }, { on := 8, ground := Ground.gcOnly Departure.lateStores }], guard := none }) (v := ?_) rfl (by kernel_rfl) (by kernel_rfl) (by kernel_rfl) (fun _ _ _ h => h) (Or.inl ⟨by rfl, ?_⟩) ⟨HSQ.out.st, HSQ.out.ev⟩ ?_
      rotate_left
      · (intro y hy; go_simp; try (with_reducible rfl))
      simp only [Act.put, List.setIfInBounds_toArray, List.set_cons_zero, List.set_cons_succ]
      refine wpAnyH_ready (rs := [8]) (by kernel_rfl) (by simp) ?_
      refine AllReadyH.cons (o := { dst := none, op := Op.store 25 (Operand.tmp 5) (Operand.tmp 14), type := 0, pos := "law.go:135", after := #[{ on := 7, ground := Ground.data }, { on := 5, ground := Ground.data }, { on := 3, ground := Ground.chain }, { on := 0, ground := Ground.phase }, { on := 1, ground := Ground.phase }, { on := 2, ground := Ground.phase }, { on := 3, ground := Ground.phase }, { on := 4, ground := Ground.phase }, { on := 5, ground := Ground.phase }, { on := 6, ground := Ground.textOnly Departure.lateStores }, { on := 7, ground := Ground.phase }], guard := none }) rfl (fun K hK => ?_) AllReadyH.nil
      refine step_store_st (s := zeroS) (s2 := nextS s e) (a2 := a3) (n2 := n3) (c2 := c3) rfl _ _ rfl HZ.out rfl rfl ?_
      intro x4 z1 z2 z3 z4
      have HS4 : Hid (SE w s e a n cap x4) := SE.stored HL.out HSQ.out HLO.out z2 z3
      have HO4 : Hid (OwnL x4 w.heap.size (.slice a3 n3 c3) (nextS s e).lines) := HO3.out.keepOther (fun g hg => z3 g (fun hh => own_st_ne HO3.out (hh ▸ HZ.out) hg.symm))
      have HT4 : Hid (StAt x4 x1.heap.size (nextS s e) (.slice a3 n3 c3)) := z1
      clear z1 z2 z3 z4
      (refine hK _ _ ⟨HS4.out.st, HS4.out.ev⟩ ?_; clear hK K; intro _)
      try simp only [Act.put, List.setIfInBounds_toArray, List.set_cons_zero, List.set_cons_succ]
      refine wpAnyH_ready (rs := [9]) (by kernel_rfl) (by simp) ?_
      refine AllReadyH.cons (o := { dst := some 6, op := Op.assign (Operand.tmp 15), type := 38, pos := "law.go:135", after := #[{ on := 6, ground := Ground.data }, { on := 8, ground := Ground.chain }, { on := 0, ground := Ground.phase }, { on := 1, ground := Ground.phase }, { on := 2, ground := Ground.phase }, { on := 3, ground := Ground.phase }, { on := 4, ground := Ground.phase }, { on := 5, ground := Ground.phase }, { on := 6, ground := Ground.phase }, { on := 7, ground := Ground.phase }, { on := 8, ground := Ground.phase }], guard := none }) rfl (fun K hK => ?_) AllReadyH.nil
      go_simp
      (refine hK _ _ ⟨HS4.out.st, HS4.out.ev⟩ ?_; clear hK K; intro _)
      try simp only [Act.put, List.setIfInBounds_toArray, List.set_cons_zero, List.set_cons_succ]
      refine wpAnyH_done (by kernel_rfl) ?_ _
      go_wp2
      go_meet
      exact ⟨x1.heap.size, a3, n3, c3, rfl, rfl, HS4.out, HT4.out, HO4.out, HLO.out⟩
  case rest =>
    clear HS0 HS1
    obtain ⟨j, hj⟩ : ∃ j, judS s e = j := ⟨_, rfl⟩
    obtain ⟨t, ht⟩ : ∃ t, nextS s e = t := ⟨_, rfl⟩
    have HJ : Hid (judS s e = j) := hj
    obtain ⟨b, a3, n3, c3, rfl, rfl, HR⟩ := hcut
    rw [ht] at HR
    rw [hj]
    have HSP : Hid (SE w s e a n cap wc.drew) := SE.drew HR.out.1
    go_wp2_with fail
    refine wp_region_held (S := fun y => StAt y w.heap.size s (.slice a n cap) ∧ EvAt y (w.heap.size + 1) e) (by kernel_rfl) ?_
    change wpAnyH _ _ _ _ _ _ _ _ (World.drew _)
    refine wpAnyH_take (i := 0) (oi := { dst := some 16, op := Op.move (Operand.tmp 6), type := 38, pos := "law.go:136", after := #[], guard := none }) (v := ?_) rfl (by kernel_rfl) (by kernel_rfl) (by kernel_rfl) (fun _ _ _ h => h) (Or.inl ⟨by rfl, ?_⟩) ⟨HSP.out.st, HSP.out.ev⟩ ?_
    rotate_left
    · (intro y hy; go_simp; try (with_reducible rfl))
    simp only [Act.put, List.setIfInBounds_toArray, List.set_cons_zero, List.set_cons_succ]
    refine wpAnyH_take (i := 1) (oi := { dst := some 17, op := Op.load 25 (Operand.tmp 2), type := 25, pos := "law.go:136", after := #[], guard := none }) (v := .agg (stA s (.slice a n cap))) rfl (by kernel_rfl) (by kernel_rfl) (by kernel_rfl) (fun _ _ _ h => h) (Or.inl ⟨by rfl, fun y hy => exec_load_st (.tmp 2) rfl rfl hy.1⟩) ⟨HSP.out.st, HSP.out.ev⟩ ?_
    simp only [Act.put, List.setIfInBounds_toArray, List.set_cons_zero, List.set_cons_succ]
    refine wpAnyH_take (i := 3) (oi := { dst := some 19, op := Op.load 37 (Operand.tmp 3), type := 37, pos := "law.go:136", after := #[], guard := none }) (v := .agg (evA e)) rfl (by kernel_rfl) (by kernel_rfl) (by kernel_rfl) (fun _ _ _ h => h) (Or.inl ⟨by rfl, fun y hy => exec_load_ev (.tmp 3) rfl rfl hy.2⟩) ⟨HSP.out.st, HSP.out.ev⟩ ?_
    simp only [Act.put, List.setIfInBounds_toArray, List.set_cons_zero, List.set_cons_succ]
    refine wpAnyH_ready (rs := [2]) (by kernel_rfl) (by simp) ?_
    refine AllReadyH.cons (o := { dst := some 18, op := Op.call { callee := Callee.value (Operand.func 14), args := #[Operand.tmp 17], argTypes := #[25] }, type := 25, pos := "law.go:136", after := #[{ on := 1, ground := Ground.data }], guard := none }) rfl (fun K hK => ?_) AllReadyH.nil
    go_simp
    refine (scopy_any s a n cap _ HN.out HSP.out.ln hm).mono ?_
    rintro _ x2 ⟨v2, rfl, ho2, hb2⟩
    obtain ⟨a2, c2, hv2, _, _, hl2, _⟩ := ho2.shape
    simp only [HN.out] at hv2
    subst hv2
    have HL2 : Hid (Lns x2 a2 s.lines) := hl2
    have HSQ : Hid (SE w s e a n cap x2) := SE.keep HSP.out hb2
    have HB2 : Hid (Below wc.heap.size wc x2) := below_next (Below.refl _ _).drew hb2
    clear hb2 ho2 hl2
    (refine hK _ _ ⟨HSQ.out.st, HSQ.out.ev⟩ ?_; clear hK K; intro _)
    try simp only [Act.put, List.setIfInBounds_toArray, List.set_cons_zero, List.set_cons_succ]
    refine wpAnyH_ready (rs := [4]) (by kernel_rfl) (by simp) ?_
    refine AllReadyH.cons (o := { dst := some 20, op := Op.call { callee := Callee.value (Operand.func 21), args := #[Operand.tmp 18, Operand.tmp 19], argTypes := #[25, 37] }, type := 38, pos := "law.go:136", after := #[{ on := 2, ground := Ground.data }, { on := 3, ground := Ground.data }, { on := 2, ground := Ground.chain }], guard := none }) rfl (fun K hK => ?_) AllReadyH.nil
    go_simp
    refine (ojudge_any s e a2 n c2 _ HN.out HL2.out hlm).mono ?_
    rw [HJ.out]
    rintro _ x3 ⟨rfl, hb3⟩
    have HS3 : Hid (SE w s e a n cap x3) := SE.keep HSQ.out hb3
    have HB3 : Hid (Below wc.heap.size wc x3) := below_next HB2.out hb3
    clear hb3
    (refine hK _ _ ⟨HS3.out.st, HS3.out.ev⟩ ?_; clear hK K; intro _)
    try simp only [Act.put, List.setIfInBounds_toArray, List.set_cons_zero, List.set_cons_succ]
    have hjj : (j != j) = false := by simp
    refine wpAnyH_take (i := 5) (oi := { dst := some 21, op := Op.binOp BinOp.neq 38 (Operand.tmp 16) (Operand.tmp 20) 38, type := 4, pos := "law.go:136", after := #[{ on := 0, ground := Ground.data }, { on := 4, ground := Ground.data }], guard := none }) (v := ?_) rfl (by kernel_rfl) (by kernel_rfl) (by kernel_rfl) (fun _ _ _ h => h) (Or.inl ⟨by rfl, ?_⟩) ⟨HS3.out.st, HS3.out.ev⟩ ?_
    rotate_left
    · (intro y hy; go_simp; try (with_reducible rfl))
    simp only [Act.put, List.setIfInBounds_toArray, List.set_cons_zero, List.set_cons_succ]
    refine wpAnyH_done (by kernel_rfl) ?_ _
    have HT3 : Hid (StAt x3 b t (.slice a3 n3 c3) ∧ OwnL x3 w.heap.size (.slice a3 n3 c3) t.lines ∧ w.heap.size + 2 ≤ b) := ⟨HR.out.2.1.after HB3.out, HR.out.2.2.1.keep HB3.out, HR.out.2.2.2⟩
    have HN3 : Hid (t.lines.length = n3) := HT3.out.2.1.len
    clear HR HB2 HB3 HSP HSQ HL2
    by_cases h12 : j = 1 ∨ j = 2
    · have hts : s = t := by rw [← ht]; unfold nextS; rw [hj, if_pos h12]
      subst hts
      obtain rfl : n = n3 := HN.out.symm.trans HN3.out
      have hb1 : (j == 1) = true ∨ ((j == 1) = false ∧ (j == 2) = true) := by rcases h12 with rfl | rfl <;> simp
      clear ht hj h12
      have U1 : Hid True := trivial
      rcases hb1 with hb1 | ⟨hb1, hb2⟩ <;>
      · go_wp2_with (first
          | ((with_reducible refine guard_load 25 ?_); clear U1; refine wpList_load_st rfl _ rfl HT3.out.1 rfl ?_)
          | ((with_reducible refine guard_load 25 ?_); refine wpList_load_st rfl _ rfl HS3.out.st rfl ?_)
          | (go_at_call 18; refine (ssame_yes s a3 a n c3 cap _ HN.out (ownl_lns HT3.out.2.1) HS3.out.ln hlm).mono ?_; rintro _ x9 ⟨rfl, hb9⟩; have HE9 : Hid (Below w.heap.size w x9) := below_next HS3.out.bel hb9; clear hb9))
        go_ret
        exact ⟨rfl, HE9.out⟩
    · have hv := (jud_parts (s := s) (e := e) (by rw [hj]; exact fun h => h12 (.inl h)))
      have he1 := (vl_of hv.1).e1
      have he2 := (vl_of hv.1).e2
      have hr1 := (vl_of hv.1).r1
      have hr2 := (vl_of hv.1).r2
      have hb1 : (j == 1) = false := by have : ¬ j = 1 := fun h => h12 (.inl h); simpa using this
      have hb2 : (j == 2) = false := by have : ¬ j = 2 := fun h => h12 (.inr h); simpa using this
      have e8 := HS3.out.st.cell 8 (.int .i64 s.events) rfl
      have e9 := HS3.out.st.cell 9 (.int .i64 s.refused) rfl
      have e0 := HS3.out.st.cell 0 (.int .i64 s.order) rfl
      by_cases h0 : j = 0
      · have htf : t = fineS s e := by rw [← ht]; unfold nextS; rw [hj, if_neg h12, if_pos h0]
        have c8 : x3.cell? ⟨b, 8, none⟩ = some (.int .i64 (s.events + 1)) := by have := HT3.out.1.cell 8 (.int .i64 t.events) rfl; rw [htf] at this; exact this
        have c9 : x3.cell? ⟨b, 9, none⟩ = some (.int .i64 s.refused) := by have := HT3.out.1.cell 9 (.int .i64 t.refused) rfl; rw [htf, show (fineS s e).refused = s.refused from (do_order s e).2] at this; exact this
        have c0 : x3.cell? ⟨b, 0, none⟩ = some (.int .i64 s.order) := by have := HT3.out.1.cell 0 (.int .i64 t.order) rfl; rw [htf, show (fineS s e).order = s.order from (do_order s e).1] at this; exact this
        subst h0
        clear htf ht hj h12 hv
        go_wp2
        go_ret
        exact ⟨rfl, HS3.out.bel⟩
      · have hb0 : (j == 0) = false := by simpa using h0
        have htr : t = { s with refused := s.refused + 1, events := s.events + 1 } := by rw [← ht]; unfold nextS; rw [hj, if_neg h12, if_neg h0]
        subst htr
        obtain rfl : n = n3 := HN.out.symm.trans HN3.out
        have c8 := HT3.out.1.cell 8 (.int .i64 (s.events + 1)) rfl
        have f8 := HT3.out.1.froz 8
        have st1 : StAt (x3.setCell ⟨b, 8, none⟩ (.int .i64 s.events)) b { s with refused := s.refused + 1 } (.slice a3 n c3) := St.setTo HT3.out.1 8 (.int .i64 s.events) rfl
        have c9 := st1.cell 9 (.int .i64 (s.refused + 1)) rfl
        have f9 := st1.froz 9
        have st2 : StAt ((x3.setCell ⟨b, 8, none⟩ (.int .i64 s.events)).setCell ⟨b, 9, none⟩ (.int .i64 s.refused)) b s (.slice a3 n c3) := St.setTo st1 9 (.int .i64 s.refused) rfl
        have HT9 : Hid (StAt ((x3.setCell ⟨b, 8, none⟩ (.int .i64 s.events)).setCell ⟨b, 9, none⟩ (.int .i64 s.refused)) b s (.slice a3 n c3)) := st2
        have HO9 : Hid (OwnL ((x3.setCell ⟨b, 8, none⟩ (.int .i64 s.events)).setCell ⟨b, 9, none⟩ (.int .i64 s.refused)) w.heap.size (.slice a3 n c3) s.lines) := OwnL.setOther (OwnL.setOther (L := s.lines) HT3.out.2.1 ⟨b, 8, none⟩ _ (own_st_ne HT3.out.2.1 HT3.out.1)) ⟨b, 9, none⟩ _ (own_st_ne HT3.out.2.1 HT3.out.1)
        have HS9 : Hid (SE w s e a n cap ((x3.setCell ⟨b, 8, none⟩ (.int .i64 s.events)).setCell ⟨b, 9, none⟩ (.int .i64 s.refused))) := SE.stored HL.out (SE.stored HL.out HS3.out HT3.out.2.2 (fun B a h hB => h.setCell (p := ⟨b, 8, none⟩) hB _) (fun k hk => heap_setCell_other x3 ⟨b, 8, none⟩ k _ hk)) HT3.out.2.2 (fun B a h hB => h.setCell (p := ⟨b, 9, none⟩) hB _) (fun k hk => heap_setCell_other _ ⟨b, 9, none⟩ k _ hk)
        clear ht hj h12 h0 hv st1 st2
        have U1 : Hid True := trivial
        go_wp2_with (first
          | ((with_reducible refine guard_load 25 ?_); clear U1; refine wpList_load_st rfl _ rfl HT9.out rfl ?_)
          | ((with_reducible refine guard_load 25 ?_); refine wpList_load_st rfl _ rfl HS9.out.st rfl ?_)
          | (go_at_call 18; refine (ssame_yes s a3 a n c3 cap _ HN.out (ownl_lns HO9.out) HS9.out.ln hlm).mono ?_; rintro _ x9 ⟨rfl, hb9⟩; have HE9 : Hid (Below w.heap.size w x9) := below_next HS9.out.bel hb9; clear hb9))
        go_ret
        exact ⟨rfl, HE9.out⟩
theorem own : ownKnob Tryz.prog.godebug = none := by kernel_rfl
theorem laidOut : laidOutB Tryz.prog = true := by kernel_rfl
set_option maxRecDepth 100000 in
theorem contract (H : Type) (enc : TypeId × Value → H) (W : World) (base : Nat) (args : Array Value) (ds gs : List (DataW H)) (before : List MemPlace)
    (hval : ∀ (j : Nat) t v, Tryz.f10.params[j]? = some t → args[j]? = some v → Value.okWide Tryz.prog W .any base t v)
    (hW : DataW.Whole enc Tryz.prog Tryz.f10.params.toList Rows.orderRefusesSpec.vars false W args.toList ds gs before)
    (hsz : (DataW.weightsEach Tryz.prog (Tryz.f10.params.toList ++ Rows.orderRefusesSpec.plain.varTypes Tryz.prog) (ds ++ gs)).all (· ≤ reachBytes) = true) :
    Calls Tryz.prog 10 args W fun e W' => ∃ v, e = .returned v ∧ Rows.orderRefusesSpec.post enc Tryz.prog Tryz.f10 false true false false W args v W' := by
  have hW' := hW
  obtain ⟨p, q, hA0, hV, rfl, hfz, hnd⟩ := hW
  have hA : DataW.TrodAll enc Tryz.prog W 0 (fun _ => true) true Tryz.f10.params.toList args.toList ds p := hA0
  rw [Tryz.params10] at hA hval hsz
  obtain ⟨v0, vs0, d0, ds0, p0, q0, hargs, rfl, rfl, h0, r0⟩ := trodAll_cons hA
  obtain ⟨v1, vs1, d1, ds1, p1, q1, rfl, rfl, rfl, h1, r1⟩ := trodAll_cons r0
  obtain ⟨rfl, rfl, rfl⟩ := trodAll_nil r1
  obtain rfl : args = #[v0, v1] := by cases args; simp_all
  obtain ⟨rfl, rfl⟩ := trodVars_none hV
  have k0 := h0
  have lt0 : ∀ x ∈ p0, x.block < W.heap.size := by obtain ⟨m, hm⟩ := k0; exact DataW.trod_lt m _ _ _ hm
  obtain ⟨st0, a0, n0, cap0, rfl, hlen0, w0, c0, m0⟩ := open_state (hval 0 25 v0 rfl rfl) h0 hsz (j := 0) rfl rfl
  have k1 := h1
  have lt1 : ∀ x ∈ p1, x.block < W.heap.size := by obtain ⟨m, hm⟩ := k1; exact DataW.trod_lt m _ _ _ hm
  obtain ⟨a1, rfl, _, w1⟩ := open_event Tryz.underlying37 (by kernel_rfl) (by kernel_rfl) (by kernel_rfl) (by kernel_rfl) (by kernel_rfl) (by kernel_rfl) (by kernel_rfl) (by kernel_rfl) (by kernel_rfl) (by kernel_rfl) (by kernel_rfl) (by kernel_rfl) (hval 1 37 v1 rfl rfl) h1
  clear hA0
  refine (walk st0 a0 n0 cap0 a1 W hlen0 w0 c0 m0 w1).mono fun e W' ⟨he, bel⟩ => ?_
  subst he
  exact ⟨_, rfl, _, _, _, [], _, [], hW', trodAll_mk1 (shut_bool Tryz.underlying4 _), (trodAll_cons_mk (Below.trod laidOut (by kernel_rfl) (of_decide_eq_true (by kernel_rfl)) k0 bel lt0) (trodAll_cons_mk (Below.trod laidOut (by kernel_rfl) (of_decide_eq_true (by kernel_rfl)) k1 bel lt1) trodAll_mk0)), rfl, bel.frame _, fun h => by cases h⟩
set_option maxRecDepth 100000 in
theorem lifted (os : Os) (started : os.Started) (H : Type) (enc : TypeId × Value → H) :
    ReturnsInHanded {} Tryz.checked os 10 .any (Rows.orderRefusesSpec.pre6 enc Tryz.prog Tryz.f10 Rows.orderRefusesRow.domain false) (Rows.orderRefusesSpec.post enc Tryz.prog Tryz.f10 false true false false) := by
  refine returnsInHanded_of_change_sized (C := Tryz.checked) own started (by kernel_rfl) Tryz.func10
    (ChangeSpec.witness6 (enc := enc) (C := Tryz.checked) false ⟨#[], #[.agg #[.int .i64 0, .int .i64 0, .int .i64 0, .int .i64 0, .int .i64 0, .slice none 0 0, .int .i64 0, .int .i64 0, .int .i64 0, .int .i64 0, .int .i64 0, .string ⟨#[]⟩], .agg #[.int .i64 0, .int .i64 0, .int .i64 0, .int .i64 0, .int .i64 0, .int .i64 0, .int .i64 0, .string ⟨#[]⟩, .int .i64 0, .string ⟨#[]⟩]], []⟩ 8 (by kernel_rfl) (by kernel_rfl) (by kernel_rfl) (by kernel_rfl)) ?_
  intro W base args ds gs before hval hW _ hsz _
  exact contract H enc W base args ds gs before hval hW hsz
theorem over : Rows.orderRefusesRow.holds Tryz.pinned (OpenSpec.ofChange Rows.orderRefusesSpec) :=
  OpenClaim.holds_of_wide 10 Tryz.f10 rfl rfl rfl rfl rfl rfl rfl ⟨rfl, rfl, rfl, rfl, rfl⟩ rfl rfl rfl rfl rfl (by kernel_rfl) Tryz.func10 (by kernel_rfl)
    (of_decide_eq_true (by kernel_rfl)) (by unfold Func.isWrapper; first | (rw [if_pos (by decide +kernel)]; kernel_rfl) | (rw [if_neg (by decide +kernel)]; exact ⟨rfl, rfl⟩))
    (fun os started H enc _ => lifted os started H enc)
theorem proved : Rows.OrderRefusesSaid := over
end Go.Proofs.YtmjppeljpifjpaaGreat.orderRefuses
