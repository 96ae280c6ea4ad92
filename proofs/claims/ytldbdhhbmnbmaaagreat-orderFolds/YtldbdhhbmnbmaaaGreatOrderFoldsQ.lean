/- Every fold is the document's, and shares nothing with the state handed in: for every state and every list of events. -/
import Derived.Test.YtldbdhhbmnbmaaaGreatM84
import Derived.Test.YtldbdhhbmnbmaaaGreatM39
import Derived.Test.YtldbdhhbmnbmaaaGreatK41
import Derived.Test.YtldbdhhbmnbmaaaGreatM42
import Derived.SizedLaws
import Derived.ChangeOld
import Derived.Deep.DeepCutAuto
namespace Go.Proofs.YtldbdhhbmnbmaaaGreat.orderFolds
open Go.ChangeShapes Go.WideShapes Go.ChangeAt Go.RowKit
set_option linter.unusedVariables false
set_option linter.unusedSimpArgs false
structure Ofo (w : World) (s : St) (a : Option Addr) (n cap : Nat) (S2 : St) (B5 B6 : Nat) (v3 : Value) (m : St) (vm : Value) (x : World) : Prop where
  bel : Below w.heap.size w x
  st : StAt x w.heap.size s (.slice a n cap)
  ln : Lns x a s.lines
  m5 : StAt x B5 m vm
  r6 : StAt x B6 S2 v3
  o5 : OwnL x w.heap.size vm m.lines
  o6 : OwnL x w.heap.size v3 S2.lines
  n6 : ∀ g, v3.ownBlock = some g → vm.ownBlock ≠ some g
  old : Lns w a s.lines
theorem Ofo.keep {w x y : World} {s : St} {a : Option Addr} {n cap : Nat} {S2 m : St} {B5 B6 : Nat} {v3 vm : Value} (h : Ofo w s a n cap S2 B5 B6 v3 m vm x) (hb : Below x.heap.size x y) : Ofo w s a n cap S2 B5 B6 v3 m vm y :=
  ⟨below_next h.bel hb, h.st.after hb, h.ln.keep hb, h.m5.after hb, h.r6.after hb, h.o5.keep hb, h.o6.keep hb, h.n6, h.old⟩
theorem Ofo.turn {w x : World} {s : St} {a : Option Addr} {n cap : Nat} {S2 m : St} {B5 B6 g k c : Nat} {v3 : Value} (h : Ofo w s a n cap S2 B5 B6 v3 m (.slice (some ⟨g, 0, none⟩) k c) x) (i j : Nat) (p : Ln) (y : Int) (hp : m.lines[i]? = some p) (hj : j < 4) :
    Ofo w s a n cap S2 B5 B6 v3 { m with lines := m.lines.set i (turnL p j y) } (.slice (some ⟨g, 0, none⟩) k c) (x.setCell ⟨g, i * 4 + j, none⟩ (.int .i64 y)) := by
  have n0 : some w.heap.size ≠ some g := own_st_ne h.o5 h.st
  have n5 : some B5 ≠ some g := own_st_ne h.o5 h.m5
  have n6 : some B6 ≠ some g := own_st_ne h.o5 h.r6
  have hg := (h.o5.ob g rfl).1
  have hot : ∀ b, b ≠ g → (x.setCell ⟨g, i * 4 + j, none⟩ (.int .i64 y)).heap[b]? = x.heap[b]? := fun b hb => heap_setCell_other x ⟨g, i * 4 + j, none⟩ b _ hb
  have hbel := h.bel.setCell (p := ⟨g, i * 4 + j, none⟩) hg (.int .i64 y)
  refine ⟨hbel, (hot _ (fun hh => n0 (congrArg some hh))).trans h.st, h.old.keep hbel, (hot _ (fun hh => n5 (congrArg some hh))).trans h.m5, (hot _ (fun hh => n6 (congrArg some hh))).trans h.r6, h.o5.turn i j p y hp hj, ?_, h.n6, h.old⟩
  exact h.o6.keepOther (fun b hb => hot b (fun hh => h.n6 b hb (congrArg some hh.symm)))
set_option maxRecDepth 20000 in
set_option maxHeartbeats 16000000 in
theorem walk (s : St) (a : Option Addr) (n cap : Nat) (es : List Ev) (ea : Option Addr) (m ecap : Nat) (w : World) (hn : s.lines.length = n) (hl : Lns w a s.lines) (hc : n ≤ cap) (hm : n * 32 ≤ 140737488351232)
    (hme : es.length = m) (hes : EvsIn w ea es) (hec : m ≤ ecap ∧ ecap * 96 ≤ 140737488351232 ∧ (ea = none → ecap = 0)) :
    Calls Tryz.prog 4 #[.agg (stA s (.slice a n cap)), .slice ea m ecap] w fun r w' => r = .returned (.bool true) ∧ Below w.heap.size w w' := by
  have HN : Hid (s.lines.length = n) := hn
  have HOLD : Hid (Lns w a s.lines) := hl
  have HM : Hid (es.length = m) := hme
  have HES : Hid (EvsIn w ea es) := hes
  have HAC : Hid (ea = none → ecap = 0) := hec.2.2
  have hmc : m ≤ ecap := hec.1
  have hm96 : m * 96 ≤ 140737488351232 := by omega
  have hml : m ≤ maxLen := by unfold maxLen; omega
  have hlm : n ≤ maxLen := by unfold maxLen; omega
  have hmm : m ≤ 140737488351232 := by omega
  have HC0 : Hid (StC w w.heap.size s a n cap (w.alloc (.cells (stA s (.slice a n cap)) 25))) := StC.new w s a n cap hl
  obtain ⟨FW, hFW⟩ : ∃ F, foldS s es = F := ⟨_, rfl⟩
  have HFW : Hid (foldS s es = FW) := hFW
  have HL7 : Hid (FW.lines.length * 32 ≤ 140737488351232) := by show _ ≤ _; rw [← hFW]; exact fold_lenR s _ n hn hm
  clear hn hl hme hes hec hFW
  go_enter Tryz.func4, Tryz.ntmps4
  go_upto_region 4 with (first
    | (go_at_call 5; refine (head08_any _).mono ?_; rintro _ x1 ⟨rfl, hb1⟩; have HC1 : Hid (StC w w.heap.size s a n cap x1) := StC.keep HC0.out hb1; clear hb1)
    | ((with_reducible refine guard_load 25 ?_); refine wpList_load_st rfl _ rfl HC1.out.1 rfl ?_)
    | (go_at_call 6; refine (scopy_any s a n cap _ HN.out HC1.out.2.1 hm).mono ?_; rintro _ x2 ⟨v2, rfl, ho2, hb2⟩; obtain ⟨a2, c2, hv2, _, _, hl2, _⟩ := ho2.shape; simp only [HN.out] at hv2; subst hv2; have HX2 : Hid (StC w w.heap.size s a n cap x2 ∧ OwnL x2 w.heap.size (.slice a2 n c2) s.lines) := ⟨StC.keep HC1.out hb2, ho2.mono HC1.out.2.2.size⟩; clear hb2 ho2 hl2)
    | ((with_reducible refine guard_store 25 ?_); refine wpList_store_st (s := zeroS) (s2 := s) (a2 := a2) (n2 := n) (c2 := c2) rfl _ _ rfl (StAt.new x2 zeroS (.slice none 0 0)) rfl rfl ?_; intro x3 z1 z2 z3 z4; have hu : Below x2.heap.size x2 x3 := z2 _ _ ((Below.refl x2.heap.size x2).alloc (Nat.le_refl _) _) (Nat.le_refl _); have HO3 : Hid (OwnL x3 w.heap.size (.slice a2 n c2) s.lines) := HX2.out.2.keep hu; have HQ : Hid (StC w w.heap.size s a n cap x3 ∧ Lns x3 a2 s.lines ∧ StAt x3 x2.heap.size s (.slice a2 n c2)) := ⟨StC.keep HX2.out.1 hu, ownl_lns HO3.out, z1⟩; clear z1 z2 z3 z4 hu))
  try simp only [Act.put]
  clear HC0 HC1 HX2
  go_cut [6] (fun v6 wx => ∃ b6 a7 n7 c7, v6 = .pointer (some ⟨b6, 0, none⟩) ∧ Hid (StAt wx b6 FW (.slice a7 n7 c7) ∧ OwnL wx x3.heap.size (.slice a7 n7 c7) FW.lines ∧ Below x3.heap.size x3 wx))
  case first =>
    refine wp_region_held (S := fun y => StAt y x2.heap.size s (.slice a2 n c2)) (by kernel_rfl) ?_
    change wpAnyH _ _ _ _ _ _ _ _ (World.drew _)
    obtain ⟨D, hD⟩ : ∃ D, x3.drew = D := ⟨_, rfl⟩
    have HB0 : Hid (Below x3.heap.size x3 D) := by rw [← hD]; exact (Below.refl _ _).drew
    rw [hD]
    clear hD
    refine wpAnyH_take (i := 0) (oi := { dst := some 12, op := Op.load 25 (Operand.tmp 5), type := 25, pos := "law.go:74", after := #[], guard := none }) (v := .agg (stA s (.slice a2 n c2))) rfl (by kernel_rfl) (by kernel_rfl) (by kernel_rfl) (fun _ _ _ h => h) (Or.inl ⟨by rfl, fun y hy => exec_load_st (.tmp 5) rfl rfl hy⟩) (HQ.out.2.2.after HB0.out) ?_
    simp only [Act.put, List.setIfInBounds_toArray, List.set_cons_zero, List.set_cons_succ]
    refine wpAnyH_take (i := 2) (oi := { dst := some 14, op := Op.move (Operand.tmp 1), type := 38, pos := "law.go:74", after := #[], guard := none }) (v := ?_) rfl (by kernel_rfl) (by kernel_rfl) (by kernel_rfl) (fun _ _ _ h => h) (Or.inl ⟨by rfl, ?_⟩) (HQ.out.2.2.after HB0.out) ?_
    rotate_left
    · (intro y hy; go_simp; try (with_reducible rfl))
    simp only [Act.put, List.setIfInBounds_toArray, List.set_cons_zero, List.set_cons_succ]
    refine wpAnyH_ready (rs := [1, 5]) (by kernel_rfl) (by simp) ?_
    refine AllReadyH.cons (o := { dst := some 13, op := Op.buildSlice 38 0 #[], type := 38, pos := "law.go:74", after := #[], guard := none }) rfl (fun K hK => ?_) (AllReadyH.cons (o := { dst := some 6, op := Op.alloc 25, type := 0, pos := "law.go:74", after := #[], guard := none }) rfl (fun K hK => ?_) AllReadyH.nil)
    · go_simp
      obtain ⟨y1, hY⟩ : ∃ Y, D.alloc (.cells #[] 28) = Y := ⟨_, rfl⟩
      rw [hY]
      have hb : Below D.heap.size D y1 := by rw [← hY]; exact (Below.refl _ _).alloc (Nat.le_refl _) _
      have HB2 : Hid (Below x3.heap.size x3 y1) := below_next HB0.out hb
      clear hY hb
      (refine hK _ _ (HQ.out.2.2.after HB2.out) ?_; clear hK K; intro _)
      try simp only [Act.put, List.setIfInBounds_toArray, List.set_cons_zero, List.set_cons_succ]
      refine wpAnyH_ready (rs := [3, 5]) (by kernel_rfl) (by simp) ?_
      refine AllReadyH.cons (o := { dst := some 15, op := Op.call { callee := Callee.builtin Builtin.append, args := #[Operand.tmp 13, Operand.tmp 14], argTypes := #[38, 38] }, type := 38, pos := "law.go:74", after := #[{ on := 1, ground := Ground.data }, { on := 2, ground := Ground.data }], guard := none }) rfl (fun K hK => ?_) (AllReadyH.cons (o := { dst := some 6, op := Op.alloc 25, type := 0, pos := "law.go:74", after := #[], guard := none }) rfl (fun K hK => ?_) AllReadyH.nil)
      · refine step_append_fresh rfl _ _ rfl ⟨D.heap.size, 0, none⟩ ea m ecap es rfl rfl HM.out (HES.out.keep (below_next HQ.out.1.2.2 HB2.out)) HAC.out (by omega) ?_
        intro a6 c6 y3 he6 hb6
        have HB4 : Hid (Below x3.heap.size x3 y3) := below_next HB2.out hb6
        have HE5 : Hid (EvsIn y3 a6 es) := he6
        clear he6 hb6
        (refine hK _ _ (HQ.out.2.2.after HB4.out) ?_; clear hK K; intro _)
        try simp only [Act.put, List.setIfInBounds_toArray, List.set_cons_zero, List.set_cons_succ]
        refine wpAnyH_ready (rs := [4, 5]) (by kernel_rfl) (by simp) ?_
        refine AllReadyH.cons (o := { dst := some 16, op := Op.call { callee := Callee.value (Operand.func 10), args := #[Operand.tmp 12, Operand.tmp 15], argTypes := #[25, 38] }, type := 25, pos := "law.go:74", after := #[{ on := 0, ground := Ground.data }, { on := 3, ground := Ground.data }, { on := 3, ground := Ground.chain }], guard := none }) rfl (fun K hK => ?_) (AllReadyH.cons (o := { dst := some 6, op := Op.alloc 25, type := 0, pos := "law.go:74", after := #[], guard := none }) rfl (fun K hK => ?_) AllReadyH.nil)
        · go_simp
          refine (fold_any s es a2 a6 n c2 m c6 _ HN.out (HQ.out.2.1.keep HB4.out) hm HM.out HE5.out hml).mono ?_
          rw [HFW.out]
          rintro _ y6 ⟨a8, n8, c8, rfl, ho8, hb8⟩
          have HLW7 : Hid (x3.heap.size ≤ y3.heap.size) := HB4.out.size
          have HB8 : Hid (Below x3.heap.size x3 y6) := below_next HB4.out hb8
          have HE8 : Hid (EvsIn y6 a6 es) := HE5.out.keep hb8
          have HO9 : Hid (OwnL y6 x3.heap.size (.slice a8 n8 c8) FW.lines) := ho8.mono HLW7.out
          clear ho8 hb8
          (refine hK _ _ (HQ.out.2.2.after HB8.out) ?_; clear hK K; intro _)
          try simp only [Act.put, List.setIfInBounds_toArray, List.set_cons_zero, List.set_cons_succ]
          refine wpAnyH_ready (rs := [5]) (by kernel_rfl) (by simp) ?_
          refine AllReadyH.cons (o := { dst := some 6, op := Op.alloc 25, type := 0, pos := "law.go:74", after := #[], guard := none }) rfl (fun K hK => ?_) AllReadyH.nil
          go_simp
          obtain ⟨y10, hY⟩ : ∃ Y, y6.alloc (.cells #[.int .i64 0, .int .i64 0, .int .i64 0, .int .i64 0, .int .i64 0, .slice none 0 0, .int .i64 0, .int .i64 0, .int .i64 0, .int .i64 0, .int .i64 0, .string ⟨#[]⟩] 25) = Y := ⟨_, rfl⟩
          rw [hY]
          have hb : Below y6.heap.size y6 y10 := by rw [← hY]; exact (Below.refl _ _).alloc (Nat.le_refl _) _
          have HLO11 : Hid (x3.heap.size ≤ y6.heap.size) := HB8.out.size
          have HB12 : Hid (Below x3.heap.size x3 y10) := below_next HB8.out hb
          have HE12 : Hid (EvsIn y10 a6 es) := HE8.out.keep hb
          have HO12 : Hid (OwnL y10 x3.heap.size (.slice a8 n8 c8) FW.lines) := HO9.out.keep hb
          have HZ13 : Hid (StAt y10 y6.heap.size zeroS (.slice none 0 0)) := by rw [← hY]; exact StAt.new y6 zeroS _
          clear hY hb
          (refine hK _ _ (HQ.out.2.2.after HB12.out) ?_; clear hK K; intro _)
          try simp only [Act.put, List.setIfInBounds_toArray, List.set_cons_zero, List.set_cons_succ]
          refine wpAnyH_ready (rs := [6]) (by kernel_rfl) (by simp) ?_
          refine AllReadyH.cons (o := { dst := none, op := Op.store 25 (Operand.tmp 6) (Operand.tmp 16), type := 0, pos := "law.go:74", after := #[{ on := 5, ground := Ground.data }, { on := 4, ground := Ground.data }, { on := 4, ground := Ground.chain }, { on := 0, ground := Ground.phase }, { on := 1, ground := Ground.phase }, { on := 2, ground := Ground.phase }, { on := 3, ground := Ground.phase }, { on := 4, ground := Ground.phase }, { on := 5, ground := Ground.phase }], guard := none }) rfl (fun K hK => ?_) AllReadyH.nil
          refine step_store_st (s := zeroS) (s2 := FW) (a2 := a8) (n2 := n8) (c2 := c8) rfl _ _ rfl HZ13.out rfl rfl ?_
          intro y14 z1 z2 z3 z4
          have HB15 : Hid (Below x3.heap.size x3 y14) := z2 _ _ HB12.out HLO11.out
          have HR9 : Hid (StAt y14 y6.heap.size FW (.slice a8 n8 c8) ∧ OwnL y14 x3.heap.size (.slice a8 n8 c8) FW.lines ∧ Below x3.heap.size x3 y14) := ⟨z1, HO12.out.keepOther (fun g hg => z3 g (fun hh => own_st_ne HO12.out (hh ▸ HZ13.out) hg.symm)), HB15.out⟩
          clear z1 z2 z3 z4
          (refine hK _ _ (HQ.out.2.2.after HB15.out) ?_; clear hK K; intro _)
          try simp only [Act.put, List.setIfInBounds_toArray, List.set_cons_zero, List.set_cons_succ]
          refine wpAnyH_done (by kernel_rfl) ?_ _
          go_wp2
          go_meet
          exact ⟨y6.heap.size, a8, n8, c8, rfl, HR9.out⟩
        · go_simp
          obtain ⟨y16, hY⟩ : ∃ Y, y3.alloc (.cells #[.int .i64 0, .int .i64 0, .int .i64 0, .int .i64 0, .int .i64 0, .slice none 0 0, .int .i64 0, .int .i64 0, .int .i64 0, .int .i64 0, .int .i64 0, .string ⟨#[]⟩] 25) = Y := ⟨_, rfl⟩
          rw [hY]
          have hb : Below y3.heap.size y3 y16 := by rw [← hY]; exact (Below.refl _ _).alloc (Nat.le_refl _) _
          have HLO17 : Hid (x3.heap.size ≤ y3.heap.size) := HB4.out.size
          have HB18 : Hid (Below x3.heap.size x3 y16) := below_next HB4.out hb
          have HE18 : Hid (EvsIn y16 a6 es) := HE5.out.keep hb
          have HZ19 : Hid (StAt y16 y3.heap.size zeroS (.slice none 0 0)) := by rw [← hY]; exact StAt.new y3 zeroS _
          clear hY hb
          (refine hK _ _ (HQ.out.2.2.after HB18.out) ?_; clear hK K; intro _)
          try simp only [Act.put, List.setIfInBounds_toArray, List.set_cons_zero, List.set_cons_succ]
          refine wpAnyH_ready (rs := [4]) (by kernel_rfl) (by simp) ?_
          refine AllReadyH.cons (o := { dst := some 16, op := Op.call { callee := Callee.value (Operand.func 10), args := #[Operand.tmp 12, Operand.tmp 15], argTypes := #[25, 38] }, type := 25, pos := "law.go:74", after := #[{ on := 0, ground := Ground.data }, { on := 3, ground := Ground.data }, { on := 3, ground := Ground.chain }], guard := none }) rfl (fun K hK => ?_) AllReadyH.nil
          go_simp
          refine (fold_any s es a2 a6 n c2 m c6 _ HN.out (HQ.out.2.1.keep HB18.out) hm HM.out HE18.out hml).mono ?_
          rw [HFW.out]
          rintro _ y20 ⟨a8, n8, c8, rfl, ho8, hb8⟩
          have HLW21 : Hid (x3.heap.size ≤ y16.heap.size) := HB18.out.size
          have HB22 : Hid (Below x3.heap.size x3 y20) := below_next HB18.out hb8
          have HE22 : Hid (EvsIn y20 a6 es) := HE18.out.keep hb8
          have HZ22 : Hid (StAt y20 y3.heap.size zeroS (.slice none 0 0)) := HZ19.out.after hb8
          have HO23 : Hid (OwnL y20 x3.heap.size (.slice a8 n8 c8) FW.lines) := ho8.mono HLW21.out
          clear ho8 hb8
          (refine hK _ _ (HQ.out.2.2.after HB22.out) ?_; clear hK K; intro _)
          try simp only [Act.put, List.setIfInBounds_toArray, List.set_cons_zero, List.set_cons_succ]
          refine wpAnyH_ready (rs := [6]) (by kernel_rfl) (by simp) ?_
          refine AllReadyH.cons (o := { dst := none, op := Op.store 25 (Operand.tmp 6) (Operand.tmp 16), type := 0, pos := "law.go:74", after := #[{ on := 5, ground := Ground.data }, { on := 4, ground := Ground.data }, { on := 4, ground := Ground.chain }, { on := 0, ground := Ground.phase }, { on := 1, ground := Ground.phase }, { on := 2, ground := Ground.phase }, { on := 3, ground := Ground.phase }, { on := 4, ground := Ground.phase }, { on := 5, ground := Ground.phase }], guard := none }) rfl (fun K hK => ?_) AllReadyH.nil
          refine step_store_st (s := zeroS) (s2 := FW) (a2 := a8) (n2 := n8) (c2 := c8) rfl _ _ rfl HZ22.out rfl rfl ?_
          intro y24 z1 z2 z3 z4
          have HB25 : Hid (Below x3.heap.size x3 y24) := z2 _ _ HB22.out HLO17.out
          have HR9 : Hid (StAt y24 y3.heap.size FW (.slice a8 n8 c8) ∧ OwnL y24 x3.heap.size (.slice a8 n8 c8) FW.lines ∧ Below x3.heap.size x3 y24) := ⟨z1, HO23.out.keepOther (fun g hg => z3 g (fun hh => own_st_ne HO23.out (hh ▸ HZ22.out) hg.symm)), HB25.out⟩
          clear z1 z2 z3 z4
          (refine hK _ _ (HQ.out.2.2.after HB25.out) ?_; clear hK K; intro _)
          try simp only [Act.put, List.setIfInBounds_toArray, List.set_cons_zero, List.set_cons_succ]
          refine wpAnyH_done (by kernel_rfl) ?_ _
          go_wp2
          go_meet
          exact ⟨y3.heap.size, a8, n8, c8, rfl, HR9.out⟩
      · go_simp
        obtain ⟨y26, hY⟩ : ∃ Y, y1.alloc (.cells #[.int .i64 0, .int .i64 0, .int .i64 0, .int .i64 0, .int .i64 0, .slice none 0 0, .int .i64 0, .int .i64 0, .int .i64 0, .int .i64 0, .int .i64 0, .string ⟨#[]⟩] 25) = Y := ⟨_, rfl⟩
        rw [hY]
        have hb : Below y1.heap.size y1 y26 := by rw [← hY]; exact (Below.refl _ _).alloc (Nat.le_refl _) _
        have HLO27 : Hid (x3.heap.size ≤ y1.heap.size) := HB2.out.size
        have HB28 : Hid (Below x3.heap.size x3 y26) := below_next HB2.out hb
        have HZ29 : Hid (StAt y26 y1.heap.size zeroS (.slice none 0 0)) := by rw [← hY]; exact StAt.new y1 zeroS _
        clear hY hb
        (refine hK _ _ (HQ.out.2.2.after HB28.out) ?_; clear hK K; intro _)
        try simp only [Act.put, List.setIfInBounds_toArray, List.set_cons_zero, List.set_cons_succ]
        refine wpAnyH_ready (rs := [3]) (by kernel_rfl) (by simp) ?_
        refine AllReadyH.cons (o := { dst := some 15, op := Op.call { callee := Callee.builtin Builtin.append, args := #[Operand.tmp 13, Operand.tmp 14], argTypes := #[38, 38] }, type := 38, pos := "law.go:74", after := #[{ on := 1, ground := Ground.data }, { on := 2, ground := Ground.data }], guard := none }) rfl (fun K hK => ?_) AllReadyH.nil
        refine step_append_fresh rfl _ _ rfl ⟨D.heap.size, 0, none⟩ ea m ecap es rfl rfl HM.out (HES.out.keep (below_next HQ.out.1.2.2 HB28.out)) HAC.out (by omega) ?_
        intro a6 c6 y30 he6 hb6
        have HB31 : Hid (Below x3.heap.size x3 y30) := below_next HB28.out hb6
        have HZ31 : Hid (StAt y30 y1.heap.size zeroS (.slice none 0 0)) := HZ29.out.after hb6
        have HE32 : Hid (EvsIn y30 a6 es) := he6
        clear he6 hb6
        (refine hK _ _ (HQ.out.2.2.after HB31.out) ?_; clear hK K; intro _)
        try simp only [Act.put, List.setIfInBounds_toArray, List.set_cons_zero, List.set_cons_succ]
        refine wpAnyH_ready (rs := [4]) (by kernel_rfl) (by simp) ?_
        refine AllReadyH.cons (o := { dst := some 16, op := Op.call { callee := Callee.value (Operand.func 10), args := #[Operand.tmp 12, Operand.tmp 15], argTypes := #[25, 38] }, type := 25, pos := "law.go:74", after := #[{ on := 0, ground := Ground.data }, { on := 3, ground := Ground.data }, { on := 3, ground := Ground.chain }], guard := none }) rfl (fun K hK => ?_) AllReadyH.nil
        go_simp
        refine (fold_any s es a2 a6 n c2 m c6 _ HN.out (HQ.out.2.1.keep HB31.out) hm HM.out HE32.out hml).mono ?_
        rw [HFW.out]
        rintro _ y33 ⟨a8, n8, c8, rfl, ho8, hb8⟩
        have HLW34 : Hid (x3.heap.size ≤ y30.heap.size) := HB31.out.size
        have HB35 : Hid (Below x3.heap.size x3 y33) := below_next HB31.out hb8
        have HZ35 : Hid (StAt y33 y1.heap.size zeroS (.slice none 0 0)) := HZ31.out.after hb8
        have HE35 : Hid (EvsIn y33 a6 es) := HE32.out.keep hb8
        have HO36 : Hid (OwnL y33 x3.heap.size (.slice a8 n8 c8) FW.lines) := ho8.mono HLW34.out
        clear ho8 hb8
        (refine hK _ _ (HQ.out.2.2.after HB35.out) ?_; clear hK K; intro _)
        try simp only [Act.put, List.setIfInBounds_toArray, List.set_cons_zero, List.set_cons_succ]
        refine wpAnyH_ready (rs := [6]) (by kernel_rfl) (by simp) ?_
        refine AllReadyH.cons (o := { dst := none, op := Op.store 25 (Operand.tmp 6) (Operand.tmp 16), type := 0, pos := "law.go:74", after := #[{ on := 5, ground := Ground.data }, { on := 4, ground := Ground.data }, { on := 4, ground := Ground.chain }, { on := 0, ground := Ground.phase }, { on := 1, ground := Ground.phase }, { on := 2, ground := Ground.phase }, { on := 3, ground := Ground.phase }, { on := 4, ground := Ground.phase }, { on := 5, ground := Ground.phase }], guard := none }) rfl (fun K hK => ?_) AllReadyH.nil
        refine step_store_st (s := zeroS) (s2 := FW) (a2 := a8) (n2 := n8) (c2 := c8) rfl _ _ rfl HZ35.out rfl rfl ?_
        intro y37 z1 z2 z3 z4
        have HB38 : Hid (Below x3.heap.size x3 y37) := z2 _ _ HB35.out HLO27.out
        have HR9 : Hid (StAt y37 y1.heap.size FW (.slice a8 n8 c8) ∧ OwnL y37 x3.heap.size (.slice a8 n8 c8) FW.lines ∧ Below x3.heap.size x3 y37) := ⟨z1, HO36.out.keepOther (fun g hg => z3 g (fun hh => own_st_ne HO36.out (hh ▸ HZ35.out) hg.symm)), HB38.out⟩
        clear z1 z2 z3 z4
        (refine hK _ _ (HQ.out.2.2.after HB38.out) ?_; clear hK K; intro _)
        try simp only [Act.put, List.setIfInBounds_toArray, List.set_cons_zero, List.set_cons_succ]
        refine wpAnyH_done (by kernel_rfl) ?_ _
        go_wp2
        go_meet
        exact ⟨y1.heap.size, a8, n8, c8, rfl, HR9.out⟩
    · go_simp
      obtain ⟨y39, hY⟩ : ∃ Y, D.alloc (.cells #[.int .i64 0, .int .i64 0, .int .i64 0, .int .i64 0, .int .i64 0, .slice none 0 0, .int .i64 0, .int .i64 0, .int .i64 0, .int .i64 0, .int .i64 0, .string ⟨#[]⟩] 25) = Y := ⟨_, rfl⟩
      rw [hY]
      have hb : Below D.heap.size D y39 := by rw [← hY]; exact (Below.refl _ _).alloc (Nat.le_refl _) _
      have HLO40 : Hid (x3.heap.size ≤ D.heap.size) := HB0.out.size
      have HB41 : Hid (Below x3.heap.size x3 y39) := below_next HB0.out hb
      have HZ42 : Hid (StAt y39 D.heap.size zeroS (.slice none 0 0)) := by rw [← hY]; exact StAt.new D zeroS _
      clear hY hb
      (refine hK _ _ (HQ.out.2.2.after HB41.out) ?_; clear hK K; intro _)
      try simp only [Act.put, List.setIfInBounds_toArray, List.set_cons_zero, List.set_cons_succ]
      refine wpAnyH_ready (rs := [1]) (by kernel_rfl) (by simp) ?_
      refine AllReadyH.cons (o := { dst := some 13, op := Op.buildSlice 38 0 #[], type := 38, pos := "law.go:74", after := #[], guard := none }) rfl (fun K hK => ?_) AllReadyH.nil
      go_simp
      obtain ⟨y43, hY⟩ : ∃ Y, y39.alloc (.cells #[] 28) = Y := ⟨_, rfl⟩
      rw [hY]
      have hb : Below y39.heap.size y39 y43 := by rw [← hY]; exact (Below.refl _ _).alloc (Nat.le_refl _) _
      have HB44 : Hid (Below x3.heap.size x3 y43) := below_next HB41.out hb
      have HZ44 : Hid (StAt y43 D.heap.size zeroS (.slice none 0 0)) := HZ42.out.after hb
      clear hY hb
      (refine hK _ _ (HQ.out.2.2.after HB44.out) ?_; clear hK K; intro _)
      try simp only [Act.put, List.setIfInBounds_toArray, List.set_cons_zero, List.set_cons_succ]
      refine wpAnyH_ready (rs := [3]) (by kernel_rfl) (by simp) ?_
      refine AllReadyH.cons (o := { dst := some 15, op := Op.call { callee := Callee.builtin Builtin.append, args := #[Operand.tmp 13, Operand.tmp 14], argTypes := #[38, 38] }, type := 38, pos := "law.go:74", after := #[{ on := 1, ground := Ground.data }, { on := 2, ground := Ground.data }], guard := none }) rfl (fun K hK => ?_) AllReadyH.nil
      refine step_append_fresh rfl _ _ rfl ⟨y39.heap.size, 0, none⟩ ea m ecap es rfl rfl HM.out (HES.out.keep (below_next HQ.out.1.2.2 HB44.out)) HAC.out (by omega) ?_
      intro a6 c6 y45 he6 hb6
      have HB46 : Hid (Below x3.heap.size x3 y45) := below_next HB44.out hb6
      have HZ46 : Hid (StAt y45 D.heap.size zeroS (.slice none 0 0)) := HZ44.out.after hb6
      have HE47 : Hid (EvsIn y45 a6 es) := he6
      clear he6 hb6
      (refine hK _ _ (HQ.out.2.2.after HB46.out) ?_; clear hK K; intro _)
      try simp only [Act.put, List.setIfInBounds_toArray, List.set_cons_zero, List.set_cons_succ]
      refine wpAnyH_ready (rs := [4]) (by kernel_rfl) (by simp) ?_
      refine AllReadyH.cons (o := { dst := some 16, op := Op.call { callee := Callee.value (Operand.func 10), args := #[Operand.tmp 12, Operand.tmp 15], argTypes := #[25, 38] }, type := 25, pos := "law.go:74", after := #[{ on := 0, ground := Ground.data }, { on := 3, ground := Ground.data }, { on := 3, ground := Ground.chain }], guard := none }) rfl (fun K hK => ?_) AllReadyH.nil
      go_simp
      refine (fold_any s es a2 a6 n c2 m c6 _ HN.out (HQ.out.2.1.keep HB46.out) hm HM.out HE47.out hml).mono ?_
      rw [HFW.out]
      rintro _ y48 ⟨a8, n8, c8, rfl, ho8, hb8⟩
      have HLW49 : Hid (x3.heap.size ≤ y45.heap.size) := HB46.out.size
      have HB50 : Hid (Below x3.heap.size x3 y48) := below_next HB46.out hb8
      have HZ50 : Hid (StAt y48 D.heap.size zeroS (.slice none 0 0)) := HZ46.out.after hb8
      have HE50 : Hid (EvsIn y48 a6 es) := HE47.out.keep hb8
      have HO51 : Hid (OwnL y48 x3.heap.size (.slice a8 n8 c8) FW.lines) := ho8.mono HLW49.out
      clear ho8 hb8
      (refine hK _ _ (HQ.out.2.2.after HB50.out) ?_; clear hK K; intro _)
      try simp only [Act.put, List.setIfInBounds_toArray, List.set_cons_zero, List.set_cons_succ]
      refine wpAnyH_ready (rs := [6]) (by kernel_rfl) (by simp) ?_
      refine AllReadyH.cons (o := { dst := none, op := Op.store 25 (Operand.tmp 6) (Operand.tmp 16), type := 0, pos := "law.go:74", after := #[{ on := 5, ground := Ground.data }, { on := 4, ground := Ground.data }, { on := 4, ground := Ground.chain }, { on := 0, ground := Ground.phase }, { on := 1, ground := Ground.phase }, { on := 2, ground := Ground.phase }, { on := 3, ground := Ground.phase }, { on := 4, ground := Ground.phase }, { on := 5, ground := Ground.phase }], guard := none }) rfl (fun K hK => ?_) AllReadyH.nil
      refine step_store_st (s := zeroS) (s2 := FW) (a2 := a8) (n2 := n8) (c2 := c8) rfl _ _ rfl HZ50.out rfl rfl ?_
      intro y52 z1 z2 z3 z4
      have HB53 : Hid (Below x3.heap.size x3 y52) := z2 _ _ HB50.out HLO40.out
      have HR9 : Hid (StAt y52 D.heap.size FW (.slice a8 n8 c8) ∧ OwnL y52 x3.heap.size (.slice a8 n8 c8) FW.lines ∧ Below x3.heap.size x3 y52) := ⟨z1, HO51.out.keepOther (fun g hg => z3 g (fun hh => own_st_ne HO51.out (hh ▸ HZ50.out) hg.symm)), HB53.out⟩
      clear z1 z2 z3 z4
      (refine hK _ _ (HQ.out.2.2.after HB53.out) ?_; clear hK K; intro _)
      try simp only [Act.put, List.setIfInBounds_toArray, List.set_cons_zero, List.set_cons_succ]
      refine wpAnyH_done (by kernel_rfl) ?_ _
      go_wp2
      go_meet
      exact ⟨D.heap.size, a8, n8, c8, rfl, HR9.out⟩
  case rest =>
    obtain ⟨b6, a7, n7, c7, rfl, HRR⟩ := hcut
    have HR : Hid (Ofo w s a n cap FW x2.heap.size b6 (.slice a7 n7 c7) s (.slice a2 n c2) wc) := by
      have hb := HRR.out.2.2
      have hsz := HQ.out.1.2.2.size
      exact ⟨below_next HQ.out.1.2.2 hb, HQ.out.1.1.after hb, HQ.out.1.2.1.keep hb, HQ.out.2.2.after hb, HRR.out.1, HO3.out.keep hb, HRR.out.2.1.mono hsz, fun g hg h2 => by have q1 := (HRR.out.2.1.ob g hg).1; have q2 := (HO3.out.ob g h2).2.1; omega, HOLD.out⟩
    have HN7 : Hid (FW.lines.length = n7) := HRR.out.2.1.len
    have HN7M : Hid (n7 ≤ maxLen) := by have h1 := HL7.out; rw [HN7.out] at h1; show _ ≤ _; unfold maxLen; omega
    clear HRR HQ HO3
    go_wp2_with fail
    refine wp_region_held (S := fun y => StAt y b6 FW (.slice a7 n7 c7) ∧ StAt y w.heap.size s (.slice a n cap) ∧ StAt y x2.heap.size s (.slice a2 n c2)) (by kernel_rfl) ?_
    change wpAnyH _ _ _ _ _ _ _ _ (World.drew _)
    obtain ⟨D, hD⟩ : ∃ D, wc.drew = D := ⟨_, rfl⟩
    have HG0 : Hid (Ofo w s a n cap FW x2.heap.size b6 (.slice a7 n7 c7) s (.slice a2 n c2) D) := by rw [← hD]; exact HR.out.keep (Below.refl _ _).drew
    rw [hD]
    clear hD
    refine wpAnyH_take (i := 0) (oi := { dst := some 17, op := Op.load 25 (Operand.tmp 6), type := 25, pos := "law.go:75", after := #[], guard := none }) (v := .agg (stA FW (.slice a7 n7 c7))) rfl (by kernel_rfl) (by kernel_rfl) (by kernel_rfl) (fun _ _ _ h => h) (Or.inl ⟨by rfl, fun y hy => exec_load_st (.tmp 6) rfl rfl hy.1⟩) ⟨HG0.out.r6, HG0.out.st, HG0.out.m5⟩ ?_
    simp only [Act.put, List.setIfInBounds_toArray, List.set_cons_zero, List.set_cons_succ]
    refine wpAnyH_take (i := 1) (oi := { dst := some 18, op := Op.load 25 (Operand.tmp 2), type := 25, pos := "law.go:75", after := #[], guard := none }) (v := .agg (stA s (.slice a n cap))) rfl (by kernel_rfl) (by kernel_rfl) (by kernel_rfl) (fun _ _ _ h => h) (Or.inl ⟨by rfl, fun y hy => exec_load_st (.tmp 2) rfl rfl hy.2.1⟩) ⟨HG0.out.r6, HG0.out.st, HG0.out.m5⟩ ?_
    simp only [Act.put, List.setIfInBounds_toArray, List.set_cons_zero, List.set_cons_succ]
    refine wpAnyH_take (i := 2) (oi := { dst := some 19, op := Op.move (Operand.tmp 1), type := 38, pos := "law.go:75", after := #[], guard := none }) (v := ?_) rfl (by kernel_rfl) (by kernel_rfl) (by kernel_rfl) (fun _ _ _ h => h) (Or.inl ⟨by rfl, ?_⟩) ⟨HG0.out.r6, HG0.out.st, HG0.out.m5⟩ ?_
    rotate_left
    · (intro y hy; go_simp; try (with_reducible rfl))
    simp only [Act.put, List.setIfInBounds_toArray, List.set_cons_zero, List.set_cons_succ]
    refine wpAnyH_ready (rs := [3]) (by kernel_rfl) (by simp) ?_
    refine AllReadyH.cons (o := { dst := some 20, op := Op.call { callee := Callee.value (Operand.func 11), args := #[Operand.tmp 18, Operand.tmp 19], argTypes := #[25, 38] }, type := 25, pos := "law.go:75", after := #[{ on := 1, ground := Ground.data }, { on := 2, ground := Ground.data }], guard := none }) rfl (fun K hK => ?_) AllReadyH.nil
    go_simp
    refine (rfold_any s es a ea n cap m ecap _ HN.out HG0.out.ln hm HM.out (HES.out.keep HG0.out.bel) hml).mono ?_
    rw [HFW.out]
    rintro _ y1 ⟨a9, n9, c9, rfl, ho9, hb9⟩
    obtain rfl : n7 = n9 := HN7.out.symm.trans ho9.len
    have HG2 : Hid (Ofo w s a n cap FW x2.heap.size b6 (.slice a7 n7 c7) s (.slice a2 n c2) y1) := HG0.out.keep hb9
    have HL9 : Hid (Lns y1 a9 FW.lines) := ownl_lns ho9
    clear ho9 hb9
    (refine hK _ _ ⟨HG2.out.r6, HG2.out.st, HG2.out.m5⟩ ?_; clear hK K; intro _)
    try simp only [Act.put, List.setIfInBounds_toArray, List.set_cons_zero, List.set_cons_succ]
    refine wpAnyH_ready (rs := [4]) (by kernel_rfl) (by simp) ?_
    refine AllReadyH.cons (o := { dst := some 21, op := Op.call { callee := Callee.value (Operand.func 9), args := #[Operand.tmp 17, Operand.tmp 20], argTypes := #[25, 25] }, type := 4, pos := "law.go:75", after := #[{ on := 0, ground := Ground.data }, { on := 3, ground := Ground.data }, { on := 3, ground := Ground.chain }], guard := none }) rfl (fun K hK => ?_) AllReadyH.nil
    go_simp
    refine (ssame_yes FW a7 a9 n7 c7 c9 _ HN7.out (ownl_lns HG2.out.o6) HL9.out HN7M.out).mono ?_
    rintro _ y3 ⟨rfl, hb9⟩
    have HG4 : Hid (Ofo w s a n cap FW x2.heap.size b6 (.slice a7 n7 c7) s (.slice a2 n c2) y3) := HG2.out.keep hb9
    clear hb9
    (refine hK _ _ ⟨HG4.out.r6, HG4.out.st, HG4.out.m5⟩ ?_; clear hK K; intro _)
    try simp only [Act.put, List.setIfInBounds_toArray, List.set_cons_zero, List.set_cons_succ]
    refine wpAnyH_take (i := 5) (oi := { dst := some 22, op := Op.unOp UnOp.not 4 (Operand.tmp 21), type := 4, pos := "law.go:75", after := #[{ on := 4, ground := Ground.data }], guard := none }) (v := ?_) rfl (by kernel_rfl) (by kernel_rfl) (by kernel_rfl) (fun _ _ _ h => h) (Or.inl ⟨by rfl, ?_⟩) ⟨HG4.out.r6, HG4.out.st, HG4.out.m5⟩ ?_
    rotate_left
    · (intro y hy; go_simp; try (with_reducible rfl))
    simp only [Act.put, List.setIfInBounds_toArray, List.set_cons_zero, List.set_cons_succ]
    refine wpAnyH_take (i := 6) (oi := { dst := some 23, op := Op.move (Operand.tmp 22), type := 4, pos := "law.go:75", after := #[{ on := 5, ground := Ground.data }, { on := 4, ground := Ground.chain }], guard := none }) (v := ?_) rfl (by kernel_rfl) (by kernel_rfl) (by kernel_rfl) (fun _ _ _ h => h) (Or.inl ⟨by rfl, ?_⟩) ⟨HG4.out.r6, HG4.out.st, HG4.out.m5⟩ ?_
    rotate_left
    · (intro y hy; go_simp; try (with_reducible rfl))
    simp only [Act.put, List.setIfInBounds_toArray, List.set_cons_zero, List.set_cons_succ]
    refine wpAnyH_take (i := 7) (oi := { dst := some 24, op := Op.load 25 (Operand.tmp 5), type := 25, pos := "law.go:75", after := #[{ on := 6, ground := Ground.guard }], guard := some (6, false) }) (v := .agg (stA s (.slice a2 n c2))) rfl (by kernel_rfl) (by kernel_rfl) (by kernel_rfl) (fun _ _ _ h => h) (Or.inl ⟨by rfl, fun y hy => exec_load_st (.tmp 5) rfl rfl hy.2.2⟩) ⟨HG4.out.r6, HG4.out.st, HG4.out.m5⟩ ?_
    simp only [Act.put, List.setIfInBounds_toArray, List.set_cons_zero, List.set_cons_succ]
    refine wpAnyH_take (i := 8) (oi := { dst := some 25, op := Op.load 25 (Operand.tmp 2), type := 25, pos := "law.go:75", after := #[{ on := 6, ground := Ground.guard }], guard := some (6, false) }) (v := .agg (stA s (.slice a n cap))) rfl (by kernel_rfl) (by kernel_rfl) (by kernel_rfl) (fun _ _ _ h => h) (Or.inl ⟨by rfl, fun y hy => exec_load_st (.tmp 2) rfl rfl hy.2.1⟩) ⟨HG4.out.r6, HG4.out.st, HG4.out.m5⟩ ?_
    simp only [Act.put, List.setIfInBounds_toArray, List.set_cons_zero, List.set_cons_succ]
    refine wpAnyH_ready (rs := [9]) (by kernel_rfl) (by simp) ?_
    refine AllReadyH.cons (o := { dst := some 26, op := Op.call { callee := Callee.value (Operand.func 9), args := #[Operand.tmp 24, Operand.tmp 25], argTypes := #[25, 25] }, type := 4, pos := "law.go:75", after := #[{ on := 7, ground := Ground.data }, { on := 8, ground := Ground.data }, { on := 6, ground := Ground.chain }, { on := 6, ground := Ground.guard }], guard := some (6, false) }) rfl (fun K hK => ?_) AllReadyH.nil
    go_simp
    refine (ssame_yes s a2 a n c2 cap _ HN.out (ownl_lns HG4.out.o5) HG4.out.ln hlm).mono ?_
    rintro _ y5 ⟨rfl, hb9⟩
    have HG6 : Hid (Ofo w s a n cap FW x2.heap.size b6 (.slice a7 n7 c7) s (.slice a2 n c2) y5) := HG4.out.keep hb9
    clear hb9
    (refine hK _ _ ⟨HG6.out.r6, HG6.out.st, HG6.out.m5⟩ ?_; clear hK K; intro _)
    try simp only [Act.put, List.setIfInBounds_toArray, List.set_cons_zero, List.set_cons_succ]
    refine wpAnyH_take (i := 10) (oi := { dst := some 27, op := Op.unOp UnOp.not 4 (Operand.tmp 26), type := 4, pos := "law.go:75", after := #[{ on := 9, ground := Ground.data }, { on := 6, ground := Ground.guard }], guard := some (6, false) }) (v := ?_) rfl (by kernel_rfl) (by kernel_rfl) (by kernel_rfl) (fun _ _ _ h => h) (Or.inl ⟨by rfl, ?_⟩) ⟨HG6.out.r6, HG6.out.st, HG6.out.m5⟩ ?_
    rotate_left
    · (intro y hy; go_simp; try (with_reducible rfl))
    simp only [Act.put, List.setIfInBounds_toArray, List.set_cons_zero, List.set_cons_succ]
    refine wpAnyH_take (i := 11) (oi := { dst := some 28, op := Op.pick (Operand.tmp 23) (Operand.const (Value.bool true)) (Operand.tmp 27), type := 4, pos := "law.go:75", after := #[{ on := 6, ground := Ground.data }, { on := 10, ground := Ground.data }], guard := none }) (v := ?_) rfl (by kernel_rfl) (by kernel_rfl) (by kernel_rfl) (fun _ _ _ h => h) (Or.inl ⟨by rfl, ?_⟩) ⟨HG6.out.r6, HG6.out.st, HG6.out.m5⟩ ?_
    rotate_left
    · (intro y hy; go_simp; try (with_reducible rfl))
    simp only [Act.put, List.setIfInBounds_toArray, List.set_cons_zero, List.set_cons_succ]
    refine wpAnyH_done (by kernel_rfl) ?_ _
    have HX9 : Hid (Ofo w s a n cap FW x2.heap.size b6 (.slice a7 n7 c7) s (.slice a2 n c2) _) := HG6.out
    have k5 := HX9.out.m5.cell 5 (.slice a2 n c2) rfl
    go_wp2
    go_loopw [32] (fun vi wr => ∃ (k : Nat), k ≤ n ∧ vi = .int .i64 k ∧ Hid (∃ L : List Ln, L.length = n ∧ Ofo w s a n cap FW x2.heap.size b6 (.slice a7 n7 c7) { s with lines := L } (.slice a2 n c2) wr)) (fun vi _ => n - (intOf vi).toNat)
    case atStart => exact ⟨0, Nat.zero_le _, rfl, s.lines, HN.out, HX9.out⟩
    case round =>
      clear HX9 k5
      obtain ⟨k, hk, rfl, HI⟩ := hrel
      obtain ⟨L, hL, hO⟩ := HI.out
      by_cases hkn : k < n
      · obtain ⟨p, hp⟩ := ln_get (L := L) (k := k) (by rw [hL]; exact hkn)
        obtain ⟨g, rfl, _⟩ := hO.o5.block hp
        have HT : Hid (Ofo w s a n cap FW x2.heap.size b6 (.slice a7 n7 c7) { s with lines := L.set k (turnL p 2 (-5)) } (.slice (some ⟨g, 0, none⟩) n c2) (wr.setCell ⟨g, k * 4 + 2, none⟩ (.int .i64 (-5)))) := hO.turn k 2 p (-5) hp (by omega)
        have q5 := hO.m5.cell 5 (.slice (some ⟨g, 0, none⟩) n c2) rfl
        obtain ⟨m0, m1, m2, m3⟩ := hO.o5.cells hp
        have mf := frozen_own hO.o5 (k * 4 + 2)
        have HL2 : Hid ((L.set k (turnL p 2 (-5))).length = n) := by show _ = _; rw [List.length_set]; exact hL
        clear HI hO hL hp
        go_wp2
        go_roundw
        case rel => exact ⟨k + 1, by omega, by go_num, _, HL2.out, HT.out⟩
        case measure => simp [intOf]; omega
      · have HF9 : Hid (Ofo w s a n cap FW x2.heap.size b6 (.slice a7 n7 c7) { s with lines := L } (.slice a2 n c2) wr) := hO
        clear HI hO hL
        go_wp2_with fail
        refine wp_region_held (S := fun y => StAt y b6 FW (.slice a7 n7 c7) ∧ StAt y w.heap.size s (.slice a n cap)) (by kernel_rfl) ?_
        change wpAnyH _ _ _ _ _ _ _ _ (World.drew _)
        obtain ⟨D, hD⟩ : ∃ D, wr.drew = D := ⟨_, rfl⟩
        have HG0 : Hid (Ofo w s a n cap FW x2.heap.size b6 (.slice a7 n7 c7) { s with lines := L } (.slice a2 n c2) D) := by rw [← hD]; exact HF9.out.keep (Below.refl _ _).drew
        rw [hD]
        clear hD HL9
        refine wpAnyH_take (i := 0) (oi := { dst := some 41, op := Op.load 25 (Operand.tmp 6), type := 25, pos := "law.go:81", after := #[], guard := none }) (v := .agg (stA FW (.slice a7 n7 c7))) rfl (by kernel_rfl) (by kernel_rfl) (by kernel_rfl) (fun _ _ _ h => h) (Or.inl ⟨by rfl, fun y hy => exec_load_st (.tmp 6) rfl rfl hy.1⟩) ⟨HG0.out.r6, HG0.out.st⟩ ?_
        simp only [Act.put, List.setIfInBounds_toArray, List.set_cons_zero, List.set_cons_succ]
        refine wpAnyH_take (i := 1) (oi := { dst := some 42, op := Op.load 25 (Operand.tmp 2), type := 25, pos := "law.go:81", after := #[], guard := none }) (v := .agg (stA s (.slice a n cap))) rfl (by kernel_rfl) (by kernel_rfl) (by kernel_rfl) (fun _ _ _ h => h) (Or.inl ⟨by rfl, fun y hy => exec_load_st (.tmp 2) rfl rfl hy.2⟩) ⟨HG0.out.r6, HG0.out.st⟩ ?_
        simp only [Act.put, List.setIfInBounds_toArray, List.set_cons_zero, List.set_cons_succ]
        refine wpAnyH_take (i := 2) (oi := { dst := some 43, op := Op.move (Operand.tmp 1), type := 38, pos := "law.go:81", after := #[], guard := none }) (v := ?_) rfl (by kernel_rfl) (by kernel_rfl) (by kernel_rfl) (fun _ _ _ h => h) (Or.inl ⟨by rfl, ?_⟩) ⟨HG0.out.r6, HG0.out.st⟩ ?_
        rotate_left
        · (intro y hy; go_simp; try (with_reducible rfl))
        simp only [Act.put, List.setIfInBounds_toArray, List.set_cons_zero, List.set_cons_succ]
        refine wpAnyH_ready (rs := [3]) (by kernel_rfl) (by simp) ?_
        refine AllReadyH.cons (o := { dst := some 44, op := Op.call { callee := Callee.value (Operand.func 11), args := #[Operand.tmp 42, Operand.tmp 43], argTypes := #[25, 38] }, type := 25, pos := "law.go:81", after := #[{ on := 1, ground := Ground.data }, { on := 2, ground := Ground.data }], guard := none }) rfl (fun K hK => ?_) AllReadyH.nil
        go_simp
        refine (rfold_any s es a ea n cap m ecap _ HN.out HG0.out.ln hm HM.out (HES.out.keep HG0.out.bel) hml).mono ?_
        rw [HFW.out]
        rintro _ y1 ⟨a9, n9, c9, rfl, ho9, hb9⟩
        obtain rfl : n7 = n9 := HN7.out.symm.trans ho9.len
        have HG2 : Hid (Ofo w s a n cap FW x2.heap.size b6 (.slice a7 n7 c7) { s with lines := L } (.slice a2 n c2) y1) := HG0.out.keep hb9
        have HL9 : Hid (Lns y1 a9 FW.lines) := ownl_lns ho9
        clear ho9 hb9
        (refine hK _ _ ⟨HG2.out.r6, HG2.out.st⟩ ?_; clear hK K; intro _)
        try simp only [Act.put, List.setIfInBounds_toArray, List.set_cons_zero, List.set_cons_succ]
        refine wpAnyH_ready (rs := [4]) (by kernel_rfl) (by simp) ?_
        refine AllReadyH.cons (o := { dst := some 45, op := Op.call { callee := Callee.value (Operand.func 9), args := #[Operand.tmp 41, Operand.tmp 44], argTypes := #[25, 25] }, type := 4, pos := "law.go:81", after := #[{ on := 0, ground := Ground.data }, { on := 3, ground := Ground.data }, { on := 3, ground := Ground.chain }], guard := none }) rfl (fun K hK => ?_) AllReadyH.nil
        go_simp
        refine (ssame_yes FW a7 a9 n7 c7 c9 _ HN7.out (ownl_lns HG2.out.o6) HL9.out HN7M.out).mono ?_
        rintro _ y3 ⟨rfl, hb9⟩
        have HG4 : Hid (Ofo w s a n cap FW x2.heap.size b6 (.slice a7 n7 c7) { s with lines := L } (.slice a2 n c2) y3) := HG2.out.keep hb9
        clear hb9
        (refine hK _ _ ⟨HG4.out.r6, HG4.out.st⟩ ?_; clear hK K; intro _)
        try simp only [Act.put, List.setIfInBounds_toArray, List.set_cons_zero, List.set_cons_succ]
        refine wpAnyH_ready (rs := [5]) (by kernel_rfl) (by simp) ?_
        refine AllReadyH.cons (o := { dst := some 4, op := Op.assign (Operand.tmp 45), type := 4, pos := "law.go:81", after := #[{ on := 4, ground := Ground.data }, { on := 4, ground := Ground.chain }, { on := 0, ground := Ground.phase }, { on := 1, ground := Ground.phase }, { on := 2, ground := Ground.phase }, { on := 3, ground := Ground.phase }, { on := 4, ground := Ground.phase }], guard := none }) rfl (fun K hK => ?_) AllReadyH.nil
        go_simp
        (refine hK _ _ ⟨HG4.out.r6, HG4.out.st⟩ ?_; clear hK K; intro _)
        try simp only [Act.put, List.setIfInBounds_toArray, List.set_cons_zero, List.set_cons_succ]
        refine wpAnyH_done (by kernel_rfl) ?_ _
        go_wp2
        go_ret
        exact ⟨rfl, HG4.out.bel⟩
theorem own : ownKnob Tryz.prog.godebug = none := by kernel_rfl
theorem laidOut : laidOutB Tryz.prog = true := by kernel_rfl
set_option maxRecDepth 100000 in
theorem contract (H : Type) (enc : TypeId × Value → H) (W : World) (base : Nat) (args : Array Value) (ds gs : List (DataW H)) (before : List MemPlace)
    (hval : ∀ (j : Nat) t v, Tryz.f4.params[j]? = some t → args[j]? = some v → Value.okWide Tryz.prog W .any base t v)
    (hW : DataW.Whole enc Tryz.prog Tryz.f4.params.toList Rows.orderFoldsSpec.vars false W args.toList ds gs before)
    (hsz : (DataW.weightsEach Tryz.prog (Tryz.f4.params.toList ++ Rows.orderFoldsSpec.plain.varTypes Tryz.prog) (ds ++ gs)).all (· ≤ reachBytes) = true) :
    Calls Tryz.prog 4 args W fun e W' => ∃ v, e = .returned v ∧ Rows.orderFoldsSpec.post enc Tryz.prog Tryz.f4 false true false false W args v W' := by
  have hW' := hW
  obtain ⟨p, q, hA0, hV, rfl, hfz, hnd⟩ := hW
  have hA : DataW.TrodAll enc Tryz.prog W 0 (fun _ => true) true Tryz.f4.params.toList args.toList ds p := hA0
  rw [Tryz.params4] at hA hval hsz
  obtain ⟨v0, vs0, d0, ds0, p0, q0, hargs, rfl, rfl, h0, r0⟩ := trodAll_cons hA
  obtain ⟨v1, vs1, d1, ds1, p1, q1, rfl, rfl, rfl, h1, r1⟩ := trodAll_cons r0
  obtain ⟨rfl, rfl, rfl⟩ := trodAll_nil r1
  obtain rfl : args = #[v0, v1] := by cases args; simp_all
  obtain ⟨rfl, rfl⟩ := trodVars_none hV
  have k0 := h0
  have lt0 : ∀ x ∈ p0, x.block < W.heap.size := by obtain ⟨m, hm⟩ := k0; exact DataW.trod_lt m _ _ _ hm
  obtain ⟨st0, a0, n0, cap0, rfl, hlen0, w0, c0, m0⟩ := open_state (hval 0 25 v0 rfl rfl) h0 hsz (j := 0) rfl rfl
  obtain ⟨a1, len1, cap1, rfl⟩ := okWide_slice Tryz.underlying38 (hval 1 38 v1 rfl rfl)
  have k1 := h1
  have lt1 : ∀ x ∈ p1, x.block < W.heap.size := by obtain ⟨m, hm⟩ := k1; exact DataW.trod_lt m _ _ _ hm
  obtain ⟨l1, hlen1, w1, c1⟩ : ∃ L : List Ev, L.length = len1 ∧ EvsIn W a1 L ∧ (len1 ≤ cap1 ∧ cap1 * 96 ≤ 140737488351232 ∧ (a1 = none → cap1 = 0)) := by
    obtain ⟨fuel, hf⟩ := h1
    obtain ⟨a', l', c', L, hcs, hl, hm, hLl, hfs, hn0, hx⟩ := open_evs hf
    simp [Value.cells] at hcs
    obtain ⟨rfl, rfl, rfl⟩ := hcs
    refine ⟨L, hLl, hfs, hl, ?_, hn0⟩
    rcases hx with hx | ⟨e, s, hx, hes⟩
    · omega
    · have hd : d1 = _ := hx
      have := sized_evs hsz (j := 1) (e := e) (s := s) rfl (by rw [hd]; rfl)
      omega
  clear hA0
  refine (walk st0 a0 n0 cap0 l1 a1 len1 cap1 W hlen0 w0 c0 m0 hlen1 w1 c1).mono fun e W' ⟨he, bel⟩ => ?_
  subst he
  exact ⟨_, rfl, _, _, _, [], _, [], hW', trodAll_mk1 (shut_bool Tryz.underlying4 _), (trodAll_cons_mk (Below.trod laidOut (by kernel_rfl) (of_decide_eq_true (by kernel_rfl)) k0 bel lt0) (trodAll_cons_mk (Below.trod laidOut (by kernel_rfl) (of_decide_eq_true (by kernel_rfl)) k1 bel lt1) trodAll_mk0)), rfl, bel.frame _, fun h => by cases h⟩
set_option maxRecDepth 100000 in
theorem lifted (os : Os) (started : os.Started) (H : Type) (enc : TypeId × Value → H) :
    ReturnsInHanded {} Tryz.checked os 4 .any (Rows.orderFoldsSpec.pre6 enc Tryz.prog Tryz.f4 Rows.orderFoldsRow.domain false) (Rows.orderFoldsSpec.post enc Tryz.prog Tryz.f4 false true false false) := by
  refine returnsInHanded_of_change_sized (C := Tryz.checked) own started (by kernel_rfl) Tryz.func4
    (ChangeSpec.witness6 (enc := enc) (C := Tryz.checked) false ⟨#[], #[.agg #[.int .i64 0, .int .i64 0, .int .i64 0, .int .i64 0, .int .i64 0, .slice none 0 0, .int .i64 0, .int .i64 0, .int .i64 0, .int .i64 0, .int .i64 0, .string ⟨#[]⟩], .slice none 0 0], []⟩ 8 (by kernel_rfl) (by kernel_rfl) (by kernel_rfl) (by kernel_rfl)) ?_
  intro W base args ds gs before hval hW _ hsz _
  exact contract H enc W base args ds gs before hval hW hsz
theorem over : Rows.orderFoldsRow.holds Tryz.pinned (OpenSpec.ofChange Rows.orderFoldsSpec) :=
  OpenClaim.holds_of_wide 4 Tryz.f4 rfl rfl rfl rfl rfl rfl rfl ⟨rfl, rfl, rfl, rfl, rfl⟩ rfl rfl rfl rfl rfl (by kernel_rfl) Tryz.func4 (by kernel_rfl)
    (of_decide_eq_true (by kernel_rfl)) (by unfold Func.isWrapper; first | (rw [if_pos (by decide +kernel)]; kernel_rfl) | (rw [if_neg (by decide +kernel)]; exact ⟨rfl, rfl⟩))
    (fun os started H enc _ => lifted os started H enc)
theorem proved : Rows.OrderFoldsSaid := over
end Go.Proofs.YtldbdhhbmnbmaaaGreat.orderFolds
