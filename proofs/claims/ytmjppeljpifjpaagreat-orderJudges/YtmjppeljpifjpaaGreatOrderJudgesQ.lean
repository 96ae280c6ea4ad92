/- Every reason is the document's: for every state and every event. -/
import Derived.Test.YtmjppeljpifjpaaGreatM39
import Derived.Test.YtmjppeljpifjpaaGreatK41
import Derived.Test.YtmjppeljpifjpaaGreatM72
import Derived.SizedLaws
import Derived.ChangeOld
import Derived.OrdersHeld
import Derived.Deep.RegionHeld
namespace Go.Proofs.YtmjppeljpifjpaaGreat.orderJudges
open Go.ChangeShapes Go.WideShapes Go.ChangeAt Go.RowKit
set_option linter.unusedVariables false
set_option linter.unusedSimpArgs false
set_option maxRecDepth 20000 in
set_option maxHeartbeats 8000000 in
theorem walk (s : St) (a : Option Addr) (n cap : Nat) (e : Ev) (w : World) (hn : s.lines.length = n) (hl : Lns w a s.lines) (hc : n ≤ cap) (hm : n * 32 ≤ 140737488351232) (hfit : e.Fit) :
    Calls Tryz.prog 4 #[.agg (stA s (.slice a n cap)), .agg (evA e)] w fun r w' => r = .returned (.bool true) ∧ Below w.heap.size w w' := by
  have HN : Hid (s.lines.length = n) := hn
  have hlm : n ≤ maxLen := by unfold maxLen; omega
  have HS0 : Hid (SE w s e a n cap ((w.alloc (.cells (stA s (.slice a n cap)) 25)).alloc (.cells (evA e) 37))) := SE.new w s e a n cap hl
  obtain ⟨j, hj⟩ : ∃ j, judS s e = j := ⟨_, rfl⟩
  have HJ : Hid (judS s e = j) := hj
  clear hn hl hfit hj
  go_enter Tryz.func4, Tryz.ntmps4
  go_wp2_with (go_at_call 13; refine (head08_any _).mono ?_; rintro _ x1 ⟨rfl, hb1⟩; have HS1 : Hid (SE w s e a n cap x1) := SE.keep HS0.out hb1; clear hb1)
  refine wp_region_held (S := fun y => StAt y w.heap.size s (.slice a n cap) ∧ EvAt y (w.heap.size + 1) e) (by kernel_rfl) ?_
  change wpAnyH _ _ _ _ _ _ _ _ (World.drew _)
  have HSP : Hid (SE w s e a n cap x1.drew) := SE.drew HS1.out
  refine wpAnyH_take (i := 0) (oi := { dst := some 7, op := Op.load 25 (Operand.tmp 2), type := 25, pos := "law.go:45", after := #[], guard := none }) (v := .agg (stA s (.slice a n cap))) rfl (by kernel_rfl) (by kernel_rfl) (by kernel_rfl) (fun _ _ _ h => h) (Or.inl ⟨by rfl, fun y hy => exec_load_st (.tmp 2) rfl rfl hy.1⟩) ⟨HSP.out.st, HSP.out.ev⟩ ?_
  simp only [Act.put, List.setIfInBounds_toArray, List.set_cons_zero, List.set_cons_succ]
  refine wpAnyH_take (i := 2) (oi := { dst := some 9, op := Op.load 37 (Operand.tmp 3), type := 37, pos := "law.go:45", after := #[], guard := none }) (v := .agg (evA e)) rfl (by kernel_rfl) (by kernel_rfl) (by kernel_rfl) (fun _ _ _ h => h) (Or.inl ⟨by rfl, fun y hy => exec_load_ev (.tmp 3) rfl rfl hy.2⟩) ⟨HSP.out.st, HSP.out.ev⟩ ?_
  simp only [Act.put, List.setIfInBounds_toArray, List.set_cons_zero, List.set_cons_succ]
  refine wpAnyH_take (i := 4) (oi := { dst := some 11, op := Op.load 25 (Operand.tmp 2), type := 25, pos := "law.go:45", after := #[], guard := none }) (v := .agg (stA s (.slice a n cap))) rfl (by kernel_rfl) (by kernel_rfl) (by kernel_rfl) (fun _ _ _ h => h) (Or.inl ⟨by rfl, fun y hy => exec_load_st (.tmp 2) rfl rfl hy.1⟩) ⟨HSP.out.st, HSP.out.ev⟩ ?_
  simp only [Act.put, List.setIfInBounds_toArray, List.set_cons_zero, List.set_cons_succ]
  refine wpAnyH_take (i := 5) (oi := { dst := some 12, op := Op.load 37 (Operand.tmp 3), type := 37, pos := "law.go:45", after := #[], guard := none }) (v := .agg (evA e)) rfl (by kernel_rfl) (by kernel_rfl) (by kernel_rfl) (fun _ _ _ h => h) (Or.inl ⟨by rfl, fun y hy => exec_load_ev (.tmp 3) rfl rfl hy.2⟩) ⟨HSP.out.st, HSP.out.ev⟩ ?_
  simp only [Act.put, List.setIfInBounds_toArray, List.set_cons_zero, List.set_cons_succ]
  refine wpAnyH_ready (rs := [1]) (by kernel_rfl) (by simp) ?_
  refine AllReadyH.cons (o := { dst := some 8, op := Op.call { callee := Callee.value (Operand.func 14), args := #[Operand.tmp 7], argTypes := #[25] }, type := 25, pos := "law.go:45", after := #[{ on := 0, ground := Ground.data }], guard := none }) rfl (fun K hK => ?_) AllReadyH.nil
  go_simp
  refine (scopy_any s a n cap _ HN.out HSP.out.ln hm).mono ?_
  rintro _ x2 ⟨v2, rfl, ho2, hb2⟩
  obtain ⟨a2, c2, hv2, _, _, hl2, _⟩ := ho2.shape
  simp only [HN.out] at hv2
  subst hv2
  have HL2 : Hid (Lns x2 a2 s.lines) := hl2
  have HS2 : Hid (SE w s e a n cap x2) := SE.keep HSP.out hb2
  clear hb2 ho2 hl2
  (refine hK _ _ ⟨HS2.out.st, HS2.out.ev⟩ ?_; clear hK K; intro _)
  try simp only [Act.put, List.setIfInBounds_toArray, List.set_cons_zero, List.set_cons_succ]
  refine wpAnyH_ready (rs := [3]) (by kernel_rfl) (by simp) ?_
  refine AllReadyH.cons (o := { dst := some 10, op := Op.call { callee := Callee.value (Operand.func 21), args := #[Operand.tmp 8, Operand.tmp 9], argTypes := #[25, 37] }, type := 38, pos := "law.go:45", after := #[{ on := 1, ground := Ground.data }, { on := 2, ground := Ground.data }, { on := 1, ground := Ground.chain }], guard := none }) rfl (fun K hK => ?_) AllReadyH.nil
  go_simp
  refine (ojudge_any s e a2 n c2 _ HN.out HL2.out hlm).mono ?_
  rw [HJ.out]
  rintro _ x3 ⟨rfl, hb3⟩
  have HS3 : Hid (SE w s e a n cap x3) := SE.keep HS2.out hb3
  clear hb3
  (refine hK _ _ ⟨HS3.out.st, HS3.out.ev⟩ ?_; clear hK K; intro _)
  try simp only [Act.put, List.setIfInBounds_toArray, List.set_cons_zero, List.set_cons_succ]
  refine wpAnyH_ready (rs := [6]) (by kernel_rfl) (by simp) ?_
  refine AllReadyH.cons (o := { dst := some 13, op := Op.call { callee := Callee.value (Operand.func 22), args := #[Operand.tmp 11, Operand.tmp 12], argTypes := #[25, 37] }, type := 38, pos := "law.go:45", after := #[{ on := 4, ground := Ground.data }, { on := 5, ground := Ground.data }, { on := 3, ground := Ground.chain }], guard := none }) rfl (fun K hK => ?_) AllReadyH.nil
  go_simp
  refine (rjudge_any s e a n cap _ HN.out HS3.out.ln hlm).mono ?_
  rw [HJ.out]
  rintro _ x4 ⟨rfl, hb4⟩
  have HS4 : Hid (SE w s e a n cap x4) := SE.keep HS3.out hb4
  clear hb4
  (refine hK _ _ ⟨HS4.out.st, HS4.out.ev⟩ ?_; clear hK K; intro _)
  try simp only [Act.put, List.setIfInBounds_toArray, List.set_cons_zero, List.set_cons_succ]
  have hjj : (j == j) = true := by simp
  refine wpAnyH_take (i := 7) (oi := { dst := some 14, op := Op.binOp BinOp.eql 38 (Operand.tmp 10) (Operand.tmp 13) 38, type := 4, pos := "law.go:45", after := #[{ on := 3, ground := Ground.data }, { on := 6, ground := Ground.data }], guard := none }) (v := ?_) rfl (by kernel_rfl) (by kernel_rfl) (by kernel_rfl) (fun _ _ _ h => h) (Or.inl ⟨by rfl, ?_⟩) ⟨HS4.out.st, HS4.out.ev⟩ ?_
  rotate_left
  · (intro y hy; go_simp; try (with_reducible rfl))
  simp only [Act.put, List.setIfInBounds_toArray, List.set_cons_zero, List.set_cons_succ]
  refine wpAnyH_ready (rs := [8]) (by kernel_rfl) (by simp) ?_
  refine AllReadyH.cons (o := { dst := some 4, op := Op.assign (Operand.tmp 14), type := 4, pos := "law.go:45", after := #[{ on := 7, ground := Ground.data }, { on := 6, ground := Ground.chain }, { on := 0, ground := Ground.phase }, { on := 1, ground := Ground.phase }, { on := 2, ground := Ground.phase }, { on := 3, ground := Ground.phase }, { on := 4, ground := Ground.phase }, { on := 5, ground := Ground.phase }, { on := 6, ground := Ground.phase }, { on := 7, ground := Ground.phase }], guard := none }) rfl (fun K hK => ?_) AllReadyH.nil
  go_simp
  (refine hK _ _ ⟨HS4.out.st, HS4.out.ev⟩ ?_; clear hK K; intro _)
  try simp only [Act.put, List.setIfInBounds_toArray, List.set_cons_zero, List.set_cons_succ]
  refine wpAnyH_done (by kernel_rfl) ?_ _
  go_wp2
  go_ret
  exact ⟨rfl, HS4.out.bel⟩
theorem own : ownKnob Tryz.prog.godebug = none := by kernel_rfl
theorem laidOut : laidOutB Tryz.prog = true := by kernel_rfl
set_option maxRecDepth 100000 in
theorem contract (H : Type) (enc : TypeId × Value → H) (W : World) (base : Nat) (args : Array Value) (ds gs : List (DataW H)) (before : List MemPlace)
    (hval : ∀ (j : Nat) t v, Tryz.f4.params[j]? = some t → args[j]? = some v → Value.okWide Tryz.prog W .any base t v)
    (hW : DataW.Whole enc Tryz.prog Tryz.f4.params.toList Rows.orderJudgesSpec.vars false W args.toList ds gs before)
    (hsz : (DataW.weightsEach Tryz.prog (Tryz.f4.params.toList ++ Rows.orderJudgesSpec.plain.varTypes Tryz.prog) (ds ++ gs)).all (· ≤ reachBytes) = true) :
    Calls Tryz.prog 4 args W fun e W' => ∃ v, e = .returned v ∧ Rows.orderJudgesSpec.post enc Tryz.prog Tryz.f4 false true false false W args v W' := by
  have hW' := hW
  obtain ⟨p, q, hA0, hV, rfl, hfz, hnd⟩ := hW
  have hA : DataW.TrodAll enc Tryz.prog W 0 (fun _ => true) true Tryz.f4.params.toList args.toList ds p := hA0
  rw [Tryz.params4] at hA hval hsz
  obtain ⟨v0, vs0, d0, ds0, p0, q0, hargs, rfl, rfl, h0, r0⟩ := trodAll_cons hA
  obtain ⟨v1, vs1, d1, ds1, p1, q1, rfl, rfl, rfl, h1, r1⟩ := trodAll_cons r0
  obtain ⟨rfl, rfl, rfl⟩ := trodAll_nil r1
  obtain rfl : args = #[v0, v1] := by cases args; simp_all
  obtain ⟨rfl, rfl⟩ := trodVars_none hV
  have k0 := h0
  have lt0 : ∀ x ∈ p0, x.block < W.heap.size := by obtain ⟨m, hm⟩ := k0; exact DataW.trod_lt m _ _ _ hm
  obtain ⟨st0, a0, n0, cap0, rfl, hlen0, w0, c0, m0⟩ := open_state (hval 0 25 v0 rfl rfl) h0 hsz (j := 0) rfl rfl
  have k1 := h1
  have lt1 : ∀ x ∈ p1, x.block < W.heap.size := by obtain ⟨m, hm⟩ := k1; exact DataW.trod_lt m _ _ _ hm
  obtain ⟨a1, rfl, _, w1⟩ := open_event Tryz.underlying37 (by kernel_rfl) (by kernel_rfl) (by kernel_rfl) (by kernel_rfl) (by kernel_rfl) (by kernel_rfl) (by kernel_rfl) (by kernel_rfl) (by kernel_rfl) (by kernel_rfl) (by kernel_rfl) (by kernel_rfl) (hval 1 37 v1 rfl rfl) h1
  clear hA0
  refine (walk st0 a0 n0 cap0 a1 W hlen0 w0 c0 m0 w1).mono fun e W' ⟨he, bel⟩ => ?_
  subst he
  exact ⟨_, rfl, _, _, _, [], _, [], hW', trodAll_mk1 (shut_bool Tryz.underlying4 _), (trodAll_cons_mk (Below.trod laidOut (by kernel_rfl) (of_decide_eq_true (by kernel_rfl)) k0 bel lt0) (trodAll_cons_mk (Below.trod laidOut (by kernel_rfl) (of_decide_eq_true (by kernel_rfl)) k1 bel lt1) trodAll_mk0)), rfl, bel.frame _, fun h => by cases h⟩
set_option maxRecDepth 100000 in
theorem lifted (os : Os) (started : os.Started) (H : Type) (enc : TypeId × Value → H) :
    ReturnsInHanded {} Tryz.checked os 4 .any (Rows.orderJudgesSpec.pre6 enc Tryz.prog Tryz.f4 Rows.orderJudgesRow.domain false) (Rows.orderJudgesSpec.post enc Tryz.prog Tryz.f4 false true false false) := by
  refine returnsInHanded_of_change_sized (C := Tryz.checked) own started (by kernel_rfl) Tryz.func4
    (ChangeSpec.witness6 (enc := enc) (C := Tryz.checked) false ⟨#[], #[.agg #[.int .i64 0, .int .i64 0, .int .i64 0, .int .i64 0, .int .i64 0, .slice none 0 0, .int .i64 0, .int .i64 0, .int .i64 0, .int .i64 0, .int .i64 0, .string ⟨#[]⟩], .agg #[.int .i64 0, .int .i64 0, .int .i64 0, .int .i64 0, .int .i64 0, .int .i64 0, .int .i64 0, .string ⟨#[]⟩, .int .i64 0, .string ⟨#[]⟩]], []⟩ 8 (by kernel_rfl) (by kernel_rfl) (by kernel_rfl) (by kernel_rfl)) ?_
  intro W base args ds gs before hval hW _ hsz _
  exact contract H enc W base args ds gs before hval hW hsz
theorem over : Rows.orderJudgesRow.holds Tryz.pinned (OpenSpec.ofChange Rows.orderJudgesSpec) :=
  OpenClaim.holds_of_wide 4 Tryz.f4 rfl rfl rfl rfl rfl rfl rfl ⟨rfl, rfl, rfl, rfl, rfl⟩ rfl rfl rfl rfl rfl (by kernel_rfl) Tryz.func4 (by kernel_rfl)
    (of_decide_eq_true (by kernel_rfl)) (by unfold Func.isWrapper; first | (rw [if_pos (by decide +kernel)]; kernel_rfl) | (rw [if_neg (by decide +kernel)]; exact ⟨rfl, rfl⟩))
    (fun os started H enc _ => lifted os started H enc)
theorem proved : Rows.OrderJudgesSaid := over
end Go.Proofs.YtmjppeljpifjpaaGreat.orderJudges
