/- The events of other orders change nothing: for every order and every list of events. -/
import Derived.Test.YtmjppeljpifjpaaGreatK39
import Derived.Test.YtmjppeljpifjpaaGreatK42
import Derived.SizedLaws
import Derived.ChangeOld
import Derived.OrdersHeld
import Derived.Deep.RegionHeld
namespace Go.Proofs.YtmjppeljpifjpaaGreat.orderForeign
open Go.ChangeShapes Go.WideShapes Go.ChangeAt Go.RowKit
set_option linter.unusedVariables false
set_option linter.unusedSimpArgs false
theorem next_foreign {s : St} {e : Ev} (h : e.order ≠ s.order) : nextS s e = s := by
  have : judS s e = 1 ∨ judS s e = 2 := by
    unfold judS
    split
    · exact .inl rfl
    · first | exact .inr rfl | (rw [if_pos h]; exact .inr rfl)
  unfold nextS
  rw [if_pos this]
theorem do_order (s : St) (e : Ev) : (doS s e).order = s.order := by
  unfold doS payS shipS
  repeat' split
  all_goals rfl
theorem next_order (s : St) (e : Ev) : (nextS s e).order = s.order := by
  unfold nextS
  split
  · rfl
  · split
    · exact do_order s e
    · rfl
theorem fold_own : ∀ (es : List Ev) (s : St), foldS s (es.filter fun e => e.order == s.order) = foldS s es
  | [], s => rfl
  | e :: r, s => by
    show _ = foldS (nextS s e) r
    by_cases h : e.order = s.order
    · have hb : (e.order == s.order) = true := by simpa using h
      rw [List.filter_cons, if_pos hb]
      show foldS (nextS s e) _ = _
      have := fold_own r (nextS s e)
      rw [next_order] at this
      exact this
    · have hb : ¬ (e.order == s.order) = true := by simpa using h
      rw [List.filter_cons, if_neg hb, next_foreign h]
      exact fold_own r s
theorem filt_step (es : List Ev) (p : Ev → Bool) (k : Nat) (e : Ev) (h : es[k]? = some e) : (es.take (k + 1)).filter p = (es.take k).filter p ++ (if p e = true then [e] else []) := by
  rw [ln_take es k e h, List.filter_append, List.filter_cons, List.filter_nil]
theorem filt_len (es : List Ev) (p : Ev → Bool) (k : Nat) : ((es.take k).filter p).length ≤ k :=
  Nat.le_trans (List.length_filter_le _ _) (by rw [List.length_take]; omega)
theorem evsIn_new (w : World) (e : Ev) (T : TypeId) : EvsIn (w.alloc (.cells (evA e) T)) (some ⟨w.heap.size, 0, none⟩) [e] :=
  evsIn_of (by simp) (fun j hj => by
    rw [Nat.zero_add, cell_of_row _ w.heap.size j (evA e) T (0, 0) (heap_alloc_new w _)]
    simp [efl])
set_option maxRecDepth 20000 in
set_option maxHeartbeats 8000000 in
theorem walk (id : Int) (es : List Ev) (ea : Option Addr) (m ecap : Nat) (w : World) (hid : (Lit.int .i64 id).wf = true)
    (hme : es.length = m) (hes : EvsIn w ea es) (hec : m ≤ ecap ∧ ecap * 96 ≤ 140737488351232 ∧ (ea = none → ecap = 0)) :
    Calls Tryz.prog 9 #[.int .i64 id, .slice ea m ecap] w fun r w' => r = .returned (.bool true) ∧ Below w.heap.size w w' := by
  have HM : Hid (es.length = m) := hme
  have HES : Hid (EvsIn w ea es) := hes
  have HEC : Hid (ea = none → ecap = 0) := hec.2.2
  have hm96 : m * 96 ≤ 140737488351232 := by omega
  have hmm : m ≤ 140737488351232 := by omega
  have hml : m ≤ maxLen := by unfold maxLen; omega
  clear hme hes hec hid
  go_enter Tryz.func9, Tryz.ntmps9
  go_wp2_with (first
    | (go_at_call 13; refine (head08_any _).mono ?_; rintro _ x1 ⟨rfl, hb1⟩; have HB1 : Hid (Below w.heap.size w x1) := hb1; have HO1 : Hid (OwnE (x1.alloc (.cells #[] 37)) x1.heap.size (.slice (some ⟨x1.heap.size, 0, none⟩) 0 0) []) := OwnE.lit x1; clear hb1))
  go_loopw [14, 5] (fun vi vo wr => ∃ (k : Nat) (v0 : Value), k ≤ m ∧ vi = .int .i64 k ∧ v0 = vo ∧ Hid (OwnE wr w.heap.size v0 ((es.take k).filter fun e => e.order == id) ∧ Below w.heap.size w wr)) (fun vi _ _ => m - (intOf vi).toNat)
  case atStart => exact ⟨0, _, Nat.zero_le _, rfl, rfl, World.ownsRow.mono HO1.out HB1.out.size, HB1.out.alloc HB1.out.size _⟩
  case round =>
    clear HB1 HO1
    obtain ⟨k, v0, hk, rfl, rfl, HI⟩ := hrel
    by_cases hkm : k < m
    · obtain ⟨e, he⟩ := ln_get (L := es) (k := k) (by rw [HM.out]; exact hkm)
      obtain ⟨eb, eoff, rfl, q0, q1, q2, q3, q4, q5, q6, q7, q8, q9⟩ := (HES.out.keep HI.out.2).cells he
      have hst := filt_step es (fun e => e.order == id) k e he
      have hfl := filt_len es (fun e => e.order == id) k
      obtain ⟨L, hL⟩ : ∃ L, (es.take k).filter (fun e => e.order == id) = L := ⟨_, rfl⟩
      rw [hL] at hst hfl
      obtain ⟨hio, hib⟩ := HI.out
      rw [hL] at hio
      have HIO : Hid (OwnE wr w.heap.size v0 L) := hio
      have HIB : Hid (Below w.heap.size w wr) := hib
      have hfl2 : (L.length + 1) * 96 ≤ 140737488355328 := by omega
      clear HI hio hib hL he hfl
      by_cases heq : e.order = id
      · have heqb : (e.order == id) = true := by simpa using heq
        have HST : Hid ((es.take (k + 1)).filter (fun e => e.order == id) = L ++ [e]) := by have h := hst; simp only [heqb, if_true] at h; exact h
        have HB2 : Hid (Below wr.heap.size wr ((wr.alloc (.cells (evA e) 37)).alloc (.cells (evA e) 37))) := ((Below.refl _ _).alloc (Nat.le_refl _) _).alloc (by simp) _
        have HOA : Hid (OwnE ((wr.alloc (.cells (evA e) 37)).alloc (.cells (evA e) 37)) w.heap.size v0 L) := OwnE.keep HIO.out HB2.out
        have hne : EvsIn ((wr.alloc (.cells (evA e) 37)).alloc (.cells (evA e) 37)) (some ⟨wr.heap.size + 1, 0, none⟩) [e] := by have h := evsIn_new (wr.alloc (.cells (evA e) 37)) e 37; simpa using h
        have HNE : Hid (EvsIn ((wr.alloc (.cells (evA e) 37)).alloc (.cells (evA e) 37)) (some ⟨wr.heap.size + 1, 0, none⟩) [e]) := hne
        have HSZ : Hid (w.heap.size ≤ wr.heap.size) := HIB.out.size
        clear hst hne heq
        go_wp2_with (at_builtin; refine wpList_append_evs rfl _ _ rfl w.heap.size v0 L rfl HOA.out (some ⟨wr.heap.size + 1, 0, none⟩) 1 1 [e] rfl rfl HNE.out (fun h => by cases h) hfl2 (by have := HSZ.out; simp; omega) ?_; intro v3 w3 ho3 hg3; have HO3 : Hid (OwnE w3 w.heap.size v3 (L ++ [e])) := ho3; have HB3 : Hid (Below w.heap.size w w3) := grown_row (below_next HIB.out HB2.out) HOA.out (by have := HSZ.out; simp; omega) hg3; clear ho3 hg3)
        go_roundw
        case rel => exact ⟨k + 1, _, by omega, by go_num, rfl, by rw [HST.out]; exact HO3.out, HB3.out⟩
        case measure => simp [intOf]; omega
      · have heqb : (e.order == id) = false := by simpa using heq
        have HST : Hid ((es.take (k + 1)).filter (fun e => e.order == id) = L) := by have h := hst; simp only [heqb, Bool.false_eq_true, if_false, List.append_nil] at h; exact h
        have HB2 : Hid (Below wr.heap.size wr (wr.alloc (.cells (evA e) 37))) := (Below.refl _ _).alloc (Nat.le_refl _) _
        clear hst heq
        go_wp2
        go_roundw
        case rel => exact ⟨k + 1, _, by omega, by go_num, rfl, by rw [HST.out]; exact OwnE.keep HIO.out HB2.out, below_next HIB.out HB2.out⟩
        case measure => simp [intOf]; omega
    · obtain rfl : k = m := by omega
      obtain ⟨hio, hib⟩ := HI.out
      have hfl := filt_len es (fun e => e.order == id) k
      rw [List.take_of_length_le (by rw [HM.out]; exact Nat.le_refl _)] at hio hfl
      obtain ⟨L, hL⟩ : ∃ L, es.filter (fun e => e.order == id) = L := ⟨_, rfl⟩
      obtain ⟨F, hF⟩ : ∃ F, foldS (empS id) es = F := ⟨_, rfl⟩
      have HFL : Hid (F = foldS (empS id) L) := by rw [← hF, ← hL]; exact (fold_own es (empS id)).symm
      rw [hL] at hio hfl
      obtain ⟨oa, oc, hov, hoc, _, hoe, _⟩ := hio.shape
      subst hov
      have HFE : Hid (foldS (empS id) es = F) := hF
      have HOE : Hid (EvsIn wr oa L) := hoe
      have HIB : Hid (Below w.heap.size w wr) := hib
      have HLM : Hid (L.length ≤ maxLen) := by show _ ≤ _; unfold maxLen at hml ⊢; omega
      clear HI hio hib hfl hL hF hoe hoc
      go_wp2_with (first
        | (go_at_call 20; refine (empty_any id _).mono ?_; rintro _ y1 ⟨rfl, hb1⟩; have HB1 : Hid (Below w.heap.size w y1) := below_next HIB.out hb1; have HOE1 : Hid (EvsIn y1 oa L) := HOE.out.keep hb1; clear hb1)
        | (at_builtin; refine wpList_append_evs rfl _ _ rfl y1.heap.size _ [] rfl (OwnE.lit y1) ea k ecap es rfl HM.out (HES.out.keep (HB1.out.alloc HB1.out.size _)) HEC.out (by simp; omega) (by simp) ?_; intro v2 y2 ho2 hg2; have HB2 : Hid (Below y1.heap.size y1 y2) := grown_row ((Below.refl _ _).alloc (Nat.le_refl _) _) (OwnE.lit y1) (by simp) hg2; obtain ⟨a2, c2, hv2, _, _, he2, _⟩ := ho2.shape; simp only [List.nil_append, HM.out] at hv2 he2; subst hv2; have HE2 : Hid (EvsIn y2 a2 es) := he2; clear ho2 hg2 he2)
        | (go_at_call 25; refine (fold_any (empS id) es none a2 0 0 k c2 _ rfl (.inl rfl) (by decide) HM.out HE2.out hml).mono ?_; rw [HFE.out]; rintro _ y3 ⟨a3, n3, c3, rfl, ho3, hb3⟩; have HL3 : Hid (Lns y3 a3 F.lines) := ownl_lns ho3; have HN3 : Hid (F.lines.length = n3) := ho3.len; have HNM : Hid (n3 ≤ maxLen) := (by obtain ⟨_, _, h1, h2, h3, _⟩ := ho3.shape; injection h1 with h4 h5 h6; show _ ≤ _; omega); have HB3 : Hid (Below y1.heap.size y1 y3) := below_next HB2.out hb3; clear ho3 hb3)
        | ((with_reducible refine guard_store 25 ?_); refine wpList_store_st (s := zeroS) (s2 := F) (a2 := a3) (n2 := n3) (c2 := c3) rfl _ _ rfl (StAt.new y3 zeroS (.slice none 0 0)) rfl rfl ?_; intro y4 z1 z2 z3 z4; have hu := (z2 _ _ ((Below.refl y3.heap.size y3).alloc (Nat.le_refl _) _) (Nat.le_refl _)); have HR : Hid (StAt y4 y3.heap.size F (.slice a3 n3 c3) ∧ Lns y4 a3 F.lines ∧ EvsIn y4 oa L ∧ Below w.heap.size w y4) := ⟨z1, HL3.out.keep hu, HOE1.out.keep (below_next HB3.out hu), below_next (below_next HB1.out HB3.out) hu⟩; clear z1 z2 z3 z4 hu))
      refine wp_region_held (S := fun y => StAt y y3.heap.size F (.slice a3 n3 c3)) (by kernel_rfl) ?_
      change wpAnyH _ _ _ _ _ _ _ _ (World.drew _)
      have HR0 : Hid (StAt y4.drew y3.heap.size F (.slice a3 n3 c3)) := HR.out.1.after (Below.refl _ _).drew
      have HD0 : Hid (Below y4.heap.size y4 y4.drew) := (Below.refl _ _).drew
      refine wpAnyH_take (i := 0) (oi := { dst := some 33, op := Op.load 25 (Operand.tmp 8), type := 25, pos := "law.go:127", after := #[], guard := none }) (v := .agg (stA F (.slice a3 n3 c3))) rfl (by kernel_rfl) (by kernel_rfl) (by kernel_rfl) (fun _ _ _ h => h) (Or.inl ⟨by rfl, fun y hy => exec_load_st (.tmp 8) rfl rfl hy⟩) HR0.out ?_
      simp only [Act.put, List.setIfInBounds_toArray, List.set_cons_zero, List.set_cons_succ]
      refine wpAnyH_take (i := 1) (oi := { dst := some 34, op := Op.move (Operand.tmp 0), type := 3, pos := "law.go:127", after := #[], guard := none }) (v := ?_) rfl (by kernel_rfl) (by kernel_rfl) (by kernel_rfl) (fun _ _ _ h => h) (Or.inl ⟨by rfl, ?_⟩) HR0.out ?_
      rotate_left
      · (intro y hy; go_simp; try (with_reducible rfl))
      simp only [Act.put, List.setIfInBounds_toArray, List.set_cons_zero, List.set_cons_succ]
      refine wpAnyH_take (i := 3) (oi := { dst := some 36, op := Op.move (Operand.tmp 5), type := 45, pos := "law.go:127", after := #[], guard := none }) (v := ?_) rfl (by kernel_rfl) (by kernel_rfl) (by kernel_rfl) (fun _ _ _ h => h) (Or.inl ⟨by rfl, ?_⟩) HR0.out ?_
      rotate_left
      · (intro y hy; go_simp; try (with_reducible rfl))
      simp only [Act.put, List.setIfInBounds_toArray, List.set_cons_zero, List.set_cons_succ]
      refine wpAnyH_ready (rs := [2]) (by kernel_rfl) (by simp) ?_
      refine AllReadyH.cons (o := { dst := some 35, op := Op.call { callee := Callee.value (Operand.func 20), args := #[Operand.tmp 34], argTypes := #[3] }, type := 25, pos := "law.go:127", after := #[{ on := 1, ground := Ground.data }], guard := none }) rfl (fun K hK => ?_) AllReadyH.nil
      go_simp
      refine (empty_any id _).mono ?_
      rintro _ y5 ⟨rfl, hb5⟩
      have HQ5 : Hid (Below y4.heap.size y4 y5) := below_next HD0.out hb5
      clear hb5
      (refine hK _ _ (HR.out.1.after HQ5.out) ?_; clear hK K; intro _)
      try simp only [Act.put, List.setIfInBounds_toArray, List.set_cons_zero, List.set_cons_succ]
      refine wpAnyH_ready (rs := [4]) (by kernel_rfl) (by simp) ?_
      refine AllReadyH.cons (o := { dst := some 37, op := Op.call { callee := Callee.value (Operand.func 25), args := #[Operand.tmp 35, Operand.tmp 36], argTypes := #[25, 45] }, type := 25, pos := "law.go:127", after := #[{ on := 2, ground := Ground.data }, { on := 3, ground := Ground.data }, { on := 2, ground := Ground.chain }], guard := none }) rfl (fun K hK => ?_) AllReadyH.nil
      go_simp
      refine (fold_any (empS id) L none oa 0 0 L.length oc _ rfl (.inl rfl) (by decide) rfl (HR.out.2.2.1.keep HQ5.out) HLM.out).mono ?_
      rintro _ y6 ⟨a6, n6, c6, rfl, ho6, hb6⟩
      have HQ6 : Hid (Below y4.heap.size y4 y6) := below_next HQ5.out hb6
      rw [← HFL.out] at ho6 ⊢
      have HL6 : Hid (Lns y6 a6 F.lines) := ownl_lns ho6
      obtain rfl : n3 = n6 := HN3.out.symm.trans ho6.len
      clear hb6 ho6
      (refine hK _ _ (HR.out.1.after HQ6.out) ?_; clear hK K; intro _)
      try simp only [Act.put, List.setIfInBounds_toArray, List.set_cons_zero, List.set_cons_succ]
      refine wpAnyH_ready (rs := [5]) (by kernel_rfl) (by simp) ?_
      refine AllReadyH.cons (o := { dst := some 38, op := Op.call { callee := Callee.value (Operand.func 18), args := #[Operand.tmp 33, Operand.tmp 37], argTypes := #[25, 25] }, type := 4, pos := "law.go:127", after := #[{ on := 0, ground := Ground.data }, { on := 4, ground := Ground.data }, { on := 4, ground := Ground.chain }], guard := none }) rfl (fun K hK => ?_) AllReadyH.nil
      go_simp
      refine (ssame_yes F a3 a6 n3 c3 c6 _ HN3.out (HR.out.2.1.keep HQ6.out) HL6.out HNM.out).mono ?_
      rintro _ y7 ⟨rfl, hb7⟩
      have HQ7 : Hid (Below y4.heap.size y4 y7) := below_next HQ6.out hb7
      clear hb7
      (refine hK _ _ (HR.out.1.after HQ7.out) ?_; clear hK K; intro _)
      try simp only [Act.put, List.setIfInBounds_toArray, List.set_cons_zero, List.set_cons_succ]
      refine wpAnyH_ready (rs := [6]) (by kernel_rfl) (by simp) ?_
      refine AllReadyH.cons (o := { dst := some 4, op := Op.assign (Operand.tmp 38), type := 4, pos := "law.go:127", after := #[{ on := 5, ground := Ground.data }, { on := 5, ground := Ground.chain }, { on := 0, ground := Ground.phase }, { on := 1, ground := Ground.phase }, { on := 2, ground := Ground.phase }, { on := 3, ground := Ground.phase }, { on := 4, ground := Ground.phase }, { on := 5, ground := Ground.phase }], guard := none }) rfl (fun K hK => ?_) AllReadyH.nil
      go_simp
      (refine hK _ _ (HR.out.1.after HQ7.out) ?_; clear hK K; intro _)
      try simp only [Act.put, List.setIfInBounds_toArray, List.set_cons_zero, List.set_cons_succ]
      refine wpAnyH_done (by kernel_rfl) ?_ _
      go_wp2
      go_ret
      exact ⟨rfl, below_next HR.out.2.2.2 HQ7.out⟩
theorem own : ownKnob Tryz.prog.godebug = none := by kernel_rfl
theorem laidOut : laidOutB Tryz.prog = true := by kernel_rfl
set_option maxRecDepth 100000 in
theorem contract (H : Type) (enc : TypeId × Value → H) (W : World) (base : Nat) (args : Array Value) (ds gs : List (DataW H)) (before : List MemPlace)
    (hval : ∀ (j : Nat) t v, Tryz.f9.params[j]? = some t → args[j]? = some v → Value.okWide Tryz.prog W .any base t v)
    (hW : DataW.Whole enc Tryz.prog Tryz.f9.params.toList Rows.orderForeignSpec.vars false W args.toList ds gs before)
    (hsz : (DataW.weightsEach Tryz.prog (Tryz.f9.params.toList ++ Rows.orderForeignSpec.plain.varTypes Tryz.prog) (ds ++ gs)).all (· ≤ reachBytes) = true) :
    Calls Tryz.prog 9 args W fun e W' => ∃ v, e = .returned v ∧ Rows.orderForeignSpec.post enc Tryz.prog Tryz.f9 false true false false W args v W' := by
  have hW' := hW
  obtain ⟨p, q, hA0, hV, rfl, hfz, hnd⟩ := hW
  have hA : DataW.TrodAll enc Tryz.prog W 0 (fun _ => true) true Tryz.f9.params.toList args.toList ds p := hA0
  rw [Tryz.params9] at hA hval hsz
  obtain ⟨v0, vs0, d0, ds0, p0, q0, hargs, rfl, rfl, h0, r0⟩ := trodAll_cons hA
  obtain ⟨v1, vs1, d1, ds1, p1, q1, rfl, rfl, rfl, h1, r1⟩ := trodAll_cons r0
  obtain ⟨rfl, rfl, rfl⟩ := trodAll_nil r1
  obtain rfl : args = #[v0, v1] := by cases args; simp_all
  obtain ⟨rfl, rfl⟩ := trodVars_none hV
  obtain ⟨a0, rfl, rfl, rfl, w0⟩ := open_int Tryz.underlying3 (hval 0 3 v0 rfl rfl) h0
  obtain ⟨a1, len1, cap1, rfl⟩ := okWide_slice Tryz.underlying45 (hval 1 45 v1 rfl rfl)
  have k1 := h1
  have lt1 : ∀ x ∈ p1, x.block < W.heap.size := by obtain ⟨m, hm⟩ := k1; exact DataW.trod_lt m _ _ _ hm
  obtain ⟨l1, hlen1, w1, c1⟩ : ∃ L : List Ev, L.length = len1 ∧ EvsIn W a1 L ∧ (len1 ≤ cap1 ∧ cap1 * 96 ≤ 140737488351232 ∧ (a1 = none → cap1 = 0)) := by
    obtain ⟨fuel, hf⟩ := h1
    obtain ⟨a', l', c', L, hcs, hl, hm, hLl, hfs, hn0, hx⟩ := open_evs hf
    simp [Value.cells] at hcs
    obtain ⟨rfl, rfl, rfl⟩ := hcs
    refine ⟨L, hLl, hfs, hl, ?_, hn0⟩
    rcases hx with hx | ⟨e, s, hx, hes⟩
    · omega
    · have hd : d1 = _ := hx
      have := sized_evs hsz (j := 1) (e := e) (s := s) rfl (by rw [hd]; rfl)
      omega
  clear hA0
  refine (walk a0 l1 a1 len1 cap1 W w0 hlen1 w1 c1).mono fun e W' ⟨he, bel⟩ => ?_
  subst he
  exact ⟨_, rfl, _, _, _, [], _, [], hW', trodAll_mk1 (shut_bool Tryz.underlying4 _), (trodAll_cons_mk (shut_int Tryz.underlying3 w0) (trodAll_cons_mk (Below.trod laidOut (by kernel_rfl) (of_decide_eq_true (by kernel_rfl)) k1 bel lt1) trodAll_mk0)), rfl, bel.frame _, fun h => by cases h⟩
set_option maxRecDepth 100000 in
theorem lifted (os : Os) (started : os.Started) (H : Type) (enc : TypeId × Value → H) :
    ReturnsInHanded {} Tryz.checked os 9 .any (Rows.orderForeignSpec.pre6 enc Tryz.prog Tryz.f9 Rows.orderForeignRow.domain false) (Rows.orderForeignSpec.post enc Tryz.prog Tryz.f9 false true false false) := by
  refine returnsInHanded_of_change_sized (C := Tryz.checked) own started (by kernel_rfl) Tryz.func9
    (ChangeSpec.witness6 (enc := enc) (C := Tryz.checked) false ⟨#[], #[.int .i64 0, .slice none 0 0], []⟩ 8 (by kernel_rfl) (by kernel_rfl) (by kernel_rfl) (by kernel_rfl)) ?_
  intro W base args ds gs before hval hW _ hsz _
  exact contract H enc W base args ds gs before hval hW hsz
theorem over : Rows.orderForeignRow.holds Tryz.pinned (OpenSpec.ofChange Rows.orderForeignSpec) :=
  OpenClaim.holds_of_wide 9 Tryz.f9 rfl rfl rfl rfl rfl rfl rfl ⟨rfl, rfl, rfl, rfl, rfl⟩ rfl rfl rfl rfl rfl (by kernel_rfl) Tryz.func9 (by kernel_rfl)
    (of_decide_eq_true (by kernel_rfl)) (by unfold Func.isWrapper; first | (rw [if_pos (by decide +kernel)]; kernel_rfl) | (rw [if_neg (by decide +kernel)]; exact ⟨rfl, rfl⟩))
    (fun os started H enc _ => lifted os started H enc)
theorem proved : Rows.OrderForeignSaid := over
end Go.Proofs.YtmjppeljpifjpaaGreat.orderForeign
