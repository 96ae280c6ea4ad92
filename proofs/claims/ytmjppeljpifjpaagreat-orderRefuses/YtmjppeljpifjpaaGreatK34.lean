/- Own texts, joined: Od22, Od23. -/
import Derived.Test.YtmjppeljpifjpaaGreatK32
import Derived.Test.YtmjppeljpifjpaaGreatK33
import Derived.Deep.RegionHeld3
namespace Go.Proofs.YtmjppeljpifjpaaGreat
open Go.ChangeShapes Go.WideShapes Go.ChangeAt Go.RowKit
set_option linter.unusedVariables false
set_option linter.unusedSimpArgs false
theorem cf_drop (a : Array Value) (w : World) : (callFunc 84 a).run Tryz.prog w = .ok (.enter 84 a) w := by kernel_rfl
set_option maxRecDepth 20000 in
set_option maxHeartbeats 4000000 in
theorem do_drop : DoOk 84 6 := by
  refine ⟨cf_drop, fun x base s e a n cap ho hb v hr hk hst hrf => ?_⟩
  rw [show doS s e = { s with lines := dropL s.lines e } from by unfold doS; rw [if_neg (by omega), if_neg (by omega), if_neg (by omega), if_neg (by omega), if_neg (by omega), if_pos hk]]
  have hR : ∃ p, lnAt s.lines e.item = some p ∧ e.qty ≤ p.qty := by
    unfold refR at hrf
    rw [if_neg (by omega), if_neg (by omega), if_neg (by omega), if_pos hk] at hrf
    unfold refTake at hrf
    split at hrf
    · omega
    · split at hrf
      · rename_i q hq
        refine ⟨q, hq, ?_⟩
        simp only at hrf
        split at hrf <;> omega
      · omega
  obtain ⟨p, hO, hq⟩ := hR
  obtain ⟨h16, hrise⟩ := linesB_from v.lines
  have q0 : 0 ≤ e.qty := by have := hr.qty0; simpa [loQ] using this
  obtain ⟨LB, hLB⟩ : ∃ LB, lbI s.lines e.item = LB := ⟨_, rfl⟩
  have hlen := ho.len
  have hn16 : n ≤ 16 := by omega
  obtain ⟨g1, g2⟩ := lnAt_some hO
  have fp := (linesB_facts v.lines).2 _ _ g1
  have hA : dropL s.lines e = if p.qty - e.qty = 0 then s.lines.eraseIdx LB else s.lines.set LB (turnL p 2 (p.qty - e.qty)) := by unfold dropL; rw [hO, hLB]; rfl
  rw [hLB] at g1
  obtain ⟨g, rfl, hnc, hcm, hfz, hglt⟩ := ho.block g1
  have hLn2 : LB < n := by have := ln_lt g1; omega
  obtain ⟨W, hW, H⟩ := s3_new x base s e _ ho
  have HS : Hid (S3 x base (.slice (some ⟨g, 0, none⟩) n cap) s e (.slice (some ⟨g, 0, none⟩) n cap) W) := H
  have c5 := H.st.cell 5 (.slice (some ⟨g, 0, none⟩) n cap) rfl
  have d2 := H.ev.cell 2 (.int .i64 e.item) rfl
  have HN : Hid (s.lines.length = n) := hlen
  have HRI : Hid (linesFrom (-1) s.lines = true) := hrise
  have HF : Hid (lbI s.lines e.item = LB ∧ lnAt s.lines e.item = some p) := ⟨hLB, hO⟩
  have HG1 : Hid (s.lines[LB]? = some p) := g1
  have b1 : 0 ≤ p.qty := by omega
  have b2 : p.qty ≤ 100000 := by omega
  have b3 : e.qty ≤ 100000 := by omega
  by_cases hz : p.qty - e.qty = 0
  · rw [hA, if_pos hz]
    have hqe : p.qty = e.qty := by omega
    obtain ⟨m, rfl⟩ : ∃ m, n = m + 1 := ⟨n - 1, by omega⟩
    have hL1 : (s.lines.set LB (turnL p 2 0)).eraseIdx LB = s.lines.eraseIdx LB := List.eraseIdx_set_eq
    have hL2 : (s.lines.set LB (turnL p 2 0))[LB]? = some (turnL p 2 0) := by rw [List.getElem?_set_self (by have := ln_lt g1; omega)]
    have HL : Hid ((s.lines.set LB (turnL p 2 0)).eraseIdx LB = s.lines.eraseIdx LB ∧ (s.lines.set LB (turnL p 2 0))[LB]? = some (turnL p 2 0)) := ⟨hL1, hL2⟩
    have hwz : IntKind.i64.wrap (p.qty - e.qty) = 0 := by rw [IntKind.wrap_i64]; omega
    have HQ : Hid (p.qty = e.qty) := hqe
    have hm16 : m ≤ 16 := by omega
    have hLm : LB ≤ m := by omega
    clear H ho hb v hr hk hst hrf hlen hO g1 g2 h16 hrise fp hA hLB hcm hfz hglt hL1 hL2 hqe hq
    go_enter Tryz.func84, Tryz.ntmps84
    go_wp2_with (first
      | (go_at_call 108; refine (find_any s.lines _ (m + 1) cap e.item _ HN.out (ownl_lns HS.out.row) hn16 HRI.out).mono ?_; rw [HF.out.1, HF.out.2]; rintro _ y1 ⟨rfl, hb1⟩; have h2 : S3 x base (.slice (some ⟨g, 0, none⟩) (m + 1) cap) s e (.slice (some ⟨g, 0, none⟩) (m + 1) cap) y1 := HS.out.keep hb1; have c5' := h2.st.cell 5 (.slice (some ⟨g, 0, none⟩) (m + 1) cap) rfl; have d3' := h2.ev.cell 3 (.int .i64 e.qty) rfl; obtain ⟨k0, k1, k2, k3⟩ := h2.row.cells HG1.out; have kf := frozen_own h2.row (LB * 4 + 2); have HS2 : Hid (S3 x base (.slice (some ⟨g, 0, none⟩) (m + 1) cap) s e (.slice (some ⟨g, 0, none⟩) (m + 1) cap) y1) := h2; clear hb1 h2))
    go_region
    all_goals
      have h3 : S3 x base (.slice (some ⟨g, 0, none⟩) (m + 1) cap) { s with lines := s.lines.set LB (turnL p 2 0) } e (.slice (some ⟨g, 0, none⟩) (m + 1) cap) (y1.drew.setCell ⟨g, LB * 4 + 2, none⟩ (.int .i64 0)) := HS2.out.drew.turn LB 2 p 0 HG1.out (by omega) (.inl rfl)
      have i5 := h3.st.cell 5 (.slice (some ⟨g, 0, none⟩) (m + 1) cap) rfl
      obtain ⟨j0, j1, j2, j3⟩ := h3.row.cells HL.out.2
      have j2' : (y1.drew.setCell ⟨g, LB * 4 + 2, none⟩ (.int .i64 0)).cell? ⟨g, LB * 4 + 2, none⟩ = some (.int .i64 0) := j2
      have HS3 : Hid (S3 x base (.slice (some ⟨g, 0, none⟩) (m + 1) cap) { s with lines := s.lines.set LB (turnL p 2 0) } e (.slice (some ⟨g, 0, none⟩) (m + 1) cap) (y1.drew.setCell ⟨g, LB * 4 + 2, none⟩ (.int .i64 0))) := h3
      clear h3 j0 j1 j2 j3
      try rw [HQ.out]
      try simp only [Int.sub_self]
      go_wp2_with (first
        | (go_at_call 112; refine (del_any _ g LB m cap base _ HS3.out.row hLm hm16).mono ?_; rw [HL.out.1]; rintro _ y2 ⟨rfl, ho2, hgr2⟩; obtain ⟨h4, hst4⟩ := HS3.out.swap hgr2 _ _ ho2; have e5 := hst4.cell 5 (.slice (some ⟨g, 0, none⟩) (m + 1) cap) rfl; have e5f := hst4.froz 5; have HS4 : Hid (S3 x base (.slice (some ⟨g, 0, none⟩) (m + 1) cap) { s with lines := s.lines.eraseIdx LB } e (.slice (some ⟨g, 0, none⟩) m cap) (y2.setCell ⟨x.heap.size, 5, none⟩ (.slice (some ⟨g, 0, none⟩) m cap))) := h4; clear ho2 hgr2 h4 hst4)
        | ((with_reducible refine guard_load 25 ?_); refine wpList_load_st rfl _ rfl HS4.out.st rfl ?_)
        | ((with_reducible refine guard_store 25 ?_); refine wpList_store_st (s := zeroS) (s2 := { s with lines := s.lines.eraseIdx LB }) (a2 := some ⟨g, 0, none⟩) (n2 := m) (c2 := cap) rfl _ _ rfl HS4.out.res rfl rfl ?_; intro y z1 z2 z3 z4))
      have HZ := HS4.out.done z3 z2
      exact bodyPost_ret (results_st1 rfl _ _ _ rfl z1) rfl ⟨_, m, cap, rfl, HZ.1, HZ.2⟩
  · rw [hA, if_neg hz]
    have hz' : (p.qty - e.qty == 0) = false := by simpa using hz
    clear H ho hb v hr hk hst hrf hlen hO g1 g2 h16 hrise fp hA hLB hcm hfz hglt
    go_enter Tryz.func84, Tryz.ntmps84
    go_wp2_with (first
      | (go_at_call 108; refine (find_any s.lines _ n cap e.item _ HN.out (ownl_lns HS.out.row) hn16 HRI.out).mono ?_; rw [HF.out.1, HF.out.2]; rintro _ y1 ⟨rfl, hb1⟩; have h2 : S3 x base (.slice (some ⟨g, 0, none⟩) n cap) s e (.slice (some ⟨g, 0, none⟩) n cap) y1 := HS.out.keep hb1; have c5' := h2.st.cell 5 (.slice (some ⟨g, 0, none⟩) n cap) rfl; have d3' := h2.ev.cell 3 (.int .i64 e.qty) rfl; obtain ⟨k0, k1, k2, k3⟩ := h2.row.cells HG1.out; have kf := frozen_own h2.row (LB * 4 + 2); have HS2 : Hid (S3 x base (.slice (some ⟨g, 0, none⟩) n cap) s e (.slice (some ⟨g, 0, none⟩) n cap) y1) := h2; clear hb1 h2))
    go_region
    all_goals
      have h3 : S3 x base (.slice (some ⟨g, 0, none⟩) n cap) { s with lines := s.lines.set LB (turnL p 2 (p.qty - e.qty)) } e (.slice (some ⟨g, 0, none⟩) n cap) (y1.drew.setCell ⟨g, LB * 4 + 2, none⟩ (.int .i64 (p.qty - e.qty))) := HS2.out.drew.turn LB 2 p (p.qty - e.qty) HG1.out (by omega) (.inl rfl)
      have i5 := h3.st.cell 5 (.slice (some ⟨g, 0, none⟩) n cap) rfl
      have HS3 : Hid (S3 x base (.slice (some ⟨g, 0, none⟩) n cap) { s with lines := s.lines.set LB (turnL p 2 (p.qty - e.qty)) } e (.slice (some ⟨g, 0, none⟩) n cap) (y1.drew.setCell ⟨g, LB * 4 + 2, none⟩ (.int .i64 (p.qty - e.qty)))) := h3
      clear h3
      go_wp2_with (first
        | ((with_reducible refine guard_load 25 ?_); refine wpList_load_st rfl _ rfl HS3.out.st rfl ?_)
        | ((with_reducible refine guard_store 25 ?_); refine wpList_store_st (s := zeroS) (s2 := { s with lines := s.lines.set LB (turnL p 2 (p.qty - e.qty)) }) (a2 := some ⟨g, 0, none⟩) (n2 := n) (c2 := cap) rfl _ _ rfl HS3.out.res rfl rfl ?_; intro y z1 z2 z3 z4))
      have HZ := HS3.out.done z3 z2
      exact bodyPost_ret (results_st1 rfl _ _ _ rfl z1) rfl ⟨_, n, cap, rfl, HZ.1, HZ.2⟩
/-- what events do, whatever their kind -/
theorem do_any (k : Nat) (h1 : 1 ≤ k) (h10 : k ≤ 10) : DoOk (doF k) k := by
  have hk : k = 1 ∨ k = 2 ∨ k = 3 ∨ k = 4 ∨ k = 5 ∨ k = 6 ∨ k = 7 ∨ k = 8 ∨ k = 9 ∨ k = 10 := by omega
  rcases hk with rfl | rfl | rfl | rfl | rfl | rfl | rfl | rfl | rfl | rfl
  · exact do_place
  · exact do_add
  · exact do_pay
  · exact do_ship
  · exact do_cancel
  · exact do_drop
  · exact do_refund
  · exact do_hold
  · exact do_release
  · exact do_clearUp
end Go.Proofs.YtmjppeljpifjpaaGreat
namespace Go.Proofs.YtmjppeljpifjpaaGreat
open Go.ChangeShapes Go.WideShapes Go.ChangeAt Go.RowKit
set_option linter.unusedVariables false
set_option linter.unusedSimpArgs false
theorem step_load_st {ops : Array Oper} {o : Oper} {a : Act} {w : World} {K : Act → World → Prop} {Q : Exit → Act → World → Prop} {X : Prop} (hg : o.guard = none) (x : Operand) (ho : o.op = .load 25 x)
    {b : Nat} {s : St} {v : Value} (hL : StAt w b s v) (hx : a.eval x = .pointer (some ⟨b, 0, none⟩)) (hK : K (a.put o.dst (.agg (stA s v))) w) :
    if Region.wanted o (yielded ops a.tmps) = true then Oper.wp Tryz.prog o a w K Q else X := by
  have hw : Region.wanted o (yielded ops a.tmps) = true := by simp [Region.wanted, hg]
  rw [if_pos hw]
  unfold Oper.wp execOp
  simp only [ho, hx, Sem.run_bind, Sem.run_pure, Result.andThen_ok, hL.load]
  exact hK
theorem step_store_st {ops : Array Oper} {o : Oper} {a : Act} {w : World} {K : Act → World → Prop} {Q : Exit → Act → World → Prop} {X : Prop} (hg : o.guard = none) (x y : Operand) (ho : o.op = .store 25 x y)
    {b : Nat} {s s2 : St} {v : Value} {a2 : Option Addr} {n2 c2 : Nat} (hL : StAt w b s v) (hx : a.eval x = .pointer (some ⟨b, 0, none⟩)) (hy : a.eval y = .agg (stA s2 (.slice a2 n2 c2)))
    (hK : ∀ w2, StAt w2 b s2 (.slice a2 n2 c2) → (∀ B a, Below B a w → B ≤ b → Below B a w2) → (∀ k, k ≠ b → w2.heap[k]? = w.heap[k]?) → w2.heap.size = w.heap.size → K (a.put o.dst undef) w2) :
    if Region.wanted o (yielded ops a.tmps) = true then Oper.wp Tryz.prog o a w K Q else X := by
  have hw : Region.wanted o (yielded ops a.tmps) = true := by simp [Region.wanted, hg]
  rw [if_pos hw]
  obtain ⟨w2, h1, h2, h3, h4, h5⟩ := hL.store s2 a2 n2 c2
  unfold Oper.wp execOp
  simp only [ho, hx, hy, Sem.run_bind, Sem.run_pure, Result.andThen_ok, h1]
  exact hK w2 h2 h3 h4 h5
theorem doS_keep (s : St) (e : Ev) : (doS s e).stamp = s.stamp ∧ (doS s e).who = s.who ∧ (doS s e).events = s.events ∧ (doS s e).refused = s.refused ∧ (doS s e).order = s.order := by
  unfold doS
  repeat' split
  all_goals exact ⟨rfl, rfl, rfl, rfl, rfl⟩
/-- behind what an event does, stored in the state's place -/
theorem S3.did {w : World} {base : Nat} {v : Value} {s s2 : St} {e : Ev} {v2 : Value} {x y z : World} (h : S3 w base v s e v x) (hg : x.grownBy y v.ownBlock) (ho : OwnL y base v2 s2.lines) (z1 : StAt z w.heap.size s2 v2) (z3 : ∀ k, k ≠ w.heap.size → z.heap[k]? = y.heap[k]?) (z2 : ∀ B a, Below B a y → B ≤ w.heap.size → Below B a z) : S3 w base v s2 e v2 z := by
  have st : StAt y w.heap.size s v := (hg.block _ h.st.lt (own_st_ne h.row h.st)).trans h.st
  have ev : EvAt y (w.heap.size + 1) e := (hg.block _ h.ev.lt (own_ev_ne h.row h.ev)).trans h.ev
  have res : StAt y (w.heap.size + 2) zeroS (.slice none 0 0) := (hg.block _ h.res.lt (own_st_ne h.row h.res)).trans h.res
  have b1 := z2 w.heap.size y (Below.refl _ _) (Nat.le_refl _)
  have g2 := grown_trans h.gr hg
  refine ⟨z1, (z3 _ (by omega)).trans ev, (z3 _ (by omega)).trans res, ho.keepOther (fun g hgk => z3 g (fun hh => ?_)), b1.os.trans g2.os, b1.tape.trans g2.tape, b1.output.trans g2.output, Nat.le_trans g2.size b1.size, fun k hk hne => (z3 k (by omega)).trans (g2.block k hk hne)⟩
  subst hh
  exact own_st_ne ho st hgk.symm
/-- what next answers -/
def NextPost (s' : St) (r0 : Int) (x : World) (base : Nat) (v : Value) (r : Ending) (x' : World) : Prop := ∃ a n c, r = .returned (.tuple #[.agg (stA s' (.slice a n c)), .int .i64 r0]) ∧ OwnL x' base (.slice a n c) s'.lines ∧ x.grownBy x' v.ownBlock
set_option maxRecDepth 20000 in
set_option maxHeartbeats 8000000 in
theorem next_no (lo b : Nat) (s : St) (e : Ev) (a : Option Addr) (n cap base : Nat) (w : World) (hd : DeedsAt lo w b) (ho : OwnL w base (.slice a n cap) s.lines) (hb : base ≤ w.heap.size) (hj : judS s e ≠ 0) :
    Calls Tryz.prog 49 #[.slice (some ⟨b, 0, none⟩) 11 11, .agg (stA s (.slice a n cap)), .agg (evA e)] w fun r w' => NextPost (nextS s e) (judS s e) w base (.slice a n cap) r w' := by
  obtain ⟨W, hW, H⟩ := s3_new w base s e _ ho
  have HS : Hid (S3 w base (.slice a n cap) s e (.slice a n cap) W) := H
  have HN : Hid (s.lines.length = n) := ho.len
  have HD : Hid (DeedsAt lo w b) := hd
  have hm : n ≤ maxLen := Nat.le_trans ho.caps.1 ho.caps.2
  have HBW : Hid (Below w.heap.size w W) := by rw [← hW]; exact (((Below.refl _ _).alloc (Nat.le_refl _) _).alloc (by simp) _).alloc (by simp; omega) _
  obtain ⟨J, hJ⟩ : ∃ J, judS s e = J := ⟨_, rfl⟩
  have HJ : Hid (judS s e = J) := hJ
  by_cases h12 : J = 1 ∨ J = 2
  · rw [show nextS s e = s from by unfold nextS; rw [hJ, if_pos h12], hJ]
    rcases h12 with rfl | rfl
    all_goals
      clear H ho hd hb hJ hj
      go_enter Tryz.func49, Tryz.ntmps49
      go_wp2_with (first
        | ((with_reducible refine guard_load 25 ?_); first | refine wpList_load_st rfl _ rfl HS1.out.st rfl ?_ | refine wpList_load_st rfl _ rfl HS.out.st rfl ?_)
        | ((with_reducible refine guard_load 37 ?_); refine wpList_load_ev rfl _ rfl HS.out.ev rfl ?_)
        | (go_at_call 45; refine (judge_any lo b s e a n cap _ (HD.out.keep HBW.out) HN.out (ownl_lns HS.out.row) hm).mono ?_; rw [HJ.out]; rintro _ x1 ⟨rfl, hb1⟩; have HS1 : Hid (S3 w base (.slice a n cap) s e (.slice a n cap) x1) := HS.out.keep hb1; clear hb1)
        | ((with_reducible refine guard_store 25 ?_); refine wpList_store_st (s := zeroS) (s2 := s) (a2 := a) (n2 := n) (c2 := cap) rfl _ _ rfl HS1.out.res rfl rfl ?_; intro y z1 z2 z3 z4))
      have HZ := HS1.out.done z3 z2
      exact bodyPost_ret (results_st2 rfl _ _ _ _ rfl rfl z1) rfl ⟨a, n, cap, rfl, HZ.1, HZ.2⟩
  · have hJ0 : J ≠ 0 := hJ ▸ hj
    have h1 : (J == 1) = false := by simp; omega
    have h2 : (J == 2) = false := by simp; omega
    have h0 : (J == 0) = false := by simp; omega
    have v := vl_of (jud_parts (s := s) (e := e) (by rw [hJ]; omega)).1
    have r1 := v.r1
    have r2 : s.refused ≤ 1099511627776 := by have := v.r2; have := v.e2; omega
    have e1 := v.e1
    have e2 := v.e2
    rw [show nextS s e = { s with refused := s.refused + 1, events := s.events + 1 } from by unfold nextS; rw [hJ, if_neg h12, if_neg hJ0], hJ]
    clear H ho hd hb hJ hj h12 hJ0 v
    go_enter Tryz.func49, Tryz.ntmps49
    go_wp2_with (first
      | ((with_reducible refine guard_load 25 ?_); first | refine wpList_load_st rfl _ rfl HS1.out.st rfl ?_ | refine wpList_load_st rfl _ rfl HS.out.st rfl ?_)
      | ((with_reducible refine guard_load 37 ?_); refine wpList_load_ev rfl _ rfl HS.out.ev rfl ?_)
      | (go_at_call 45; refine (judge_any lo b s e a n cap _ (HD.out.keep HBW.out) HN.out (ownl_lns HS.out.row) hm).mono ?_; rw [HJ.out]; rintro _ x1 ⟨rfl, hb1⟩; have k := HS.out.keep hb1; obtain ⟨c0, c1, c2, c3, c4, c5, c6, c7, c8, c9, c10, c11⟩ := k.st.cells; have f8 := k.froz 8; have f9 := k.froz 9; have HS1 : Hid (S3 w base (.slice a n cap) { s with refused := s.refused + 1, events := s.events + 1 } e (.slice a n cap) ((x1.setCell ⟨w.heap.size, 9, none⟩ (.int .i64 (s.refused + 1))).setCell ⟨w.heap.size, 8, none⟩ (.int .i64 (s.events + 1)))) := ((k.set (s2 := { s with refused := s.refused + 1 }) 9 _ rfl rfl).set 8 _ rfl rfl); clear hb1 k)
      | ((with_reducible refine guard_store 25 ?_); refine wpList_store_st (s := zeroS) (s2 := { s with refused := s.refused + 1, events := s.events + 1 }) (a2 := a) (n2 := n) (c2 := cap) rfl _ _ rfl HS1.out.res rfl rfl ?_; intro y z1 z2 z3 z4))
    have HZ := HS1.out.done z3 z2
    exact bodyPost_ret (results_st2 rfl _ _ _ _ rfl rfl z1) rfl ⟨a, n, cap, rfl, HZ.1, HZ.2⟩
end Go.Proofs.YtmjppeljpifjpaaGreat
