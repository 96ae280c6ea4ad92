/- Own texts, joined: Od22, Od23, Od24, Od25, Od26. -/
import Derived.Test.YtbpjlphjhjfdoaaGreatM30
import Derived.Test.YtbpjlphjhjfdoaaGreatM33
import Derived.Deep.RegionHeld3
namespace Go.Proofs.YtbpjlphjhjfdoaaGreat
open Go.ChangeShapes Go.WideShapes Go.ChangeAt Go.RowKit
set_option linter.unusedVariables false
set_option linter.unusedSimpArgs false
theorem cf_drop (a : Array Value) (w : World) : (callFunc 50 a).run Tryz.prog w = .ok (.enter 50 a) w := by kernel_rfl
set_option maxRecDepth 20000 in
set_option maxHeartbeats 4000000 in
theorem do_drop : DoOk 50 6 := by
  refine ⟨cf_drop, fun x base s e a n cap ho hb v hr hk hst hrf => ?_⟩
  rw [show doS s e = { s with lines := dropL s.lines e } from by unfold doS; rw [if_neg (by omega), if_neg (by omega), if_neg (by omega), if_neg (by omega), if_neg (by omega), if_pos hk]]
  have hR : ∃ p, lnAt s.lines e.item = some p ∧ e.qty ≤ p.qty := by
    unfold refR at hrf
    rw [if_neg (by omega), if_neg (by omega), if_neg (by omega), if_pos hk] at hrf
    unfold refTake at hrf
    split at hrf
    · omega
    · split at hrf
      · rename_i q hq
        refine ⟨q, hq, ?_⟩
        simp only at hrf
        split at hrf <;> omega
      · omega
  obtain ⟨p, hO, hq⟩ := hR
  obtain ⟨h16, hrise⟩ := linesB_from v.lines
  have q0 : 0 ≤ e.qty := by have := hr.qty0; simpa [loQ] using this
  obtain ⟨LB, hLB⟩ : ∃ LB, lbI s.lines e.item = LB := ⟨_, rfl⟩
  have hlen := ho.len
  have hn16 : n ≤ 16 := by omega
  obtain ⟨g1, g2⟩ := lnAt_some hO
  have fp := (linesB_facts v.lines).2 _ _ g1
  have hA : dropL s.lines e = if p.qty - e.qty = 0 then s.lines.eraseIdx LB else s.lines.set LB (turnL p 2 (p.qty - e.qty)) := by unfold dropL; rw [hO, hLB]; rfl
  rw [hLB] at g1
  obtain ⟨g, rfl, hnc, hcm, hfz, hglt⟩ := ho.block g1
  have hLn2 : LB < n := by have := ln_lt g1; omega
  obtain ⟨W, hW, H⟩ := s3_new x base s e _ ho
  have HS : Hid (S3 x base (.slice (some ⟨g, 0, none⟩) n cap) s e (.slice (some ⟨g, 0, none⟩) n cap) W) := H
  have c5 := H.st.cell 5 (.slice (some ⟨g, 0, none⟩) n cap) rfl
  have d2 := H.ev.cell 2 (.int .i64 e.item) rfl
  have HN : Hid (s.lines.length = n) := hlen
  have HRI : Hid (linesFrom (-1) s.lines = true) := hrise
  have HF : Hid (lbI s.lines e.item = LB ∧ lnAt s.lines e.item = some p) := ⟨hLB, hO⟩
  have HG1 : Hid (s.lines[LB]? = some p) := g1
  have b1 : 0 ≤ p.qty := by omega
  have b2 : p.qty ≤ 100000 := by omega
  have b3 : e.qty ≤ 100000 := by omega
  by_cases hz : p.qty - e.qty = 0
  · rw [hA, if_pos hz]
    have hqe : p.qty = e.qty := by omega
    obtain ⟨m, rfl⟩ : ∃ m, n = m + 1 := ⟨n - 1, by omega⟩
    have hL1 : (s.lines.set LB (turnL p 2 0)).eraseIdx LB = s.lines.eraseIdx LB := List.eraseIdx_set_eq
    have hL2 : (s.lines.set LB (turnL p 2 0))[LB]? = some (turnL p 2 0) := by rw [List.getElem?_set_self (by have := ln_lt g1; omega)]
    have HL : Hid ((s.lines.set LB (turnL p 2 0)).eraseIdx LB = s.lines.eraseIdx LB ∧ (s.lines.set LB (turnL p 2 0))[LB]? = some (turnL p 2 0)) := ⟨hL1, hL2⟩
    have hwz : IntKind.i64.wrap (p.qty - e.qty) = 0 := by rw [IntKind.wrap_i64]; omega
    have HQ : Hid (p.qty = e.qty) := hqe
    have hm16 : m ≤ 16 := by omega
    have hLm : LB ≤ m := by omega
    clear H ho hb v hr hk hst hrf hlen hO g1 g2 h16 hrise fp hA hLB hcm hfz hglt hL1 hL2 hqe hq
    go_enter Tryz.func50, Tryz.ntmps50
    go_wp2_with (first
      | (go_at_call 77; refine (find_any s.lines _ (m + 1) cap e.item _ HN.out (ownl_lns HS.out.row) hn16 HRI.out).mono ?_; rw [HF.out.1, HF.out.2]; rintro _ y1 ⟨rfl, hb1⟩; have h2 : S3 x base (.slice (some ⟨g, 0, none⟩) (m + 1) cap) s e (.slice (some ⟨g, 0, none⟩) (m + 1) cap) y1 := HS.out.keep hb1; have c5' := h2.st.cell 5 (.slice (some ⟨g, 0, none⟩) (m + 1) cap) rfl; have d3' := h2.ev.cell 3 (.int .i64 e.qty) rfl; obtain ⟨k0, k1, k2, k3⟩ := h2.row.cells HG1.out; have kf := frozen_own h2.row (LB * 4 + 2); have HS2 : Hid (S3 x base (.slice (some ⟨g, 0, none⟩) (m + 1) cap) s e (.slice (some ⟨g, 0, none⟩) (m + 1) cap) y1) := h2; clear hb1 h2))
    go_region
    all_goals
      have h3 : S3 x base (.slice (some ⟨g, 0, none⟩) (m + 1) cap) { s with lines := s.lines.set LB (turnL p 2 0) } e (.slice (some ⟨g, 0, none⟩) (m + 1) cap) (y1.drew.setCell ⟨g, LB * 4 + 2, none⟩ (.int .i64 0)) := HS2.out.drew.turn LB 2 p 0 HG1.out (by omega) (.inl rfl)
      have i5 := h3.st.cell 5 (.slice (some ⟨g, 0, none⟩) (m + 1) cap) rfl
      obtain ⟨j0, j1, j2, j3⟩ := h3.row.cells HL.out.2
      have j2' : (y1.drew.setCell ⟨g, LB * 4 + 2, none⟩ (.int .i64 0)).cell? ⟨g, LB * 4 + 2, none⟩ = some (.int .i64 0) := j2
      have HS3 : Hid (S3 x base (.slice (some ⟨g, 0, none⟩) (m + 1) cap) { s with lines := s.lines.set LB (turnL p 2 0) } e (.slice (some ⟨g, 0, none⟩) (m + 1) cap) (y1.drew.setCell ⟨g, LB * 4 + 2, none⟩ (.int .i64 0))) := h3
      clear h3 j0 j1 j2 j3
      try rw [HQ.out]
      try simp only [Int.sub_self]
      go_wp2_with (first
        | (go_at_call 81; refine (del_any _ g LB m cap base _ HS3.out.row hLm hm16).mono ?_; rw [HL.out.1]; rintro _ y2 ⟨rfl, ho2, hgr2⟩; obtain ⟨h4, hst4⟩ := HS3.out.swap hgr2 _ _ ho2; have e5 := hst4.cell 5 (.slice (some ⟨g, 0, none⟩) (m + 1) cap) rfl; have e5f := hst4.froz 5; have HS4 : Hid (S3 x base (.slice (some ⟨g, 0, none⟩) (m + 1) cap) { s with lines := s.lines.eraseIdx LB } e (.slice (some ⟨g, 0, none⟩) m cap) (y2.setCell ⟨x.heap.size, 5, none⟩ (.slice (some ⟨g, 0, none⟩) m cap))) := h4; clear ho2 hgr2 h4 hst4)
        | ((with_reducible refine guard_load 25 ?_); refine wpList_load_st rfl _ rfl HS4.out.st rfl ?_)
        | ((with_reducible refine guard_store 25 ?_); refine wpList_store_st (s := zeroS) (s2 := { s with lines := s.lines.eraseIdx LB }) (a2 := some ⟨g, 0, none⟩) (n2 := m) (c2 := cap) rfl _ _ rfl HS4.out.res rfl rfl ?_; intro y z1 z2 z3 z4))
      have HZ := HS4.out.done z3 z2
      exact bodyPost_ret (results_st1 rfl _ _ _ rfl z1) rfl ⟨_, m, cap, rfl, HZ.1, HZ.2⟩
  · rw [hA, if_neg hz]
    have hz' : (p.qty - e.qty == 0) = false := by simpa using hz
    clear H ho hb v hr hk hst hrf hlen hO g1 g2 h16 hrise fp hA hLB hcm hfz hglt
    go_enter Tryz.func50, Tryz.ntmps50
    go_wp2_with (first
      | (go_at_call 77; refine (find_any s.lines _ n cap e.item _ HN.out (ownl_lns HS.out.row) hn16 HRI.out).mono ?_; rw [HF.out.1, HF.out.2]; rintro _ y1 ⟨rfl, hb1⟩; have h2 : S3 x base (.slice (some ⟨g, 0, none⟩) n cap) s e (.slice (some ⟨g, 0, none⟩) n cap) y1 := HS.out.keep hb1; have c5' := h2.st.cell 5 (.slice (some ⟨g, 0, none⟩) n cap) rfl; have d3' := h2.ev.cell 3 (.int .i64 e.qty) rfl; obtain ⟨k0, k1, k2, k3⟩ := h2.row.cells HG1.out; have kf := frozen_own h2.row (LB * 4 + 2); have HS2 : Hid (S3 x base (.slice (some ⟨g, 0, none⟩) n cap) s e (.slice (some ⟨g, 0, none⟩) n cap) y1) := h2; clear hb1 h2))
    go_region
    all_goals
      have h3 : S3 x base (.slice (some ⟨g, 0, none⟩) n cap) { s with lines := s.lines.set LB (turnL p 2 (p.qty - e.qty)) } e (.slice (some ⟨g, 0, none⟩) n cap) (y1.drew.setCell ⟨g, LB * 4 + 2, none⟩ (.int .i64 (p.qty - e.qty))) := HS2.out.drew.turn LB 2 p (p.qty - e.qty) HG1.out (by omega) (.inl rfl)
      have i5 := h3.st.cell 5 (.slice (some ⟨g, 0, none⟩) n cap) rfl
      have HS3 : Hid (S3 x base (.slice (some ⟨g, 0, none⟩) n cap) { s with lines := s.lines.set LB (turnL p 2 (p.qty - e.qty)) } e (.slice (some ⟨g, 0, none⟩) n cap) (y1.drew.setCell ⟨g, LB * 4 + 2, none⟩ (.int .i64 (p.qty - e.qty)))) := h3
      clear h3
      go_wp2_with (first
        | ((with_reducible refine guard_load 25 ?_); refine wpList_load_st rfl _ rfl HS3.out.st rfl ?_)
        | ((with_reducible refine guard_store 25 ?_); refine wpList_store_st (s := zeroS) (s2 := { s with lines := s.lines.set LB (turnL p 2 (p.qty - e.qty)) }) (a2 := some ⟨g, 0, none⟩) (n2 := n) (c2 := cap) rfl _ _ rfl HS3.out.res rfl rfl ?_; intro y z1 z2 z3 z4))
      have HZ := HS3.out.done z3 z2
      exact bodyPost_ret (results_st1 rfl _ _ _ rfl z1) rfl ⟨_, n, cap, rfl, HZ.1, HZ.2⟩
theorem do_any (k : Nat) (h1 : 1 ≤ k) (h10 : k ≤ 10) : DoOk (doF k) k := by
  have hk : k = 1 ∨ k = 2 ∨ k = 3 ∨ k = 4 ∨ k = 5 ∨ k = 6 ∨ k = 7 ∨ k = 8 ∨ k = 9 ∨ k = 10 := by omega
  rcases hk with rfl | rfl | rfl | rfl | rfl | rfl | rfl | rfl | rfl | rfl
  · exact do_place
  · exact do_add
  · exact do_pay
  · exact do_ship
  · exact do_cancel
  · exact do_drop
  · exact do_refund
  · exact do_hold
  · exact do_release
  · exact do_clearUp
end Go.Proofs.YtbpjlphjhjfdoaaGreat
namespace Go.Proofs.YtbpjlphjhjfdoaaGreat
open Go.ChangeShapes Go.WideShapes Go.ChangeAt Go.RowKit
set_option linter.unusedVariables false
set_option linter.unusedSimpArgs false
theorem step_load_st {ops : Array Oper} {o : Oper} {a : Act} {w : World} {K : Act → World → Prop} {Q : Exit → Act → World → Prop} {X : Prop} (hg : o.guard = none) (x : Operand) (ho : o.op = .load 25 x)
    {b : Nat} {s : St} {v : Value} (hL : StAt w b s v) (hx : a.eval x = .pointer (some ⟨b, 0, none⟩)) (hK : K (a.put o.dst (.agg (stA s v))) w) :
    if Region.wanted o (yielded ops a.tmps) = true then Oper.wp Tryz.prog o a w K Q else X := by
  have hw : Region.wanted o (yielded ops a.tmps) = true := by simp [Region.wanted, hg]
  rw [if_pos hw]
  unfold Oper.wp execOp
  simp only [ho, hx, Sem.run_bind, Sem.run_pure, Result.andThen_ok, hL.load]
  exact hK
theorem step_store_st {ops : Array Oper} {o : Oper} {a : Act} {w : World} {K : Act → World → Prop} {Q : Exit → Act → World → Prop} {X : Prop} (hg : o.guard = none) (x y : Operand) (ho : o.op = .store 25 x y)
    {b : Nat} {s s2 : St} {v : Value} {a2 : Option Addr} {n2 c2 : Nat} (hL : StAt w b s v) (hx : a.eval x = .pointer (some ⟨b, 0, none⟩)) (hy : a.eval y = .agg (stA s2 (.slice a2 n2 c2)))
    (hK : ∀ w2, StAt w2 b s2 (.slice a2 n2 c2) → (∀ B a, Below B a w → B ≤ b → Below B a w2) → (∀ k, k ≠ b → w2.heap[k]? = w.heap[k]?) → w2.heap.size = w.heap.size → K (a.put o.dst undef) w2) :
    if Region.wanted o (yielded ops a.tmps) = true then Oper.wp Tryz.prog o a w K Q else X := by
  have hw : Region.wanted o (yielded ops a.tmps) = true := by simp [Region.wanted, hg]
  rw [if_pos hw]
  obtain ⟨w2, h1, h2, h3, h4, h5⟩ := hL.store s2 a2 n2 c2
  unfold Oper.wp execOp
  simp only [ho, hx, hy, Sem.run_bind, Sem.run_pure, Result.andThen_ok, h1]
  exact hK w2 h2 h3 h4 h5
theorem doS_keep (s : St) (e : Ev) : (doS s e).stamp = s.stamp ∧ (doS s e).who = s.who ∧ (doS s e).events = s.events ∧ (doS s e).refused = s.refused ∧ (doS s e).order = s.order := by
  unfold doS
  repeat' split
  all_goals exact ⟨rfl, rfl, rfl, rfl, rfl⟩
theorem S3.did {w : World} {base : Nat} {v : Value} {s s2 : St} {e : Ev} {v2 : Value} {x y z : World} (h : S3 w base v s e v x) (hg : x.grownBy y v.ownBlock) (ho : OwnL y base v2 s2.lines) (z1 : StAt z w.heap.size s2 v2) (z3 : ∀ k, k ≠ w.heap.size → z.heap[k]? = y.heap[k]?) (z2 : ∀ B a, Below B a y → B ≤ w.heap.size → Below B a z) : S3 w base v s2 e v2 z := by
  have st : StAt y w.heap.size s v := (hg.block _ h.st.lt (own_st_ne h.row h.st)).trans h.st
  have ev : EvAt y (w.heap.size + 1) e := (hg.block _ h.ev.lt (own_ev_ne h.row h.ev)).trans h.ev
  have res : StAt y (w.heap.size + 2) zeroS (.slice none 0 0) := (hg.block _ h.res.lt (own_st_ne h.row h.res)).trans h.res
  have b1 := z2 w.heap.size y (Below.refl _ _) (Nat.le_refl _)
  have g2 := grown_trans h.gr hg
  refine ⟨z1, (z3 _ (by omega)).trans ev, (z3 _ (by omega)).trans res, ho.keepOther (fun g hgk => z3 g (fun hh => ?_)), b1.os.trans g2.os, b1.tape.trans g2.tape, b1.output.trans g2.output, Nat.le_trans g2.size b1.size, fun k hk hne => (z3 k (by omega)).trans (g2.block k hk hne)⟩
  subst hh
  exact own_st_ne ho st hgk.symm
def NextPost (s' : St) (r0 : Int) (x : World) (base : Nat) (v : Value) (r : Ending) (x' : World) : Prop := ∃ a n c, r = .returned (.tuple #[.agg (stA s' (.slice a n c)), .int .i64 r0]) ∧ OwnL x' base (.slice a n c) s'.lines ∧ x.grownBy x' v.ownBlock
set_option maxRecDepth 20000 in
set_option maxHeartbeats 8000000 in
theorem next_no (lo b : Nat) (s : St) (e : Ev) (a : Option Addr) (n cap base : Nat) (w : World) (hd : DeedsAt lo w b) (ho : OwnL w base (.slice a n cap) s.lines) (hb : base ≤ w.heap.size) (hj : judS s e ≠ 0) :
    Calls Tryz.prog 22 #[.slice (some ⟨b, 0, none⟩) 11 11, .agg (stA s (.slice a n cap)), .agg (evA e)] w fun r w' => NextPost (nextS s e) (judS s e) w base (.slice a n cap) r w' := by
  obtain ⟨W, hW, H⟩ := s3_new w base s e _ ho
  have HS : Hid (S3 w base (.slice a n cap) s e (.slice a n cap) W) := H
  have HN : Hid (s.lines.length = n) := ho.len
  have HD : Hid (DeedsAt lo w b) := hd
  have hm : n ≤ maxLen := Nat.le_trans ho.caps.1 ho.caps.2
  have HBW : Hid (Below w.heap.size w W) := by rw [← hW]; exact (((Below.refl _ _).alloc (Nat.le_refl _) _).alloc (by simp) _).alloc (by simp; omega) _
  obtain ⟨J, hJ⟩ : ∃ J, judS s e = J := ⟨_, rfl⟩
  have HJ : Hid (judS s e = J) := hJ
  by_cases h12 : J = 1 ∨ J = 2
  · rw [show nextS s e = s from by unfold nextS; rw [hJ, if_pos h12], hJ]
    rcases h12 with rfl | rfl
    all_goals
      clear H ho hd hb hJ hj
      go_enter Tryz.func22, Tryz.ntmps22
      go_wp2_with (first
        | ((with_reducible refine guard_load 25 ?_); first | refine wpList_load_st rfl _ rfl HS1.out.st rfl ?_ | refine wpList_load_st rfl _ rfl HS.out.st rfl ?_)
        | ((with_reducible refine guard_load 28 ?_); refine wpList_load_ev rfl _ rfl HS.out.ev rfl ?_)
        | (go_at_call 56; refine (judge_any lo b s e a n cap _ (HD.out.keep HBW.out) HN.out (ownl_lns HS.out.row) hm).mono ?_; rw [HJ.out]; rintro _ x1 ⟨rfl, hb1⟩; have HS1 : Hid (S3 w base (.slice a n cap) s e (.slice a n cap) x1) := HS.out.keep hb1; clear hb1)
        | ((with_reducible refine guard_store 25 ?_); refine wpList_store_st (s := zeroS) (s2 := s) (a2 := a) (n2 := n) (c2 := cap) rfl _ _ rfl HS1.out.res rfl rfl ?_; intro y z1 z2 z3 z4))
      have HZ := HS1.out.done z3 z2
      exact bodyPost_ret (results_st2 rfl _ _ _ _ rfl rfl z1) rfl ⟨a, n, cap, rfl, HZ.1, HZ.2⟩
  · have hJ0 : J ≠ 0 := hJ ▸ hj
    have h1 : (J == 1) = false := by simp; omega
    have h2 : (J == 2) = false := by simp; omega
    have h0 : (J == 0) = false := by simp; omega
    have v := vl_of (jud_parts (s := s) (e := e) (by rw [hJ]; omega)).1
    have r1 := v.r1
    have r2 : s.refused ≤ 1099511627776 := by have := v.r2; have := v.e2; omega
    have e1 := v.e1
    have e2 := v.e2
    rw [show nextS s e = { s with refused := s.refused + 1, events := s.events + 1 } from by unfold nextS; rw [hJ, if_neg h12, if_neg hJ0], hJ]
    clear H ho hd hb hJ hj h12 hJ0 v
    go_enter Tryz.func22, Tryz.ntmps22
    go_wp2_with (first
      | ((with_reducible refine guard_load 25 ?_); first | refine wpList_load_st rfl _ rfl HS1.out.st rfl ?_ | refine wpList_load_st rfl _ rfl HS.out.st rfl ?_)
      | ((with_reducible refine guard_load 28 ?_); refine wpList_load_ev rfl _ rfl HS.out.ev rfl ?_)
      | (go_at_call 56; refine (judge_any lo b s e a n cap _ (HD.out.keep HBW.out) HN.out (ownl_lns HS.out.row) hm).mono ?_; rw [HJ.out]; rintro _ x1 ⟨rfl, hb1⟩; have k := HS.out.keep hb1; obtain ⟨c0, c1, c2, c3, c4, c5, c6, c7, c8, c9, c10, c11⟩ := k.st.cells; have f8 := k.froz 8; have f9 := k.froz 9; have HS1 : Hid (S3 w base (.slice a n cap) { s with refused := s.refused + 1, events := s.events + 1 } e (.slice a n cap) ((x1.setCell ⟨w.heap.size, 9, none⟩ (.int .i64 (s.refused + 1))).setCell ⟨w.heap.size, 8, none⟩ (.int .i64 (s.events + 1)))) := ((k.set (s2 := { s with refused := s.refused + 1 }) 9 _ rfl rfl).set 8 _ rfl rfl); clear hb1 k)
      | ((with_reducible refine guard_store 25 ?_); refine wpList_store_st (s := zeroS) (s2 := { s with refused := s.refused + 1, events := s.events + 1 }) (a2 := a) (n2 := n) (c2 := cap) rfl _ _ rfl HS1.out.res rfl rfl ?_; intro y z1 z2 z3 z4))
    have HZ := HS1.out.done z3 z2
    exact bodyPost_ret (results_st2 rfl _ _ _ _ rfl rfl z1) rfl ⟨a, n, cap, rfl, HZ.1, HZ.2⟩
end Go.Proofs.YtbpjlphjhjfdoaaGreat
namespace Go.Proofs.YtbpjlphjhjfdoaaGreat
open Go.ChangeShapes Go.WideShapes Go.ChangeAt Go.RowKit
set_option linter.unusedVariables false
set_option linter.unusedSimpArgs false
set_option maxRecDepth 20000 in
set_option maxHeartbeats 8000000 in
theorem next_fine (lo b : Nat) (s : St) (e : Ev) (a : Option Addr) (n cap base : Nat) (w : World) (hd : DeedsAt lo w b) (ho : OwnL w base (.slice a n cap) s.lines) (hb : base ≤ w.heap.size) (hj : judS s e = 0) :
    Calls Tryz.prog 22 #[.slice (some ⟨b, 0, none⟩) 11 11, .agg (stA s (.slice a n cap)), .agg (evA e)] w fun r w' => NextPost (nextS s e) (judS s e) w base (.slice a n cap) r w' := by
  obtain ⟨W, hW, H⟩ := s3_new w base s e _ ho
  have HS : Hid (S3 w base (.slice a n cap) s e (.slice a n cap) W) := H
  have HN : Hid (s.lines.length = n) := ho.len
  have HD : Hid (DeedsAt lo w b) := hd
  have hm : n ≤ maxLen := Nat.le_trans ho.caps.1 ho.caps.2
  have HBW : Hid (Below w.heap.size w W) := by rw [← hW]; exact (((Below.refl _ _).alloc (Nat.le_refl _) _).alloc (by simp) _).alloc (by simp; omega) _
  have HJ : Hid (judS s e = 0) := hj
  obtain ⟨hv, hc, hev⟩ := jud_parts (s := s) (e := e) (by rw [hj]; decide)
  obtain ⟨hor, hjj⟩ := jud_rest (s := s) (e := e) (by rw [hj]; decide) (by rw [hj]; decide)
  have hstd : stdR s e.kind = 0 := Classical.byContradiction fun hn => by rw [hj, if_pos hn] at hjj; exact hn hjj.symm
  have href : refR s e = 0 := by rw [hj, if_neg (by omega)] at hjj; exact hjj.symm
  have v := vl_of hv
  have hR := right_of hc
  have kk1 := hR.kind0
  have kk2 : e.kind ≤ lastK 5 := hR.kind1
  simp [lastK] at kk2
  obtain ⟨k, hk⟩ : ∃ k : Nat, e.kind = k := ⟨e.kind.toNat, by omega⟩
  have hk1 : 1 ≤ k := by omega
  have hk10 : k ≤ 10 := by omega
  have hk11 : (k : Int) < 11 := by omega
  obtain ⟨vs, vr, q0, q1, q2, _, _⟩ := hd.2.2 k hk1 hk10
  have hblt := hd.1
  have hdo := do_any k hk1 hk10
  obtain ⟨D, hD⟩ : ∃ D, doF k = D := ⟨_, rfl⟩
  rw [hD] at q2 hdo
  obtain ⟨hcf, hdo⟩ := hdo
  obtain ⟨t, ht⟩ : ∃ t, doS s e = t := ⟨_, rfl⟩
  obtain ⟨kp1, kp2, kp3, kp4, kp5⟩ := doS_keep s e
  rw [ht] at kp1 kp2 kp3 kp4 kp5
  have HDO : Hid (∀ (y : World), OwnL y base (.slice a n cap) s.lines → base ≤ y.heap.size → Calls Tryz.prog D #[.agg (stA s (.slice a n cap)), .agg (evA e)] y fun r y' => DoPost t y base (.slice a n cap) r y') := fun y hy1 hy2 => ht ▸ hdo y base s e a n cap hy1 hy2 v hR hk (hk ▸ hstd) href
  have HQ2 : Hid (w.cell? ⟨b, k * 3 + 2, none⟩ = some (.func (Fn.func D) #[] #[]) ∧ b < w.heap.size) := ⟨q2, hblt⟩
  have HKK : Hid (e.kind = k) := hk
  have HB0 : Hid (base ≤ w.heap.size) := hb
  obtain ⟨X, hX⟩ : ∃ X, (if s.stamp < e.stamp then e.stamp else s.stamp) = X := ⟨_, rfl⟩
  have hXm : max s.stamp e.stamp = X := by rw [← hX, Int.max_def]; split <;> split <;> omega
  obtain ⟨Y, hY⟩ : ∃ Y, (if (e.who.toList == []) = true then s.who else e.who) = Y := ⟨_, rfl⟩
  have hnext : nextS s e = { t with stamp := X, who := Y, events := t.events + 1 } := by
    unfold nextS
    rw [hj, if_neg (by decide), if_pos rfl]
    unfold fineS
    rw [ht, hX, hY, kp3]
  have HY : Hid ((if (e.who.toList == []) = true then s.who else e.who) = Y) := hY
  have HT : Hid (t.stamp = s.stamp ∧ t.who = s.who) := ⟨kp1, kp2⟩
  have te1 : 0 ≤ t.events := by rw [kp3]; exact v.e1
  have te2 : t.events ≤ 1099511627776 := by rw [kp3]; exact v.e2
  have sm1 := v.m1
  have sm2 := v.m2
  have sm3 := hR.stamp0
  have sm4 := hR.stamp1
  rw [hnext, hj]
  clear H ho hd hb hj hv hc hev hor hjj hstd href v hR kk1 kk2 hk q0 q1 q2 hblt hdo hD ht kp1 kp2 kp3 kp4 kp5 hX hY hnext
  go_enter Tryz.func22, Tryz.ntmps22
  go_wp2_with (first
    | ((with_reducible refine guard_load 25 ?_); refine wpList_load_st rfl _ rfl HS.out.st rfl ?_)
    | ((with_reducible refine guard_load 28 ?_); refine wpList_load_ev rfl _ rfl HS.out.ev rfl ?_)
    | (go_at_call 56; refine (judge_any lo b s e a n cap _ (HD.out.keep HBW.out) HN.out (ownl_lns HS.out.row) hm).mono ?_; rw [HJ.out]; rintro _ x1 ⟨rfl, hb1⟩; have HB1 : Hid (Below w.heap.size w x1) := below_next HBW.out hb1; have HS1 : Hid (S3 w base (.slice a n cap) s e (.slice a n cap) x1) := HS.out.keep hb1; clear hb1))
  have qf : x1.drew.cell? ⟨b, k * 3 + 2, none⟩ = some (.func (Fn.func D) #[] #[]) := (HB1.out.cell (p := ⟨b, k * 3 + 2, none⟩) HQ2.out.2).trans HQ2.out.1
  have HS1d : Hid (S3 w base (.slice a n cap) s e (.slice a n cap) x1.drew) := HS1.out.drew
  refine wp_region_held (S := fun y => EvAt y (w.heap.size + 1) e) (by kernel_rfl) ?_
  change wpAnyH _ _ _ _ _ _ _ _ (World.drew _)
  have hS0 : EvAt x1.drew (w.heap.size + 1) e := HS1d.out.ev
  refine wpAnyH_take (i := 0) (oi := { dst := some 25, op := Op.move (Operand.tmp 0), type := 51, pos := "deeds.go:75", after := #[], guard := none }) (v := ?_) rfl (by kernel_rfl) (by kernel_rfl) (by kernel_rfl) (fun _ _ _ h => h) (Or.inl ⟨by rfl, ?_⟩) hS0 ?_
  rotate_left
  · (intro y hy; go_simp; try (with_reducible rfl))
  simp only [Act.put, List.setIfInBounds_toArray, List.set_cons_zero, List.set_cons_succ]
  refine wpAnyH_take (i := 1) (oi := { dst := some 26, op := Op.fieldAddr 28 (Operand.tmp 5) 0, type := 0, pos := "deeds.go:75", after := #[], guard := none }) (v := ?_) rfl (by kernel_rfl) (by kernel_rfl) (by kernel_rfl) (fun _ _ _ h => h) (Or.inl ⟨by rfl, ?_⟩) hS0 ?_
  rotate_left
  · (intro y hy; go_simp; try (with_reducible rfl))
  simp only [Act.put, List.setIfInBounds_toArray, List.set_cons_zero, List.set_cons_succ]
  refine wpAnyH_take (i := 2) (oi := { dst := some 27, op := Op.load 26 (Operand.tmp 26), type := 26, pos := "deeds.go:75", after := #[{ on := 1, ground := Ground.data }], guard := none }) (v := .int .i64 (k : Int)) rfl (by kernel_rfl) (by kernel_rfl) (by kernel_rfl) (fun _ _ _ h => h) (Or.inl ⟨by rfl, ?_⟩) hS0 ?_
  · (intro y hy; have c0 : y.cell? ⟨w.heap.size + 1, 0, none⟩ = some (.int .i64 (k : Int)) := hy.cell 0 _ (by rw [← HKK.out]; rfl); go_simp; try (with_reducible rfl))
  simp only [Act.put, List.setIfInBounds_toArray, List.set_cons_zero, List.set_cons_succ]
  refine wpAnyH_take (i := 3) (oi := { dst := some 28, op := Op.indexAddr 51 (Operand.tmp 25) (Operand.tmp 27), type := 0, pos := "deeds.go:75", after := #[{ on := 0, ground := Ground.data }, { on := 2, ground := Ground.data }], guard := none }) (v := ?_) rfl (by kernel_rfl) (by kernel_rfl) (by kernel_rfl) (fun _ _ _ h => h) (Or.inl ⟨by rfl, ?_⟩) hS0 ?_
  rotate_left
  · (intro y hy; go_simp; try (with_reducible rfl))
  simp only [Act.put, List.setIfInBounds_toArray, List.set_cons_zero, List.set_cons_succ]
  refine wpAnyH_take (i := 4) (oi := { dst := some 29, op := Op.fieldAddr 65 (Operand.tmp 28) 2, type := 0, pos := "deeds.go:75", after := #[{ on := 3, ground := Ground.data }], guard := none }) (v := ?_) rfl (by kernel_rfl) (by kernel_rfl) (by kernel_rfl) (fun _ _ _ h => h) (Or.inl ⟨by rfl, ?_⟩) hS0 ?_
  rotate_left
  · (intro y hy; go_simp; try (with_reducible rfl))
  simp only [Act.put, List.setIfInBounds_toArray, List.set_cons_zero, List.set_cons_succ]
  refine wpAnyH_take (i := 7) (oi := { dst := some 32, op := Op.load 28 (Operand.tmp 5), type := 28, pos := "deeds.go:75", after := #[], guard := none }) (v := .agg (evA e)) rfl (by kernel_rfl) (by kernel_rfl) (by kernel_rfl) (fun _ _ _ h => h) (Or.inl ⟨by rfl, fun y hy => exec_load_ev (.tmp 5) rfl rfl hy⟩) hS0 ?_
  try simp only [Act.put, List.setIfInBounds_toArray, List.set_cons_zero, List.set_cons_succ]
  refine wpAnyH_ready (rs := [5, 6]) (by kernel_rfl) (by simp) ?_
  refine AllReadyH.cons (o := { dst := some 30, op := Op.load 63 (Operand.tmp 29), type := 63, pos := "deeds.go:75", after := #[{ on := 4, ground := Ground.data }], guard := none }) rfl (fun K hK => ?_) (AllReadyH.cons (o := { dst := some 31, op := Op.load 25 (Operand.tmp 4), type := 25, pos := "deeds.go:75", after := #[], guard := none }) rfl (fun K hK => ?_) AllReadyH.nil)
  · go_simp
    (refine hK _ _ hS0 ?_; clear hK K; intro _)
    try simp only [Act.put, List.setIfInBounds_toArray, List.set_cons_zero, List.set_cons_succ]
    refine wpAnyH_ready (rs := [6]) (by kernel_rfl) (by simp) ?_
    refine AllReadyH.cons (o := { dst := some 31, op := Op.load 25 (Operand.tmp 4), type := 25, pos := "deeds.go:75", after := #[], guard := none }) rfl (fun K hK => ?_) AllReadyH.nil
    refine step_load_st rfl _ rfl HS1d.out.st rfl ?_
    (refine hK _ _ hS0 ?_; clear hK K; intro _)
    try simp only [Act.put, List.setIfInBounds_toArray, List.set_cons_zero, List.set_cons_succ]
    refine wpAnyH_ready (rs := [8]) (by kernel_rfl) (by simp) ?_
    refine AllReadyH.cons (o := { dst := some 33, op := Op.call { callee := Callee.value (Operand.tmp 30), args := #[Operand.tmp 31, Operand.tmp 32], argTypes := #[25, 28] }, type := 25, pos := "deeds.go:75", after := #[{ on := 5, ground := Ground.data }, { on := 6, ground := Ground.data }, { on := 7, ground := Ground.data }], guard := none }) rfl (fun K hK => ?_) AllReadyH.nil
    go_simp
    refine (HDO.out _ HS1d.out.row (Nat.le_trans HB0.out HB1.out.size)).mono ?_
    rintro _ x2 ⟨a2, n2, c2, rfl, ho2, hgr2⟩
    have hst2 : StAt x2 w.heap.size s (.slice a n cap) := (hgr2.block _ HS1d.out.st.lt (own_st_ne HS1d.out.row HS1d.out.st)).trans HS1d.out.st
    have hev2 : EvAt x2 (w.heap.size + 1) e := (hgr2.block _ HS1d.out.ev.lt (own_ev_ne HS1d.out.row HS1d.out.ev)).trans HS1d.out.ev
    (refine hK _ _ hev2 ?_; clear hK K; intro _)
    try simp only [Act.put, List.setIfInBounds_toArray, List.set_cons_zero, List.set_cons_succ]
    refine wpAnyH_ready (rs := [9]) (by kernel_rfl) (by simp) ?_
    refine AllReadyH.cons (o := { dst := none, op := Op.store 25 (Operand.tmp 4) (Operand.tmp 33), type := 0, pos := "deeds.go:75", after := #[{ on := 8, ground := Ground.data }, { on := 8, ground := Ground.chain }, { on := 0, ground := Ground.phase }, { on := 1, ground := Ground.phase }, { on := 2, ground := Ground.phase }, { on := 3, ground := Ground.phase }, { on := 4, ground := Ground.phase }, { on := 5, ground := Ground.phase }, { on := 6, ground := Ground.phase }, { on := 7, ground := Ground.phase }, { on := 8, ground := Ground.phase }], guard := none }) rfl (fun K hK => ?_) AllReadyH.nil
    refine step_store_st (s := s) (s2 := t) (a2 := a2) (n2 := n2) (c2 := c2) rfl _ _ rfl hst2 rfl rfl ?_
    intro x3 z1 z2 z3 z4
    have h3 : S3 w base (.slice a n cap) t e (.slice a2 n2 c2) x3 := HS1d.out.did hgr2 ho2 z1 z3 z2
    (refine hK _ _ h3.ev ?_; clear hK K; intro _)
    refine wpAnyH_done (by kernel_rfl) ?_ _
    obtain ⟨c0, c1, c2', c3, c4, c5, c6, c7, c8, c9, c10, c11⟩ := h3.st.cells
    obtain ⟨d0, d1, d2, d3, d4, d5, d6, d7, d8, d9⟩ := h3.ev.cells10
    have f8 := h3.froz 8
    have f10 := h3.froz 10
    have f11 := h3.froz 11
    rw [HT.out.1] at c10
    have HS3 : Hid (S3 w base (.slice a n cap) t e (.slice a2 n2 c2) x3) := h3
    clear ho2 hgr2 z1 z2 z3 z4 h3 hst2 hev2 qf hS0
    cases hw : e.who.toList == [] with
    | true =>
      have hYs : Y = t.who := by rw [← HY.out, if_pos hw, HT.out.2]
      have HS5 : Hid (S3 w base (.slice a n cap) { t with stamp := X, who := Y, events := t.events + 1 } e (.slice a2 n2 c2) ((x3.setCell ⟨w.heap.size, 10, none⟩ (.int .i64 X)).setCell ⟨w.heap.size, 8, none⟩ (.int .i64 (t.events + 1)))) := by
        rw [hYs]
        exact ((HS3.out.set (s2 := { t with stamp := X }) 10 _ rfl rfl).set 8 _ rfl rfl)
      clear hYs
      go_wp2_with (first
        | ((with_reducible refine guard_load 25 ?_); refine wpList_load_st rfl _ rfl HS5.out.st rfl ?_)
        | ((with_reducible refine guard_store 25 ?_); refine wpList_store_st (s := zeroS) (s2 := { t with stamp := X, who := Y, events := t.events + 1 }) (a2 := a2) (n2 := n2) (c2 := c2) rfl _ _ rfl HS5.out.res rfl rfl ?_; intro y z1 z2 z3 z4))
      have HZ := HS5.out.done z3 z2
      exact bodyPost_ret (results_st2 rfl _ _ _ _ rfl rfl z1) rfl ⟨a2, n2, c2, rfl, HZ.1, HZ.2⟩
    | false =>
      have hYs : Y = e.who := by rw [← HY.out, if_neg (by rw [hw]; decide)]
      have HS5 : Hid (S3 w base (.slice a n cap) { t with stamp := X, who := Y, events := t.events + 1 } e (.slice a2 n2 c2) (((x3.setCell ⟨w.heap.size, 10, none⟩ (.int .i64 X)).setCell ⟨w.heap.size, 11, none⟩ (.string e.who)).setCell ⟨w.heap.size, 8, none⟩ (.int .i64 (t.events + 1)))) := by
        rw [hYs]
        exact (((HS3.out.set (s2 := { t with stamp := X }) 10 _ rfl rfl).set (s2 := { t with stamp := X, who := e.who }) 11 _ rfl rfl).set 8 _ rfl rfl)
      clear hYs
      go_wp2_with (first
        | ((with_reducible refine guard_load 25 ?_); refine wpList_load_st rfl _ rfl HS5.out.st rfl ?_)
        | ((with_reducible refine guard_store 25 ?_); refine wpList_store_st (s := zeroS) (s2 := { t with stamp := X, who := Y, events := t.events + 1 }) (a2 := a2) (n2 := n2) (c2 := c2) rfl _ _ rfl HS5.out.res rfl rfl ?_; intro y z1 z2 z3 z4))
      have HZ := HS5.out.done z3 z2
      exact bodyPost_ret (results_st2 rfl _ _ _ _ rfl rfl z1) rfl ⟨a2, n2, c2, rfl, HZ.1, HZ.2⟩
  · refine step_load_st rfl _ rfl HS1d.out.st rfl ?_
    (refine hK _ _ hS0 ?_; clear hK K; intro _)
    try simp only [Act.put, List.setIfInBounds_toArray, List.set_cons_zero, List.set_cons_succ]
    refine wpAnyH_ready (rs := [5]) (by kernel_rfl) (by simp) ?_
    refine AllReadyH.cons (o := { dst := some 30, op := Op.load 63 (Operand.tmp 29), type := 63, pos := "deeds.go:75", after := #[{ on := 4, ground := Ground.data }], guard := none }) rfl (fun K hK => ?_) AllReadyH.nil
    go_simp
    (refine hK _ _ hS0 ?_; clear hK K; intro _)
    try simp only [Act.put, List.setIfInBounds_toArray, List.set_cons_zero, List.set_cons_succ]
    refine wpAnyH_ready (rs := [8]) (by kernel_rfl) (by simp) ?_
    refine AllReadyH.cons (o := { dst := some 33, op := Op.call { callee := Callee.value (Operand.tmp 30), args := #[Operand.tmp 31, Operand.tmp 32], argTypes := #[25, 28] }, type := 25, pos := "deeds.go:75", after := #[{ on := 5, ground := Ground.data }, { on := 6, ground := Ground.data }, { on := 7, ground := Ground.data }], guard := none }) rfl (fun K hK => ?_) AllReadyH.nil
    go_simp
    refine (HDO.out _ HS1d.out.row (Nat.le_trans HB0.out HB1.out.size)).mono ?_
    rintro _ x2 ⟨a2, n2, c2, rfl, ho2, hgr2⟩
    have hst2 : StAt x2 w.heap.size s (.slice a n cap) := (hgr2.block _ HS1d.out.st.lt (own_st_ne HS1d.out.row HS1d.out.st)).trans HS1d.out.st
    have hev2 : EvAt x2 (w.heap.size + 1) e := (hgr2.block _ HS1d.out.ev.lt (own_ev_ne HS1d.out.row HS1d.out.ev)).trans HS1d.out.ev
    (refine hK _ _ hev2 ?_; clear hK K; intro _)
    try simp only [Act.put, List.setIfInBounds_toArray, List.set_cons_zero, List.set_cons_succ]
    refine wpAnyH_ready (rs := [9]) (by kernel_rfl) (by simp) ?_
    refine AllReadyH.cons (o := { dst := none, op := Op.store 25 (Operand.tmp 4) (Operand.tmp 33), type := 0, pos := "deeds.go:75", after := #[{ on := 8, ground := Ground.data }, { on := 8, ground := Ground.chain }, { on := 0, ground := Ground.phase }, { on := 1, ground := Ground.phase }, { on := 2, ground := Ground.phase }, { on := 3, ground := Ground.phase }, { on := 4, ground := Ground.phase }, { on := 5, ground := Ground.phase }, { on := 6, ground := Ground.phase }, { on := 7, ground := Ground.phase }, { on := 8, ground := Ground.phase }], guard := none }) rfl (fun K hK => ?_) AllReadyH.nil
    refine step_store_st (s := s) (s2 := t) (a2 := a2) (n2 := n2) (c2 := c2) rfl _ _ rfl hst2 rfl rfl ?_
    intro x3 z1 z2 z3 z4
    have h3 : S3 w base (.slice a n cap) t e (.slice a2 n2 c2) x3 := HS1d.out.did hgr2 ho2 z1 z3 z2
    (refine hK _ _ h3.ev ?_; clear hK K; intro _)
    refine wpAnyH_done (by kernel_rfl) ?_ _
    obtain ⟨c0, c1, c2', c3, c4, c5, c6, c7, c8, c9, c10, c11⟩ := h3.st.cells
    obtain ⟨d0, d1, d2, d3, d4, d5, d6, d7, d8, d9⟩ := h3.ev.cells10
    have f8 := h3.froz 8
    have f10 := h3.froz 10
    have f11 := h3.froz 11
    rw [HT.out.1] at c10
    have HS3 : Hid (S3 w base (.slice a n cap) t e (.slice a2 n2 c2) x3) := h3
    clear ho2 hgr2 z1 z2 z3 z4 h3 hst2 hev2 qf hS0
    cases hw : e.who.toList == [] with
    | true =>
      have hYs : Y = t.who := by rw [← HY.out, if_pos hw, HT.out.2]
      have HS5 : Hid (S3 w base (.slice a n cap) { t with stamp := X, who := Y, events := t.events + 1 } e (.slice a2 n2 c2) ((x3.setCell ⟨w.heap.size, 10, none⟩ (.int .i64 X)).setCell ⟨w.heap.size, 8, none⟩ (.int .i64 (t.events + 1)))) := by
        rw [hYs]
        exact ((HS3.out.set (s2 := { t with stamp := X }) 10 _ rfl rfl).set 8 _ rfl rfl)
      clear hYs
      go_wp2_with (first
        | ((with_reducible refine guard_load 25 ?_); refine wpList_load_st rfl _ rfl HS5.out.st rfl ?_)
        | ((with_reducible refine guard_store 25 ?_); refine wpList_store_st (s := zeroS) (s2 := { t with stamp := X, who := Y, events := t.events + 1 }) (a2 := a2) (n2 := n2) (c2 := c2) rfl _ _ rfl HS5.out.res rfl rfl ?_; intro y z1 z2 z3 z4))
      have HZ := HS5.out.done z3 z2
      exact bodyPost_ret (results_st2 rfl _ _ _ _ rfl rfl z1) rfl ⟨a2, n2, c2, rfl, HZ.1, HZ.2⟩
    | false =>
      have hYs : Y = e.who := by rw [← HY.out, if_neg (by rw [hw]; decide)]
      have HS5 : Hid (S3 w base (.slice a n cap) { t with stamp := X, who := Y, events := t.events + 1 } e (.slice a2 n2 c2) (((x3.setCell ⟨w.heap.size, 10, none⟩ (.int .i64 X)).setCell ⟨w.heap.size, 11, none⟩ (.string e.who)).setCell ⟨w.heap.size, 8, none⟩ (.int .i64 (t.events + 1)))) := by
        rw [hYs]
        exact (((HS3.out.set (s2 := { t with stamp := X }) 10 _ rfl rfl).set (s2 := { t with stamp := X, who := e.who }) 11 _ rfl rfl).set 8 _ rfl rfl)
      clear hYs
      go_wp2_with (first
        | ((with_reducible refine guard_load 25 ?_); refine wpList_load_st rfl _ rfl HS5.out.st rfl ?_)
        | ((with_reducible refine guard_store 25 ?_); refine wpList_store_st (s := zeroS) (s2 := { t with stamp := X, who := Y, events := t.events + 1 }) (a2 := a2) (n2 := n2) (c2 := c2) rfl _ _ rfl HS5.out.res rfl rfl ?_; intro y z1 z2 z3 z4))
      have HZ := HS5.out.done z3 z2
      exact bodyPost_ret (results_st2 rfl _ _ _ _ rfl rfl z1) rfl ⟨a2, n2, c2, rfl, HZ.1, HZ.2⟩
theorem next_any (lo b : Nat) (s : St) (e : Ev) (a : Option Addr) (n cap base : Nat) (w : World) (hd : DeedsAt lo w b) (ho : OwnL w base (.slice a n cap) s.lines) (hb : base ≤ w.heap.size) :
    Calls Tryz.prog 22 #[.slice (some ⟨b, 0, none⟩) 11 11, .agg (stA s (.slice a n cap)), .agg (evA e)] w fun r w' => NextPost (nextS s e) (judS s e) w base (.slice a n cap) r w' := by
  by_cases hj : judS s e = 0
  · exact next_fine lo b s e a n cap base w hd ho hb hj
  · exact next_no lo b s e a n cap base w hd ho hb hj
end Go.Proofs.YtbpjlphjhjfdoaaGreat
namespace Go.Proofs.YtbpjlphjhjfdoaaGreat
open Go.ChangeShapes Go.WideShapes Go.ChangeAt Go.RowKit
set_option linter.unusedVariables false
set_option linter.unusedSimpArgs false
theorem t3_new (w : World) (s : St) (e : Ev) (v : Value) : ∃ W, ((w.alloc (.cells (stA s v) 25)).alloc (.cells (evA e) 28)).alloc (.cells #[.int .i64 0, .int .i64 0, .int .i64 0, .int .i64 0, .int .i64 0, .slice none 0 0, .int .i64 0, .int .i64 0, .int .i64 0, .int .i64 0, .int .i64 0, .string ⟨#[]⟩] 25) = W ∧ StAt W w.heap.size s v ∧ EvAt W (w.heap.size + 1) e ∧ StAt W (w.heap.size + 2) zeroS (.slice none 0 0) ∧ Below w.heap.size w W := by
  refine ⟨_, rfl, ?_, ?_, ?_, (((Below.refl _ _).alloc (Nat.le_refl _) _).alloc (by simp) _).alloc (by simp; omega) _⟩
  · exact ((StAt.new w s v).after ((Below.refl _ _).alloc (Nat.le_refl _) _)).after ((Below.refl _ _).alloc (Nat.le_refl _) _)
  · have := (evAt_new (w.alloc (.cells (stA s v) 25)) e).after ((Below.refl _ _).alloc (Nat.le_refl _) (.cells (stA zeroS (.slice none 0 0)) 25))
    simp only [World.alloc, Array.size_push] at this
    exact this
  · have := StAt.new ((w.alloc (.cells (stA s v) 25)).alloc (.cells (evA e) 28)) zeroS (.slice none 0 0)
    simp only [World.alloc, Array.size_push] at this
    exact this
theorem S3.own {w x y : World} {s : St} {e : Ev} {v v1 : Value} (st : StAt x w.heap.size s v) (ev : EvAt x (w.heap.size + 1) e) (res : StAt x (w.heap.size + 2) zeroS (.slice none 0 0)) (hb : Below w.heap.size w x) (hy : Below x.heap.size x y) (ho : OwnL y w.heap.size v1 s.lines) : S3 w w.heap.size (.slice none 0 0) s e v1 (y.setCell ⟨w.heap.size, 5, none⟩ v1) := by
  have st2 := st.after hy
  have ev2 := ev.after hy
  have res2 := res.after hy
  have hb2 := hb.trans (hy.mono hb.size)
  refine ⟨St.setTo st2 5 v1 rfl, ?_, ?_, ho.setOther _ _ (own_st_ne ho st2), grown_set (below_grown hb2 _) _ _ (Nat.le_refl _)⟩
  · exact (heap_setCell_other y ⟨w.heap.size, 5, none⟩ (w.heap.size + 1) v1 (by show w.heap.size + 1 ≠ w.heap.size; omega)).trans ev2
  · exact (heap_setCell_other y ⟨w.heap.size, 5, none⟩ (w.heap.size + 2) v1 (by show w.heap.size + 2 ≠ w.heap.size; omega)).trans res2
def ApplyPost (s' : St) (r0 : Int) (w : World) (r : Ending) (w' : World) : Prop := ∃ a n c, r = .returned (.tuple #[.agg (stA s' (.slice a n c)), .int .i64 r0]) ∧ OwnL w' w.heap.size (.slice a n c) s'.lines ∧ Below w.heap.size w w'
set_option maxRecDepth 20000 in
set_option maxHeartbeats 8000000 in
theorem apply_any (s : St) (e : Ev) (a : Option Addr) (n cap : Nat) (w : World) (hn : s.lines.length = n) (hl : Lns w a s.lines) (hm : n * 32 ≤ 140737488351232) :
    Calls Tryz.prog 8 #[.agg (stA s (.slice a n cap)), .agg (evA e)] w fun r w' => ApplyPost (nextS s e) (judS s e) w r w' := by
  obtain ⟨W, hW, h1, h2, h3, h4⟩ := t3_new w s e (.slice a n cap)
  have HN : Hid (s.lines.length = n) := hn
  have HW : Hid (StAt W w.heap.size s (.slice a n cap) ∧ EvAt W (w.heap.size + 1) e ∧ StAt W (w.heap.size + 2) zeroS (.slice none 0 0) ∧ Below w.heap.size w W) := ⟨h1, h2, h3, h4⟩
  have HL : Hid (Lns W a s.lines) := hl.keep h4
  have c5 := h1.cell 5 (.slice a n cap) rfl
  clear hn hl h1 h2 h3 h4
  go_enter Tryz.func8, Tryz.ntmps8
  go_wp2_with (go_at_call 20; refine (lnclone_any s.lines a n cap _ HN.out HL.out hm).mono ?_; rintro _ y1 ⟨a1, c1, rfl, ho1, hb1⟩; have k5 := (HW.out.1.after hb1).cell 5 (.slice a n cap) rfl; have kf := (HW.out.1.after hb1).froz 5; have HS : Hid (S3 w w.heap.size (.slice none 0 0) s e (.slice a1 n c1) (y1.setCell ⟨w.heap.size, 5, none⟩ (.slice a1 n c1))) := S3.own HW.out.1 HW.out.2.1 HW.out.2.2.1 HW.out.2.2.2 hb1 (ho1.mono HW.out.2.2.2.size); clear ho1 hb1)
  obtain ⟨X, hX⟩ : ∃ X, y1.setCell ⟨w.heap.size, 5, none⟩ (.slice a1 n c1) = X := ⟨_, rfl⟩
  rw [hX] at HS ⊢
  clear hX k5 kf
  have HSd : Hid (S3 w w.heap.size (.slice none 0 0) s e (.slice a1 n c1) X.drew) := HS.out.drew
  refine wp_region_held (S := fun y => StAt y w.heap.size s (.slice a1 n c1) ∧ EvAt y (w.heap.size + 1) e) (by kernel_rfl) ?_
  change wpAnyH _ _ _ _ _ _ _ _ (World.drew _)
  have hS0 : StAt X.drew w.heap.size s (.slice a1 n c1) ∧ EvAt X.drew (w.heap.size + 1) e := ⟨HSd.out.st, HSd.out.ev⟩
  refine wpAnyH_take (i := 1) (oi := { dst := some 11, op := Op.load 25 (Operand.tmp 2), type := 25, pos := "order.go:46", after := #[], guard := none }) (v := .agg (stA s (.slice a1 n c1))) rfl (by kernel_rfl) (by kernel_rfl) (by kernel_rfl) (fun _ _ _ h => h) (Or.inl ⟨by rfl, fun y hy => exec_load_st (.tmp 2) rfl rfl hy.1⟩) hS0 ?_
  simp only [Act.put, List.setIfInBounds_toArray, List.set_cons_zero, List.set_cons_succ]
  refine wpAnyH_take (i := 2) (oi := { dst := some 12, op := Op.load 28 (Operand.tmp 3), type := 28, pos := "order.go:46", after := #[], guard := none }) (v := .agg (evA e)) rfl (by kernel_rfl) (by kernel_rfl) (by kernel_rfl) (fun _ _ _ h => h) (Or.inl ⟨by rfl, fun y hy => exec_load_ev (.tmp 3) rfl rfl hy.2⟩) hS0 ?_
  simp only [Act.put, List.setIfInBounds_toArray, List.set_cons_zero, List.set_cons_succ]
  refine wpAnyH_ready (rs := [0]) (by kernel_rfl) (by simp) ?_
  refine AllReadyH.cons (o := { dst := some 10, op := Op.call { callee := Callee.value (Operand.func 21), args := #[], argTypes := #[] }, type := 51, pos := "order.go:46", after := #[], guard := none }) rfl (fun K hK => ?_) AllReadyH.nil
  go_simp
  refine (deeds_any _).mono ?_
  rintro _ x1 ⟨b, rfl, hd1, hb1⟩
  have HD1 : Hid (DeedsAt X.drew.heap.size x1 b) := hd1
  have HS1 : Hid (S3 w w.heap.size (.slice none 0 0) s e (.slice a1 n c1) x1) := HSd.out.keep hb1
  clear hd1 hb1
  (refine hK _ _ ⟨HS1.out.st, HS1.out.ev⟩ ?_; clear hK K; intro _)
  try simp only [Act.put, List.setIfInBounds_toArray, List.set_cons_zero, List.set_cons_succ]
  refine wpAnyH_ready (rs := [3]) (by kernel_rfl) (by simp) ?_
  refine AllReadyH.cons (o := { dst := some 13, op := Op.call { callee := Callee.value (Operand.func 22), args := #[Operand.tmp 10, Operand.tmp 11, Operand.tmp 12], argTypes := #[51, 25, 28] }, type := 32, pos := "order.go:46", after := #[{ on := 0, ground := Ground.data }, { on := 1, ground := Ground.data }, { on := 2, ground := Ground.data }, { on := 0, ground := Ground.chain }], guard := none }) rfl (fun K hK => ?_) AllReadyH.nil
  go_simp
  refine (next_any _ b s e a1 n c1 w.heap.size _ HD1.out HS1.out.row HS1.out.gr.size).mono ?_
  rintro _ x2 ⟨a2, n2, c2, rfl, ho2, hg2⟩
  have hst2 : StAt x2 w.heap.size s (.slice a1 n c1) := (hg2.block _ HS1.out.st.lt (own_st_ne HS1.out.row HS1.out.st)).trans HS1.out.st
  have hev2 : EvAt x2 (w.heap.size + 1) e := (hg2.block _ HS1.out.ev.lt (own_ev_ne HS1.out.row HS1.out.ev)).trans HS1.out.ev
  have hres2 : StAt x2 (w.heap.size + 2) zeroS (.slice none 0 0) := (hg2.block _ HS1.out.res.lt (own_st_ne HS1.out.row HS1.out.res)).trans HS1.out.res
  have hgr := HS1.out.gr
  have hbel : Below w.heap.size w x2 := ⟨hg2.os.trans hgr.os, hg2.tape.trans hgr.tape, hg2.output.trans hgr.output, Nat.le_trans hgr.size hg2.size, fun k hk => (hg2.block k (Nat.lt_of_lt_of_le hk hgr.size) (fun h => by have := (HS1.out.row.ob k h.symm).1; omega)).trans (hgr.block k hk (by simp [Value.ownBlock]))⟩
  have HX2 : Hid (OwnL x2 w.heap.size (.slice a2 n2 c2) (nextS s e).lines ∧ Below w.heap.size w x2 ∧ StAt x2 w.heap.size s (.slice a1 n c1) ∧ EvAt x2 (w.heap.size + 1) e ∧ StAt x2 (w.heap.size + 2) zeroS (.slice none 0 0)) := ⟨ho2, hbel, hst2, hev2, hres2⟩
  (refine hK _ _ ⟨hst2, hev2⟩ ?_; clear hK K; intro hS2)
  clear ho2 hg2 hst2 hev2 hres2 hgr hbel
  try simp only [Act.put, List.setIfInBounds_toArray, List.set_cons_zero, List.set_cons_succ]
  refine wpAnyH_take (i := 4) (oi := { dst := some 14, op := Op.extract (Operand.tmp 13) 0, type := 25, pos := "order.go:46", after := #[{ on := 3, ground := Ground.data }], guard := none }) (v := ?_) rfl (by kernel_rfl) (by kernel_rfl) (by kernel_rfl) (fun _ _ _ h => h) (Or.inl ⟨by rfl, ?_⟩) hS2 ?_
  rotate_left
  · (intro y hy; go_simp; try (with_reducible rfl))
  simp only [Act.put, List.setIfInBounds_toArray, List.set_cons_zero, List.set_cons_succ]
  refine wpAnyH_take (i := 5) (oi := { dst := some 15, op := Op.extract (Operand.tmp 13) 1, type := 31, pos := "order.go:46", after := #[{ on := 3, ground := Ground.data }], guard := none }) (v := ?_) rfl (by kernel_rfl) (by kernel_rfl) (by kernel_rfl) (fun _ _ _ h => h) (Or.inl ⟨by rfl, ?_⟩) hS2 ?_
  rotate_left
  · (intro y hy; go_simp; try (with_reducible rfl))
  simp only [Act.put, List.setIfInBounds_toArray, List.set_cons_zero, List.set_cons_succ]
  refine wpAnyH_ready (rs := [6]) (by kernel_rfl) (by simp) ?_
  refine AllReadyH.cons (o := { dst := none, op := Op.store 25 (Operand.tmp 4) (Operand.tmp 14), type := 0, pos := "order.go:46", after := #[{ on := 4, ground := Ground.data }, { on := 3, ground := Ground.chain }, { on := 0, ground := Ground.phase }, { on := 1, ground := Ground.phase }, { on := 2, ground := Ground.phase }, { on := 3, ground := Ground.phase }, { on := 4, ground := Ground.phase }, { on := 5, ground := Ground.phase }], guard := none }) rfl (fun K hK => ?_) AllReadyH.nil
  refine step_store_st (s := zeroS) (s2 := nextS s e) (a2 := a2) (n2 := n2) (c2 := c2) rfl _ _ rfl HX2.out.2.2.2.2 rfl rfl ?_
  intro x3 z1 z2 z3 z4
  have hS3 : StAt x3 w.heap.size s (.slice a1 n c1) ∧ EvAt x3 (w.heap.size + 1) e := ⟨(z3 _ (by omega)).trans HX2.out.2.2.1, (z3 _ (by omega)).trans HX2.out.2.2.2.1⟩
  (refine hK _ _ hS3 ?_; clear hK K; intro _)
  try simp only [Act.put, List.setIfInBounds_toArray, List.set_cons_zero, List.set_cons_succ]
  refine wpAnyH_ready (rs := [7]) (by kernel_rfl) (by simp) ?_
  refine AllReadyH.cons (o := { dst := some 5, op := Op.assign (Operand.tmp 15), type := 31, pos := "order.go:46", after := #[{ on := 5, ground := Ground.data }, { on := 6, ground := Ground.chain }, { on := 0, ground := Ground.phase }, { on := 1, ground := Ground.phase }, { on := 2, ground := Ground.phase }, { on := 3, ground := Ground.phase }, { on := 4, ground := Ground.phase }, { on := 5, ground := Ground.phase }, { on := 6, ground := Ground.phase }], guard := none }) rfl (fun K hK => ?_) AllReadyH.nil
  go_simp
  (refine hK _ _ hS3 ?_; clear hK K; intro _)
  try simp only [Act.put, List.setIfInBounds_toArray, List.set_cons_zero, List.set_cons_succ]
  refine wpAnyH_done (by kernel_rfl) ?_ _
  go_wp2
  refine bodyPost_ret (results_st2 rfl _ _ _ _ rfl rfl z1) rfl ⟨a2, n2, c2, rfl, HX2.out.1.keepOther (fun g hg => z3 g (fun hh => ?_)), z2 _ _ HX2.out.2.1 (by omega)⟩
  subst hh
  exact own_st_ne HX2.out.1 HX2.out.2.2.2.2 hg.symm
end Go.Proofs.YtbpjlphjhjfdoaaGreat
namespace Go.Proofs.YtbpjlphjhjfdoaaGreat
open Go.ChangeShapes Go.WideShapes Go.ChangeAt Go.RowKit
set_option linter.unusedVariables false
set_option linter.unusedSimpArgs false
def EvsIn (w : World) (a : Option Addr) (es : List Ev) : Prop :=
  es = [] ∨ ∃ b off, a = some ⟨b, off, none⟩ ∧ b < w.heap.size ∧ ∀ k e, es[k]? = some e → ∀ j u, (evA e)[j]? = some u → w.cell? ⟨b, off + k * 10 + j, none⟩ = some u
theorem EvsIn.keep {w w' : World} {a : Option Addr} {es : List Ev} (h : EvsIn w a es) (hb : Below w.heap.size w w') : EvsIn w' a es := by
  rcases h with h | ⟨b, off, h1, h2, h3⟩
  · exact .inl h
  · exact .inr ⟨b, off, h1, Nat.lt_of_lt_of_le h2 hb.size, fun k e he j u hu => (hb.cell (p := ⟨b, _, none⟩) h2).trans (h3 k e he j u hu)⟩
theorem EvsIn.cells {w : World} {a : Option Addr} {es : List Ev} (h : EvsIn w a es) {k : Nat} {e : Ev} (he : es[k]? = some e) : ∃ b off, a = some ⟨b, off, none⟩ ∧ w.cell? ⟨b, off + k * 10, none⟩ = some (.int .i64 e.kind) ∧ w.cell? ⟨b, off + k * 10 + 1, none⟩ = some (.int .i64 e.order) ∧ w.cell? ⟨b, off + k * 10 + 2, none⟩ = some (.int .i64 e.item) ∧ w.cell? ⟨b, off + k * 10 + 3, none⟩ = some (.int .i64 e.qty) ∧ w.cell? ⟨b, off + k * 10 + 4, none⟩ = some (.int .i64 e.price) ∧ w.cell? ⟨b, off + k * 10 + 5, none⟩ = some (.int .i64 e.cur) ∧ w.cell? ⟨b, off + k * 10 + 6, none⟩ = some (.int .i64 e.tax) ∧ w.cell? ⟨b, off + k * 10 + 7, none⟩ = some (.string e.who) ∧ w.cell? ⟨b, off + k * 10 + 8, none⟩ = some (.int .i64 e.stamp) ∧ w.cell? ⟨b, off + k * 10 + 9, none⟩ = some (.string e.note) := by
  rcases h with rfl | ⟨b, off, rfl, h2, h3⟩
  · simp at he
  · have g := h3 k e he
    exact ⟨b, off, rfl, g 0 _ rfl, g 1 _ rfl, g 2 _ rfl, g 3 _ rfl, g 4 _ rfl, g 5 _ rfl, g 6 _ rfl, g 7 _ rfl, g 8 _ rfl, g 9 _ rfl⟩
structure Fo (w w1 : World) (s : St) (v : Value) (x : World) : Prop where
  st : StAt x w.heap.size s v
  res : StAt x (w.heap.size + 1) zeroS (.slice none 0 0)
  row : OwnL x w1.heap.size v s.lines
  bel : Below w.heap.size w x
  same : Same (w.heap.size + 2) w1 x
theorem Fo.keep {w w1 : World} {s : St} {v : Value} {x y : World} (h : Fo w w1 s v x) (hb : Below x.heap.size x y) : Fo w w1 s v y := ⟨h.st.after hb, h.res.after hb, h.row.keep hb, h.bel.trans (hb.mono h.bel.size), h.same.next hb⟩
theorem Fo.next {w w1 : World} {s s2 : St} {v v2 : Value} {x y z : World} (h : Fo w w1 s v x) (hw1 : w.heap.size + 2 ≤ w1.heap.size) (hg : x.grownBy y v.ownBlock) (ho : OwnL y w1.heap.size v2 s2.lines) (z1 : StAt z w.heap.size s2 v2) (z3 : ∀ k, k ≠ w.heap.size → z.heap[k]? = y.heap[k]?) (z2 : ∀ B a, Below B a y → B ≤ w.heap.size → Below B a z) : Fo w w1 s2 v2 z := by
  have st : StAt y w.heap.size s v := (hg.block _ h.st.lt (own_st_ne h.row h.st)).trans h.st
  have hb1 : Below w.heap.size w y := h.bel.grown hg h.bel.size (fun k hk => by have := (h.row.ob k hk).1; omega)
  have hsz := (z2 w.heap.size y (Below.refl _ _) (Nat.le_refl _)).size
  refine ⟨z1, (z3 _ (by omega)).trans ((hg.block _ h.res.lt (own_st_ne h.row h.res)).trans h.res), ho.keepOther (fun g hgk => z3 g (fun hh => ?_)), z2 _ _ hb1 (Nat.le_refl _), Nat.le_trans h.same.1 (Nat.le_trans hg.size hsz), fun k h1 h2 => (z3 k (by omega)).trans ((hg.block k (Nat.lt_of_lt_of_le h2 h.same.1) (fun hk => ?_)).trans (h.same.2 k h1 h2))⟩
  · subst hh; exact own_st_ne ho st hgk.symm
  · have := (h.row.ob k hk.symm).1; omega
theorem fo_new (w : World) (s : St) (v : Value) : ∃ W, (w.alloc (.cells (stA s v) 25)).alloc (.cells #[.int .i64 0, .int .i64 0, .int .i64 0, .int .i64 0, .int .i64 0, .slice none 0 0, .int .i64 0, .int .i64 0, .int .i64 0, .int .i64 0, .int .i64 0, .string ⟨#[]⟩] 25) = W ∧ StAt W w.heap.size s v ∧ StAt W (w.heap.size + 1) zeroS (.slice none 0 0) ∧ Below w.heap.size w W ∧ W.heap.size = w.heap.size + 2 := by
  refine ⟨_, rfl, ?_, ?_, ((Below.refl _ _).alloc (Nat.le_refl _) _).alloc (by simp) _, by simp⟩
  · exact (StAt.new w s v).after ((Below.refl _ _).alloc (Nat.le_refl _) _)
  · have := StAt.new (w.alloc (.cells (stA s v) 25)) zeroS (.slice none 0 0)
    simp only [World.alloc, Array.size_push] at this
    exact this
theorem Fo.start {w w0 w1 y : World} {s : St} {v v1 : Value} (h1 : StAt w0 w.heap.size s v) (h2 : StAt w0 (w.heap.size + 1) zeroS (.slice none 0 0)) (h3 : Below w.heap.size w w0) (hd : Below w0.heap.size w0 w1) (hy : Below w1.heap.size w1 y) (ho : OwnL y w1.heap.size v1 s.lines) : Fo w w1 s v1 (y.setCell ⟨w.heap.size, 5, none⟩ v1) ∧ StAt y w.heap.size s v := by
  have st : StAt y w.heap.size s v := (h1.after hd).after hy
  have bel : Below w.heap.size w y := below_next (below_next h3 hd) hy
  refine ⟨⟨St.setTo st 5 v1 rfl, ?_, ho.setOther _ _ (own_st_ne ho st), bel.setCell (p := ⟨w.heap.size, 5, none⟩) (Nat.le_refl _) _, by simpa [World.setCell] using hy.size, fun k hk1 hk2 => ?_⟩, st⟩
  · exact (heap_setCell_other y ⟨w.heap.size, 5, none⟩ (w.heap.size + 1) v1 (by show w.heap.size + 1 ≠ w.heap.size; omega)).trans ((h2.after hd).after hy)
  · exact (heap_setCell_other y ⟨w.heap.size, 5, none⟩ k v1 (by show k ≠ w.heap.size; omega)).trans (hy.block k hk2)
theorem fold_step (s : St) (es : List Ev) (k : Nat) (e : Ev) (h : es[k]? = some e) : foldS s (es.take (k + 1)) = nextS (foldS s (es.take k)) e := by
  rw [ln_take es k e h, foldS_append]; rfl
set_option maxRecDepth 20000 in
set_option maxHeartbeats 8000000 in
theorem fold_any (s : St) (es : List Ev) (a ea : Option Addr) (n cap m ecap : Nat) (w : World) (hn : s.lines.length = n) (hl : Lns w a s.lines) (hm : n * 32 ≤ 140737488351232) (hme : es.length = m) (hes : EvsIn w ea es) (hmm : m ≤ maxLen) :
    Calls Tryz.prog 10 #[.agg (stA s (.slice a n cap)), .slice ea m ecap] w fun r w' => ∃ a' n' c', r = .returned (.agg (stA (foldS s es) (.slice a' n' c'))) ∧ OwnL w' w.heap.size (.slice a' n' c') (foldS s es).lines ∧ Below w.heap.size w w' := by
  obtain ⟨W, hW, h1, h2, h3, h4⟩ := fo_new w s (.slice a n cap)
  have HN : Hid (s.lines.length = n) := hn
  have HM : Hid (es.length = m) := hme
  have HW : Hid (StAt W w.heap.size s (.slice a n cap) ∧ StAt W (w.heap.size + 1) zeroS (.slice none 0 0) ∧ Below w.heap.size w W ∧ W.heap.size = w.heap.size + 2) := ⟨h1, h2, h3, h4⟩
  have HL : Hid (Lns W a s.lines) := hl.keep h3
  have HES : Hid (EvsIn w ea es) := hes
  unfold maxLen at hmm
  clear hn hl hme hes h1 h2 h3 h4
  go_enter Tryz.func10, Tryz.ntmps10
  go_wp2_with (first
    | (go_at_call 21; refine (deeds_any _).mono ?_; rintro _ w1 ⟨b, rfl, hd, hb⟩; have HD : Hid (DeedsAt (w.heap.size + 2) w1 b) := HW.out.2.2.2 ▸ hd; have HB1 : Hid (Below W.heap.size W w1) := hb; have c5 := (HW.out.1.after hb).cell 5 (.slice a n cap) rfl; clear hd hb)
    | (go_at_call 20; refine (lnclone_any s.lines a n cap _ HN.out (HL.out.keep HB1.out) hm).mono ?_; rintro _ y1 ⟨a1, c1, rfl, ho1, hb1⟩; obtain ⟨hfo, hst⟩ := Fo.start HW.out.1 HW.out.2.1 HW.out.2.2.1 HB1.out hb1 ho1; have k5 := hst.cell 5 (.slice a n cap) rfl; have kf := hst.froz 5; have HF0 : Hid (Fo w w1 s (.slice a1 n c1) (y1.setCell ⟨w.heap.size, 5, none⟩ (.slice a1 n c1))) := hfo; clear ho1 hb1 hfo hst))
  have HS1 : Hid (w.heap.size + 2 ≤ w1.heap.size) := by have := HB1.out.size; have := HW.out.2.2.2; show _ ≤ _; omega
  go_loopw [15] (fun vi wr => ∃ (k : Nat), k ≤ m ∧ vi = .int .i64 k ∧ Hid (∃ a' n' c', Fo w w1 (foldS s (es.take k)) (.slice a' n' c') wr)) (fun vi _ => m - (intOf vi).toNat)
  case atStart => exact ⟨0, Nat.zero_le _, rfl, ⟨_, _, _, HF0.out⟩⟩
  case round =>
    clear HF0 k5 kf c5 hW
    obtain ⟨k, hk, rfl, HI⟩ := hrel
    by_cases hkm : k < m
    · obtain ⟨e, he⟩ := ln_get (L := es) (k := k) (by rw [HM.out]; exact hkm)
      obtain ⟨a2, n2, c2, hF⟩ := HI.out
      have hstep := fold_step s es k e he
      obtain ⟨eb, eoff, rfl, q0, q1, q2, q3, q4, q5, q6, q7, q8, q9⟩ := (HES.out.keep hF.bel).cells he
      obtain ⟨t, ht⟩ : ∃ t, foldS s (es.take k) = t := ⟨_, rfl⟩
      rw [ht] at hF hstep
      have HST : Hid (foldS s (es.take (k + 1)) = nextS t e) := hstep
      have HA : Hid (Fo w w1 t (.slice a2 n2 c2) (wr.alloc (.cells (evA e) 28))) := hF.keep ((Below.refl _ _).alloc (Nat.le_refl _) _)
      have HE : Hid (EvAt (wr.alloc (.cells (evA e) 28)) wr.heap.size e) := evAt_new wr e
      clear HI hF hstep ht he
      go_wp2_with (first
        | ((with_reducible refine guard_load 25 ?_); refine wpList_load_st rfl _ rfl HA.out.st rfl ?_)
        | ((with_reducible refine guard_load 28 ?_); refine wpList_load_ev rfl _ rfl HE.out rfl ?_)
        | (go_at_call 22; refine (next_any (w.heap.size + 2) b t e a2 n2 c2 w1.heap.size _ (HD.out.same HA.out.same) HA.out.row HA.out.same.1).mono ?_; rintro _ x2 ⟨a3, n3, c3, rfl, ho3, hg3⟩; have hst3 : StAt x2 w.heap.size t (.slice a2 n2 c2) := (hg3.block _ HA.out.st.lt (own_st_ne HA.out.row HA.out.st)).trans HA.out.st; have HX2 : Hid (OwnL x2 w1.heap.size (.slice a3 n3 c3) (nextS t e).lines ∧ World.grownBy _ x2 (Value.slice a2 n2 c2).ownBlock ∧ StAt x2 w.heap.size t (.slice a2 n2 c2)) := ⟨ho3, hg3, hst3⟩; clear ho3 hg3 hst3)
        | ((with_reducible refine guard_store 25 ?_); refine wpList_store_st (s := t) (s2 := nextS t e) (a2 := a3) (n2 := n3) (c2 := c3) rfl _ _ rfl HX2.out.2.2 rfl rfl ?_; intro x3 z1 z2 z3 z4; have HF3 : Hid (Fo w w1 (nextS t e) (.slice a3 n3 c3) x3) := HA.out.next HS1.out HX2.out.2.1 HX2.out.1 z1 z3 z2; clear z1 z2 z3 z4))
      go_roundw
      case rel => exact ⟨k + 1, by omega, by go_num, ⟨a3, n3, c3, by rw [HST.out]; exact HF3.out⟩⟩
      case measure => simp [intOf]; omega
    · obtain rfl : k = m := by omega
      obtain ⟨a2, n2, c2, hF⟩ := HI.out
      rw [List.take_of_length_le (by rw [HM.out]; exact Nat.le_refl _)] at hF
      have HF : Hid (Fo w w1 (foldS s es) (.slice a2 n2 c2) wr) := hF
      clear hF HI
      go_wp2_with (first
        | ((with_reducible refine guard_load 25 ?_); refine wpList_load_st rfl _ rfl HF.out.st rfl ?_)
        | ((with_reducible refine guard_store 25 ?_); refine wpList_store_st (s := zeroS) (s2 := foldS s es) (a2 := a2) (n2 := n2) (c2 := c2) rfl _ _ rfl HF.out.res rfl rfl ?_; intro y z1 z2 z3 z4))
      refine bodyPost_ret (results_st1 rfl _ _ _ rfl z1) rfl ⟨a2, n2, c2, rfl, ?_, z2 _ _ HF.out.bel (by omega)⟩
      exact (HF.out.row.keepOther (fun g hg => z3 g (fun hh => own_st_ne HF.out.row (hh ▸ HF.out.res) hg.symm))).mono (by have := HS1.out; omega)
end Go.Proofs.YtbpjlphjhjfdoaaGreat
