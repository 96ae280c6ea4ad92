/- Own texts, joined: Od20. -/
import Derived.Test.YtmjppeljpifjpaaGreatK30
namespace Go.Proofs.YtmjppeljpifjpaaGreat
open Go.ChangeShapes Go.WideShapes Go.ChangeAt Go.RowKit
set_option linter.unusedVariables false
set_option linter.unusedSimpArgs false
theorem cf_add (a : Array Value) (w : World) : (callFunc 75 a).run Tryz.prog w = .ok (.enter 75 a) w := by kernel_rfl
theorem grown_trans {a b c : World} {ob : Option Nat} (h : a.grownBy b ob) (k : b.grownBy c ob) : a.grownBy c ob :=
  ⟨k.os.trans h.os, k.tape.trans h.tape, k.output.trans h.output, Nat.le_trans h.size k.size, fun i hi hne => (k.block i (Nat.lt_of_lt_of_le hi h.size) hne).trans (h.block i hi hne)⟩
/-- another row of lines is laid in the state -/
theorem S3.swap {w : World} {base : Nat} {v : Value} {s : St} {e : Ev} {x y : World} (h : S3 w base v s e v x) (hg : x.grownBy y v.ownBlock) (v' : Value) (L' : List Ln) (ho : OwnL y base v' L') : S3 w base v { s with lines := L' } e v' (y.setCell ⟨w.heap.size, 5, none⟩ v') ∧ StAt y w.heap.size s v := by
  have st : StAt y w.heap.size s v := (hg.block _ h.st.lt (own_st_ne h.row h.st)).trans h.st
  have ev : EvAt y (w.heap.size + 1) e := (hg.block _ h.ev.lt (own_ev_ne h.row h.ev)).trans h.ev
  have res : StAt y (w.heap.size + 2) zeroS (.slice none 0 0) := (hg.block _ h.res.lt (own_st_ne h.row h.res)).trans h.res
  refine ⟨⟨St.setTo st 5 v' rfl, ?_, ?_, ho.setOther _ _ (own_st_ne ho st), grown_set (grown_trans h.gr hg) _ _ (Nat.le_refl _)⟩, st⟩
  · exact (heap_setCell_other y ⟨w.heap.size, 5, none⟩ (w.heap.size + 1) v' (by show w.heap.size + 1 ≠ w.heap.size; omega)).trans ev
  · exact (heap_setCell_other y ⟨w.heap.size, 5, none⟩ (w.heap.size + 2) v' (by show w.heap.size + 2 ≠ w.heap.size; omega)).trans res
set_option maxRecDepth 20000 in
set_option maxHeartbeats 4000000 in
theorem do_add : DoOk 75 2 := by
  refine ⟨cf_add, fun x base s e a n cap ho hb v hr hk hst hrf => ?_⟩
  rw [show doS s e = { s with lines := addL s.lines e } from by unfold doS; rw [if_neg (by omega), if_pos hk]]
  obtain ⟨h16, hrise⟩ := linesB_from v.lines
  have q0 : 0 ≤ e.qty := by have := hr.qty0; simpa [loQ] using this
  have q1 := hr.qty1
  obtain ⟨LB, hLB⟩ : ∃ LB, lbI s.lines e.item = LB := ⟨_, rfl⟩
  have hlen := ho.len
  have hn16 : n ≤ 16 := by omega
  have hLn : LB ≤ n := by have := lbI_le s.lines e.item; omega
  obtain ⟨W, hW, H⟩ := s3_new x base s e _ ho
  have HS : Hid (S3 x base (.slice a n cap) s e (.slice a n cap) W) := H
  have c5 := H.st.cell 5 (.slice a n cap) rfl
  have d2 := H.ev.cell 2 (.int .i64 e.item) rfl
  have HN : Hid (s.lines.length = n) := hlen
  have HRI : Hid (linesFrom (-1) s.lines = true) := hrise
  cases hO : lnAt s.lines e.item with
  | some p =>
    obtain ⟨g1, g2⟩ := lnAt_some hO
    have fp := (linesB_facts v.lines).2 _ _ g1
    have hA : addL s.lines e = s.lines.set LB (turnL p 2 (p.qty + e.qty)) := by unfold addL; rw [hO, hLB]; rfl
    rw [hLB] at g1
    rw [hA]
    obtain ⟨g, rfl, hnc, hcm, hfz, hglt⟩ := ho.block g1
    have hLn2 : LB < n := by have := ln_lt g1; omega
    have HF : Hid (lbI s.lines e.item = LB ∧ lnAt s.lines e.item = some p) := ⟨hLB, hO⟩
    have HG1 : Hid (s.lines[LB]? = some p) := g1
    have b1 : 0 ≤ p.qty := by omega
    have b2 : p.qty ≤ 100000 := by omega
    clear H ho hb v hr hk hst hrf hlen hO g1 g2 h16 hrise fp hA hLB hcm hfz hglt
    go_enter Tryz.func75, Tryz.ntmps75
    go_wp2_with (first
      | (go_at_call 108; refine (find_any s.lines _ n cap e.item _ HN.out (ownl_lns HS.out.row) hn16 HRI.out).mono ?_; rw [HF.out.1, HF.out.2]; rintro _ y1 ⟨rfl, hb1⟩; have h2 : S3 x base (.slice (some ⟨g, 0, none⟩) n cap) s e (.slice (some ⟨g, 0, none⟩) n cap) y1 := HS.out.keep hb1; have c5' := h2.st.cell 5 (.slice (some ⟨g, 0, none⟩) n cap) rfl; have d3' := h2.ev.cell 3 (.int .i64 e.qty) rfl; obtain ⟨k0, k1, k2, k3⟩ := h2.row.cells HG1.out; have kf := frozen_own h2.row (LB * 4 + 2); have HS2 : Hid (S3 x base (.slice (some ⟨g, 0, none⟩) n cap) s e (.slice (some ⟨g, 0, none⟩) n cap) y1) := h2; clear hb1 h2))
    go_region
    all_goals
      have h3 : S3 x base (.slice (some ⟨g, 0, none⟩) n cap) { s with lines := s.lines.set LB (turnL p 2 (p.qty + e.qty)) } e (.slice (some ⟨g, 0, none⟩) n cap) (y1.drew.setCell ⟨g, LB * 4 + 2, none⟩ (.int .i64 (p.qty + e.qty))) := HS2.out.drew.turn LB 2 p (p.qty + e.qty) HG1.out (by omega) (.inl rfl)
      have HS3 : Hid (S3 x base (.slice (some ⟨g, 0, none⟩) n cap) { s with lines := s.lines.set LB (turnL p 2 (p.qty + e.qty)) } e (.slice (some ⟨g, 0, none⟩) n cap) (y1.drew.setCell ⟨g, LB * 4 + 2, none⟩ (.int .i64 (p.qty + e.qty)))) := h3
      clear h3
      go_wp2_with (first
        | ((with_reducible refine guard_load 25 ?_); refine wpList_load_st rfl _ rfl HS3.out.st rfl ?_)
        | ((with_reducible refine guard_store 25 ?_); refine wpList_store_st (s := zeroS) (s2 := { s with lines := s.lines.set LB (turnL p 2 (p.qty + e.qty)) }) (a2 := some ⟨g, 0, none⟩) (n2 := n) (c2 := cap) rfl _ _ rfl HS3.out.res rfl rfl ?_; intro y z1 z2 z3 z4))
      have HZ := HS3.out.done z3 z2
      exact bodyPost_ret (results_st1 rfl _ _ _ rfl z1) rfl ⟨_, n, cap, rfl, HZ.1, HZ.2⟩
  | none =>
    have hA : addL s.lines e = s.lines.take LB ++ ⟨e.item, e.price, e.qty, 0⟩ :: s.lines.drop LB := by unfold addL; rw [hO, hLB]
    rw [hA]
    have hL1 : (s.lines.take LB ++ ⟨e.item, e.price, 0, 0⟩ :: s.lines.drop LB)[LB]? = some (⟨e.item, e.price, 0, 0⟩ : Ln) := by
      rw [List.getElem?_append_right (by rw [List.length_take]; omega), List.length_take, Nat.min_eq_left (by omega), Nat.sub_self]; rfl
    have hL2 : (s.lines.take LB ++ ⟨e.item, e.price, 0, 0⟩ :: s.lines.drop LB).set LB (turnL ⟨e.item, e.price, 0, 0⟩ 2 e.qty) = s.lines.take LB ++ (⟨e.item, e.price, e.qty, 0⟩ : Ln) :: s.lines.drop LB := by
      rw [List.set_append_right _ _ (by rw [List.length_take]; omega), List.length_take, Nat.min_eq_left (by omega), Nat.sub_self]; rfl
    have HF : Hid (lbI s.lines e.item = LB ∧ lnAt s.lines e.item = none) := ⟨hLB, hO⟩
    have HL1 : Hid ((s.lines.take LB ++ ⟨e.item, e.price, 0, 0⟩ :: s.lines.drop LB)[LB]? = some (⟨e.item, e.price, 0, 0⟩ : Ln)) := hL1
    obtain ⟨M, hM⟩ : ∃ M : List Ln, s.lines.take LB ++ ⟨e.item, e.price, 0, 0⟩ :: s.lines.drop LB = M := ⟨_, rfl⟩
    rw [hM] at hL1 hL2
    have HM : Hid (s.lines.take LB ++ ⟨e.item, e.price, 0, 0⟩ :: s.lines.drop LB = M ∧ M[LB]? = some ⟨e.item, e.price, 0, 0⟩ ∧ M.set LB (turnL ⟨e.item, e.price, 0, 0⟩ 2 e.qty) = s.lines.take LB ++ (⟨e.item, e.price, e.qty, 0⟩ : Ln) :: s.lines.drop LB) := ⟨hM, hL1, hL2⟩
    have HBS : Hid (base ≤ x.heap.size) := hb
    clear H ho hb v hr hk hst hrf hlen hO h16 hrise hA hLB hL1 hL2 HL1 hM
    go_enter Tryz.func75, Tryz.ntmps75
    go_wp2_with (first
      | (go_at_call 108; refine (find_any s.lines _ n cap e.item _ HN.out (ownl_lns HS.out.row) hn16 HRI.out).mono ?_; rw [HF.out.1, HF.out.2]; rintro _ y1 ⟨rfl, hb1⟩; have h2 : S3 x base (.slice a n cap) s e (.slice a n cap) y1 := HS.out.keep hb1; have c5' := h2.st.cell 5 (.slice a n cap) rfl; have d2' := h2.ev.cell 2 (.int .i64 e.item) rfl; have d4' := h2.ev.cell 4 (.int .i64 e.price) rfl; have HS2 : Hid (S3 x base (.slice a n cap) s e (.slice a n cap) y1) := h2; clear hb1 h2)
      | (go_at_call 109; refine (ins_any s.lines ⟨e.item, e.price, 0, 0⟩ a LB n cap base y1.heap.size _ (HS2.out.row.keep ((Below.refl _ _).alloc (Nat.le_refl _) _)) (by have := HBS.out; have := HS2.out.gr.size; simp; omega) hLn hn16 (fun hk => by have := (HS2.out.row.ob _ hk.symm).2.1; omega) (heap_alloc_new y1 _)).mono ?_; rw [HM.out.1]; rintro _ y2 ⟨g2, c2, rfl, ho2, hgr2, hat2⟩; obtain ⟨h3, hst3⟩ := (HS2.out.keep ((Below.refl y1.heap.size y1).alloc (Nat.le_refl _) (.cells #[.int .i64 e.item, .int .i64 e.price, .int .i64 0, .int .i64 0] 44))).swap hgr2 _ M ho2; have e5 := hst3.cell 5 (.slice a n cap) rfl; have e5f := hst3.froz 5; have HAT : Hid ((Value.slice a n cap).ownBlock = some g2 ∨ x.heap.size ≤ g2) := (hat2.imp id (fun h => by have := HS2.out.gr.size; simp at h; omega)); have i5 := h3.st.cell 5 (.slice (some ⟨g2, 0, none⟩) (n + 1) c2) rfl; have j3 := h3.ev.cell 3 (.int .i64 e.qty) rfl; obtain ⟨k0, k1, k2, k3⟩ := h3.row.cells HM.out.2.1; have kf := frozen_own h3.row (LB * 4 + 2); have hLn3 : LB < n + 1 := Nat.lt_succ_of_le hLn; have HS3 : Hid (S3 x base (.slice a n cap) { s with lines := M } e (.slice (some ⟨g2, 0, none⟩) (n + 1) c2) (y2.setCell ⟨x.heap.size, 5, none⟩ (.slice (some ⟨g2, 0, none⟩) (n + 1) c2))) := h3; clear ho2 hgr2 hat2 h3 hst3))
    go_region
    all_goals
      have h4 : S3 x base (.slice a n cap) { s with lines := s.lines.take LB ++ (⟨e.item, e.price, e.qty, 0⟩ : Ln) :: s.lines.drop LB } e (.slice (some ⟨g2, 0, none⟩) (n + 1) c2) ((y2.setCell ⟨x.heap.size, 5, none⟩ (.slice (some ⟨g2, 0, none⟩) (n + 1) c2)).drew.setCell ⟨g2, LB * 4 + 2, none⟩ (.int .i64 e.qty)) := by
        have h := HS3.out.drew.turn LB 2 ⟨e.item, e.price, 0, 0⟩ e.qty HM.out.2.1 (by omega) HAT.out
        simp only [HM.out.2.2] at h
        exact h
      have HS4 : Hid (S3 x base (.slice a n cap) { s with lines := s.lines.take LB ++ (⟨e.item, e.price, e.qty, 0⟩ : Ln) :: s.lines.drop LB } e (.slice (some ⟨g2, 0, none⟩) (n + 1) c2) ((y2.setCell ⟨x.heap.size, 5, none⟩ (.slice (some ⟨g2, 0, none⟩) (n + 1) c2)).drew.setCell ⟨g2, LB * 4 + 2, none⟩ (.int .i64 e.qty))) := h4
      clear h4
      go_wp2_with (first
        | ((with_reducible refine guard_load 25 ?_); refine wpList_load_st rfl _ rfl HS4.out.st rfl ?_)
        | ((with_reducible refine guard_store 25 ?_); refine wpList_store_st (s := zeroS) (s2 := { s with lines := s.lines.take LB ++ (⟨e.item, e.price, e.qty, 0⟩ : Ln) :: s.lines.drop LB }) (a2 := some ⟨g2, 0, none⟩) (n2 := n + 1) (c2 := c2) rfl _ _ rfl HS4.out.res rfl rfl ?_; intro y z1 z2 z3 z4))
      have HZ := HS4.out.done z3 z2
      exact bodyPost_ret (results_st1 rfl _ _ _ rfl z1) rfl ⟨_, n + 1, c2, rfl, HZ.1, HZ.2⟩
end Go.Proofs.YtmjppeljpifjpaaGreat
