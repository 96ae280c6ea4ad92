/- Own texts, joined: Od15. -/
import Derived.Test.YtmjppeljpifjpaaGreatK27
namespace Go.Proofs.YtmjppeljpifjpaaGreat
open Go.ChangeShapes Go.WideShapes Go.ChangeAt Go.RowKit
set_option linter.unusedVariables false
set_option linter.unusedSimpArgs false
theorem cf_ship (a : Array Value) (w : World) : (callFunc 81 a).run Tryz.prog w = .ok (.enter 81 a) w := by kernel_rfl
theorem cf_clearUp (a : Array Value) (w : World) : (callFunc 89 a).run Tryz.prog w = .ok (.enter 89 a) w := by kernel_rfl
/-- the line with its j-th cell turned -/
def turnL (p : Ln) (j : Nat) (x : Int) : Ln := if j = 0 then { p with item := x } else if j = 1 then { p with price := x } else if j = 2 then { p with qty := x } else { p with shipped := x }
theorem lfl_set : ∀ (L : List Ln) (i j : Nat) (p : Ln) (x : Int), L[i]? = some p → j < 4 → lfl (L.set i (turnL p j x)) = (lfl L).set (i * 4 + j) (.int .i64 x)
  | [], i, j, p, x, h, hj => by simp at h
  | q :: r, 0, j, p, x, h, hj => by
    simp at h; subst h
    have hj' : j = 0 ∨ j = 1 ∨ j = 2 ∨ j = 3 := by omega
    rcases hj' with rfl | rfl | rfl | rfl <;> simp [lfl, turnL]
  | q :: r, i + 1, j, p, x, h, hj => by
    rw [show (i + 1) * 4 + j = (i * 4 + j) + 4 from by omega]
    simp only [List.set_cons_succ, lfl]
    rw [lfl_set r i j p x (by simpa using h) hj]
theorem OwnL.turn {w : World} {base g n cap : Nat} {L : List Ln} (h : OwnL w base (.slice (some ⟨g, 0, none⟩) n cap) L) (i j : Nat) (p : Ln) (x : Int) (hp : L[i]? = some p) (hj : j < 4) : OwnL (w.setCell ⟨g, i * 4 + j, none⟩ (.int .i64 x)) base (.slice (some ⟨g, 0, none⟩) n cap) (L.set i (turnL p j x)) := by
  have hi := ln_lt hp
  obtain ⟨h1, h2⟩ := h
  rcases h2 with ⟨hv, hn⟩ | ⟨g2, cap2, cur, hv, hb, hg, hnc, hcm, hcs, htake⟩
  · cases hv
  · injection hv with e1 e2 e3
    injection e1 with e1
    injection e1 with e1 _ _
    subst e1 e2 e3
    unfold OwnL
    rw [List.length_set]
    refine ⟨by rw [lfl_length, List.length_set], .inr ⟨g, cap, cur.setIfInBounds (i * 4 + j) (.int .i64 x), rfl, hb, heap_setCell_same w g _ _ _ _ hg, hnc, hcm, by simpa using hcs, ?_⟩⟩
    rw [lfl_set L i j p x hp hj, ← htake, Array.toList_setIfInBounds, List.take_set]
theorem S3.turn {w : World} {base : Nat} {v0 : Value} {s : St} {e : Ev} {g n cap : Nat} {x : World} (h : S3 w base v0 s e (.slice (some ⟨g, 0, none⟩) n cap) x) (i j : Nat) (p : Ln) (y : Int) (hp : s.lines[i]? = some p) (hj : j < 4) (hg : v0.ownBlock = some g ∨ w.heap.size ≤ g) :
    S3 w base v0 { s with lines := s.lines.set i (turnL p j y) } e (.slice (some ⟨g, 0, none⟩) n cap) (x.setCell ⟨g, i * 4 + j, none⟩ (.int .i64 y)) := by
  have n1 : w.heap.size ≠ g := fun hh => own_st_ne h.row h.st (by simp [Value.ownBlock, hh])
  have n2 : w.heap.size + 1 ≠ g := fun hh => own_ev_ne h.row h.ev (by simp [Value.ownBlock, hh])
  have n3 : w.heap.size + 2 ≠ g := fun hh => own_st_ne h.row h.res (by simp [Value.ownBlock, hh])
  refine ⟨(heap_setCell_other x ⟨g, i * 4 + j, none⟩ _ _ n1).trans h.st, (heap_setCell_other x ⟨g, i * 4 + j, none⟩ _ _ n2).trans h.ev, (heap_setCell_other x ⟨g, i * 4 + j, none⟩ _ _ n3).trans h.res, h.row.turn i j p y hp hj, h.gr.os, h.gr.tape, h.gr.output, by simpa [World.setCell] using h.gr.size, fun k hk hne => (heap_setCell_other x ⟨g, i * 4 + j, none⟩ k _ (fun hh => ?_)).trans (h.gr.block k hk hne)⟩
  subst hh
  rcases hg with hg | hg
  · exact hne hg.symm
  · exact absurd hk (by simpa using hg)
/-- a row that has lines has a block -/
theorem OwnL.block {w : World} {base n cap : Nat} {a : Option Addr} {L : List Ln} {i : Nat} {p : Ln} (h : OwnL w base (.slice a n cap) L) (hp : L[i]? = some p) : ∃ g, a = some ⟨g, 0, none⟩ ∧ n ≤ cap ∧ cap ≤ maxLen ∧ (∀ j, w.frozen? ⟨g, j, none⟩ = false) ∧ g < w.heap.size := by
  have hi := ln_lt hp
  obtain ⟨h1, h2⟩ := h
  rcases h2 with ⟨hv, hn⟩ | ⟨g2, cap2, cur, hv, hb, hg, hnc, hcm, hcs, htake⟩
  · omega
  · injection hv with e1 e2 e3
    subst e1 e2 e3
    exact ⟨g2, rfl, hnc, hcm, fun j => frozen_of_row w g2 j _ _ hg, lt_of_heap hg⟩
theorem OwnL.cells {w : World} {base g n cap : Nat} {L : List Ln} {i : Nat} {p : Ln} (h : OwnL w base (.slice (some ⟨g, 0, none⟩) n cap) L) (hp : L[i]? = some p) : w.cell? ⟨g, i * 4, none⟩ = some (.int .i64 p.item) ∧ w.cell? ⟨g, i * 4 + 1, none⟩ = some (.int .i64 p.price) ∧ w.cell? ⟨g, i * 4 + 2, none⟩ = some (.int .i64 p.qty) ∧ w.cell? ⟨g, i * 4 + 3, none⟩ = some (.int .i64 p.shipped) := by
  obtain ⟨b, off, hb, _, k0, k1, k2, k3⟩ := (ownl_lns h).cells i p hp
  cases hb
  simp only [Nat.zero_add] at k0 k1 k2 k3
  exact ⟨k0, k1, k2, k3⟩
theorem frozen_own {w : World} {base g n cap : Nat} {L : List Ln} (h : OwnL w base (.slice (some ⟨g, 0, none⟩) n cap) L) (j : Nat) : w.frozen? ⟨g, j, none⟩ = false := by obtain ⟨_, _, cur, hc⟩ := h.ob g rfl; exact frozen_of_row w g j _ _ hc
theorem OwnL.len {w : World} {base n cap : Nat} {a : Option Addr} {L : List Ln} (h : OwnL w base (.slice a n cap) L) : L.length = n := by
  obtain ⟨a2, c2, hv, _⟩ := h.shape
  cases hv; rfl
set_option maxRecDepth 20000 in
set_option maxHeartbeats 4000000 in
theorem do_ship : DoOk 81 4 := by
  refine ⟨cf_ship, fun x base s e a n cap ho hb v hr hk hst hrf => ?_⟩
  have hR : ∃ p, lnAt s.lines e.item = some p ∧ e.qty ≤ p.qty - p.shipped := by
    unfold refR at hrf
    rw [if_neg (by omega), if_neg (by omega), if_pos hk] at hrf
    unfold refTake at hrf
    split at hrf
    · omega
    · split at hrf
      · rename_i q hq
        refine ⟨q, hq, ?_⟩
        simp only at hrf
        split at hrf <;> omega
      · omega
  obtain ⟨p, hp, hq⟩ := hR
  rw [show doS s e = shipS s e from by unfold doS; rw [if_neg (by omega), if_neg (by omega), if_neg (by omega), if_pos hk]]
  obtain ⟨g1, g2⟩ := lnAt_some hp
  obtain ⟨h16, hrise⟩ := linesB_from v.lines
  have fp := (linesB_facts v.lines).2 _ _ g1
  have q0 : 0 ≤ e.qty := by have := hr.qty0; simpa [loQ] using this
  have hsl : shipL s.lines e = s.lines.set (lbI s.lines e.item) (turnL p 3 (p.shipped + e.qty)) := by unfold shipL; rw [hp]; rfl
  obtain ⟨LB, hLB⟩ : ∃ LB, lbI s.lines e.item = LB := ⟨_, rfl⟩
  rw [hLB] at g1 hsl
  have hlen := ho.len
  obtain ⟨g, rfl, hnc, hcm, hfz, hglt⟩ := ho.block g1
  obtain ⟨W, hW, H⟩ := s3_new x base s e _ ho
  have HS : Hid (S3 x base (.slice (some ⟨g, 0, none⟩) n cap) s e (.slice (some ⟨g, 0, none⟩) n cap) W) := H
  have c5 := H.st.cell 5 (.slice (some ⟨g, 0, none⟩) n cap) rfl
  have d2 := H.ev.cell 2 (.int .i64 e.item) rfl
  have hLn : LB < n := by have := ln_lt g1; omega
  have hn16 : n ≤ 16 := by omega
  have HF : Hid (lbI s.lines e.item = LB ∧ lnAt s.lines e.item = some p) := ⟨hLB, hp⟩
  have HN : Hid (s.lines.length = n) := hlen
  have HRI : Hid (linesFrom (-1) s.lines = true) := hrise
  have HG1 : Hid (s.lines[LB]? = some p) := g1
  have b1 : 0 ≤ p.shipped := by omega
  have b2 : p.shipped ≤ 100000 := by omega
  have b3 : e.qty ≤ 100000 := by omega
  obtain ⟨s1, hs1⟩ : ∃ s1 : St, { s with lines := s.lines.set LB (turnL p 3 (p.shipped + e.qty)) } = s1 := ⟨_, rfl⟩
  have HS1 : Hid ({ s with lines := s.lines.set LB (turnL p 3 (p.shipped + e.qty)) } = s1) := hs1
  have HN1 : Hid (s1.lines.length = n) := by show s1.lines.length = n; rw [← hs1]; simpa using hlen
  have hP : shipS s e = { s1 with status := if wholeB s1.lines = true then 4 else s1.status } := by unfold shipS; rw [hsl, ← hs1]
  obtain ⟨P, hPP⟩ : ∃ P, wholeB s1.lines = P := ⟨_, rfl⟩
  have HP : Hid (wholeB s1.lines = P) := hPP
  rw [hP, hPP]
  have hmx : n ≤ maxLen := by unfold maxLen; omega
  clear H ho hb v hr hk hst hrf hs1 hlen hP hPP hp hq g1 g2 h16 hrise fp hsl hLB hcm hfz hglt
  cases P
  · rw [if_neg (by simp)]
    go_enter Tryz.func81, Tryz.ntmps81
    go_wp2_with (first
      | (go_at_call 108; refine (find_any s.lines _ n cap e.item _ HN.out (ownl_lns HS.out.row) hn16 HRI.out).mono ?_; rw [HF.out.1, HF.out.2]; rintro _ y1 ⟨rfl, hb1⟩; have h2 : S3 x base (.slice (some ⟨g, 0, none⟩) n cap) s e (.slice (some ⟨g, 0, none⟩) n cap) y1 := HS.out.keep hb1; have c5' := h2.st.cell 5 (.slice (some ⟨g, 0, none⟩) n cap) rfl; have d3' := h2.ev.cell 3 (.int .i64 e.qty) rfl; obtain ⟨k0, k1, k2, k3⟩ := h2.row.cells HG1.out; have kf := frozen_own h2.row (LB * 4 + 3); have HS2 : Hid (S3 x base (.slice (some ⟨g, 0, none⟩) n cap) s e (.slice (some ⟨g, 0, none⟩) n cap) y1) := h2; clear hb1 h2))
    go_region
    all_goals
      have h3 : S3 x base (.slice (some ⟨g, 0, none⟩) n cap) s1 e (.slice (some ⟨g, 0, none⟩) n cap) (y1.drew.setCell ⟨g, LB * 4 + 3, none⟩ (.int .i64 (p.shipped + e.qty))) := HS1.out ▸ (HS2.out.drew.turn LB 3 p (p.shipped + e.qty) HG1.out (by omega) (.inl rfl))
      have HS3 : Hid (S3 x base (.slice (some ⟨g, 0, none⟩) n cap) s1 e (.slice (some ⟨g, 0, none⟩) n cap) (y1.drew.setCell ⟨g, LB * 4 + 3, none⟩ (.int .i64 (p.shipped + e.qty)))) := h3
      clear h3
      go_wp2_with (first
        | (go_at_call 64; refine (whole_any s1 _ n cap _ HN1.out (ownl_lns HS3.out.row) hmx).mono ?_; rw [HP.out]; rintro _ y2 ⟨rfl, hb2⟩; have HS5 : Hid (S3 x base (.slice (some ⟨g, 0, none⟩) n cap) s1 e (.slice (some ⟨g, 0, none⟩) n cap) y2) := HS3.out.keep hb2; clear hb2)
        | ((with_reducible refine guard_load 25 ?_); first | refine wpList_load_st rfl _ rfl HS5.out.st rfl ?_ | refine wpList_load_st rfl _ rfl HS3.out.st rfl ?_)
        | ((with_reducible refine guard_store 25 ?_); refine wpList_store_st (s := zeroS) (s2 := s1) (a2 := some ⟨g, 0, none⟩) (n2 := n) (c2 := cap) rfl _ _ rfl HS5.out.res rfl rfl ?_; intro y z1 z2 z3 z4))
      have HZ := HS5.out.done z3 z2
      exact bodyPost_ret (results_st1 rfl _ _ _ rfl z1) rfl ⟨_, n, cap, rfl, HZ.1, HZ.2⟩
  · rw [if_pos rfl]
    go_enter Tryz.func81, Tryz.ntmps81
    go_wp2_with (first
      | (go_at_call 108; refine (find_any s.lines _ n cap e.item _ HN.out (ownl_lns HS.out.row) hn16 HRI.out).mono ?_; rw [HF.out.1, HF.out.2]; rintro _ y1 ⟨rfl, hb1⟩; have h2 : S3 x base (.slice (some ⟨g, 0, none⟩) n cap) s e (.slice (some ⟨g, 0, none⟩) n cap) y1 := HS.out.keep hb1; have c5' := h2.st.cell 5 (.slice (some ⟨g, 0, none⟩) n cap) rfl; have d3' := h2.ev.cell 3 (.int .i64 e.qty) rfl; obtain ⟨k0, k1, k2, k3⟩ := h2.row.cells HG1.out; have kf := frozen_own h2.row (LB * 4 + 3); have HS2 : Hid (S3 x base (.slice (some ⟨g, 0, none⟩) n cap) s e (.slice (some ⟨g, 0, none⟩) n cap) y1) := h2; clear hb1 h2))
    go_region
    all_goals
      have h3 : S3 x base (.slice (some ⟨g, 0, none⟩) n cap) s1 e (.slice (some ⟨g, 0, none⟩) n cap) (y1.drew.setCell ⟨g, LB * 4 + 3, none⟩ (.int .i64 (p.shipped + e.qty))) := HS1.out ▸ (HS2.out.drew.turn LB 3 p (p.shipped + e.qty) HG1.out (by omega) (.inl rfl))
      have HS3 : Hid (S3 x base (.slice (some ⟨g, 0, none⟩) n cap) s1 e (.slice (some ⟨g, 0, none⟩) n cap) (y1.drew.setCell ⟨g, LB * 4 + 3, none⟩ (.int .i64 (p.shipped + e.qty)))) := h3
      clear h3
      go_wp2_with (first
        | (go_at_call 64; refine (whole_any s1 _ n cap _ HN1.out (ownl_lns HS3.out.row) hmx).mono ?_; rw [HP.out]; rintro _ y2 ⟨rfl, hb2⟩; have h5 : S3 x base (.slice (some ⟨g, 0, none⟩) n cap) s1 e (.slice (some ⟨g, 0, none⟩) n cap) y2 := HS3.out.keep hb2; have q1 := h5.st.cell 1 (.int .i64 s1.status) rfl; have q2 := h5.froz 1; have HS5 : Hid (S3 x base (.slice (some ⟨g, 0, none⟩) n cap) { s1 with status := 4 } e (.slice (some ⟨g, 0, none⟩) n cap) (y2.setCell ⟨x.heap.size, 1, none⟩ (.int .i64 4))) := h5.set 1 _ rfl rfl; clear hb2 h5)
        | ((with_reducible refine guard_load 25 ?_); first | refine wpList_load_st rfl _ rfl HS5.out.st rfl ?_ | refine wpList_load_st rfl _ rfl HS3.out.st rfl ?_)
        | ((with_reducible refine guard_store 25 ?_); refine wpList_store_st (s := zeroS) (s2 := { s1 with status := 4 }) (a2 := some ⟨g, 0, none⟩) (n2 := n) (c2 := cap) rfl _ _ rfl HS5.out.res rfl rfl ?_; intro y z1 z2 z3 z4))
      have HZ := HS5.out.done z3 z2
      exact bodyPost_ret (results_st1 rfl _ _ _ rfl z1) rfl ⟨_, n, cap, rfl, HZ.1, HZ.2⟩
end Go.Proofs.YtmjppeljpifjpaaGreat
