/- Own texts, joined: Od8. -/
import Derived.Test.YtdmncbeloenihaaGreatM20
namespace Go.Proofs.YtdmncbeloenihaaGreat
open Go.ChangeShapes Go.WideShapes Go.ChangeAt Go.RowKit
set_option linter.unusedVariables false
set_option linter.unusedSimpArgs false
/-- a line in a block of its own -/
def LnBk (w : World) (b : Nat) (p : Ln) : Prop := w.heap[b]? = some (.cells (lnA p) 45)
theorem LnBk.lt {w : World} {b : Nat} {p : Ln} (h : LnBk w b p) : b < w.heap.size := lt_of_heap h
theorem LnBk.after {w w' : World} {b : Nat} {p : Ln} (h : LnBk w b p) (hb : Below w.heap.size w w') : LnBk w' b p := (hb.block b h.lt).trans h
theorem LnBk.cell {w : World} {b : Nat} {p : Ln} (h : LnBk w b p) (i : Nat) (x : Value) (hx : (lnA p)[i]? = some x) : w.cell? ⟨b, i, none⟩ = some x := by
  rw [cell_of_row w b i (lnA p) 45 (0, 0) h]; exact hx
theorem LnBk.froz {w : World} {b : Nat} {p : Ln} (h : LnBk w b p) (i : Nat) : w.frozen? ⟨b, i, none⟩ = false := by
  unfold LnBk at h
  simp [World.frozen?, h]
set_option maxRecDepth 20000 in
set_option maxHeartbeats 4000000 in
theorem refuseAdd_any (s : St) (e : Ev) (a : Option Addr) (n cap : Nat) (x : World) (hn : s.lines.length = n) (hl : Lns x a s.lines) (hv : vldB s = true) (hr : Right 5 e) :
    Calls Tryz.prog 31 #[.agg (stA s (.slice a n cap)), .agg (evA e)] x fun r x' => r = .returned (.int .i64 (refAdd s e)) ∧ Below x.heap.size x x' := by
  have hL := (vld_due hv).1
  obtain ⟨h16, hrise⟩ := linesB_from hL
  have qq : 0 ≤ e.qty ∧ e.qty ≤ 10000 := ⟨by have := hr.qty0; simpa [loQ] using this, hr.qty1⟩
  obtain ⟨q0, q1⟩ := qq
  obtain ⟨W, hW, HS⟩ := se_new x s e a n cap hl
  have HN : Hid (s.lines.length = n) := hn
  have hn16 : n ≤ 16 := by omega
  have HRI : Hid (linesFrom (-1) s.lines = true) := hrise
  obtain ⟨W1, hW1⟩ : ∃ W1, W.alloc (.cells #[.int .i64 0, .int .i64 0, .int .i64 0, .int .i64 0] 45) = W1 := ⟨_, rfl⟩
  have hbW : Below W.heap.size W W1 := by rw [← hW1]; exact (Below.refl _ _).alloc (Nat.le_refl _) _
  have HSW := HS.keep hbW
  have HS1 : Hid (SE x s e a n cap W1) := HSW
  have hWs : W.heap.size = x.heap.size + 2 := by rw [← hW]; simp
  have HL1 : Hid (LnBk W1 (x.heap.size + 2) ⟨0, 0, 0, 0⟩) := by
    show LnBk _ _ _
    unfold LnBk
    rw [← hW1, ← hWs]
    exact heap_alloc_new W _
  have c5 := HSW.st.cell 5 (.slice a n cap) rfl
  have d2 := HSW.ev.cell 2 (.int .i64 e.item) rfl
  obtain ⟨LB, hLB⟩ : ∃ LB, lbI s.lines e.item = LB := ⟨_, rfl⟩
  obtain ⟨O, hO⟩ : ∃ O, lnAt s.lines e.item = O := ⟨_, rfl⟩
  have HF : Hid (lbI s.lines e.item = LB ∧ lnAt s.lines e.item = O) := ⟨hLB, hO⟩
  cases O with
  | none =>
    have hRes : refAdd s e = if e.qty = 0 then 6 else if s.lines.length = 16 then 9 else 0 := by unfold refAdd; rw [hO]
    rw [hn] at hRes
    rw [hRes]
    clear hRes HS HSW hn hl hv hr hrise hL h16 hLB hO hbW
    by_cases hq : e.qty = 0
    · rw [if_pos hq]
      have hq' : (e.qty == 0) = true := by simpa using hq
      clear hq
      go_enter Tryz.func31, Tryz.ntmps31
      go_wp2_with (go_at_call 65; refine (find_any s.lines a n cap e.item _ HN.out HS1.out.ln hn16 HRI.out).mono ?_; rw [HF.out.1, HF.out.2]; rintro _ x2 ⟨rfl, hb2⟩; have HS2 : Hid (SE x s e a n cap x2) := SE.keep HS1.out hb2; have d3 := HS2.out.ev.cell 3 (.int .i64 e.qty) rfl; clear hb2)
      go_ret
      exact ⟨rfl, HS2.out.bel⟩
    · rw [if_neg hq]
      have hq' : (e.qty == 0) = false := by simpa using hq
      by_cases h16 : n = 16
      · rw [if_pos h16]
        have hn' : ((n : Int) == 16) = true := by simp; omega
        clear h16
        go_enter Tryz.func31, Tryz.ntmps31
        go_wp2_with (go_at_call 65; refine (find_any s.lines a n cap e.item _ HN.out HS1.out.ln hn16 HRI.out).mono ?_; rw [HF.out.1, HF.out.2]; rintro _ x2 ⟨rfl, hb2⟩; have HS2 : Hid (SE x s e a n cap x2) := SE.keep HS1.out hb2; have d3 := HS2.out.ev.cell 3 (.int .i64 e.qty) rfl; have c5' := HS2.out.st.cell 5 (.slice a n cap) rfl; clear hb2)
        go_ret
        exact ⟨rfl, HS2.out.bel⟩
      · rw [if_neg h16]
        have hn' : ((n : Int) == 16) = false := by simp; omega
        clear h16
        go_enter Tryz.func31, Tryz.ntmps31
        go_wp2_with (go_at_call 65; refine (find_any s.lines a n cap e.item _ HN.out HS1.out.ln hn16 HRI.out).mono ?_; rw [HF.out.1, HF.out.2]; rintro _ x2 ⟨rfl, hb2⟩; have HS2 : Hid (SE x s e a n cap x2) := SE.keep HS1.out hb2; have d3 := HS2.out.ev.cell 3 (.int .i64 e.qty) rfl; have c5' := HS2.out.st.cell 5 (.slice a n cap) rfl; have l2 := (HL1.out.after hb2).cell 2 (.int .i64 0) rfl; clear hb2)
        go_ret
        exact ⟨rfl, HS2.out.bel⟩
  | some p =>
    obtain ⟨g1, g2⟩ := lnAt_some hO
    rw [hLB] at g1
    have fp := (linesB_facts hL).2 _ _ g1
    have hLn : LB < n := by have := ln_lt g1; omega
    obtain ⟨b, off, rfl, hlb, _⟩ := hl.cells LB p g1
    have fp1 : 1 ≤ p.qty := by omega
    have fp2 : p.qty ≤ 100000 := by omega
    have RL : Hid (∀ y, Below x.heap.size x y → y.cell? ⟨b, off + LB * 4, none⟩ = some (.int .i64 p.item) ∧ y.cell? ⟨b, off + LB * 4 + 1, none⟩ = some (.int .i64 p.price) ∧ y.cell? ⟨b, off + LB * 4 + 2, none⟩ = some (.int .i64 p.qty) ∧ y.cell? ⟨b, off + LB * 4 + 3, none⟩ = some (.int .i64 p.shipped)) := fun y hy => by
      obtain ⟨b2, off2, hbo, _, k0, k1, k2, k3⟩ := (hl.keep hy).cells LB p g1
      cases hbo
      exact ⟨k0, k1, k2, k3⟩
    have hRes : refAdd s e = if e.qty = 0 then 6 else if p.price ≠ e.price then 8 else if 100000 < p.qty + e.qty then 10 else 0 := by unfold refAdd; rw [hO]
    rw [hRes]
    have HBX : Hid (∀ y (v0 v1 v2 v3 : Value), Below x.heap.size x y → Below x.heap.size x ((((y.setCell ⟨x.heap.size + 2, 0, none⟩ v0).setCell ⟨x.heap.size + 2, 1, none⟩ v1).setCell ⟨x.heap.size + 2, 2, none⟩ v2).setCell ⟨x.heap.size + 2, 3, none⟩ v3)) := fun y v0 v1 v2 v3 hy =>
      (((hy.setCell (p := ⟨x.heap.size + 2, 0, none⟩) (by show x.heap.size ≤ x.heap.size + 2; omega) v0).setCell (p := ⟨x.heap.size + 2, 1, none⟩) (by show x.heap.size ≤ x.heap.size + 2; omega) v1).setCell (p := ⟨x.heap.size + 2, 2, none⟩) (by show x.heap.size ≤ x.heap.size + 2; omega) v2).setCell (p := ⟨x.heap.size + 2, 3, none⟩) (by show x.heap.size ≤ x.heap.size + 2; omega) v3
    clear hRes HS HSW hn hl hv hr hrise hL h16 hLB hO hbW g1 g2 fp hlb
    by_cases hq : e.qty = 0
    · rw [if_pos hq]
      have hq' : (e.qty == 0) = true := by simpa using hq
      clear hq
      go_enter Tryz.func31, Tryz.ntmps31
      go_wp2_with (go_at_call 65; refine (find_any s.lines _ n cap e.item _ HN.out HS1.out.ln hn16 HRI.out).mono ?_; rw [HF.out.1, HF.out.2]; rintro _ x2 ⟨rfl, hb2⟩; have HS2 : Hid (SE x s e (some ⟨b, off, none⟩) n cap x2) := SE.keep HS1.out hb2; have d3 := HS2.out.ev.cell 3 (.int .i64 e.qty) rfl; have c5' := HS2.out.st.cell 5 (.slice (some ⟨b, off, none⟩) n cap) rfl; obtain ⟨k0, k1, k2, k3⟩ := RL.out x2 HS2.out.bel; have l0 := (HL1.out.after hb2).cell 0 (.int .i64 0) rfl; have l1 := (HL1.out.after hb2).cell 1 (.int .i64 0) rfl; have l2 := (HL1.out.after hb2).cell 2 (.int .i64 0) rfl; have l3 := (HL1.out.after hb2).cell 3 (.int .i64 0) rfl; have z0 := (HL1.out.after hb2).froz 0; have z1 := (HL1.out.after hb2).froz 1; have z2 := (HL1.out.after hb2).froz 2; have z3 := (HL1.out.after hb2).froz 3; clear hb2)
      go_ret
      exact ⟨rfl, HBX.out _ _ _ _ _ HS2.out.bel⟩
    · rw [if_neg hq]
      have hq' : (e.qty == 0) = false := by simpa using hq
      cases hpp : (p.price != e.price) with
      | true =>
        rw [if_pos (by simpa using hpp)]
        clear hq
        go_enter Tryz.func31, Tryz.ntmps31
        go_wp2_with (go_at_call 65; refine (find_any s.lines _ n cap e.item _ HN.out HS1.out.ln hn16 HRI.out).mono ?_; rw [HF.out.1, HF.out.2]; rintro _ x2 ⟨rfl, hb2⟩; have HS2 : Hid (SE x s e (some ⟨b, off, none⟩) n cap x2) := SE.keep HS1.out hb2; have d3 := HS2.out.ev.cell 3 (.int .i64 e.qty) rfl; have d4 := HS2.out.ev.cell 4 (.int .i64 e.price) rfl; have c5' := HS2.out.st.cell 5 (.slice (some ⟨b, off, none⟩) n cap) rfl; obtain ⟨k0, k1, k2, k3⟩ := RL.out x2 HS2.out.bel; have l0 := (HL1.out.after hb2).cell 0 (.int .i64 0) rfl; have l1 := (HL1.out.after hb2).cell 1 (.int .i64 0) rfl; have l2 := (HL1.out.after hb2).cell 2 (.int .i64 0) rfl; have l3 := (HL1.out.after hb2).cell 3 (.int .i64 0) rfl; have z0 := (HL1.out.after hb2).froz 0; have z1 := (HL1.out.after hb2).froz 1; have z2 := (HL1.out.after hb2).froz 2; have z3 := (HL1.out.after hb2).froz 3; clear hb2)
        go_ret
        exact ⟨rfl, HBX.out _ _ _ _ _ HS2.out.bel⟩
      | false =>
        rw [if_neg (by simpa using hpp)]
        clear hq
        by_cases hlt : 100000 < p.qty + e.qty
        all_goals
          first | rw [if_pos hlt] | rw [if_neg hlt]
          go_enter Tryz.func31, Tryz.ntmps31
          go_wp2_with (go_at_call 65; refine (find_any s.lines _ n cap e.item _ HN.out HS1.out.ln hn16 HRI.out).mono ?_; rw [HF.out.1, HF.out.2]; rintro _ x2 ⟨rfl, hb2⟩; have HS2 : Hid (SE x s e (some ⟨b, off, none⟩) n cap x2) := SE.keep HS1.out hb2; have d3 := HS2.out.ev.cell 3 (.int .i64 e.qty) rfl; have d4 := HS2.out.ev.cell 4 (.int .i64 e.price) rfl; have c5' := HS2.out.st.cell 5 (.slice (some ⟨b, off, none⟩) n cap) rfl; obtain ⟨k0, k1, k2, k3⟩ := RL.out x2 HS2.out.bel; have l0 := (HL1.out.after hb2).cell 0 (.int .i64 0) rfl; have l1 := (HL1.out.after hb2).cell 1 (.int .i64 0) rfl; have l2 := (HL1.out.after hb2).cell 2 (.int .i64 0) rfl; have l3 := (HL1.out.after hb2).cell 3 (.int .i64 0) rfl; have z0 := (HL1.out.after hb2).froz 0; have z1 := (HL1.out.after hb2).froz 1; have z2 := (HL1.out.after hb2).froz 2; have z3 := (HL1.out.after hb2).froz 3; clear hb2)
          go_ret
          exact ⟨rfl, HBX.out _ _ _ _ _ HS2.out.bel⟩
theorem refuseAdd_ref (lo : Nat) (w : World) : RefOk lo w (.func (Fn.func 31) #[] #[]) 2 := by
  refine ⟨_, _, rfl, cf_refuseAdd, fun x s e a n cap _ hn hl hv hc hk => ?_⟩
  have h0 : refR s e = refAdd s e := by unfold refR; rw [if_pos hk]
  rw [h0]
  exact refuseAdd_any s e a n cap x hn hl hv (right_of hc)
end Go.Proofs.YtdmncbeloenihaaGreat
