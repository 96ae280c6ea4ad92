/- Own texts, joined: Od7, Od8. -/
import Derived.Test.YtbpjlphjhjfdoaaGreatM17
namespace Go.Proofs.YtbpjlphjhjfdoaaGreat
open Go.ChangeShapes Go.WideShapes Go.ChangeAt Go.RowKit
set_option linter.unusedVariables false
set_option linter.unusedSimpArgs false
set_option maxRecDepth 20000 in
set_option maxHeartbeats 4000000 in
theorem money1_any (w : World) (v : Value) (f : St → Int) (hf : LeftOk w v f) (bm : Nat) (x : World) (hc : x.cell? ⟨bm, 0, none⟩ = some v) (hbm : bm < x.heap.size)
    (s : St) (e : Ev) (a : Option Addr) (n cap : Nat) (hn : s.lines.length = n) (hl : Lns x a s.lines) (hv : vldB s = true) :
    Calls Tryz.prog 79 #[.agg (stA s (.slice a n cap)), .agg (evA e), .pointer (some ⟨bm, 0, none⟩)] x fun r x' => r = .returned (.int .i64 (refMoney (f s) e)) ∧ Below x.heap.size x x' := by
  obtain ⟨g, rfl, eg, C⟩ := hf
  obtain ⟨W, hW, HS⟩ := se_new x s e a n cap hl
  have HS1 : Hid (SE x s e a n cap W) := HS
  by_cases hp : e.price = 0
  · have hp' : (e.price == 0) = true := by simpa using hp
    rw [show refMoney (f s) e = 6 from if_pos hp]
    have c4 := HS.ev.cell 4 (.int .i64 e.price) rfl
    clear HS C hn hl hv hp
    go_enter Tryz.func79, Tryz.ntmps79
    go_wp2
    go_ret
    exact ⟨rfl, HS1.out.bel⟩
  · have hp' : (e.price == 0) = false := by simpa using hp
    have HE := HS.drew
    obtain ⟨E, hE⟩ : ∃ E, SE x s e a n cap = E := ⟨_, rfl⟩
    have R : Hid (∀ w2, E w2 → w2.cell? ⟨x.heap.size + 1, 4, none⟩ = some (.int .i64 e.price) ∧ w2.cell? ⟨bm, 0, none⟩ = some (.func (Fn.func g) #[] #[])) := fun w2 h => by rw [← hE] at h; exact ⟨h.ev.cell 4 _ rfl, (h.bel.cell (p := ⟨bm, 0, none⟩) hbm).trans hc⟩
    have RS : Hid (∀ w2, E w2 → StAt w2 x.heap.size s (.slice a n cap)) := fun w2 h => by rw [← hE] at h; exact h.st
    have HBel : Hid (∀ w2, E w2 → Below x.heap.size x w2) := fun w2 h => by rw [← hE] at h; exact h.bel
    have CD : Hid (∀ w2, E w2 → Calls Tryz.prog g #[.agg (stA s (.slice a n cap))] w2 fun e w' => e = .returned (.int .i64 (f s)) ∧ E w') := fun w2 h => by
      rw [← hE] at h ⊢
      exact (C w2 s a n cap hn h.ln hv).mono fun e w' ⟨h1, h2⟩ => ⟨h1, h.keep h2⟩
    obtain ⟨D, hD⟩ : ∃ D, f s = D := ⟨_, rfl⟩
    rw [hD] at CD ⊢
    rw [hE] at HE
    have HEE : Hid (E (World.drew _)) := HE
    have c4 := HS.ev.cell 4 (.int .i64 e.price) rfl
    rw [show refMoney D e = if D < e.price then 10 else 0 from if_neg hp]
    clear HS C hn hl hv hD hE HE hp hc hbm
    by_cases hlt : D < e.price
    all_goals
      first | rw [if_pos hlt] | rw [if_neg hlt]
      go_enter Tryz.func79, Tryz.ntmps79
      go_wp2
      refine wp_region_quiet (C := E) (by kernel_rfl) (by kernel_rfl) HEE.out ?_
      simp only [List.toList_toArray]
      repeat (any_goals (first
        | go_big_quiet_skip
        | (go_big_quiet_want
           first
           | (refine quiet_val (v := .agg (stA s (.slice a n cap))) (fun w2 hw2 => exec_load_st (.tmp 3) rfl rfl (RS.out w2 hw2)) ?_
              go_big_quiet_on
              simp only [Act.put, List.setIfInBounds_toArray, List.set_cons_zero, List.set_cons_succ])
           | (refine quiet_val (v := ?_) (fun w2 hw2 => ?_) ?_
              rotate_left
              · (first | (go_simp; with_reducible rfl) | (obtain ⟨q1, q2⟩ := R.out w2 hw2; go_simp; with_reducible rfl))
              go_big_quiet_on
              simp only [Act.put, List.setIfInBounds_toArray, List.set_cons_zero, List.set_cons_succ])
           | (refine quiet_call (v := ?_) (f := ?_) (args := ?_) (fun w2 hw2 => ?_) (fun w2 hw2 => ?_) ?_
              rotate_left 3
              · (go_simp; refine ⟨?_, ?_⟩ <;> with_reducible rfl)
              · (skip; exact CD.out _ hw2)
              (go_big_quiet_on; simp only [Act.put, List.setIfInBounds_toArray, List.set_cons_zero, List.set_cons_succ])))))
      all_goals
        refine wpQuiet_nil ?_
        intro w3 hw3
        go_wp2
        go_ret
        exact ⟨rfl, HBel.out _ hw3⟩
set_option maxRecDepth 20000 in
theorem money_any (lo : Nat) (w : World) (v : Value) (f : St → Int) (k : Int) (hlo : lo ≤ w.heap.size) (hf : LeftOk w v f) (hk : ∀ (s : St) (e : Ev), e.kind = k → refR s e = refMoney (f s) e) :
    Calls Tryz.prog 41 #[v] w fun r w' => ∃ u, r = .returned u ∧ RefOk lo w' u k ∧ Below w.heap.size w w' := by
  have HF : Hid (LeftOk w v f) := hf
  have HK : Hid (∀ (s : St) (e : Ev), e.kind = k → refR s e = refMoney (f s) e) := hk
  obtain ⟨g, rfl, eg, _⟩ := hf
  clear eg hk
  go_enter Tryz.func41, Tryz.ntmps41
  go_wp2
  go_ret
  have hb1 : ∀ O1, Below w.heap.size w (w.alloc O1) := fun O1 => (Below.refl _ _).alloc (Nat.le_refl _) _
  refine ⟨_, rfl, ⟨_, _, rfl, cf_money1, fun x s e a n cap hx hn hl hv hc hke => ?_⟩, hb1 _⟩
  have hs := hx.1
  simp at hs
  rw [HK.out s e hke]
  refine money1_any w _ f HF.out w.heap.size x ?_ (by omega) s e a n cap hn hl hv
  rw [hx.cell 0 hlo (by simp)]
  simp
def okL (p : Ln) : Prop := 0 ≤ p.qty ∧ p.qty ≤ 100000 ∧ 0 ≤ p.shipped ∧ p.shipped ≤ 100000
def LineOk (v : Value) (f : Ln → Int) : Prop :=
  ∃ (g : Nat), v = .func (Fn.func g) #[] #[] ∧ (∀ (a : Array Value) (x : World), (callFunc g a).run Tryz.prog x = .ok (.enter g a) x) ∧
    ∀ (x : World) (p : Ln), okL p → Calls Tryz.prog g #[.agg #[.int .i64 p.item, .int .i64 p.price, .int .i64 p.qty, .int .i64 p.shipped]] x fun r x' => r = .returned (.int .i64 (f p)) ∧ Below x.heap.size x x'
set_option maxRecDepth 20000 in
theorem ordered_line : LineOk (.func (Fn.func 49) #[] #[]) (fun p => p.qty) := by
  refine ⟨_, rfl, cf_ordered, fun x p hp => ?_⟩
  clear hp
  go_enter Tryz.func49, Tryz.ntmps49
  go_wp2
  go_ret
  exact ⟨rfl, (Below.refl _ _).alloc (Nat.le_refl _) _⟩
set_option maxRecDepth 20000 in
theorem unshippedRest_line : LineOk (.func (Fn.func 45) #[] #[]) (fun p => p.qty - p.shipped) := by
  refine ⟨_, rfl, cf_unshippedRest, fun x p hp => ?_⟩
  obtain ⟨h1, h2, h3, h4⟩ := hp
  go_enter Tryz.func45, Tryz.ntmps45
  go_wp2
  go_ret
  exact ⟨rfl, (Below.refl _ _).alloc (Nat.le_refl _) _⟩
set_option maxRecDepth 20000 in
set_option maxHeartbeats 4000000 in
theorem taking1_any (v : Value) (f : Ln → Int) (hf : LineOk v f) (bm : Nat) (x : World) (hc : x.cell? ⟨bm, 0, none⟩ = some v) (hbm : bm < x.heap.size)
    (s : St) (e : Ev) (a : Option Addr) (n cap : Nat) (hn : s.lines.length = n) (hl : Lns x a s.lines) (hv : vldB s = true) :
    Calls Tryz.prog 80 #[.agg (stA s (.slice a n cap)), .agg (evA e), .pointer (some ⟨bm, 0, none⟩)] x fun r x' => r = .returned (.int .i64 (refTake f s e)) ∧ Below x.heap.size x x' := by
  obtain ⟨g, rfl, eg, C⟩ := hf
  have hL := (vld_due hv).1
  obtain ⟨h16, hrise⟩ := linesB_from hL
  obtain ⟨W, hW, HS⟩ := se_new x s e a n cap hl
  have HS1 : Hid (SE x s e a n cap W) := HS
  have HN : Hid (s.lines.length = n) := hn
  have hn16 : n ≤ 16 := by omega
  have HRI : Hid (linesFrom (-1) s.lines = true) := hrise
  have c5 := HS.st.cell 5 (.slice a n cap) rfl
  have d2 := HS.ev.cell 2 (.int .i64 e.item) rfl
  have d3 := HS.ev.cell 3 (.int .i64 e.qty) rfl
  obtain ⟨LB, hLB⟩ : ∃ LB, lbI s.lines e.item = LB := ⟨_, rfl⟩
  obtain ⟨O, hO⟩ : ∃ O, lnAt s.lines e.item = O := ⟨_, rfl⟩
  have HF : Hid (lbI s.lines e.item = LB ∧ lnAt s.lines e.item = O) := ⟨hLB, hO⟩
  by_cases hq : e.qty = 0
  · have hq' : (e.qty == 0) = true := by simpa using hq
    rw [show refTake f s e = 6 from if_pos hq]
    clear HS C hn hl hv hq hrise hL h16 hLB hO
    go_enter Tryz.func80, Tryz.ntmps80
    go_wp2_with (go_at_call 77; refine (find_any s.lines a n cap e.item _ HN.out HS1.out.ln hn16 HRI.out).mono ?_; rw [HF.out.1, HF.out.2]; rintro _ x2 ⟨rfl, hb2⟩; have HS2 : Hid (SE x s e a n cap x2) := SE.keep HS1.out hb2; have d3' := HS2.out.ev.cell 3 (.int .i64 e.qty) rfl; clear hb2)
    go_ret
    exact ⟨rfl, HS2.out.bel⟩
  · have hq' : (e.qty == 0) = false := by simpa using hq
    cases O with
    | none =>
      rw [show refTake f s e = 7 from by unfold refTake; rw [if_neg hq, hO]]
      clear HS C hn hl hv hq hrise hL h16 hLB hO
      go_enter Tryz.func80, Tryz.ntmps80
      go_wp2_with (go_at_call 77; refine (find_any s.lines a n cap e.item _ HN.out HS1.out.ln hn16 HRI.out).mono ?_; rw [HF.out.1, HF.out.2]; rintro _ x2 ⟨rfl, hb2⟩; have HS2 : Hid (SE x s e a n cap x2) := SE.keep HS1.out hb2; have d3' := HS2.out.ev.cell 3 (.int .i64 e.qty) rfl; clear hb2)
      go_ret
      exact ⟨rfl, HS2.out.bel⟩
    | some p =>
      obtain ⟨g1, g2⟩ := lnAt_some hO
      rw [hLB] at g1
      have fp := (linesB_facts hL).2 _ _ g1
      have hLn : LB < n := by have := ln_lt g1; omega
      have hCp := fun y => C y p ⟨by omega, by omega, by omega, by omega⟩
      obtain ⟨b, off, rfl, hlb, _⟩ := hl.cells LB p g1
      rw [show refTake f s e = if f p < e.qty then 10 else 0 from by unfold refTake; rw [if_neg hq, hO]]
      obtain ⟨E, hE⟩ : ∃ E, SE x s e (some ⟨b, off, none⟩) n cap = E := ⟨_, rfl⟩
      have R : Hid (∀ w2, E w2 → w2.cell? ⟨x.heap.size + 1, 3, none⟩ = some (.int .i64 e.qty) ∧ w2.cell? ⟨bm, 0, none⟩ = some (.func (Fn.func g) #[] #[]) ∧ w2.cell? ⟨x.heap.size, 5, none⟩ = some (.slice (some ⟨b, off, none⟩) n cap) ∧ w2.cell? ⟨b, off + LB * 4, none⟩ = some (.int .i64 p.item) ∧ w2.cell? ⟨b, off + LB * 4 + 1, none⟩ = some (.int .i64 p.price) ∧ w2.cell? ⟨b, off + LB * 4 + 2, none⟩ = some (.int .i64 p.qty) ∧ w2.cell? ⟨b, off + LB * 4 + 3, none⟩ = some (.int .i64 p.shipped)) := fun w2 h => by
        rw [← hE] at h
        obtain ⟨b2, off2, hbo, _, k0, k1, k2, k3⟩ := h.ln.cells LB p g1
        cases hbo
        exact ⟨h.ev.cell 3 _ rfl, (h.bel.cell (p := ⟨bm, 0, none⟩) hbm).trans hc, h.st.cell 5 _ rfl, k0, k1, k2, k3⟩
      have HBel : Hid (∀ w2, E w2 → Below x.heap.size x w2) := fun w2 h => by rw [← hE] at h; exact h.bel
      have HKE : Hid (∀ w2, SE x s e (some ⟨b, off, none⟩) n cap w2 → E w2.drew) := fun w2 h => by rw [← hE]; exact h.drew
      have CD : Hid (∀ w2, E w2 → Calls Tryz.prog g #[.agg #[.int .i64 p.item, .int .i64 p.price, .int .i64 p.qty, .int .i64 p.shipped]] w2 fun e w' => e = .returned (.int .i64 (f p)) ∧ E w') := fun w2 h => by
        rw [← hE] at h ⊢
        exact (hCp w2).mono fun e w' ⟨h1, h2⟩ => ⟨h1, h.keep h2⟩
      obtain ⟨D, hD⟩ : ∃ D, f p = D := ⟨_, rfl⟩
      rw [hD] at CD ⊢
      clear HS C hCp hn hl hv hD hE hq hc hbm hrise hL h16 hLB hO g1 g2 fp hlb
      by_cases hlt : D < e.qty
      all_goals
        first | rw [if_pos hlt] | rw [if_neg hlt]
        go_enter Tryz.func80, Tryz.ntmps80
        go_wp2_with (go_at_call 77; refine (find_any s.lines _ n cap e.item _ HN.out HS1.out.ln hn16 HRI.out).mono ?_; rw [HF.out.1, HF.out.2]; rintro _ x2 ⟨rfl, hb2⟩; have HS2 : Hid (SE x s e (some ⟨b, off, none⟩) n cap x2) := SE.keep HS1.out hb2; have d3' := HS2.out.ev.cell 3 (.int .i64 e.qty) rfl; clear hb2)
        refine wp_region_quiet (C := E) (by kernel_rfl) (by kernel_rfl) (HKE.out _ HS2.out) ?_
        simp only [List.toList_toArray]
        repeat (any_goals (first
          | go_big_quiet_skip
          | (go_big_quiet_want
             first
             | (refine quiet_val (v := ?_) (fun w2 hw2 => ?_) ?_
                rotate_left
                · (first | (go_simp; with_reducible rfl) | (obtain ⟨q1, q2, q3, q4, q5, q6, q7⟩ := R.out w2 hw2; go_simp; with_reducible rfl))
                go_big_quiet_on
                simp only [Act.put, List.setIfInBounds_toArray, List.set_cons_zero, List.set_cons_succ])
             | (refine quiet_call (v := ?_) (f := ?_) (args := ?_) (fun w2 hw2 => ?_) (fun w2 hw2 => ?_) ?_
                rotate_left 3
                · (go_simp; refine ⟨?_, ?_⟩ <;> with_reducible rfl)
                · (skip; exact CD.out _ hw2)
                (go_big_quiet_on; simp only [Act.put, List.setIfInBounds_toArray, List.set_cons_zero, List.set_cons_succ])))))
        all_goals
          refine wpQuiet_nil ?_
          intro w3 hw3
          go_wp2
          go_ret
          exact ⟨rfl, HBel.out _ hw3⟩
set_option maxRecDepth 20000 in
theorem taking_any (lo : Nat) (w : World) (v : Value) (f : Ln → Int) (k : Int) (hlo : lo ≤ w.heap.size) (hf : LineOk v f) (hk : ∀ (s : St) (e : Ev), e.kind = k → refR s e = refTake f s e) :
    Calls Tryz.prog 44 #[v] w fun r w' => ∃ u, r = .returned u ∧ RefOk lo w' u k ∧ Below w.heap.size w w' := by
  have HF : Hid (LineOk v f) := hf
  have HK : Hid (∀ (s : St) (e : Ev), e.kind = k → refR s e = refTake f s e) := hk
  obtain ⟨g, rfl, eg, _⟩ := hf
  clear eg hk
  go_enter Tryz.func44, Tryz.ntmps44
  go_wp2
  go_ret
  have hb1 : ∀ O1, Below w.heap.size w (w.alloc O1) := fun O1 => (Below.refl _ _).alloc (Nat.le_refl _) _
  refine ⟨_, rfl, ⟨_, _, rfl, cf_taking1, fun x s e a n cap hx hn hl hv hc hke => ?_⟩, hb1 _⟩
  have hs := hx.1
  simp at hs
  rw [HK.out s e hke]
  refine taking1_any _ f HF.out w.heap.size x ?_ (by omega) s e a n cap hn hl hv
  rw [hx.cell 0 hlo (by simp)]
  simp
end Go.Proofs.YtbpjlphjhjfdoaaGreat
namespace Go.Proofs.YtbpjlphjhjfdoaaGreat
open Go.ChangeShapes Go.WideShapes Go.ChangeAt Go.RowKit
set_option linter.unusedVariables false
set_option linter.unusedSimpArgs false
def LnBk (w : World) (b : Nat) (p : Ln) : Prop := w.heap[b]? = some (.cells (lnA p) 36)
theorem LnBk.lt {w : World} {b : Nat} {p : Ln} (h : LnBk w b p) : b < w.heap.size := lt_of_heap h
theorem LnBk.after {w w' : World} {b : Nat} {p : Ln} (h : LnBk w b p) (hb : Below w.heap.size w w') : LnBk w' b p := (hb.block b h.lt).trans h
theorem LnBk.cell {w : World} {b : Nat} {p : Ln} (h : LnBk w b p) (i : Nat) (x : Value) (hx : (lnA p)[i]? = some x) : w.cell? ⟨b, i, none⟩ = some x := by
  rw [cell_of_row w b i (lnA p) 36 (0, 0) h]; exact hx
theorem LnBk.froz {w : World} {b : Nat} {p : Ln} (h : LnBk w b p) (i : Nat) : w.frozen? ⟨b, i, none⟩ = false := by
  unfold LnBk at h
  simp [World.frozen?, h]
set_option maxRecDepth 20000 in
set_option maxHeartbeats 4000000 in
theorem refuseAdd_any (s : St) (e : Ev) (a : Option Addr) (n cap : Nat) (x : World) (hn : s.lines.length = n) (hl : Lns x a s.lines) (hv : vldB s = true) (hr : Right 5 e) :
    Calls Tryz.prog 39 #[.agg (stA s (.slice a n cap)), .agg (evA e)] x fun r x' => r = .returned (.int .i64 (refAdd s e)) ∧ Below x.heap.size x x' := by
  have hL := (vld_due hv).1
  obtain ⟨h16, hrise⟩ := linesB_from hL
  have qq : 0 ≤ e.qty ∧ e.qty ≤ 10000 := ⟨by have := hr.qty0; simpa [loQ] using this, hr.qty1⟩
  obtain ⟨q0, q1⟩ := qq
  obtain ⟨W, hW, HS⟩ := se_new x s e a n cap hl
  have HN : Hid (s.lines.length = n) := hn
  have hn16 : n ≤ 16 := by omega
  have HRI : Hid (linesFrom (-1) s.lines = true) := hrise
  obtain ⟨W1, hW1⟩ : ∃ W1, W.alloc (.cells #[.int .i64 0, .int .i64 0, .int .i64 0, .int .i64 0] 36) = W1 := ⟨_, rfl⟩
  have hbW : Below W.heap.size W W1 := by rw [← hW1]; exact (Below.refl _ _).alloc (Nat.le_refl _) _
  have HSW := HS.keep hbW
  have HS1 : Hid (SE x s e a n cap W1) := HSW
  have hWs : W.heap.size = x.heap.size + 2 := by rw [← hW]; simp
  have HL1 : Hid (LnBk W1 (x.heap.size + 2) ⟨0, 0, 0, 0⟩) := by
    show LnBk _ _ _
    unfold LnBk
    rw [← hW1, ← hWs]
    exact heap_alloc_new W _
  have c5 := HSW.st.cell 5 (.slice a n cap) rfl
  have d2 := HSW.ev.cell 2 (.int .i64 e.item) rfl
  obtain ⟨LB, hLB⟩ : ∃ LB, lbI s.lines e.item = LB := ⟨_, rfl⟩
  obtain ⟨O, hO⟩ : ∃ O, lnAt s.lines e.item = O := ⟨_, rfl⟩
  have HF : Hid (lbI s.lines e.item = LB ∧ lnAt s.lines e.item = O) := ⟨hLB, hO⟩
  cases O with
  | none =>
    have hRes : refAdd s e = if e.qty = 0 then 6 else if s.lines.length = 16 then 9 else 0 := by unfold refAdd; rw [hO]
    rw [hn] at hRes
    rw [hRes]
    clear hRes HS HSW hn hl hv hr hrise hL h16 hLB hO hbW
    by_cases hq : e.qty = 0
    · rw [if_pos hq]
      have hq' : (e.qty == 0) = true := by simpa using hq
      clear hq
      go_enter Tryz.func39, Tryz.ntmps39
      go_wp2_with (go_at_call 77; refine (find_any s.lines a n cap e.item _ HN.out HS1.out.ln hn16 HRI.out).mono ?_; rw [HF.out.1, HF.out.2]; rintro _ x2 ⟨rfl, hb2⟩; have HS2 : Hid (SE x s e a n cap x2) := SE.keep HS1.out hb2; have d3 := HS2.out.ev.cell 3 (.int .i64 e.qty) rfl; clear hb2)
      go_ret
      exact ⟨rfl, HS2.out.bel⟩
    · rw [if_neg hq]
      have hq' : (e.qty == 0) = false := by simpa using hq
      by_cases h16 : n = 16
      · rw [if_pos h16]
        have hn' : ((n : Int) == 16) = true := by simp; omega
        clear h16
        go_enter Tryz.func39, Tryz.ntmps39
        go_wp2_with (go_at_call 77; refine (find_any s.lines a n cap e.item _ HN.out HS1.out.ln hn16 HRI.out).mono ?_; rw [HF.out.1, HF.out.2]; rintro _ x2 ⟨rfl, hb2⟩; have HS2 : Hid (SE x s e a n cap x2) := SE.keep HS1.out hb2; have d3 := HS2.out.ev.cell 3 (.int .i64 e.qty) rfl; have c5' := HS2.out.st.cell 5 (.slice a n cap) rfl; clear hb2)
        go_ret
        exact ⟨rfl, HS2.out.bel⟩
      · rw [if_neg h16]
        have hn' : ((n : Int) == 16) = false := by simp; omega
        clear h16
        go_enter Tryz.func39, Tryz.ntmps39
        go_wp2_with (go_at_call 77; refine (find_any s.lines a n cap e.item _ HN.out HS1.out.ln hn16 HRI.out).mono ?_; rw [HF.out.1, HF.out.2]; rintro _ x2 ⟨rfl, hb2⟩; have HS2 : Hid (SE x s e a n cap x2) := SE.keep HS1.out hb2; have d3 := HS2.out.ev.cell 3 (.int .i64 e.qty) rfl; have c5' := HS2.out.st.cell 5 (.slice a n cap) rfl; have l2 := (HL1.out.after hb2).cell 2 (.int .i64 0) rfl; clear hb2)
        go_ret
        exact ⟨rfl, HS2.out.bel⟩
  | some p =>
    obtain ⟨g1, g2⟩ := lnAt_some hO
    rw [hLB] at g1
    have fp := (linesB_facts hL).2 _ _ g1
    have hLn : LB < n := by have := ln_lt g1; omega
    obtain ⟨b, off, rfl, hlb, _⟩ := hl.cells LB p g1
    have fp1 : 1 ≤ p.qty := by omega
    have fp2 : p.qty ≤ 100000 := by omega
    have RL : Hid (∀ y, Below x.heap.size x y → y.cell? ⟨b, off + LB * 4, none⟩ = some (.int .i64 p.item) ∧ y.cell? ⟨b, off + LB * 4 + 1, none⟩ = some (.int .i64 p.price) ∧ y.cell? ⟨b, off + LB * 4 + 2, none⟩ = some (.int .i64 p.qty) ∧ y.cell? ⟨b, off + LB * 4 + 3, none⟩ = some (.int .i64 p.shipped)) := fun y hy => by
      obtain ⟨b2, off2, hbo, _, k0, k1, k2, k3⟩ := (hl.keep hy).cells LB p g1
      cases hbo
      exact ⟨k0, k1, k2, k3⟩
    have hRes : refAdd s e = if e.qty = 0 then 6 else if p.price ≠ e.price then 8 else if 100000 < p.qty + e.qty then 10 else 0 := by unfold refAdd; rw [hO]
    rw [hRes]
    have HBX : Hid (∀ y (v0 v1 v2 v3 : Value), Below x.heap.size x y → Below x.heap.size x ((((y.setCell ⟨x.heap.size + 2, 0, none⟩ v0).setCell ⟨x.heap.size + 2, 1, none⟩ v1).setCell ⟨x.heap.size + 2, 2, none⟩ v2).setCell ⟨x.heap.size + 2, 3, none⟩ v3)) := fun y v0 v1 v2 v3 hy =>
      (((hy.setCell (p := ⟨x.heap.size + 2, 0, none⟩) (by show x.heap.size ≤ x.heap.size + 2; omega) v0).setCell (p := ⟨x.heap.size + 2, 1, none⟩) (by show x.heap.size ≤ x.heap.size + 2; omega) v1).setCell (p := ⟨x.heap.size + 2, 2, none⟩) (by show x.heap.size ≤ x.heap.size + 2; omega) v2).setCell (p := ⟨x.heap.size + 2, 3, none⟩) (by show x.heap.size ≤ x.heap.size + 2; omega) v3
    clear hRes HS HSW hn hl hv hr hrise hL h16 hLB hO hbW g1 g2 fp hlb
    by_cases hq : e.qty = 0
    · rw [if_pos hq]
      have hq' : (e.qty == 0) = true := by simpa using hq
      clear hq
      go_enter Tryz.func39, Tryz.ntmps39
      go_wp2_with (go_at_call 77; refine (find_any s.lines _ n cap e.item _ HN.out HS1.out.ln hn16 HRI.out).mono ?_; rw [HF.out.1, HF.out.2]; rintro _ x2 ⟨rfl, hb2⟩; have HS2 : Hid (SE x s e (some ⟨b, off, none⟩) n cap x2) := SE.keep HS1.out hb2; have d3 := HS2.out.ev.cell 3 (.int .i64 e.qty) rfl; have c5' := HS2.out.st.cell 5 (.slice (some ⟨b, off, none⟩) n cap) rfl; obtain ⟨k0, k1, k2, k3⟩ := RL.out x2 HS2.out.bel; have l0 := (HL1.out.after hb2).cell 0 (.int .i64 0) rfl; have l1 := (HL1.out.after hb2).cell 1 (.int .i64 0) rfl; have l2 := (HL1.out.after hb2).cell 2 (.int .i64 0) rfl; have l3 := (HL1.out.after hb2).cell 3 (.int .i64 0) rfl; have z0 := (HL1.out.after hb2).froz 0; have z1 := (HL1.out.after hb2).froz 1; have z2 := (HL1.out.after hb2).froz 2; have z3 := (HL1.out.after hb2).froz 3; clear hb2)
      go_ret
      exact ⟨rfl, HBX.out _ _ _ _ _ HS2.out.bel⟩
    · rw [if_neg hq]
      have hq' : (e.qty == 0) = false := by simpa using hq
      cases hpp : (p.price != e.price) with
      | true =>
        rw [if_pos (by simpa using hpp)]
        clear hq
        go_enter Tryz.func39, Tryz.ntmps39
        go_wp2_with (go_at_call 77; refine (find_any s.lines _ n cap e.item _ HN.out HS1.out.ln hn16 HRI.out).mono ?_; rw [HF.out.1, HF.out.2]; rintro _ x2 ⟨rfl, hb2⟩; have HS2 : Hid (SE x s e (some ⟨b, off, none⟩) n cap x2) := SE.keep HS1.out hb2; have d3 := HS2.out.ev.cell 3 (.int .i64 e.qty) rfl; have d4 := HS2.out.ev.cell 4 (.int .i64 e.price) rfl; have c5' := HS2.out.st.cell 5 (.slice (some ⟨b, off, none⟩) n cap) rfl; obtain ⟨k0, k1, k2, k3⟩ := RL.out x2 HS2.out.bel; have l0 := (HL1.out.after hb2).cell 0 (.int .i64 0) rfl; have l1 := (HL1.out.after hb2).cell 1 (.int .i64 0) rfl; have l2 := (HL1.out.after hb2).cell 2 (.int .i64 0) rfl; have l3 := (HL1.out.after hb2).cell 3 (.int .i64 0) rfl; have z0 := (HL1.out.after hb2).froz 0; have z1 := (HL1.out.after hb2).froz 1; have z2 := (HL1.out.after hb2).froz 2; have z3 := (HL1.out.after hb2).froz 3; clear hb2)
        go_ret
        exact ⟨rfl, HBX.out _ _ _ _ _ HS2.out.bel⟩
      | false =>
        rw [if_neg (by simpa using hpp)]
        clear hq
        by_cases hlt : 100000 < p.qty + e.qty
        all_goals
          first | rw [if_pos hlt] | rw [if_neg hlt]
          go_enter Tryz.func39, Tryz.ntmps39
          go_wp2_with (go_at_call 77; refine (find_any s.lines _ n cap e.item _ HN.out HS1.out.ln hn16 HRI.out).mono ?_; rw [HF.out.1, HF.out.2]; rintro _ x2 ⟨rfl, hb2⟩; have HS2 : Hid (SE x s e (some ⟨b, off, none⟩) n cap x2) := SE.keep HS1.out hb2; have d3 := HS2.out.ev.cell 3 (.int .i64 e.qty) rfl; have d4 := HS2.out.ev.cell 4 (.int .i64 e.price) rfl; have c5' := HS2.out.st.cell 5 (.slice (some ⟨b, off, none⟩) n cap) rfl; obtain ⟨k0, k1, k2, k3⟩ := RL.out x2 HS2.out.bel; have l0 := (HL1.out.after hb2).cell 0 (.int .i64 0) rfl; have l1 := (HL1.out.after hb2).cell 1 (.int .i64 0) rfl; have l2 := (HL1.out.after hb2).cell 2 (.int .i64 0) rfl; have l3 := (HL1.out.after hb2).cell 3 (.int .i64 0) rfl; have z0 := (HL1.out.after hb2).froz 0; have z1 := (HL1.out.after hb2).froz 1; have z2 := (HL1.out.after hb2).froz 2; have z3 := (HL1.out.after hb2).froz 3; clear hb2)
          go_ret
          exact ⟨rfl, HBX.out _ _ _ _ _ HS2.out.bel⟩
theorem refuseAdd_ref (lo : Nat) (w : World) : RefOk lo w (.func (Fn.func 39) #[] #[]) 2 := by
  refine ⟨_, _, rfl, cf_refuseAdd, fun x s e a n cap _ hn hl hv hc hk => ?_⟩
  have h0 : refR s e = refAdd s e := by unfold refR; rw [if_pos hk]
  rw [h0]
  exact refuseAdd_any s e a n cap x hn hl hv (right_of hc)
end Go.Proofs.YtbpjlphjhjfdoaaGreat
