/- Own texts, joined: Ra0. -/
import Derived.Test.YtbpjlphjhjfdoaaGreatM72
import Derived.Test.YtbpjlphjhjfdoaaGreatM34
namespace Go.Proofs.YtbpjlphjhjfdoaaGreat
open Go.ChangeShapes Go.WideShapes Go.ChangeAt Go.RowKit
set_option linter.unusedVariables false
set_option linter.unusedSimpArgs false
structure Ap (w : World) (s : St) (e : Ev) (a : Option Addr) (n cap B : Nat) (t : St) (v : Value) (x : World) : Prop where
  se : SE w s e a n cap x
  res : StAt x (w.heap.size + 2) zeroS (.slice none 0 0)
  tb : StAt x B t v
  row : OwnL x w.heap.size v t.lines
  lo : w.heap.size + 3 ≤ B
  old : Lns w a s.lines
theorem Ap.keep {w x y : World} {s t : St} {e : Ev} {a : Option Addr} {n cap B : Nat} {v : Value} (h : Ap w s e a n cap B t v x) (hb : Below x.heap.size x y) : Ap w s e a n cap B t v y :=
  ⟨SE.keep h.se hb, h.res.after hb, h.tb.after hb, h.row.keep hb, h.lo, h.old⟩
theorem Ap.set {w x : World} {s t t2 : St} {e : Ev} {a : Option Addr} {n cap B : Nat} {v : Value} (h : Ap w s e a n cap B t v x) (i : Nat) (u : Value) (hs : (stA t v).setIfInBounds i u = stA t2 v) (hl : t2.lines = t.lines) : Ap w s e a n cap B t2 v (x.setCell ⟨B, i, none⟩ u) := by
  have hB := h.lo
  have hbel : Below w.heap.size w (x.setCell ⟨B, i, none⟩ u) := h.se.bel.setCell (p := ⟨B, i, none⟩) (by show w.heap.size ≤ B; omega) _
  refine ⟨⟨?_, ?_, h.old.keep hbel, hbel⟩, ?_, St.setTo h.tb i u hs, ?_, h.lo, h.old⟩
  · exact (heap_setCell_other x ⟨B, i, none⟩ w.heap.size u (by show w.heap.size ≠ B; omega)).trans h.se.st
  · exact (heap_setCell_other x ⟨B, i, none⟩ (w.heap.size + 1) u (by show w.heap.size + 1 ≠ B; omega)).trans h.se.ev
  · exact (heap_setCell_other x ⟨B, i, none⟩ (w.heap.size + 2) u (by show w.heap.size + 2 ≠ B; omega)).trans h.res
  · rw [hl]
    exact h.row.setOther _ _ (own_st_ne h.row h.tb)
theorem Ap.start {w W x2 x3 : World} {s : St} {e : Ev} {a : Option Addr} {n cap : Nat} {v : Value} (hW : StAt W w.heap.size s (.slice a n cap) ∧ EvAt W (w.heap.size + 1) e ∧ StAt W (w.heap.size + 2) zeroS (.slice none 0 0) ∧ Below w.heap.size w W) (hl : Lns w a s.lines) (ho : OwnL x2 W.heap.size v s.lines) (hb : Below W.heap.size W x2) (z1 : StAt x3 x2.heap.size s v) (hu : Below x2.heap.size x2 x3) : Ap w s e a n cap x2.heap.size s v x3 := by
  have h3 := hW.2.2.1.lt
  have hb3 : Below W.heap.size W x3 := below_next hb hu
  have hbw : Below w.heap.size w x3 := below_next hW.2.2.2 hb3
  exact ⟨⟨hW.1.after hb3, hW.2.1.after hb3, hl.keep hbw, hbw⟩, hW.2.2.1.after hb3, z1, (ho.keep hu).mono (by omega), by have := hb.size; omega, hl⟩
theorem Ap.done {w x y : World} {s t : St} {e : Ev} {a a2 : Option Addr} {n cap B m c : Nat} (h : Ap w s e a n cap B t (.slice a2 m c) x) (z2 : ∀ B a, Below B a x → B ≤ w.heap.size + 2 → Below B a y) (z3 : ∀ k, k ≠ w.heap.size + 2 → y.heap[k]? = x.heap[k]?) : OwnL y w.heap.size (.slice a2 m c) t.lines ∧ Below w.heap.size w y :=
  ⟨h.row.keepOther (fun g hg => z3 g (fun hh => own_st_ne h.row (hh ▸ h.res) hg.symm)), z2 _ _ h.se.bel (by omega)⟩
set_option maxRecDepth 20000 in
set_option maxHeartbeats 4000000 in
theorem rapply_broken (s : St) (e : Ev) (a : Option Addr) (n cap : Nat) (w : World) (hn : s.lines.length = n) (hl : Lns w a s.lines) (hm : n * 32 ≤ 140737488351232) (hj : judS s e = 1 ∨ judS s e = 2) :
    Calls Tryz.prog 7 #[.agg (stA s (.slice a n cap)), .agg (evA e)] w fun r w' => ApplyPost (nextS s e) (judS s e) w r w' := by
  obtain ⟨W, hW, h1, h2, h3, h4⟩ := t3_new w s e (.slice a n cap)
  have HN : Hid (s.lines.length = n) := hn
  have hlm : n ≤ maxLen := by unfold maxLen; omega
  have HW1 : Hid (StAt W w.heap.size s (.slice a n cap) ∧ EvAt W (w.heap.size + 1) e ∧ StAt W (w.heap.size + 2) zeroS (.slice none 0 0) ∧ Below w.heap.size w W) := ⟨h1, h2, h3, h4⟩
  have HLW0 : Hid (Lns w a s.lines) := hl
  have HLW : Hid (Lns W a s.lines) := hl.keep h4
  obtain ⟨j, hjj⟩ : ∃ j, judS s e = j := ⟨_, rfl⟩
  have HJ : Hid (judS s e = j) := hjj
  have T1 : Hid True := trivial
  have T2 : Hid True := trivial
  have T3 : Hid True := trivial
  have hR : nextS s e = s := by unfold nextS; rw [if_pos hj]
  rw [hR, hjj]
  have hb12 : (j == 1) = true ∨ ((j == 1) = false ∧ (j == 2) = true) := by rw [hjj] at hj; rcases hj with rfl | rfl <;> simp
  clear hn hl hj hR hjj h1 h2 h3 h4
  rcases hb12 with hb1 | ⟨hb1, hb2⟩ <;>
  · go_enter Tryz.func7, Tryz.ntmps7
    go_wp2_with (first
      | ((with_reducible refine guard_load 25 ?_); clear T1; refine wpList_load_st rfl _ rfl HW1.out.1 rfl ?_)
      | (go_at_call 6; refine (scopy_any s a n cap _ HN.out HLW.out hm).mono ?_; rintro _ x2 ⟨v2, rfl, ho2, hb2⟩; obtain ⟨a2, c2, hv2, _, _, hl2, _⟩ := ho2.shape; simp only [HN.out] at hv2; subst hv2; have HX2 : Hid (OwnL x2 W.heap.size (.slice a2 n c2) s.lines ∧ Below W.heap.size W x2) := ⟨ho2, hb2⟩; clear hb2 ho2 hl2)
      | ((with_reducible refine guard_store 25 ?_); clear T2; refine wpList_store_st (s := zeroS) (s2 := s) (a2 := a2) (n2 := n) (c2 := c2) rfl _ _ rfl (StAt.new x2 zeroS (.slice none 0 0)) rfl rfl ?_; intro x3 z1 z2 z3 z4; have HA3 : Hid (Ap w s e a n cap x2.heap.size s (.slice a2 n c2) x3) := Ap.start HW1.out HLW0.out HX2.out.1 HX2.out.2 z1 (z2 _ _ ((Below.refl x2.heap.size x2).alloc (Nat.le_refl _) _) (Nat.le_refl _)); clear z1 z2 z3 z4)
      | ((with_reducible refine guard_load 25 ?_); clear T3; refine wpList_load_st rfl _ rfl HA3.out.se.st rfl ?_)
      | ((with_reducible refine guard_load 28 ?_); refine wpList_load_ev rfl _ rfl HA3.out.se.ev rfl ?_)
      | (go_at_call 15; refine (rjudge_any s e a n cap _ HN.out HA3.out.se.ln hlm).mono ?_; rw [HJ.out]; rintro _ x4 ⟨rfl, hb4⟩; have HA4 : Hid (Ap w s e a n cap x2.heap.size s (.slice a2 n c2) x4) := Ap.keep HA3.out hb4; clear hb4; skip)
      | ((with_reducible refine guard_load 25 ?_); refine wpList_load_st rfl _ rfl HA4.out.tb rfl ?_)
      | ((with_reducible refine guard_store 25 ?_); refine wpList_store_st (s := zeroS) (s2 := s) (a2 := a2) (n2 := n) (c2 := c2) rfl _ _ rfl HA4.out.res rfl rfl ?_; intro x9 z1 z2 z3 z4))
    refine bodyPost_ret (results_st2 rfl _ _ _ _ rfl rfl z1) rfl ⟨a2, n, c2, rfl, ?_⟩
    exact HA4.out.done z2 z3
set_option maxRecDepth 20000 in
set_option maxHeartbeats 4000000 in
theorem rapply_refused (s : St) (e : Ev) (a : Option Addr) (n cap : Nat) (w : World) (hn : s.lines.length = n) (hl : Lns w a s.lines) (hm : n * 32 ≤ 140737488351232) (hj1 : judS s e ≠ 1) (hj2 : judS s e ≠ 2) (hj0 : judS s e ≠ 0) :
    Calls Tryz.prog 7 #[.agg (stA s (.slice a n cap)), .agg (evA e)] w fun r w' => ApplyPost (nextS s e) (judS s e) w r w' := by
  obtain ⟨W, hW, h1, h2, h3, h4⟩ := t3_new w s e (.slice a n cap)
  have HN : Hid (s.lines.length = n) := hn
  have hlm : n ≤ maxLen := by unfold maxLen; omega
  have HW1 : Hid (StAt W w.heap.size s (.slice a n cap) ∧ EvAt W (w.heap.size + 1) e ∧ StAt W (w.heap.size + 2) zeroS (.slice none 0 0) ∧ Below w.heap.size w W) := ⟨h1, h2, h3, h4⟩
  have HLW0 : Hid (Lns w a s.lines) := hl
  have HLW : Hid (Lns W a s.lines) := hl.keep h4
  obtain ⟨j, hjj⟩ : ∃ j, judS s e = j := ⟨_, rfl⟩
  have HJ : Hid (judS s e = j) := hjj
  have T1 : Hid True := trivial
  have T2 : Hid True := trivial
  have T3 : Hid True := trivial
  have hR : nextS s e = { s with refused := s.refused + 1, events := s.events + 1 } := by unfold nextS; rw [if_neg (by rintro (h | h); exact hj1 h; exact hj2 h), if_neg hj0]
  have hp := vl_of (jud_parts hj1).1
  have he1 := hp.e1
  have he2 := hp.e2
  have hr1 := hp.r1
  have hr2 := hp.r2
  rw [hR, hjj]
  have hb1 : (j == 1) = false := by rw [hjj] at hj1; simpa using hj1
  have hb2 : (j == 2) = false := by rw [hjj] at hj2; simpa using hj2
  have hb0 : (j != 0) = true := by rw [hjj] at hj0; simpa using hj0
  clear hn hl hj1 hj2 hj0 hR hjj h1 h2 h3 h4 hp
  go_enter Tryz.func7, Tryz.ntmps7
  go_wp2_with (first
      | ((with_reducible refine guard_load 25 ?_); clear T1; refine wpList_load_st rfl _ rfl HW1.out.1 rfl ?_)
      | (go_at_call 6; refine (scopy_any s a n cap _ HN.out HLW.out hm).mono ?_; rintro _ x2 ⟨v2, rfl, ho2, hb2⟩; obtain ⟨a2, c2, hv2, _, _, hl2, _⟩ := ho2.shape; simp only [HN.out] at hv2; subst hv2; have HX2 : Hid (OwnL x2 W.heap.size (.slice a2 n c2) s.lines ∧ Below W.heap.size W x2) := ⟨ho2, hb2⟩; clear hb2 ho2 hl2)
      | ((with_reducible refine guard_store 25 ?_); clear T2; refine wpList_store_st (s := zeroS) (s2 := s) (a2 := a2) (n2 := n) (c2 := c2) rfl _ _ rfl (StAt.new x2 zeroS (.slice none 0 0)) rfl rfl ?_; intro x3 z1 z2 z3 z4; have HA3 : Hid (Ap w s e a n cap x2.heap.size s (.slice a2 n c2) x3) := Ap.start HW1.out HLW0.out HX2.out.1 HX2.out.2 z1 (z2 _ _ ((Below.refl x2.heap.size x2).alloc (Nat.le_refl _) _) (Nat.le_refl _)); clear z1 z2 z3 z4)
      | ((with_reducible refine guard_load 25 ?_); clear T3; refine wpList_load_st rfl _ rfl HA3.out.se.st rfl ?_)
      | ((with_reducible refine guard_load 28 ?_); refine wpList_load_ev rfl _ rfl HA3.out.se.ev rfl ?_)
      | (go_at_call 15; refine (rjudge_any s e a n cap _ HN.out HA3.out.se.ln hlm).mono ?_; rw [HJ.out]; rintro _ x4 ⟨rfl, hb4⟩; have HA4 : Hid (Ap w s e a n cap x2.heap.size s (.slice a2 n c2) x4) := Ap.keep HA3.out hb4; clear hb4; have s8 := HA4.out.se.st.cell 8 (.int .i64 s.events) rfl; have t8 := HA4.out.tb.cell 8 (.int .i64 s.events) rfl; have u8 := HA4.out.tb.froz 8; have HA5 : Hid (Ap w s e a n cap x2.heap.size { s with events := s.events + 1 } (.slice a2 n c2) (x4.setCell ⟨x2.heap.size, 8, none⟩ (.int .i64 (s.events + 1)))) := Ap.set HA4.out 8 _ rfl rfl; have s9 := HA5.out.se.st.cell 9 (.int .i64 s.refused) rfl; have t9 := HA5.out.tb.cell 9 (.int .i64 s.refused) rfl; have u9 := HA5.out.tb.froz 9; have HA6 : Hid (Ap w s e a n cap x2.heap.size { s with refused := s.refused + 1, events := s.events + 1 } (.slice a2 n c2) ((x4.setCell ⟨x2.heap.size, 8, none⟩ (.int .i64 (s.events + 1))).setCell ⟨x2.heap.size, 9, none⟩ (.int .i64 (s.refused + 1)))) := Ap.set HA5.out 9 _ rfl rfl)
      | ((with_reducible refine guard_load 25 ?_); refine wpList_load_st rfl _ rfl HA6.out.tb rfl ?_)
      | ((with_reducible refine guard_store 25 ?_); refine wpList_store_st (s := zeroS) (s2 := { s with refused := s.refused + 1, events := s.events + 1 }) (a2 := a2) (n2 := n) (c2 := c2) rfl _ _ rfl HA6.out.res rfl rfl ?_; intro x9 z1 z2 z3 z4))
  refine bodyPost_ret (results_st2 rfl _ _ _ _ rfl rfl z1) rfl ⟨a2, n, c2, rfl, ?_⟩
  exact HA6.out.done z2 z3
end Go.Proofs.YtbpjlphjhjfdoaaGreat
