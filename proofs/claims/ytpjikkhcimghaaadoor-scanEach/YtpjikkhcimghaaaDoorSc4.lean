/- What scan.All answers. -/
import Derived.Test.YtpjikkhcimghaaaDoorSc3
namespace Go.Proofs.YtpjikkhcimghaaaDoor
open Go.ChangeShapes Go.WideShapes Go.ChangeAt Go.RowKit Go.Shelf
set_option linter.unusedVariables false
attribute [local go_sem] Oper.semAt_some
theorem scanN_facts (l : List Nat) : ∀ (f p : Nat), ∀ x ∈ scanN f l p, x.body.length ≤ 16384 ∧ x.pos + x.body.length + 20 ≤ l.length ∧ p ≤ x.pos
  | 0, p, x, h => by cases h
  | f + 1, p, x, h => by
    unfold scanN at h
    split at h
    · rename_i hc
      obtain ⟨h1, h2, h3⟩ := decN_pos hc.2
      rw [List.length_drop] at h2
      have hpn : (decB (l.drop p)).length ≤ 16384 := by
        obtain ⟨q1, q2, q3⟩ := decE_zero hc.2
        have hp : pn (l.drop p) ≤ 16384 := by
          unfold peekE at q1
          split at q1
          · cases q1
          · split at q1
            · cases q1
            · split at q1
              · cases q1
              · split at q1
                · rename_i hh; exact hh.1
                · cases q1
        unfold decB
        rw [if_pos hc.2, List.length_take]
        omega
      rcases List.mem_cons.1 h with rfl | h
      · exact ⟨hpn, by simp only; omega, Nat.le_refl _⟩
      · have := scanN_facts l f _ x h
        exact ⟨this.1, this.2.1, by omega⟩
    · cases h
theorem scanL_facts (l : List Nat) (x : Fm) (h : x ∈ scanL l) : x.body.length ≤ 16384 ∧ x.pos + x.body.length + 20 ≤ l.length := ⟨(scanN_facts l _ 0 x h).1, (scanN_facts l _ 0 x h).2.1⟩
theorem scanN_count (l : List Nat) : ∀ (f p : Nat), 20 * (scanN f l p).length + p ≤ l.length ∨ scanN f l p = []
  | 0, p => .inr rfl
  | f + 1, p => by
    unfold scanN
    split
    · rename_i hc
      left
      obtain ⟨h1, h2, h3⟩ := decN_pos hc.2
      rw [List.length_drop] at h2
      rcases scanN_count l f (p + decN (l.drop p)) with h | h
      · simp only [List.length_cons]; omega
      · rw [h]; simp only [List.length_cons, List.length_nil]; omega
    · exact .inr rfl
theorem scanL_count (l : List Nat) : 20 * (scanL l).length ≤ l.length := by
  rcases scanN_count l (l.length + 1) 0 with h | h
  · unfold scanL; omega
  · unfold scanL; rw [h]; simp
theorem Tryd.infoPl : (Tryd.prog.info? 34).map (fun i => (i.zero, i.size, i.bytes)) = some (some (.agg #[.int .i64 0, .int .i64 0, .int .i64 0, .int .i64 0, .slice none 0 0]), 5, 56) := by kernel_rfl
theorem one5 (c v z q : Int) (a : Option Addr) (n k : Nat) : ∀ u ∈ [Value.int .i64 c, .int .i64 v, .int .i64 z, .int .i64 q, .slice a n k], u.oneCell' = true := by
  intro u hu
  simp at hu
  rcases hu with rfl | rfl | rfl | rfl | rfl <;> rfl
theorem cell_newL (w : World) (xs : List Value) (e : TypeId) : ∀ j u, xs[j]? = some u → (w.alloc (.cells xs.toArray e)).cell? ((⟨w.heap.size, 0, none⟩ : Addr).add j) = some u := by
  intro j u hj
  have hc := cell_of_row (w.alloc (.cells xs.toArray e)) w.heap.size j xs.toArray e (0, 0) (heap_alloc_new w _)
  rw [show (⟨w.heap.size, 0, none⟩ : Addr).add j = ⟨w.heap.size, j, none⟩ from by by_cases h : j = 0 <;> simp [Addr.add, h], hc]
  simpa using hj
/-- the new frame's own box, behind the append -/
theorem far_box {w W w2 w5 : World} {p z k s : Int} {bv v : Value} {n : Nat} {xs : List Value} (hr : W.ownsRow w.heap.size 34 5 v n xs) (hb : Below W.heap.size W w2) (ho : ((w2.alloc (.cells #[.int .i64 p, .int .i64 z, .int .i64 k, .int .i64 s, bv] 34)).alloc (.cells #[.int .i64 p, .int .i64 z, .int .i64 k, .int .i64 s, bv] 34)).ownsRow w.heap.size 34 5 v n xs)
    (hg : ((w2.alloc (.cells #[.int .i64 p, .int .i64 z, .int .i64 k, .int .i64 s, bv] 34)).alloc (.cells #[.int .i64 p, .int .i64 z, .int .i64 k, .int .i64 s, bv] 34)).grownBy w5 v.ownBlock) : w5.cell? ⟨w2.heap.size, 1, none⟩ = some (.int .i64 z) ∧ w2.heap.size < w5.heap.size := by
  have h1 : ((w2.alloc (.cells #[.int .i64 p, .int .i64 z, .int .i64 k, .int .i64 s, bv] 34)).alloc (.cells #[.int .i64 p, .int .i64 z, .int .i64 k, .int .i64 s, bv] 34)).heap[w2.heap.size]? = some (.cells #[.int .i64 p, .int .i64 z, .int .i64 k, .int .i64 s, bv] 34) := (Below.heap_alloc _ _ _ (by simp)).trans (heap_alloc_new w2 _)
  have h2 : w5.heap[w2.heap.size]? = some (.cells #[.int .i64 p, .int .i64 z, .int .i64 k, .int .i64 s, bv] 34) := by
    rw [hg.block _ (lt_of_heap h1) (fun e => ?_)]
    · exact h1
    · have := (hr.lt _ e.symm).2
      have := hb.size
      omega
  exact ⟨by rw [cell_of_row _ _ 1 _ _ _ h2]; rfl, lt_of_heap h2⟩
theorem drewN_below {B : Nat} {w w' : World} (h : Below B w w') (n : Nat) : Below B w (w'.drewN n) := by
  induction n with
  | zero => exact h
  | succ n ih => exact ih.drew
theorem drewN_row {w : World} {base n size : Nat} {e : TypeId} {v : Value} {xs : List Value} (h : w.ownsRow base e size v n xs) (m : Nat) : (w.drewN m).ownsRow base e size v n xs := by
  induction m with
  | zero => exact h
  | succ m ih => exact World.ownsRow.drew ih
theorem drewN_heap {w : World} (n k : Nat) : (w.drewN n).heap[k]? = w.heap[k]? := by
  induction n with
  | zero => rfl
  | succ n ih => exact ih
/-- what is left when the loop's mark is taken up -/
theorem all_end {w W W' : World} {xs : List It} {v : Value} {D nq : Nat} (hr : W.ownsRow w.heap.size 34 5 v xs.length (pflt xs)) (hby : ∀ x ∈ xs, Own W w.heap.size x.bv x.fm.body) (hbel : Below w.heap.size w W) (hb : Below W.heap.size W W') (hK : W.heap[D]? = some (.deferred (some []))) (hD : w.heap.size ≤ D) :
    (W'.drewN nq).heap[D]? = some (.deferred (some [])) ∧ ((W'.drewN nq).putObj D (.deferred none)).ownsRow w.heap.size 34 5 v xs.length (pflt xs) ∧ (∀ x ∈ xs, Own ((W'.drewN nq).putObj D (.deferred none)) w.heap.size x.bv x.fm.body) ∧ Below w.heap.size w ((W'.drewN nq).putObj D (.deferred none)) := by
  have hK2 : (W'.drewN nq).heap[D]? = some (.deferred (some [])) := by rw [drewN_heap]; exact (hb.block D (lt_of_heap hK)).trans hK
  have hB2 : Below w.heap.size w (W'.drewN nq) := drewN_below (hbel.trans (hb.mono hbel.size)) nq
  refine ⟨hK2, ownsRow_putObj (drewN_row (own_below hr hb) nq) _ hK2 rfl, fun x hx => ⟨(hby x hx).1, ownsRow_putObj (drewN_row (own_below (hby x hx).2 hb) nq) _ hK2 rfl⟩, ?_⟩
  exact hB2.grown (grownBy_putObj' _ D _) hB2.size (fun k e => by cases e; exact hD)
/-- why a scan ends where it ends -/
def allE (l : List Nat) : Nat := if endZ 0 (scanL l) = l.length then 0 else decE (l.drop (endZ 0 (scanL l)))
set_option maxRecDepth 100000 in
set_option maxHeartbeats 8000000 in
theorem all_any (l : List Nat) (m : Nat) (a : Option Addr) (cap : Nat) (w : World) (hm : l.length = m) (hb : Bytes w a l) (hcap : m ≤ cap) (hl : m ≤ 16777216) (ht : Tab w) :
    Calls Tryd.prog 10 #[.slice a m cap] w fun e W' => ∃ (xs : List It) (v : Value), e = .returned (.tuple #[v, .int .i64 (endZ 0 (scanL l) : Int), .int .i64 (allE l : Int)]) ∧ xs.map It.fm = scanL l ∧ W'.ownsRow w.heap.size 34 5 v xs.length (pflt xs) ∧ (∀ x ∈ xs, Own W' w.heap.size x.bv x.fm.body) ∧ Below w.heap.size w W' := by
  obtain ⟨i0, hi, hz0, hz1, hz2⟩ := info_parts Tryd.infoPl
  refine (callsIn_wide (n := 5)).1 ?_
  have f15 : Fence.wide.fn 6 := trivial
  have f24 : Fence.wide.fn 14 := trivial
  refine callsIn_of_wp_marks Tryd.func10 rfl trivial ?_ rfl
  simp only [Tryd.ntmps10, List.size_toArray, List.length_cons, List.length_nil, Nat.reduceAdd, Nat.reduceSub, Array.replicate_succ, Array.replicate_zero, List.push_toArray, List.append_toArray, List.nil_append, List.cons_append]
  gi_wp2_with (gi_at_call 6; refine (each_in _ _ _ _ _).mono ?_; rintro e w' ⟨rfl, rfl⟩)
  obtain ⟨W0, hW0⟩ : ∃ W0, ((w.alloc (.cells #[.slice none 0 0] 24)).alloc (.cells #[.int .i64 0] 3)).alloc (.cells #[.slice a m cap] 22) = W0 := ⟨_, rfl⟩
  have bP : Boxed W0 w.heap.size 24 (.slice none 0 0) := by rw [← hW0]; exact ((Boxed.new w _ _).alloc _).alloc _
  have bE : Boxed W0 (w.heap.size + 1) 3 (.int .i64 0) := by
    have h := (Boxed.new (w.alloc (.cells #[.slice none 0 0] 24)) 3 (.int .i64 0)).alloc (.cells #[.slice a m cap] 22)
    rw [World.size_alloc] at h
    rw [← hW0]; exact h
  have bK : Boxed W0 (w.heap.size + 1 + 1) 22 (.slice a m cap) := by
    have h := Boxed.new ((w.alloc (.cells #[.slice none 0 0] 24)).alloc (.cells #[.int .i64 0] 3)) 22 (.slice a m cap)
    rw [World.size_alloc, World.size_alloc] at h
    rw [← hW0]; exact h
  have hB0 : Below w.heap.size w W0 := by rw [← hW0]; exact (((Below.refl _ w).alloc (Nat.le_refl _) _).alloc (by simp) _).alloc (by simp; omega) _
  have hsz : W0.heap.size = w.heap.size + 3 := by rw [← hW0]; simp
  rw [hW0]
  clear hW0
  refine range_w rfl (by omega) (gf := 13) (lb := #[.pointer (some ⟨w.heap.size + 1 + 1, 0, none⟩)]) rfl trivial (enters_of Tryd.func13 (by kernel_rfl) rfl)
    (each_stops _ (by omega) l m (w.heap.size + 1 + 1) a cap w W0 hm hb hcap (by omega) ht (by omega) bK hB0) (fun _ => rfl) KB.trans (fun W lp o o' hlp h _ _ => KB.put W lp o o' (by omega) (by omega) h)
    (AI w w.heap.size (w.heap.size + 1) (w.heap.size + 1 + 1) 0) (fun _ _ _ => False) (AI.own w _ _ _ _ _ (by omega)) (fun _ _ _ _ _ hs _ _ => hs)
    ⟨⟨_, bP, World.ownsRow_nil _ _ _ _⟩, bE, ⟨_, bK⟩, (fun x hx => by cases hx), hB0⟩
    (fun pre x a' W => ∃ (Bx : Nat) (a2 : Option Addr) (c2 : Nat), x.bv = .slice a2 x.fm.body.length c2 ∧ FrmAt W Bx (x.fm.kind : Int) (x.fm.seq : Int) x.bv ∧ Own W w.heap.size x.bv x.fm.body ∧ (pre ++ [x]).map It.fm <+: scanL l ∧ a' = { tmps := #[.slice a m cap, undef, .slice none 0 0, .int .i64 0, .int .i64 0, .pointer (some ⟨w.heap.size, 0, none⟩), .pointer (some ⟨w.heap.size + 1, 0, none⟩), .int .i64 (x.fm.pos : Int), .pointer (some ⟨Bx, 0, none⟩), undef, undef, undef, undef, .slice a m cap, .func (.func 13) #[] #[.pointer (some ⟨w.heap.size + 1 + 1, 0, none⟩)], .int .i64 (x.fm.pos : Int), FrV (x.fm.kind : Int) (x.fm.seq : Int) x.bv, undef, undef, undef, undef, undef, undef, undef, undef, undef, undef, undef, undef, undef, undef, undef, undef, undef, undef, undef, undef, undef, undef, undef, undef, undef, undef, undef, undef], defers := [] })
    ?hax ?assign ?body ?done ?stop
  case hax =>
    rintro pre x a' _ X Y row ⟨Bx, a2, c2, h1, h2, h3, h4, h5⟩ hg hr
    have hr2 : ∀ r, row = some r → ∃ o : Obj, X.heap[r]? = some o ∧ o.isCells = false := fun r e => (hr r e).2
    exact ⟨Bx, a2, c2, h1, cells_kept h2 hg hr2, ⟨h3.1, row_kept h3.2 hg hr2⟩, h4, h5⟩
  case assign =>
    rintro lp pre ⟨⟨pos, kind, seq, body⟩, bv⟩ W K hI ⟨hX1, hX2⟩ hK
    obtain ⟨a2, c2, hv2, _⟩ := hX2.shape
    simp only at hv2 hX2
    subst hv2
    gi_wp2
    exact hK _ _ ((KeepsOthers.alloc _ _).from _) (KB.below hI.bel.size ((Below.refl _ W).alloc (Nat.le_refl _) _)) (hI.below ((Below.refl _ W).alloc (Nat.le_refl _) _)) ⟨W.heap.size, a2, c2, rfl, FrmAt.new W _ _ _, ⟨hX2.1, World.ownsRow.alloc hX2.2 _⟩, hX1, rfl⟩
  case body =>
    rintro lp pre ⟨⟨pos, kind, seq, body⟩, bv⟩ a' W hI ⟨Bx, a2, c2, h1, h2, h3, h4, rfl⟩
    simp only at h1 h2 h3 h4
    subst h1
    obtain ⟨g0, g1, g2⟩ := h2.cells
    obtain ⟨v, hv, hrow⟩ := hI.row
    obtain ⟨hbl, hps⟩ := scanL_facts l ⟨pos, kind, seq, body⟩ (h4.subset (by simp))
    simp only at hbl hps
    have HI : Hid (AI w w.heap.size (w.heap.size + 1) (w.heap.size + 1 + 1) 0 pre W) := hI
    have HROW : Hid (Boxed W w.heap.size 24 v ∧ W.ownsRow w.heap.size 34 5 v pre.length (pflt pre)) := ⟨hv, hrow⟩
    have H3 : Hid (Own W w.heap.size (.slice a2 body.length c2) body) := h3
    have f23 : Fence.wide.fn 17 := trivial
    have hpI : (pos : Int) + (body.length : Int) + 20 ≤ 16777216 := by omega
    have hcnt : pre.length + 1 ≤ 838860 := by
      have q1 := h4.length_le
      have q2 := scanL_count l
      simp at q1
      omega
    clear hv hrow hI h3 h4
    gi_wp2_with (first
      | (gi_at_call 17; refine (CallsIn.inRound lp (callsIn_wide.2 (placed_any (pos : Int) (kind : Int) (seq : Int) a2 body.length c2 _ hbl))).mono ?_; rintro e w2 ⟨rfl, hb2⟩; have hv2 : Boxed w2 w.heap.size 24 v := (hb2.block _ HROW.out.1.lt).trans HROW.out.1; have hl2 := hv2.lt; have k0 := hv2.cell; have HB2 : Hid (Below W.heap.size W w2) := hb2; have HO4 : Hid (((w2.alloc (.cells #[.int .i64 (pos : Int), .int .i64 ((body.length : Int) + 20), .int .i64 (kind : Int), .int .i64 (seq : Int), .slice a2 body.length c2] 34)).alloc (.cells #[.int .i64 (pos : Int), .int .i64 ((body.length : Int) + 20), .int .i64 (kind : Int), .int .i64 (seq : Int), .slice a2 body.length c2] 34)).ownsRow w.heap.size 34 5 v pre.length (pflt pre)) := World.ownsRow.alloc (World.ownsRow.alloc (own_below HROW.out.2 hb2) _) _; have HB4 : Hid (Below W.heap.size W ((w2.alloc (.cells #[.int .i64 (pos : Int), .int .i64 ((body.length : Int) + 20), .int .i64 (kind : Int), .int .i64 (seq : Int), .slice a2 body.length c2] 34)).alloc (.cells #[.int .i64 (pos : Int), .int .i64 ((body.length : Int) + 20), .int .i64 (kind : Int), .int .i64 (seq : Int), .slice a2 body.length c2] 34))) := (hb2.alloc hb2.size _).alloc (by have := hb2.size; simp; omega) _; have HNW : Hid (∀ j u, [.int .i64 (pos : Int), .int .i64 ((body.length : Int) + 20), .int .i64 (kind : Int), .int .i64 (seq : Int), .slice a2 body.length c2][j]? = some u → ((w2.alloc (.cells #[.int .i64 (pos : Int), .int .i64 ((body.length : Int) + 20), .int .i64 (kind : Int), .int .i64 (seq : Int), .slice a2 body.length c2] 34)).alloc (.cells #[.int .i64 (pos : Int), .int .i64 ((body.length : Int) + 20), .int .i64 (kind : Int), .int .i64 (seq : Int), .slice a2 body.length c2] 34)).cell? ((⟨w2.heap.size + 1, 0, none⟩ : Addr).add j) = some u) := (by have h := cell_newL (w2.alloc (.cells #[.int .i64 (pos : Int), .int .i64 ((body.length : Int) + 20), .int .i64 (kind : Int), .int .i64 (seq : Int), .slice a2 body.length c2] 34)) [.int .i64 (pos : Int), .int .i64 ((body.length : Int) + 20), .int .i64 (kind : Int), .int .i64 (seq : Int), .slice a2 body.length c2] 34; rw [World.size_alloc] at h; exact h); have HSZ : Hid (w.heap.size ≤ ((w2.alloc (.cells #[.int .i64 (pos : Int), .int .i64 ((body.length : Int) + 20), .int .i64 (kind : Int), .int .i64 (seq : Int), .slice a2 body.length c2] 34)).alloc (.cells #[.int .i64 (pos : Int), .int .i64 ((body.length : Int) + 20), .int .i64 (kind : Int), .int .i64 (seq : Int), .slice a2 body.length c2] 34)).heap.size) := Nat.le_trans HI.out.bel.size HB4.out.size; clear hv2 hb2)
      | (gi_at_builtin; refine wpListIn_append_own _ rfl _ _ 24 rfl w.heap.size 34 i0 (.agg #[.int .i64 0, .int .i64 0, .int .i64 0, .int .i64 0, .slice none 0 0]) 5 56 Tryd.underlying24 hi hz0 hz1 hz2 rfl (by decide) _ _ _ rfl HO4.out ⟨w2.heap.size + 1, 0, none⟩ 1 1 [.int .i64 (pos : Int), .int .i64 ((body.length : Int) + 20), .int .i64 (kind : Int), .int .i64 (seq : Int), .slice a2 body.length c2] rfl rfl HNW.out (one5 _ _ _ _ _ _ _) (by unfold maxLen; omega) (by omega) HSZ.out ?_; intro v' w5 ho5 hg5 _; obtain ⟨g', cap', rfl⟩ := ownsRow_succ ho5; have HG5 : Hid (_) := hg5; have HO5 : Hid (_) := ho5; have hp5 : Boxed w5 w.heap.size 24 v := Boxed.kept ((HB4.out.block _ HROW.out.1.lt).trans HROW.out.1) hg5 (fun e => Boxed.not_row ((HB4.out.block _ HROW.out.1.lt).trans HROW.out.1 : Boxed _ w.heap.size 24 v) (by decide) HO4.out e); have hq5 : Boxed w5 (w.heap.size + 1) 3 (.int .i64 (endZ 0 (pre.map It.fm) : Int)) := Boxed.kept ((HB4.out.block _ HI.out.fin.lt).trans HI.out.fin) hg5 (fun e => Boxed.not_row ((HB4.out.block _ HI.out.fin.lt).trans HI.out.fin : Boxed _ (w.heap.size + 1) 3 _) (by decide) HO4.out e); have y0 := hp5.cell; have y1 := hp5.frozen; have y2 := hq5.cell; have y3 := hq5.frozen; have hx5 := far_box (W := W) (w2 := w2) HROW.out.2 HB2.out HO4.out hg5; clear hp5 hq5 hg5 ho5))
    exact AI.step (x := ⟨⟨pos, kind, seq, body⟩, .slice a2 body.length c2⟩) HI.out HB4.out ⟨H3.out.1, World.ownsRow.alloc (World.ownsRow.alloc (own_below H3.out.2 HB2.out) _) _⟩ HROW.out.1 HO4.out HG5.out HO5.out (Nat.le_refl _) (by omega) (by omega) (by omega) (by omega) (by rw [List.map_append, List.map_singleton, endF_snoc]; simp only; omega) _
  case done =>
    rintro D xs W hD hS hI hK
    obtain ⟨v, hv, hrow⟩ := hI.row
    have hfin := hI.fin
    rw [hS] at hfin
    obtain ⟨E, hE⟩ : ∃ E, endZ 0 (scanL l) = E := ⟨_, rfl⟩
    rw [hE] at hfin
    have c0 := hv.cell
    have c1 := hfin.cell
    have hEm : E ≤ m := by
      rw [← hE, ← hm]
      unfold endZ
      cases hg : (scanL l).getLast? with
      | none => exact Nat.zero_le _
      | some f => exact (scanL_facts l f (List.mem_of_getLast? hg)).2
    have HK : Hid (W.heap[D]? = some (.deferred (some []))) := hK
    have HI : Hid (AI w w.heap.size (w.heap.size + 1) (w.heap.size + 1 + 1) 0 xs W ∧ W.ownsRow w.heap.size 34 5 v xs.length (pflt xs) ∧ xs.map It.fm = scanL l ∧ w.heap.size ≤ D) := ⟨hI, hrow, hS, by omega⟩
    have HX : Hid (l.length = m ∧ Bytes w a l ∧ m ≤ cap ∧ Tab w) := ⟨hm, hb, hcap, ht⟩
    have hmI : (m : Int) ≤ 16777216 := by omega
    clear hK hI hrow hS hfin hv bP bE bK
    by_cases hend : E = m
    · have HE : Hid (allE l = 0) := by show _ = _; unfold allE; rw [hE, hend, hm, if_pos rfl]
      subst hend
      gi_wp2
      gi_quiet (fail)
      gi_wp2
      obtain ⟨q1, q2, q3, q4⟩ := all_end (nq := nq) HI.out.2.1 HI.out.1.byt HI.out.1.bel (Below.refl _ _) HK.out HI.out.2.2.2
      refine ⟨by simp, .inl ⟨_, _, rfl, run_takeDeferred q1, ?_⟩⟩
      exact ⟨_, results_tmp3 rfl _ _ _, xs, v, by rw [hE, HE.out]; rfl, HI.out.2.2.1, q2, q3, q4⟩
    · have hlt : E < l.length := by rw [hm]; omega
      have hne : l ≠ [] := by intro h; rw [h] at hlt; simp at hlt
      obtain ⟨b, off, rfl, hlb, _⟩ := HX.out.2.1.nonempty hne
      have HBq : Hid (Bytes W (some ⟨b, off + E, none⟩) (l.drop E)) := (HX.out.2.1.keep HI.out.1.bel).drop E
      have HTr : Hid (Tab W) := HX.out.2.2.2.keep HI.out.1.bel
      obtain ⟨q, hq⟩ : ∃ q, l.drop E = q := ⟨_, rfl⟩
      have hql : q.length = m - E := by rw [← hq, List.length_drop, HX.out.1]
      have HQL : Hid (q.length = m - E ∧ q.length ≤ 281474976710656 ∧ q.length ≤ cap - E) := ⟨hql, by omega, by have := HX.out.2.2.1; omega⟩
      have HBQ : Hid (Bytes W (some ⟨b, off + E, none⟩) q) := by rw [← hq]; exact HBq.out
      have hpc : (E : Int) ≤ (cap : Int) := by have := HX.out.2.2.1; omega
      have hpn : (E : Int) ≤ (m : Int) := by omega
      have hpc2 : (E : Int) < (cap : Int) := by have := HX.out.2.2.1; omega
      have hnb : ((E : Int) == (m : Int)) = false := by simp; omega
      obtain ⟨K, hK⟩ : ∃ K, decK q = K := ⟨_, rfl⟩
      obtain ⟨S, hS⟩ : ∃ S, decS q = S := ⟨_, rfl⟩
      obtain ⟨N, hN⟩ : ∃ N, decN q = N := ⟨_, rfl⟩
      obtain ⟨X, hX⟩ : ∃ X, decE q = X := ⟨_, rfl⟩
      have HV : Hid (∀ v, DV q v = .tuple #[FrV (K : Int) (S : Int) v, .int .i64 (N : Int), .int .i64 (X : Int)]) := fun v => by rw [← hK, ← hS, ← hN, ← hX]
      have HE : Hid (allE l = X) := by show _ = _; unfold allE; rw [hE, if_neg (by rw [hm]; exact hend), hq, hX]
      clear hq hql hK hS hN hX hlt hne HBq
      gi_wp2_with (gi_at_call 14; refine (callsIn_wide.2 (fdec_any q _ _ _ _ HQL.out.1 HBQ.out HQL.out.2.1 HQL.out.2.2 HTr.out)).mono ?_; rintro e w3 ⟨v3, rfl, ho3, hb3⟩; rw [HV.out v3]; obtain ⟨a3, c3, hv3, _⟩ := ho3.shape; obtain ⟨n3, hn3⟩ : ∃ n3, (decB q).length = n3 := ⟨_, rfl⟩; rw [hn3] at hv3; subst hv3; have z0 : w3.cell? ⟨w.heap.size, 0, none⟩ = some v := (hb3.cell (p := ⟨w.heap.size, 0, none⟩) (World.block_lt_of_cell? _ _ c0)).trans c0; have z1 : w3.cell? ⟨w.heap.size + 1, 0, none⟩ = some (.int .i64 (E : Int)) := (hb3.cell (p := ⟨w.heap.size + 1, 0, none⟩) (World.block_lt_of_cell? _ _ c1)).trans c1; have zl0 : w.heap.size < w3.heap.size := World.block_lt_of_cell? _ _ z0; have zl1 : w.heap.size + 1 < w3.heap.size := World.block_lt_of_cell? _ _ z1; have HB3 : Hid (Below W.heap.size W (w3.alloc (.cells #[.int .i64 (K : Int), .int .i64 (S : Int), .slice a3 n3 c3] 32))) := hb3.alloc hb3.size _; clear ho3 hb3)
      gi_quiet (fail)
      gi_wp2
      obtain ⟨q1, q2, q3, q4⟩ := all_end (nq := nq) HI.out.2.1 HI.out.1.byt HI.out.1.bel HB3.out HK.out HI.out.2.2.2
      refine ⟨by simp, .inl ⟨_, _, rfl, run_takeDeferred q1, ?_⟩⟩
      exact ⟨_, results_tmp3 rfl _ _ _, xs, v, by rw [hE, HE.out]; rfl, HI.out.2.2.1, q2, q3, q4⟩
  case stop =>
    rintro D c pre W _ _ h _
    exact h.elim
end Go.Proofs.YtpjikkhcimghaaaDoor
