/- Own texts, joined: Osx, Cn8. -/
import Derived.Test.YtbpjlphjhjfdoaaGreatK13
import Derived.Test.YtbpjlphjhjfdoaaGreatK10
import Derived.Deep.Onto
import Derived.Deep.RegionLaw
import Derived.Deep.AppendLies
namespace Go.Proofs.YtbpjlphjhjfdoaaGreat
open Go.ChangeShapes Go.WideShapes Go.ChangeAt Go.RowKit
set_option linter.unusedVariables false
theorem row_at {w w' : World} {base : Nat} {e : TypeId} {size : Nat} {v : Value} {n : Nat} {xs : List Value} (h : w.ownsRow base e size v n xs) (hs : ∀ g, v.ownBlock = some g → g < w.heap.size → w'.heap[g]? = w.heap[g]?) : w'.ownsRow base e size v n xs := by
  refine ⟨h.1, ?_⟩
  rcases h.2 with h2 | ⟨g, cap, cur, h3, h4, h5, h6⟩
  · exact .inl h2
  · exact .inr ⟨g, cap, cur, h3, h4, (hs g (by rw [h3]; rfl) (lt_of_heap h5)).trans h5, h6⟩
theorem row_blk {w : World} {base : Nat} {e : TypeId} {size : Nat} {v : Value} {n : Nat} {xs : List Value} (h : w.ownsRow base e size v n xs) {g : Nat} (hg : v.ownBlock = some g) : base ≤ g ∧ ∃ c, w.heap[g]? = some (.cells c e) := by
  rcases h.2 with ⟨rfl, _⟩ | ⟨g2, cap, cur, rfl, h4, h5, h6⟩
  · simp [Value.ownBlock] at hg
  · have : g2 = g := by simpa [Value.ownBlock] using hg
    subst this
    exact ⟨h4, _, h5⟩
theorem results_st1 {fn : Func} {p : Tmp} (h : fn.results = #[.cell p 25]) (tmps : Array Value) (w : World) (k : Nat) {e : St} {v : Value} (hp : tmps.getD p undef = .pointer (some ⟨k, 0, none⟩)) (hl : StAt w k e v) :
    (results fn tmps).run Tryz.prog w = .ok (.agg (stA e v)) w := by
  simp only [Array.getD_eq_getD_getElem?] at hp
  simp [results, h, hp, asAddr, hl.loadVar]
theorem results_st2 {fn : Func} {p u : Tmp} (h : fn.results = #[.cell p 25, .tmp u]) (tmps : Array Value) (w : World) (b : Nat) {e : St} {v : Value} (x : Value) (hp : tmps.getD p undef = .pointer (some ⟨b, 0, none⟩)) (hx : tmps.getD u undef = x) (hl : StAt w b e v) :
    (results fn tmps).run Tryz.prog w = .ok (.tuple #[.agg (stA e v), x]) w := by
  rw [results_cell_tmp h, hp]
  simp only [asAddr, Sem.run_pure, Result.andThen_ok, hl.loadVar, hx]
theorem lncell_new (w : World) (p : Ln) (t : TypeId) : ∀ j u, [.int .i64 p.item, .int .i64 p.price, .int .i64 p.qty, .int .i64 p.shipped][j]? = some u → (w.alloc (.cells (lnA p) t)).cell? ((⟨w.heap.size, 0, none⟩ : Addr).add j) = some u := by
  intro j u hj
  rw [show (⟨w.heap.size, 0, none⟩ : Addr).add j = ⟨w.heap.size, j, none⟩ from by simp [Addr.add]; exact fun h => h.symm]
  rw [cell_of_row (w.alloc (.cells (lnA p) t)) w.heap.size j (lnA p) t (0, 0) (heap_alloc_new w _)]
  rw [← hj]
  unfold lnA
  rcases j with _ | _ | _ | _ | j
  · rfl
  · rfl
  · rfl
  · rfl
  · simp
theorem StAt.froz {w : World} {b : Nat} {s : St} {v : Value} (h : StAt w b s v) (j : Nat) : w.frozen? ⟨b, j, none⟩ = false := frozen_of_row _ _ j _ _ h
theorem OwnL.other {w w' : World} {base : Nat} {v : Value} {L : List Ln} (h : OwnL w base v L) {k : Nat} (hk : k < base) (hs : ∀ j, j ≠ k → w'.heap[j]? = w.heap[j]?) : OwnL w' base v L :=
  row_at h (fun g hg _ => hs g (fun e => by have := (row_blk h hg).1; omega))
theorem ownl_lns {w : World} {base : Nat} {a : Option Addr} {n c : Nat} {L : List Ln} (h : OwnL w base (.slice a n c) L) : Lns w a L := by
  obtain ⟨a2, c2, hv, _, _, hl, _⟩ := h.shape
  injection hv with h1
  subst h1
  exact hl
theorem OwnL.mono {w : World} {b b' : Nat} {v : Value} {L : List Ln} (h : OwnL w b v L) (hb : b' ≤ b) : OwnL w b' v L := World.ownsRow.mono h hb
end Go.Proofs.YtbpjlphjhjfdoaaGreat
namespace Go.Proofs.YtbpjlphjhjfdoaaGreat
open Go.ChangeShapes Go.WideShapes Go.ChangeAt Go.RowKit
set_option linter.unusedVariables false
structure Cp (w wr : World) (s : St) (v v0 : Value) (L : List Ln) : Prop where
  src : StAt wr w.heap.size s v
  res : StAt wr (w.heap.size + 1) zeroS (.slice none 0 0)
  tmp : StAt wr (w.heap.size + 1 + 1) s v0
  row : OwnL wr (w.heap.size + 3) v0 L
  bel : Below w.heap.size w wr
theorem StAt.set5' {w : World} {b : Nat} {s : St} {v : Value} (h : StAt w b s v) (v2 : Value) : StAt (w.setCell ⟨b, 5, none⟩ v2) b s v2 := by
  unfold StAt at h ⊢
  rw [heap_setCell_same w b 5 _ _ _ h]
  rfl
theorem Cp.grow {w wr w4 : World} {s : St} {v v0 : Value} {L : List Ln} {p : Ln} {g c : Nat} (h : Cp w wr s v v0 L) (ho : w4.ownsRow (w.heap.size + 3) 36 4 (.slice (some ⟨g, 0, none⟩) (L.length + 1) c) (L.length + 1) (lfl L ++ [.int .i64 p.item, .int .i64 p.price, .int .i64 p.qty, .int .i64 p.shipped]))
    (hg : (wr.drew.alloc (.cells (lnA p) 36)).grownBy w4 v0.ownBlock) : Cp w (w4.setCell ⟨w.heap.size + 1 + 1, 5, none⟩ (.slice (some ⟨g, 0, none⟩) (L.length + 1) c)) s v (.slice (some ⟨g, 0, none⟩) (L.length + 1) c) (L ++ [p]) ∧ StAt w4 (w.heap.size + 1 + 1) s v0 := by
  have hB : Below wr.heap.size wr (wr.drew.alloc (.cells (lnA p) 36)) := (Below.refl _ _).drew.alloc (Nat.le_refl _) _
  have hlt := h.tmp.lt
  have key : ∀ k, k < w.heap.size + 3 → w4.heap[k]? = wr.heap[k]? := by
    intro k hk
    have h1 : w4.heap[k]? = (wr.drew.alloc (.cells (lnA p) 36)).heap[k]? := hg.block k (by have := hB.size; omega) (fun hv => by
      have := (row_blk (OwnL.keep h.row hB) hv.symm).1; omega)
    exact h1.trans (hB.block k (by omega))
  have t4 : StAt w4 (w.heap.size + 1 + 1) s v0 := (key _ (by omega)).trans h.tmp
  refine ⟨⟨?_, ?_, t4.set5' _, ?_, ?_⟩, t4⟩
  · exact (heap_setCell_other w4 ⟨w.heap.size + 1 + 1, 5, none⟩ w.heap.size _ (by show w.heap.size ≠ w.heap.size + 1 + 1; omega)).trans ((key _ (by omega)).trans h.src)
  · exact (heap_setCell_other w4 ⟨w.heap.size + 1 + 1, 5, none⟩ (w.heap.size + 1) _ (by show w.heap.size + 1 ≠ w.heap.size + 1 + 1; omega)).trans ((key _ (by omega)).trans h.res)
  · exact OwnL.other (OwnL.snoc rfl ho) (k := w.heap.size + 1 + 1) (by omega) (fun j hj => heap_setCell_other w4 ⟨w.heap.size + 1 + 1, 5, none⟩ j _ hj)
  · have hb1 : Below w.heap.size w (wr.drew.alloc (.cells (lnA p) 36)) := h.bel.drew.alloc h.bel.size _
    have hb2 : Below w.heap.size w w4 := hb1.grown hg (by have := hB.size; have := h.bel.size; omega) (fun k hk => by have := (row_blk (OwnL.keep h.row hB) hk).1; omega)
    exact hb2.setCell (p := ⟨w.heap.size + 1 + 1, 5, none⟩) (by show w.heap.size ≤ w.heap.size + 1 + 1; omega) _
theorem three_st (w : World) (s : St) (v : Value) : ∃ W, ((w.alloc (.cells (stA s v) 25)).alloc (.cells (stA zeroS (.slice none 0 0)) 25)).alloc (.cells (stA zeroS (.slice none 0 0)) 25) = W ∧ StAt W w.heap.size s v ∧ StAt W (w.heap.size + 1) zeroS (.slice none 0 0) ∧ StAt W (w.heap.size + 1 + 1) zeroS (.slice none 0 0) ∧ Below w.heap.size w W ∧ W.heap.size = w.heap.size + 3 := by
  refine ⟨_, rfl, ?_, ?_, ?_, (((Below.refl _ _).alloc (Nat.le_refl _) _).alloc (by simp) _).alloc (by simp; omega) _, by simp⟩
  · exact ((StAt.new w s v).after ((Below.refl _ _).alloc (Nat.le_refl _) _)).after ((Below.refl _ _).alloc (Nat.le_refl _) _)
  · have := (StAt.new (w.alloc (.cells (stA s v) 25)) zeroS (.slice none 0 0)).after ((Below.refl _ _).alloc (Nat.le_refl _) (.cells (stA zeroS (.slice none 0 0)) 25))
    simpa using this
  · have := StAt.new ((w.alloc (.cells (stA s v) 25)).alloc (.cells (stA zeroS (.slice none 0 0)) 25)) zeroS (.slice none 0 0)
    simpa using this
theorem Cp.start {w x1 : World} {s : St} {v : Value} (h1 : StAt x1 w.heap.size s v) (h2 : StAt x1 (w.heap.size + 1) zeroS (.slice none 0 0)) (h3 : StAt x1 (w.heap.size + 1 + 1) s v) (hb : Below w.heap.size w x1) (hs : x1.heap.size = w.heap.size + 3) :
    Cp w ((x1.alloc (.cells #[] 36)).setCell ⟨w.heap.size + 1 + 1, 5, none⟩ (.slice (some ⟨x1.heap.size, 0, none⟩) 0 0)) s v (.slice (some ⟨x1.heap.size, 0, none⟩) 0 0) [] ∧ (x1.alloc (.cells #[] 36)).frozen? ⟨w.heap.size + 1 + 1, 5, none⟩ = false ∧ (x1.alloc (.cells #[] 36)).cell? ⟨w.heap.size + 1 + 1, 5, none⟩ = some v := by
  have hB : Below x1.heap.size x1 (x1.alloc (.cells #[] 36)) := (Below.refl _ _).alloc (Nat.le_refl _) _
  have k3 := h3.after hB
  refine ⟨⟨?_, ?_, k3.set5' _, ?_, ?_⟩, k3.froz 5, k3.cell 5 _ rfl⟩
  · exact (heap_setCell_other _ ⟨w.heap.size + 1 + 1, 5, none⟩ w.heap.size _ (by show w.heap.size ≠ w.heap.size + 1 + 1; omega)).trans (h1.after hB)
  · exact (heap_setCell_other _ ⟨w.heap.size + 1 + 1, 5, none⟩ (w.heap.size + 1) _ (by show w.heap.size + 1 ≠ w.heap.size + 1 + 1; omega)).trans (h2.after hB)
  · exact (OwnL.other (OwnL.lit x1) (k := w.heap.size + 1 + 1) (by omega) (fun j hj => heap_setCell_other _ ⟨w.heap.size + 1 + 1, 5, none⟩ j _ hj)).mono (by omega)
  · exact (hb.alloc hb.size _).setCell (p := ⟨w.heap.size + 1 + 1, 5, none⟩) (by show w.heap.size ≤ w.heap.size + 1 + 1; omega) _
set_option maxRecDepth 20000 in
set_option maxHeartbeats 4000000 in
theorem scopy_any (s : St) (a : Option Addr) (n cap : Nat) (w : World) (hn : s.lines.length = n) (hl : Lns w a s.lines) (hm : n * 32 ≤ 140737488351232) :
    Calls Tryz.prog 6 #[.agg (stA s (.slice a n cap))] w fun r w' => ∃ v', r = .returned (.agg (stA s v')) ∧ OwnL w' w.heap.size v' s.lines ∧ Below w.heap.size w w' := by
  obtain ⟨i0, hi, hz0, hz1, hz2⟩ := info_parts Tryz.infoLn
  have HN : Hid (s.lines.length = n) := hn
  have HL : Hid (Lns w a s.lines) := hl
  obtain ⟨W, hW, t1, t2, t3, t4, t5⟩ := three_st w s (.slice a n cap)
  have hW2 : ((w.alloc (.cells (stA s (.slice a n cap)) 25)).alloc (.cells #[.int .i64 0, .int .i64 0, .int .i64 0, .int .i64 0, .int .i64 0, .slice none 0 0, .int .i64 0, .int .i64 0, .int .i64 0, .int .i64 0, .int .i64 0, .string ⟨#[]⟩] 25)).alloc (.cells #[.int .i64 0, .int .i64 0, .int .i64 0, .int .i64 0, .int .i64 0, .slice none 0 0, .int .i64 0, .int .i64 0, .int .i64 0, .int .i64 0, .int .i64 0, .string ⟨#[]⟩] 25) = W := hW
  have HS0 : Hid (StAt ((w.alloc (.cells (stA s (.slice a n cap)) 25)).alloc (.cells (stA zeroS (.slice none 0 0)) 25)) w.heap.size s (.slice a n cap)) := (StAt.new w s _).after ((Below.refl _ _).alloc (Nat.le_refl _) _)
  have H1 : Hid (StAt W w.heap.size s (.slice a n cap)) := t1
  have H2 : Hid (StAt W (w.heap.size + 1) zeroS (.slice none 0 0)) := t2
  have H3 : Hid (StAt W (w.heap.size + 1 + 1) zeroS (.slice none 0 0)) := t3
  have H4 : Hid (Below w.heap.size w W) := t4
  have H5 : Hid (W.heap.size = w.heap.size + 3) := t5
  clear hn hl hW t1 t2 t3 t4 t5
  go_enter Tryz.func6, Tryz.ntmps6
  go_wp2_with (first
    | ((with_reducible refine guard_load 25 ?_); refine wpList_load_st rfl _ rfl HS0.out rfl ?_)
    | ((with_reducible refine guard_store 25 ?_); refine wpList_store_st (s := zeroS) (s2 := s) rfl _ _ rfl H3.out rfl rfl ?_; intro x1 z1 z2 z3 z4; obtain ⟨hc0, f5, c5⟩ := Cp.start (w := w) (s := s) ((z3 _ (by omega)).trans H1.out) ((z3 _ (by omega)).trans H2.out) z1 (z2 _ _ H4.out (by omega)) (z4.trans H5.out); have HC0 : Hid (Cp w ((x1.alloc (.cells #[] 36)).setCell ⟨w.heap.size + 1 + 1, 5, none⟩ (.slice (some ⟨x1.heap.size, 0, none⟩) 0 0)) s (.slice a n cap) (.slice (some ⟨x1.heap.size, 0, none⟩) 0 0) []) := hc0; have s5 := hc0.src.cell 5 (.slice a n cap) rfl; clear z1 z2 z3 z4 hc0))
  go_loopw [11] (fun vi wr => ∃ (k gc : Nat) (ga : Option Addr), k ≤ n ∧ vi = .int .i64 k ∧ Hid (Cp w wr s (.slice a n cap) (.slice ga k gc) (s.lines.take k))) (fun vi _ => n - (intOf vi).toNat)
  case atStart => exact ⟨0, 0, _, Nat.zero_le _, rfl, by rw [List.take_zero]; exact HC0.out⟩
  case round =>
    clear HC0 s5 f5 c5 hW2 HS0 H1 H2 H3 H4 H5
    obtain ⟨k, gc, ga, hk, rfl, HI⟩ := hrel
    by_cases hkn : k < n
    · obtain ⟨p, hp⟩ := ln_get (L := s.lines) (k := k) (by rw [HN.out]; exact hkn)
      obtain ⟨b, off, rfl, hlt, q0, q1, q2, q3⟩ := (HL.out.keep HI.out.bel).cells k p hp
      have HTK : Hid (s.lines.take (k + 1) = s.lines.take k ++ [p]) := ln_take _ _ _ hp
      have HTL : Hid ((s.lines.take k).length = k) := by show _ = _; rw [List.length_take, HN.out]; omega
      have hT := HI.out.tmp
      have c5 : wr.cell? ⟨w.heap.size + 1 + 1, 5, none⟩ = some (.slice ga k gc) := hT.cell 5 _ rfl
      have c5d : wr.drew.cell? ⟨w.heap.size + 1 + 1, 5, none⟩ = some (.slice ga k gc) := c5
      have c5a : (wr.drew.alloc (.cells #[.int .i64 p.item, .int .i64 p.price, .int .i64 p.qty, .int .i64 p.shipped] 36)).cell? ⟨w.heap.size + 1 + 1, 5, none⟩ = some (.slice ga k gc) := (hT.after ((Below.refl wr.heap.size wr).drew.alloc (Nat.le_refl _) (.cells #[.int .i64 p.item, .int .i64 p.price, .int .i64 p.qty, .int .i64 p.shipped] 36))).cell 5 _ rfl
      have c5b : (wr.alloc (.cells #[.int .i64 p.item, .int .i64 p.price, .int .i64 p.qty, .int .i64 p.shipped] 36)).cell? ⟨w.heap.size + 1 + 1, 5, none⟩ = some (.slice ga k gc) := c5a
      have s5 : wr.cell? ⟨w.heap.size, 5, none⟩ = some (.slice (some ⟨b, off, none⟩) n cap) := HI.out.src.cell 5 _ rfl
      have HO5 : Hid ((wr.drew.alloc (.cells #[.int .i64 p.item, .int .i64 p.price, .int .i64 p.qty, .int .i64 p.shipped] 36)).ownsRow (w.heap.size + 3) 36 4 (.slice ga k gc) k (lfl (s.lines.take k))) := by have h := OwnL.keep HI.out.row ((Below.refl wr.heap.size wr).drew.alloc (Nat.le_refl _) (.cells #[.int .i64 p.item, .int .i64 p.price, .int .i64 p.qty, .int .i64 p.shipped] 36)); unfold OwnL at h; rw [HTL.out] at h; exact h
      have HNW : Hid (∀ j u, [.int .i64 p.item, .int .i64 p.price, .int .i64 p.qty, .int .i64 p.shipped][j]? = some u → (wr.drew.alloc (.cells #[.int .i64 p.item, .int .i64 p.price, .int .i64 p.qty, .int .i64 p.shipped] 36)).cell? ((⟨wr.heap.size, 0, none⟩ : Addr).add j) = some u) := lncell_new wr.drew p _
      have HBS : Hid (w.heap.size + 3 ≤ wr.heap.size) := hT.lt
      have hbI : ¬ w.heap.size + 1 + 1 = wr.heap.size := by have := HBS.out; omega
      have hbI2 : ¬ wr.heap.size = w.heap.size + 1 + 1 := by have := HBS.out; omega
      clear hp hT
      go_wp2
      go_region_law ((refine step_append_lies _ (by rfl) _ _ 23 (by rfl) (w.heap.size + 3) 36 i0 _ 4 32 Tryz.underlying23 hi hz0 hz1 hz2 rfl (by decide) (.slice ga k gc) k (lfl (s.lines.take k)) (by rfl) HO5.out ⟨wr.heap.size, 0, none⟩ 1 1 [.int .i64 p.item, .int .i64 p.price, .int .i64 p.qty, .int .i64 p.shipped] (by rfl) (by rfl) HNW.out (by intro u hu; simp only [List.mem_cons, List.not_mem_nil, or_false] at hu; rcases hu with rfl | rfl | rfl | rfl <;> rfl) (by omega) (by unfold maxLen; omega) (by omega) (by have := HBS.out; simp; omega) (wr.heap.size + 1) (by simp) ?_; intro g4 cap4 w4 ho4 hg4 hat4 hlt4; rw [show k + 1 = (s.lines.take k).length + 1 from (by rw [HTL.out])] at ho4; obtain ⟨hc4, ht4⟩ := HI.out.grow ho4 hg4; rw [HTL.out, ← HTK.out] at hc4; have d5 := ht4.cell 5 (.slice ga k gc) rfl; have d5f := ht4.froz 5; have HC4 : Hid (Cp w (w4.setCell ⟨w.heap.size + 1 + 1, 5, none⟩ (.slice (some ⟨g4, 0, none⟩) (k + 1) cap4)) s (.slice (some ⟨b, off, none⟩) n cap) (.slice (some ⟨g4, 0, none⟩) (k + 1) cap4) (s.lines.take (k + 1))) := hc4; clear ho4 hg4 hat4 hlt4 hc4 ht4))
      all_goals go_wp2
      all_goals exact ⟨⟨k + 1, cap4, _, by omega, by go_num, HC4.out⟩, by simp [intOf]; omega⟩
    · obtain rfl : k = n := by omega
      have HCL : Hid (Cp w wr s (.slice a k cap) (.slice ga k gc) s.lines) := by have h := HI.out; rw [List.take_of_length_le (by rw [HN.out]; exact Nat.le_refl _)] at h; exact h
      go_wp2_with (first
        | ((with_reducible refine guard_load 25 ?_); refine wpList_load_st rfl _ rfl HCL.out.tmp rfl ?_)
        | ((with_reducible refine guard_store 25 ?_); refine wpList_store_st (s := zeroS) (s2 := s) rfl _ _ rfl HCL.out.res rfl rfl ?_; intro x8 z1 z2 z3 z4))
      exact bodyPost_ret (results_st1 rfl _ _ _ rfl z1) rfl ⟨_, rfl, (OwnL.other HCL.out.row (k := w.heap.size + 1) (by omega) z3).mono (by omega), z2 _ _ HCL.out.bel (by omega)⟩
end Go.Proofs.YtbpjlphjhjfdoaaGreat
