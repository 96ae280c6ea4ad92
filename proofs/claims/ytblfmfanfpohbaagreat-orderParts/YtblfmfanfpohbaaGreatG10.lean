/- Own texts, joined: Osx, Cn8, Od13, Od14, Od15, Od16, Od17. -/
import Derived.Test.YtblfmfanfpohbaaGreatG05
import Derived.Test.YtblfmfanfpohbaaGreatG03
import Derived.Deep.Onto
import Derived.Deep.RegionLaw
import Derived.Deep.AppendLies
import Derived.Test.YtblfmfanfpohbaaGreatG09
import Derived.Test.YtblfmfanfpohbaaGreatG25
import Derived.Lib.SliceRun
namespace Go.Proofs.YtblfmfanfpohbaaGreat
open Go.ChangeShapes Go.WideShapes Go.ChangeAt Go.RowKit
set_option linter.unusedVariables false
theorem row_at {w w' : World} {base : Nat} {e : TypeId} {size : Nat} {v : Value} {n : Nat} {xs : List Value} (h : w.ownsRow base e size v n xs) (hs : ∀ g, v.ownBlock = some g → g < w.heap.size → w'.heap[g]? = w.heap[g]?) : w'.ownsRow base e size v n xs := by
  refine ⟨h.1, ?_⟩
  rcases h.2 with h2 | ⟨g, cap, cur, h3, h4, h5, h6⟩
  · exact .inl h2
  · exact .inr ⟨g, cap, cur, h3, h4, (hs g (by rw [h3]; rfl) (lt_of_heap h5)).trans h5, h6⟩
theorem row_blk {w : World} {base : Nat} {e : TypeId} {size : Nat} {v : Value} {n : Nat} {xs : List Value} (h : w.ownsRow base e size v n xs) {g : Nat} (hg : v.ownBlock = some g) : base ≤ g ∧ ∃ c, w.heap[g]? = some (.cells c e) := by
  rcases h.2 with ⟨rfl, _⟩ | ⟨g2, cap, cur, rfl, h4, h5, h6⟩
  · simp [Value.ownBlock] at hg
  · have : g2 = g := by simpa [Value.ownBlock] using hg
    subst this
    exact ⟨h4, _, h5⟩
theorem results_st1 {fn : Func} {p : Tmp} (h : fn.results = #[.cell p 25]) (tmps : Array Value) (w : World) (k : Nat) {e : St} {v : Value} (hp : tmps.getD p undef = .pointer (some ⟨k, 0, none⟩)) (hl : StAt w k e v) :
    (results fn tmps).run Tryz.prog w = .ok (.agg (stA e v)) w := by
  simp only [Array.getD_eq_getD_getElem?] at hp
  simp [results, h, hp, asAddr, hl.loadVar]
theorem results_st2 {fn : Func} {p u : Tmp} (h : fn.results = #[.cell p 25, .tmp u]) (tmps : Array Value) (w : World) (b : Nat) {e : St} {v : Value} (x : Value) (hp : tmps.getD p undef = .pointer (some ⟨b, 0, none⟩)) (hx : tmps.getD u undef = x) (hl : StAt w b e v) :
    (results fn tmps).run Tryz.prog w = .ok (.tuple #[.agg (stA e v), x]) w := by
  rw [results_cell_tmp h, hp]
  simp only [asAddr, Sem.run_pure, Result.andThen_ok, hl.loadVar, hx]
theorem lncell_new (w : World) (p : Ln) (t : TypeId) : ∀ j u, [.int .i64 p.item, .int .i64 p.price, .int .i64 p.qty, .int .i64 p.shipped][j]? = some u → (w.alloc (.cells (lnA p) t)).cell? ((⟨w.heap.size, 0, none⟩ : Addr).add j) = some u := by
  intro j u hj
  rw [show (⟨w.heap.size, 0, none⟩ : Addr).add j = ⟨w.heap.size, j, none⟩ from by simp [Addr.add]; exact fun h => h.symm]
  rw [cell_of_row (w.alloc (.cells (lnA p) t)) w.heap.size j (lnA p) t (0, 0) (heap_alloc_new w _)]
  rw [← hj]
  unfold lnA
  rcases j with _ | _ | _ | _ | j
  · rfl
  · rfl
  · rfl
  · rfl
  · simp
theorem StAt.froz {w : World} {b : Nat} {s : St} {v : Value} (h : StAt w b s v) (j : Nat) : w.frozen? ⟨b, j, none⟩ = false := frozen_of_row _ _ j _ _ h
theorem OwnL.other {w w' : World} {base : Nat} {v : Value} {L : List Ln} (h : OwnL w base v L) {k : Nat} (hk : k < base) (hs : ∀ j, j ≠ k → w'.heap[j]? = w.heap[j]?) : OwnL w' base v L :=
  row_at h (fun g hg _ => hs g (fun e => by have := (row_blk h hg).1; omega))
theorem ownl_lns {w : World} {base : Nat} {a : Option Addr} {n c : Nat} {L : List Ln} (h : OwnL w base (.slice a n c) L) : Lns w a L := by
  obtain ⟨a2, c2, hv, _, _, hl, _⟩ := h.shape
  injection hv with h1
  subst h1
  exact hl
theorem OwnL.mono {w : World} {b b' : Nat} {v : Value} {L : List Ln} (h : OwnL w b v L) (hb : b' ≤ b) : OwnL w b' v L := World.ownsRow.mono h hb
end Go.Proofs.YtblfmfanfpohbaaGreat
namespace Go.Proofs.YtblfmfanfpohbaaGreat
open Go.ChangeShapes Go.WideShapes Go.ChangeAt Go.RowKit
set_option linter.unusedVariables false
/-- while a state is copied -/
structure Cp (w wr : World) (s : St) (v v0 : Value) (L : List Ln) : Prop where
  src : StAt wr w.heap.size s v
  res : StAt wr (w.heap.size + 1) zeroS (.slice none 0 0)
  tmp : StAt wr (w.heap.size + 1 + 1) s v0
  row : OwnL wr (w.heap.size + 3) v0 L
  bel : Below w.heap.size w wr
theorem StAt.set5' {w : World} {b : Nat} {s : St} {v : Value} (h : StAt w b s v) (v2 : Value) : StAt (w.setCell ⟨b, 5, none⟩ v2) b s v2 := by
  unfold StAt at h ⊢
  rw [heap_setCell_same w b 5 _ _ _ h]
  rfl
theorem Cp.grow {w wr w4 : World} {s : St} {v v0 : Value} {L : List Ln} {p : Ln} {g c : Nat} (h : Cp w wr s v v0 L) (ho : w4.ownsRow (w.heap.size + 3) 44 4 (.slice (some ⟨g, 0, none⟩) (L.length + 1) c) (L.length + 1) (lfl L ++ [.int .i64 p.item, .int .i64 p.price, .int .i64 p.qty, .int .i64 p.shipped]))
    (hg : (wr.drew.alloc (.cells (lnA p) 44)).grownBy w4 v0.ownBlock) : Cp w (w4.setCell ⟨w.heap.size + 1 + 1, 5, none⟩ (.slice (some ⟨g, 0, none⟩) (L.length + 1) c)) s v (.slice (some ⟨g, 0, none⟩) (L.length + 1) c) (L ++ [p]) ∧ StAt w4 (w.heap.size + 1 + 1) s v0 := by
  have hB : Below wr.heap.size wr (wr.drew.alloc (.cells (lnA p) 44)) := (Below.refl _ _).drew.alloc (Nat.le_refl _) _
  have hlt := h.tmp.lt
  have key : ∀ k, k < w.heap.size + 3 → w4.heap[k]? = wr.heap[k]? := by
    intro k hk
    have h1 : w4.heap[k]? = (wr.drew.alloc (.cells (lnA p) 44)).heap[k]? := hg.block k (by have := hB.size; omega) (fun hv => by
      have := (row_blk (OwnL.keep h.row hB) hv.symm).1; omega)
    exact h1.trans (hB.block k (by omega))
  have t4 : StAt w4 (w.heap.size + 1 + 1) s v0 := (key _ (by omega)).trans h.tmp
  refine ⟨⟨?_, ?_, t4.set5' _, ?_, ?_⟩, t4⟩
  · exact (heap_setCell_other w4 ⟨w.heap.size + 1 + 1, 5, none⟩ w.heap.size _ (by show w.heap.size ≠ w.heap.size + 1 + 1; omega)).trans ((key _ (by omega)).trans h.src)
  · exact (heap_setCell_other w4 ⟨w.heap.size + 1 + 1, 5, none⟩ (w.heap.size + 1) _ (by show w.heap.size + 1 ≠ w.heap.size + 1 + 1; omega)).trans ((key _ (by omega)).trans h.res)
  · exact OwnL.other (OwnL.snoc rfl ho) (k := w.heap.size + 1 + 1) (by omega) (fun j hj => heap_setCell_other w4 ⟨w.heap.size + 1 + 1, 5, none⟩ j _ hj)
  · have hb1 : Below w.heap.size w (wr.drew.alloc (.cells (lnA p) 44)) := h.bel.drew.alloc h.bel.size _
    have hb2 : Below w.heap.size w w4 := hb1.grown hg (by have := hB.size; have := h.bel.size; omega) (fun k hk => by have := (row_blk (OwnL.keep h.row hB) hk).1; omega)
    exact hb2.setCell (p := ⟨w.heap.size + 1 + 1, 5, none⟩) (by show w.heap.size ≤ w.heap.size + 1 + 1; omega) _
theorem three_st (w : World) (s : St) (v : Value) : ∃ W, ((w.alloc (.cells (stA s v) 25)).alloc (.cells (stA zeroS (.slice none 0 0)) 25)).alloc (.cells (stA zeroS (.slice none 0 0)) 25) = W ∧ StAt W w.heap.size s v ∧ StAt W (w.heap.size + 1) zeroS (.slice none 0 0) ∧ StAt W (w.heap.size + 1 + 1) zeroS (.slice none 0 0) ∧ Below w.heap.size w W ∧ W.heap.size = w.heap.size + 3 := by
  refine ⟨_, rfl, ?_, ?_, ?_, (((Below.refl _ _).alloc (Nat.le_refl _) _).alloc (by simp) _).alloc (by simp; omega) _, by simp⟩
  · exact ((StAt.new w s v).after ((Below.refl _ _).alloc (Nat.le_refl _) _)).after ((Below.refl _ _).alloc (Nat.le_refl _) _)
  · have := (StAt.new (w.alloc (.cells (stA s v) 25)) zeroS (.slice none 0 0)).after ((Below.refl _ _).alloc (Nat.le_refl _) (.cells (stA zeroS (.slice none 0 0)) 25))
    simpa using this
  · have := StAt.new ((w.alloc (.cells (stA s v) 25)).alloc (.cells (stA zeroS (.slice none 0 0)) 25)) zeroS (.slice none 0 0)
    simpa using this
theorem Cp.start {w x1 : World} {s : St} {v : Value} (h1 : StAt x1 w.heap.size s v) (h2 : StAt x1 (w.heap.size + 1) zeroS (.slice none 0 0)) (h3 : StAt x1 (w.heap.size + 1 + 1) s v) (hb : Below w.heap.size w x1) (hs : x1.heap.size = w.heap.size + 3) :
    Cp w ((x1.alloc (.cells #[] 44)).setCell ⟨w.heap.size + 1 + 1, 5, none⟩ (.slice (some ⟨x1.heap.size, 0, none⟩) 0 0)) s v (.slice (some ⟨x1.heap.size, 0, none⟩) 0 0) [] ∧ (x1.alloc (.cells #[] 44)).frozen? ⟨w.heap.size + 1 + 1, 5, none⟩ = false ∧ (x1.alloc (.cells #[] 44)).cell? ⟨w.heap.size + 1 + 1, 5, none⟩ = some v := by
  have hB : Below x1.heap.size x1 (x1.alloc (.cells #[] 44)) := (Below.refl _ _).alloc (Nat.le_refl _) _
  have k3 := h3.after hB
  refine ⟨⟨?_, ?_, k3.set5' _, ?_, ?_⟩, k3.froz 5, k3.cell 5 _ rfl⟩
  · exact (heap_setCell_other _ ⟨w.heap.size + 1 + 1, 5, none⟩ w.heap.size _ (by show w.heap.size ≠ w.heap.size + 1 + 1; omega)).trans (h1.after hB)
  · exact (heap_setCell_other _ ⟨w.heap.size + 1 + 1, 5, none⟩ (w.heap.size + 1) _ (by show w.heap.size + 1 ≠ w.heap.size + 1 + 1; omega)).trans (h2.after hB)
  · exact (OwnL.other (OwnL.lit x1) (k := w.heap.size + 1 + 1) (by omega) (fun j hj => heap_setCell_other _ ⟨w.heap.size + 1 + 1, 5, none⟩ j _ hj)).mono (by omega)
  · exact (hb.alloc hb.size _).setCell (p := ⟨w.heap.size + 1 + 1, 5, none⟩) (by show w.heap.size ≤ w.heap.size + 1 + 1; omega) _
set_option maxRecDepth 20000 in
set_option maxHeartbeats 4000000 in
theorem scopy_any (s : St) (a : Option Addr) (n cap : Nat) (w : World) (hn : s.lines.length = n) (hl : Lns w a s.lines) (hm : n * 32 ≤ 140737488351232) :
    Calls Tryz.prog 7 #[.agg (stA s (.slice a n cap))] w fun r w' => ∃ v', r = .returned (.agg (stA s v')) ∧ OwnL w' w.heap.size v' s.lines ∧ Below w.heap.size w w' := by
  obtain ⟨i0, hi, hz0, hz1, hz2⟩ := info_parts Tryz.infoLn
  have HN : Hid (s.lines.length = n) := hn
  have HL : Hid (Lns w a s.lines) := hl
  obtain ⟨W, hW, t1, t2, t3, t4, t5⟩ := three_st w s (.slice a n cap)
  have hW2 : ((w.alloc (.cells (stA s (.slice a n cap)) 25)).alloc (.cells #[.int .i64 0, .int .i64 0, .int .i64 0, .int .i64 0, .int .i64 0, .slice none 0 0, .int .i64 0, .int .i64 0, .int .i64 0, .int .i64 0, .int .i64 0, .string ⟨#[]⟩] 25)).alloc (.cells #[.int .i64 0, .int .i64 0, .int .i64 0, .int .i64 0, .int .i64 0, .slice none 0 0, .int .i64 0, .int .i64 0, .int .i64 0, .int .i64 0, .int .i64 0, .string ⟨#[]⟩] 25) = W := hW
  have HS0 : Hid (StAt ((w.alloc (.cells (stA s (.slice a n cap)) 25)).alloc (.cells (stA zeroS (.slice none 0 0)) 25)) w.heap.size s (.slice a n cap)) := (StAt.new w s _).after ((Below.refl _ _).alloc (Nat.le_refl _) _)
  have H1 : Hid (StAt W w.heap.size s (.slice a n cap)) := t1
  have H2 : Hid (StAt W (w.heap.size + 1) zeroS (.slice none 0 0)) := t2
  have H3 : Hid (StAt W (w.heap.size + 1 + 1) zeroS (.slice none 0 0)) := t3
  have H4 : Hid (Below w.heap.size w W) := t4
  have H5 : Hid (W.heap.size = w.heap.size + 3) := t5
  clear hn hl hW t1 t2 t3 t4 t5
  go_enter Tryz.func7, Tryz.ntmps7
  go_wp2_with (first
    | ((with_reducible refine guard_load 25 ?_); refine wpList_load_st rfl _ rfl HS0.out rfl ?_)
    | ((with_reducible refine guard_store 25 ?_); refine wpList_store_st (s := zeroS) (s2 := s) rfl _ _ rfl H3.out rfl rfl ?_; intro x1 z1 z2 z3 z4; obtain ⟨hc0, f5, c5⟩ := Cp.start (w := w) (s := s) ((z3 _ (by omega)).trans H1.out) ((z3 _ (by omega)).trans H2.out) z1 (z2 _ _ H4.out (by omega)) (z4.trans H5.out); have HC0 : Hid (Cp w ((x1.alloc (.cells #[] 44)).setCell ⟨w.heap.size + 1 + 1, 5, none⟩ (.slice (some ⟨x1.heap.size, 0, none⟩) 0 0)) s (.slice a n cap) (.slice (some ⟨x1.heap.size, 0, none⟩) 0 0) []) := hc0; have s5 := hc0.src.cell 5 (.slice a n cap) rfl; clear z1 z2 z3 z4 hc0))
  go_loopw [11] (fun vi wr => ∃ (k gc : Nat) (ga : Option Addr), k ≤ n ∧ vi = .int .i64 k ∧ Hid (Cp w wr s (.slice a n cap) (.slice ga k gc) (s.lines.take k))) (fun vi _ => n - (intOf vi).toNat)
  case atStart => exact ⟨0, 0, _, Nat.zero_le _, rfl, by rw [List.take_zero]; exact HC0.out⟩
  case round =>
    clear HC0 s5 f5 c5 hW2 HS0 H1 H2 H3 H4 H5
    obtain ⟨k, gc, ga, hk, rfl, HI⟩ := hrel
    by_cases hkn : k < n
    · obtain ⟨p, hp⟩ := ln_get (L := s.lines) (k := k) (by rw [HN.out]; exact hkn)
      obtain ⟨b, off, rfl, hlt, q0, q1, q2, q3⟩ := (HL.out.keep HI.out.bel).cells k p hp
      have HTK : Hid (s.lines.take (k + 1) = s.lines.take k ++ [p]) := ln_take _ _ _ hp
      have HTL : Hid ((s.lines.take k).length = k) := by show _ = _; rw [List.length_take, HN.out]; omega
      have hT := HI.out.tmp
      have c5 : wr.cell? ⟨w.heap.size + 1 + 1, 5, none⟩ = some (.slice ga k gc) := hT.cell 5 _ rfl
      have c5d : wr.drew.cell? ⟨w.heap.size + 1 + 1, 5, none⟩ = some (.slice ga k gc) := c5
      have c5a : (wr.drew.alloc (.cells #[.int .i64 p.item, .int .i64 p.price, .int .i64 p.qty, .int .i64 p.shipped] 44)).cell? ⟨w.heap.size + 1 + 1, 5, none⟩ = some (.slice ga k gc) := (hT.after ((Below.refl wr.heap.size wr).drew.alloc (Nat.le_refl _) (.cells #[.int .i64 p.item, .int .i64 p.price, .int .i64 p.qty, .int .i64 p.shipped] 44))).cell 5 _ rfl
      have c5b : (wr.alloc (.cells #[.int .i64 p.item, .int .i64 p.price, .int .i64 p.qty, .int .i64 p.shipped] 44)).cell? ⟨w.heap.size + 1 + 1, 5, none⟩ = some (.slice ga k gc) := c5a
      have s5 : wr.cell? ⟨w.heap.size, 5, none⟩ = some (.slice (some ⟨b, off, none⟩) n cap) := HI.out.src.cell 5 _ rfl
      have HO5 : Hid ((wr.drew.alloc (.cells #[.int .i64 p.item, .int .i64 p.price, .int .i64 p.qty, .int .i64 p.shipped] 44)).ownsRow (w.heap.size + 3) 44 4 (.slice ga k gc) k (lfl (s.lines.take k))) := by have h := OwnL.keep HI.out.row ((Below.refl wr.heap.size wr).drew.alloc (Nat.le_refl _) (.cells #[.int .i64 p.item, .int .i64 p.price, .int .i64 p.qty, .int .i64 p.shipped] 44)); unfold OwnL at h; rw [HTL.out] at h; exact h
      have HNW : Hid (∀ j u, [.int .i64 p.item, .int .i64 p.price, .int .i64 p.qty, .int .i64 p.shipped][j]? = some u → (wr.drew.alloc (.cells #[.int .i64 p.item, .int .i64 p.price, .int .i64 p.qty, .int .i64 p.shipped] 44)).cell? ((⟨wr.heap.size, 0, none⟩ : Addr).add j) = some u) := lncell_new wr.drew p _
      have HBS : Hid (w.heap.size + 3 ≤ wr.heap.size) := hT.lt
      have hbI : ¬ w.heap.size + 1 + 1 = wr.heap.size := by have := HBS.out; omega
      have hbI2 : ¬ wr.heap.size = w.heap.size + 1 + 1 := by have := HBS.out; omega
      clear hp hT
      go_wp2
      go_region_law ((refine step_append_lies _ (by rfl) _ _ 23 (by rfl) (w.heap.size + 3) 44 i0 _ 4 32 Tryz.underlying23 hi hz0 hz1 hz2 rfl (by decide) (.slice ga k gc) k (lfl (s.lines.take k)) (by rfl) HO5.out ⟨wr.heap.size, 0, none⟩ 1 1 [.int .i64 p.item, .int .i64 p.price, .int .i64 p.qty, .int .i64 p.shipped] (by rfl) (by rfl) HNW.out (by intro u hu; simp only [List.mem_cons, List.not_mem_nil, or_false] at hu; rcases hu with rfl | rfl | rfl | rfl <;> rfl) (by omega) (by unfold maxLen; omega) (by omega) (by have := HBS.out; simp; omega) (wr.heap.size + 1) (by simp) ?_; intro g4 cap4 w4 ho4 hg4 hat4 hlt4; rw [show k + 1 = (s.lines.take k).length + 1 from (by rw [HTL.out])] at ho4; obtain ⟨hc4, ht4⟩ := HI.out.grow ho4 hg4; rw [HTL.out, ← HTK.out] at hc4; have d5 := ht4.cell 5 (.slice ga k gc) rfl; have d5f := ht4.froz 5; have HC4 : Hid (Cp w (w4.setCell ⟨w.heap.size + 1 + 1, 5, none⟩ (.slice (some ⟨g4, 0, none⟩) (k + 1) cap4)) s (.slice (some ⟨b, off, none⟩) n cap) (.slice (some ⟨g4, 0, none⟩) (k + 1) cap4) (s.lines.take (k + 1))) := hc4; clear ho4 hg4 hat4 hlt4 hc4 ht4))
      all_goals go_wp2
      all_goals exact ⟨⟨k + 1, cap4, _, by omega, by go_num, HC4.out⟩, by simp [intOf]; omega⟩
    · obtain rfl : k = n := by omega
      have HCL : Hid (Cp w wr s (.slice a k cap) (.slice ga k gc) s.lines) := by have h := HI.out; rw [List.take_of_length_le (by rw [HN.out]; exact Nat.le_refl _)] at h; exact h
      go_wp2_with (first
        | ((with_reducible refine guard_load 25 ?_); refine wpList_load_st rfl _ rfl HCL.out.tmp rfl ?_)
        | ((with_reducible refine guard_store 25 ?_); refine wpList_store_st (s := zeroS) (s2 := s) rfl _ _ rfl HCL.out.res rfl rfl ?_; intro x8 z1 z2 z3 z4))
      exact bodyPost_ret (results_st1 rfl _ _ _ rfl z1) rfl ⟨_, rfl, (OwnL.other HCL.out.row (k := w.heap.size + 1) (by omega) z3).mono (by omega), z2 _ _ HCL.out.bel (by omega)⟩
end Go.Proofs.YtblfmfanfpohbaaGreat
namespace Go.Proofs.YtblfmfanfpohbaaGreat
open Go.ChangeShapes Go.WideShapes Go.ChangeAt Go.RowKit
set_option linter.unusedVariables false
set_option linter.unusedSimpArgs false
theorem OwnL.ob {w : World} {base : Nat} {v : Value} {L : List Ln} (h : OwnL w base v L) (k : Nat) (hk : v.ownBlock = some k) : base ≤ k ∧ k < w.heap.size ∧ ∃ cur, w.heap[k]? = some (.cells cur 44 (0, 0)) := by
  obtain ⟨h1, h2⟩ := h
  rcases h2 with ⟨rfl, hn⟩ | ⟨g, cap, cur, rfl, hb, hg, hnc, hcm, hcs, htake⟩
  · simp [Value.ownBlock] at hk
  · simp only [Value.ownBlock, Option.some.injEq] at hk
    subst hk
    exact ⟨hb, lt_of_heap hg, cur, hg⟩
theorem own_st_ne {w : World} {base b : Nat} {v u : Value} {L : List Ln} {s : St} (h : OwnL w base v L) (hs : StAt w b s u) : some b ≠ v.ownBlock := by
  intro hk
  obtain ⟨_, _, cur, hc⟩ := h.ob b hk.symm
  unfold StAt at hs
  rw [hs] at hc
  injection hc with hc
  injection hc with _ h2 _
  revert h2; decide
theorem own_ev_ne {w : World} {base b : Nat} {v : Value} {L : List Ln} {e : Ev} (h : OwnL w base v L) (hs : EvAt w b e) : some b ≠ v.ownBlock := by
  intro hk
  obtain ⟨_, _, cur, hc⟩ := h.ob b hk.symm
  unfold EvAt at hs
  rw [hs] at hc
  injection hc with hc
  injection hc with _ h2 _
  revert h2; decide
theorem OwnL.setOther {w : World} {base : Nat} {v : Value} {L : List Ln} (h : OwnL w base v L) (p : Addr) (u : Value) (hp : some p.block ≠ v.ownBlock) : OwnL (w.setCell p u) base v L := by
  obtain ⟨h1, h2⟩ := h
  refine ⟨h1, ?_⟩
  rcases h2 with ⟨rfl, hn⟩ | ⟨g, cap, cur, rfl, hb, hg, hnc, hcm, hcs, htake⟩
  · exact .inl ⟨rfl, hn⟩
  · refine .inr ⟨g, cap, cur, rfl, hb, ?_, hnc, hcm, hcs, htake⟩
    rw [heap_setCell_other w p g u (fun hh => hp (by simp [Value.ownBlock, hh]))]
    exact hg
theorem OwnL.keepOther {w w' : World} {base : Nat} {v : Value} {L : List Ln} (h : OwnL w base v L) (hk : ∀ g, v.ownBlock = some g → w'.heap[g]? = w.heap[g]?) : OwnL w' base v L := by
  obtain ⟨h1, h2⟩ := h
  refine ⟨h1, ?_⟩
  rcases h2 with ⟨rfl, hn⟩ | ⟨g, cap, cur, rfl, hb, hg, hnc, hcm, hcs, htake⟩
  · exact .inl ⟨rfl, hn⟩
  · exact .inr ⟨g, cap, cur, rfl, hb, (hk g rfl).trans hg, hnc, hcm, hcs, htake⟩
theorem below_grown {w w' : World} (h : Below w.heap.size w w') (ob : Option Nat) : w.grownBy w' ob := ⟨h.os, h.tape, h.output, h.size, fun k hk _ => h.block k hk⟩
/-- a state, an event and a place for the answer, in three new blocks; a row of lines of one's own -/
structure S3 (w : World) (base : Nat) (v0 : Value) (s : St) (e : Ev) (v : Value) (x : World) : Prop where
  st : StAt x w.heap.size s v
  ev : EvAt x (w.heap.size + 1) e
  res : StAt x (w.heap.size + 2) zeroS (.slice none 0 0)
  row : OwnL x base v s.lines
  gr : w.grownBy x v0.ownBlock
theorem s3_new (w : World) (base : Nat) (s : St) (e : Ev) (v : Value) (ho : OwnL w base v s.lines) : ∃ W, ((w.alloc (.cells (stA s v) 25)).alloc (.cells (evA e) 38)).alloc (.cells #[.int .i64 0, .int .i64 0, .int .i64 0, .int .i64 0, .int .i64 0, .slice none 0 0, .int .i64 0, .int .i64 0, .int .i64 0, .int .i64 0, .int .i64 0, .string ⟨#[]⟩] 25) = W ∧ S3 w base v s e v W := by
  refine ⟨_, rfl, ?_⟩
  have b3 : Below w.heap.size w (((w.alloc (.cells (stA s v) 25)).alloc (.cells (evA e) 38)).alloc (.cells (stA zeroS (.slice none 0 0)) 25)) := (((Below.refl _ _).alloc (Nat.le_refl _) _).alloc (by simp) _).alloc (by simp; omega) _
  refine ⟨?_, ?_, ?_, ho.keep b3, below_grown b3 _⟩
  · exact ((StAt.new w s v).after ((Below.refl _ _).alloc (Nat.le_refl _) _)).after ((Below.refl _ _).alloc (Nat.le_refl _) _)
  · have := (evAt_new (w.alloc (.cells (stA s v) 25)) e).after ((Below.refl _ _).alloc (Nat.le_refl _) (.cells (stA zeroS (.slice none 0 0)) 25))
    simp only [World.alloc, Array.size_push] at this
    exact this
  · have := StAt.new ((w.alloc (.cells (stA s v) 25)).alloc (.cells (evA e) 38)) zeroS (.slice none 0 0)
    simp only [World.alloc, Array.size_push] at this
    exact this
theorem S3.drew {w : World} {base : Nat} {v0 : Value} {s : St} {e : Ev} {v : Value} {x : World} (h : S3 w base v0 s e v x) : S3 w base v0 s e v x.drew := ⟨h.st, h.ev, h.res, h.row, h.gr.os, h.gr.tape, h.gr.output, h.gr.size, h.gr.block⟩
theorem S3.keep {w : World} {base : Nat} {v0 : Value} {s : St} {e : Ev} {v : Value} {x y : World} (h : S3 w base v0 s e v x) (hb : Below x.heap.size x y) : S3 w base v0 s e v y :=
  ⟨h.st.after hb, h.ev.after hb, h.res.after hb, h.row.keep hb, ⟨hb.os.trans h.gr.os, hb.tape.trans h.gr.tape, hb.output.trans h.gr.output, Nat.le_trans h.gr.size hb.size, fun k hk hne => (hb.block k (Nat.lt_of_lt_of_le hk h.gr.size)).trans (h.gr.block k hk hne)⟩⟩
theorem grown_set {w x : World} {ob : Option Nat} (h : w.grownBy x ob) (p : Addr) (u : Value) (hp : w.heap.size ≤ p.block) : w.grownBy (x.setCell p u) ob :=
  ⟨h.os, h.tape, h.output, by simpa [World.setCell] using h.size, fun k hk hne => (heap_setCell_other x p k u (by omega)).trans (h.block k hk hne)⟩
theorem St.setTo {x : World} {b : Nat} {s s2 : St} {v v2 : Value} (h : StAt x b s v) (i : Nat) (u : Value) (hs : (stA s v).setIfInBounds i u = stA s2 v2) : StAt (x.setCell ⟨b, i, none⟩ u) b s2 v2 := by
  unfold StAt at h ⊢
  rw [heap_setCell_same x b i _ _ _ h, hs]
theorem S3.set {w : World} {base : Nat} {v0 : Value} {s s2 : St} {e : Ev} {v : Value} {x : World} (h : S3 w base v0 s e v x) (i : Nat) (u : Value) (hs : (stA s v).setIfInBounds i u = stA s2 v) (hl : s2.lines = s.lines) : S3 w base v0 s2 e v (x.setCell ⟨w.heap.size, i, none⟩ u) := by
  refine ⟨St.setTo h.st i u hs, ?_, ?_, ?_, grown_set h.gr _ _ (Nat.le_refl _)⟩
  · exact (heap_setCell_other x ⟨w.heap.size, i, none⟩ (w.heap.size + 1) u (by show w.heap.size + 1 ≠ w.heap.size; omega)).trans h.ev
  · exact (heap_setCell_other x ⟨w.heap.size, i, none⟩ (w.heap.size + 2) u (by show w.heap.size + 2 ≠ w.heap.size; omega)).trans h.res
  · rw [hl]; exact h.row.setOther ⟨w.heap.size, i, none⟩ u (own_st_ne h.row h.st)
/-- the answer is stored -/
theorem S3.done {w : World} {base : Nat} {v0 : Value} {s : St} {e : Ev} {v : Value} {x y : World} (h : S3 w base v0 s e v x) (hz : ∀ k, k ≠ w.heap.size + 2 → y.heap[k]? = x.heap[k]?) (hb : ∀ B a, Below B a x → B ≤ w.heap.size + 2 → Below B a y) : OwnL y base v s.lines ∧ w.grownBy y v0.ownBlock := by
  have b1 := hb (w.heap.size + 2) x (Below.refl _ _) (Nat.le_refl _)
  refine ⟨h.row.keepOther (fun g hg => hz g (fun hh => ?_)), b1.os.trans h.gr.os, b1.tape.trans h.gr.tape, b1.output.trans h.gr.output, Nat.le_trans h.gr.size b1.size, fun k hk hne => (hz k (by omega)).trans (h.gr.block k hk hne)⟩
  subst hh
  exact own_st_ne h.row h.res hg.symm
theorem S3.froz {w : World} {base : Nat} {v0 : Value} {s : St} {e : Ev} {v : Value} {x : World} (h : S3 w base v0 s e v x) (i : Nat) : x.frozen? ⟨w.heap.size, i, none⟩ = false := h.st.froz i
def DoPost (s' : St) (x : World) (base : Nat) (v : Value) (r : Ending) (x' : World) : Prop := ∃ a n c, r = .returned (.agg (stA s' (.slice a n c))) ∧ OwnL x' base (.slice a n c) s'.lines ∧ x.grownBy x' v.ownBlock
/-- the function does what an event of the kind k is to do -/
def DoOk (g : Nat) (k : Int) : Prop := (∀ (a : Array Value) (x : World), (callFunc g a).run Tryz.prog x = .ok (.enter g a) x) ∧
  ∀ (x : World) (base : Nat) (s : St) (e : Ev) (a : Option Addr) (n cap : Nat), OwnL x base (.slice a n cap) s.lines → base ≤ x.heap.size → Vl s → Right 5 e → e.kind = k → stdR s k = 0 → refR s e = 0 →
    Calls Tryz.prog g #[.agg (stA s (.slice a n cap)), .agg (evA e)] x fun r x' => DoPost (doS s e) x base (.slice a n cap) r x'
end Go.Proofs.YtblfmfanfpohbaaGreat
namespace Go.Proofs.YtblfmfanfpohbaaGreat
open Go.ChangeShapes Go.WideShapes Go.ChangeAt Go.RowKit
set_option linter.unusedVariables false
set_option linter.unusedSimpArgs false
theorem cf_place (a : Array Value) (w : World) : (callFunc 49 a).run Tryz.prog w = .ok (.enter 49 a) w := by kernel_rfl
theorem cf_cancel (a : Array Value) (w : World) : (callFunc 61 a).run Tryz.prog w = .ok (.enter 61 a) w := by kernel_rfl
theorem cf_refund (a : Array Value) (w : World) : (callFunc 65 a).run Tryz.prog w = .ok (.enter 65 a) w := by kernel_rfl
theorem cf_hold (a : Array Value) (w : World) : (callFunc 66 a).run Tryz.prog w = .ok (.enter 66 a) w := by kernel_rfl
theorem cf_release (a : Array Value) (w : World) : (callFunc 67 a).run Tryz.prog w = .ok (.enter 67 a) w := by kernel_rfl
theorem cf_pay (a : Array Value) (w : World) : (callFunc 56 a).run Tryz.prog w = .ok (.enter 56 a) w := by kernel_rfl
set_option maxRecDepth 20000 in
set_option maxHeartbeats 4000000 in
theorem do_place : DoOk 49 1 := by
  refine ⟨cf_place, fun x base s e a n cap ho hb v hr hk hst hrf => ?_⟩
  rw [show doS s e = { s with status := 1, cur := e.cur, tax := e.tax } from by unfold doS; rw [if_pos hk]]
  obtain ⟨W, hW, H⟩ := s3_new x base s e _ ho
  have HS : Hid (S3 x base (.slice a n cap) s e (.slice a n cap) W) := H
  obtain ⟨c0, c1, c2, c3, c4, c5, c6, c7, c8, c9, c10, c11⟩ := H.st.cells
  obtain ⟨d0, d1, d2, d3, d4, d5, d6, d7, d8, d9⟩ := H.ev.cells10
  have f1 := H.froz 1
  have f3 := H.froz 3
  have f4 := H.froz 4
  clear H ho hb v hr hk hst hrf
  go_enter Tryz.func49, Tryz.ntmps49
  go_wp2
  go_region
  all_goals
    have H4 : S3 x base (.slice a n cap) { s with status := 1, cur := e.cur, tax := e.tax } e (.slice a n cap) (((W.drew.setCell ⟨x.heap.size, 1, none⟩ (.int .i64 1)).setCell ⟨x.heap.size, 3, none⟩ (.int .i64 e.cur)).setCell ⟨x.heap.size, 4, none⟩ (.int .i64 e.tax)) := (((HS.out.drew.set (s2 := { s with status := 1 }) 1 _ rfl rfl).set (s2 := { s with status := 1, cur := e.cur }) 3 _ rfl rfl).set 4 _ rfl rfl)
    have HS4 : Hid (S3 x base (.slice a n cap) { s with status := 1, cur := e.cur, tax := e.tax } e (.slice a n cap) (((W.drew.setCell ⟨x.heap.size, 1, none⟩ (.int .i64 1)).setCell ⟨x.heap.size, 3, none⟩ (.int .i64 e.cur)).setCell ⟨x.heap.size, 4, none⟩ (.int .i64 e.tax))) := H4
    clear H4
    go_wp2_with (first
      | ((with_reducible refine guard_load 25 ?_); refine wpList_load_st rfl _ rfl HS4.out.st rfl ?_)
      | ((with_reducible refine guard_store 25 ?_); refine wpList_store_st (s := zeroS) (s2 := { s with status := 1, cur := e.cur, tax := e.tax }) (a2 := a) (n2 := n) (c2 := cap) rfl _ _ rfl HS4.out.res rfl rfl ?_; intro y z1 z2 z3 z4))
    have HZ := HS4.out.done z3 z2
    exact bodyPost_ret (results_st1 rfl _ _ _ rfl z1) rfl ⟨a, n, cap, rfl, HZ.1, HZ.2⟩
set_option maxRecDepth 20000 in
set_option maxHeartbeats 4000000 in
theorem do_cancel : DoOk 61 5 := by
  refine ⟨cf_cancel, fun x base s e a n cap ho hb v hr hk hst hrf => ?_⟩
  rw [show doS s e = { s with status := 5, prior := 0 } from by unfold doS; rw [if_neg (by omega), if_neg (by omega), if_neg (by omega), if_neg (by omega), if_pos hk]]
  obtain ⟨W, hW, H⟩ := s3_new x base s e _ ho
  obtain ⟨c0, c1, c2, c3, c4, c5, c6, c7, c8, c9, c10, c11⟩ := H.st.cells
  have f1 := H.froz 1
  have f2 := H.froz 2
  have HS4 : Hid (S3 x base (.slice a n cap) { s with status := 5, prior := 0 } e (.slice a n cap) ((W.setCell ⟨x.heap.size, 1, none⟩ (.int .i64 5)).setCell ⟨x.heap.size, 2, none⟩ (.int .i64 0))) := ((H.set (s2 := { s with status := 5 }) 1 _ rfl rfl).set 2 _ rfl rfl)
  clear H ho hb v hr hk hst hrf
  go_enter Tryz.func61, Tryz.ntmps61
  go_wp2_with (first
    | ((with_reducible refine guard_load 25 ?_); refine wpList_load_st rfl _ rfl HS4.out.st rfl ?_)
    | ((with_reducible refine guard_store 25 ?_); refine wpList_store_st (s := zeroS) (s2 := { s with status := 5, prior := 0 }) (a2 := a) (n2 := n) (c2 := cap) rfl _ _ rfl HS4.out.res rfl rfl ?_; intro y z1 z2 z3 z4))
  have HZ := HS4.out.done z3 z2
  exact bodyPost_ret (results_st1 rfl _ _ _ rfl z1) rfl ⟨a, n, cap, rfl, HZ.1, HZ.2⟩
set_option maxRecDepth 20000 in
set_option maxHeartbeats 4000000 in
theorem do_hold : DoOk 66 8 := by
  refine ⟨cf_hold, fun x base s e a n cap ho hb v hr hk hst hrf => ?_⟩
  rw [show doS s e = { s with status := 2, prior := s.status } from by unfold doS; rw [if_neg (by omega), if_neg (by omega), if_neg (by omega), if_neg (by omega), if_neg (by omega), if_neg (by omega), if_neg (by omega), if_pos hk]]
  obtain ⟨W, hW, H⟩ := s3_new x base s e _ ho
  obtain ⟨c0, c1, c2, c3, c4, c5, c6, c7, c8, c9, c10, c11⟩ := H.st.cells
  have f1 := H.froz 1
  have f2 := H.froz 2
  have HS4 : Hid (S3 x base (.slice a n cap) { s with status := 2, prior := s.status } e (.slice a n cap) ((W.setCell ⟨x.heap.size, 1, none⟩ (.int .i64 2)).setCell ⟨x.heap.size, 2, none⟩ (.int .i64 s.status))) := ((H.set (s2 := { s with status := 2 }) 1 _ rfl rfl).set 2 _ rfl rfl)
  clear H ho hb v hr hk hst hrf
  go_enter Tryz.func66, Tryz.ntmps66
  go_wp2_with (first
    | ((with_reducible refine guard_load 25 ?_); refine wpList_load_st rfl _ rfl HS4.out.st rfl ?_)
    | ((with_reducible refine guard_store 25 ?_); refine wpList_store_st (s := zeroS) (s2 := { s with status := 2, prior := s.status }) (a2 := a) (n2 := n) (c2 := cap) rfl _ _ rfl HS4.out.res rfl rfl ?_; intro y z1 z2 z3 z4))
  have HZ := HS4.out.done z3 z2
  exact bodyPost_ret (results_st1 rfl _ _ _ rfl z1) rfl ⟨a, n, cap, rfl, HZ.1, HZ.2⟩
set_option maxRecDepth 20000 in
set_option maxHeartbeats 4000000 in
theorem do_release : DoOk 67 9 := by
  refine ⟨cf_release, fun x base s e a n cap ho hb v hr hk hst hrf => ?_⟩
  rw [show doS s e = { s with status := s.prior, prior := 0 } from by unfold doS; rw [if_neg (by omega), if_neg (by omega), if_neg (by omega), if_neg (by omega), if_neg (by omega), if_neg (by omega), if_neg (by omega), if_neg (by omega), if_pos hk]]
  obtain ⟨W, hW, H⟩ := s3_new x base s e _ ho
  obtain ⟨c0, c1, c2, c3, c4, c5, c6, c7, c8, c9, c10, c11⟩ := H.st.cells
  have f1 := H.froz 1
  have f2 := H.froz 2
  have HS4 : Hid (S3 x base (.slice a n cap) { s with status := s.prior, prior := 0 } e (.slice a n cap) ((W.setCell ⟨x.heap.size, 1, none⟩ (.int .i64 s.prior)).setCell ⟨x.heap.size, 2, none⟩ (.int .i64 0))) := ((H.set (s2 := { s with status := s.prior }) 1 _ rfl rfl).set 2 _ rfl rfl)
  clear H ho hb v hr hk hst hrf
  go_enter Tryz.func67, Tryz.ntmps67
  go_wp2_with (first
    | ((with_reducible refine guard_load 25 ?_); refine wpList_load_st rfl _ rfl HS4.out.st rfl ?_)
    | ((with_reducible refine guard_store 25 ?_); refine wpList_store_st (s := zeroS) (s2 := { s with status := s.prior, prior := 0 }) (a2 := a) (n2 := n) (c2 := cap) rfl _ _ rfl HS4.out.res rfl rfl ?_; intro y z1 z2 z3 z4))
  have HZ := HS4.out.done z3 z2
  exact bodyPost_ret (results_st1 rfl _ _ _ rfl z1) rfl ⟨a, n, cap, rfl, HZ.1, HZ.2⟩
set_option maxRecDepth 20000 in
set_option maxHeartbeats 4000000 in
theorem do_refund : DoOk 65 7 := by
  refine ⟨cf_refund, fun x base s e a n cap ho hb v hr hk hst hrf => ?_⟩
  rw [show doS s e = { s with refunded := s.refunded + e.price } from by unfold doS; rw [if_neg (by omega), if_neg (by omega), if_neg (by omega), if_neg (by omega), if_neg (by omega), if_neg (by omega), if_pos hk]]
  obtain ⟨W, hW, H⟩ := s3_new x base s e _ ho
  obtain ⟨c0, c1, c2, c3, c4, c5, c6, c7, c8, c9, c10, c11⟩ := H.st.cells
  obtain ⟨d0, d1, d2, d3, d4, d5, d6, d7, d8, d9⟩ := H.ev.cells10
  have f7 := H.froz 7
  have g1 := v.f1
  have g2 : s.refunded ≤ 240000000000000 := by have := (vld_due (vl_to v)); omega
  have g3 := hr.price0
  have g4 : e.price ≤ 100000000 := by have := hr.price1; simpa [hiP] using this
  have HS4 : Hid (S3 x base (.slice a n cap) { s with refunded := s.refunded + e.price } e (.slice a n cap) (W.setCell ⟨x.heap.size, 7, none⟩ (.int .i64 (s.refunded + e.price)))) := H.set 7 _ rfl rfl
  clear H ho hb v hr hk hst hrf
  go_enter Tryz.func65, Tryz.ntmps65
  go_wp2_with (first
    | ((with_reducible refine guard_load 25 ?_); refine wpList_load_st rfl _ rfl HS4.out.st rfl ?_)
    | ((with_reducible refine guard_store 25 ?_); refine wpList_store_st (s := zeroS) (s2 := { s with refunded := s.refunded + e.price }) (a2 := a) (n2 := n) (c2 := cap) rfl _ _ rfl HS4.out.res rfl rfl ?_; intro y z1 z2 z3 z4))
  have HZ := HS4.out.done z3 z2
  exact bodyPost_ret (results_st1 rfl _ _ _ rfl z1) rfl ⟨a, n, cap, rfl, HZ.1, HZ.2⟩
set_option maxRecDepth 20000 in
set_option maxHeartbeats 4000000 in
theorem do_pay : DoOk 56 3 := by
  refine ⟨cf_pay, fun x base s e a n cap ho hb v hr hk hst hrf => ?_⟩
  rw [show doS s e = payS s e from by unfold doS; rw [if_neg (by omega), if_neg (by omega), if_pos hk]]
  obtain ⟨W, hW, H⟩ := s3_new x base s e _ ho
  obtain ⟨c0, c1, c2, c3, c4, c5, c6, c7, c8, c9, c10, c11⟩ := H.st.cells
  obtain ⟨d0, d1, d2, d3, d4, d5, d6, d7, d8, d9⟩ := H.ev.cells10
  have f6 := H.froz 6
  have g1 := v.p1
  have g2 : s.paid ≤ 240000000000000 := by have := (vld_due (vl_to v)); omega
  have g3 := hr.price0
  have g4 : e.price ≤ 100000000 := by have := hr.price1; simpa [hiP] using this
  obtain ⟨s1, hs1⟩ : ∃ s1 : St, { s with paid := s.paid + e.price } = s1 := ⟨_, rfl⟩
  have hlen : s1.lines.length = n := by
    obtain ⟨a2, c2, hv, _⟩ := ho.shape
    cases hv; rw [← hs1]
  have HN : Hid (s1.lines.length = n) := hlen
  have HLB : Hid (linesB s1.lines = true ∧ 0 ≤ s1.tax ∧ s1.tax ≤ 5000) := by rw [← hs1]; exact ⟨v.lines, v.t1, v.t2⟩
  have HS4 : Hid (S3 x base (.slice a n cap) s1 e (.slice a n cap) (W.setCell ⟨x.heap.size, 6, none⟩ (.int .i64 (s.paid + e.price)))) := by rw [← hs1]; exact H.set 6 _ rfl rfl
  have hP : payS s e = { s1 with status := if paidB s1 = true then 3 else s1.status } := by rw [← hs1]; rfl
  obtain ⟨P, hPP⟩ : ∃ P, paidB s1 = P := ⟨_, rfl⟩
  have HP : Hid (paidB s1 = P) := hPP
  rw [hP, hPP]
  clear H ho hb v hr hk hst hrf hs1 hlen hP hPP
  cases P
  · rw [if_neg (by simp)]
    go_enter Tryz.func56, Tryz.ntmps56
    go_wp2_with (first
      | (go_at_call 73; refine (paidUp_any s1 a n cap _ HN.out (ownl_lns HS4.out.row) HLB.out.1 HLB.out.2.1 HLB.out.2.2).mono ?_; rw [HP.out]; rintro _ y1 ⟨rfl, hb1⟩; have HS5 : Hid (S3 x base (.slice a n cap) s1 e (.slice a n cap) y1) := HS4.out.keep hb1; clear hb1)
      | ((with_reducible refine guard_load 25 ?_); first | refine wpList_load_st rfl _ rfl HS5.out.st rfl ?_ | refine wpList_load_st rfl _ rfl HS4.out.st rfl ?_)
      | ((with_reducible refine guard_store 25 ?_); refine wpList_store_st (s := zeroS) (s2 := s1) (a2 := a) (n2 := n) (c2 := cap) rfl _ _ rfl HS5.out.res rfl rfl ?_; intro y z1 z2 z3 z4))
    have HZ := HS5.out.done z3 z2
    exact bodyPost_ret (results_st1 rfl _ _ _ rfl z1) rfl ⟨a, n, cap, rfl, HZ.1, HZ.2⟩
  · rw [if_pos rfl]
    go_enter Tryz.func56, Tryz.ntmps56
    go_wp2_with (first
      | (go_at_call 73; refine (paidUp_any s1 a n cap _ HN.out (ownl_lns HS4.out.row) HLB.out.1 HLB.out.2.1 HLB.out.2.2).mono ?_; rw [HP.out]; rintro _ y1 ⟨rfl, hb1⟩; have h5 : S3 x base (.slice a n cap) s1 e (.slice a n cap) y1 := HS4.out.keep hb1; have q1 := h5.st.cell 1 (.int .i64 s1.status) rfl; have q2 := h5.froz 1; have HS5 : Hid (S3 x base (.slice a n cap) { s1 with status := 3 } e (.slice a n cap) (y1.setCell ⟨x.heap.size, 1, none⟩ (.int .i64 3))) := h5.set 1 _ rfl rfl; clear hb1 h5)
      | ((with_reducible refine guard_load 25 ?_); first | refine wpList_load_st rfl _ rfl HS5.out.st rfl ?_ | refine wpList_load_st rfl _ rfl HS4.out.st rfl ?_)
      | ((with_reducible refine guard_store 25 ?_); refine wpList_store_st (s := zeroS) (s2 := { s1 with status := 3 }) (a2 := a) (n2 := n) (c2 := cap) rfl _ _ rfl HS5.out.res rfl rfl ?_; intro y z1 z2 z3 z4))
    have HZ := HS5.out.done z3 z2
    exact bodyPost_ret (results_st1 rfl _ _ _ rfl z1) rfl ⟨a, n, cap, rfl, HZ.1, HZ.2⟩
end Go.Proofs.YtblfmfanfpohbaaGreat
namespace Go.Proofs.YtblfmfanfpohbaaGreat
open Go.ChangeShapes Go.WideShapes Go.ChangeAt Go.RowKit
set_option linter.unusedVariables false
set_option linter.unusedSimpArgs false
theorem cf_ship (a : Array Value) (w : World) : (callFunc 59 a).run Tryz.prog w = .ok (.enter 59 a) w := by kernel_rfl
theorem cf_clearUp (a : Array Value) (w : World) : (callFunc 68 a).run Tryz.prog w = .ok (.enter 68 a) w := by kernel_rfl
/-- the line with its j-th cell turned -/
def turnL (p : Ln) (j : Nat) (x : Int) : Ln := if j = 0 then { p with item := x } else if j = 1 then { p with price := x } else if j = 2 then { p with qty := x } else { p with shipped := x }
theorem lfl_set : ∀ (L : List Ln) (i j : Nat) (p : Ln) (x : Int), L[i]? = some p → j < 4 → lfl (L.set i (turnL p j x)) = (lfl L).set (i * 4 + j) (.int .i64 x)
  | [], i, j, p, x, h, hj => by simp at h
  | q :: r, 0, j, p, x, h, hj => by
    simp at h; subst h
    have hj' : j = 0 ∨ j = 1 ∨ j = 2 ∨ j = 3 := by omega
    rcases hj' with rfl | rfl | rfl | rfl <;> simp [lfl, turnL]
  | q :: r, i + 1, j, p, x, h, hj => by
    rw [show (i + 1) * 4 + j = (i * 4 + j) + 4 from by omega]
    simp only [List.set_cons_succ, lfl]
    rw [lfl_set r i j p x (by simpa using h) hj]
theorem OwnL.turn {w : World} {base g n cap : Nat} {L : List Ln} (h : OwnL w base (.slice (some ⟨g, 0, none⟩) n cap) L) (i j : Nat) (p : Ln) (x : Int) (hp : L[i]? = some p) (hj : j < 4) : OwnL (w.setCell ⟨g, i * 4 + j, none⟩ (.int .i64 x)) base (.slice (some ⟨g, 0, none⟩) n cap) (L.set i (turnL p j x)) := by
  have hi := ln_lt hp
  obtain ⟨h1, h2⟩ := h
  rcases h2 with ⟨hv, hn⟩ | ⟨g2, cap2, cur, hv, hb, hg, hnc, hcm, hcs, htake⟩
  · cases hv
  · injection hv with e1 e2 e3
    injection e1 with e1
    injection e1 with e1 _ _
    subst e1 e2 e3
    unfold OwnL
    rw [List.length_set]
    refine ⟨by rw [lfl_length, List.length_set], .inr ⟨g, cap, cur.setIfInBounds (i * 4 + j) (.int .i64 x), rfl, hb, heap_setCell_same w g _ _ _ _ hg, hnc, hcm, by simpa using hcs, ?_⟩⟩
    rw [lfl_set L i j p x hp hj, ← htake, Array.toList_setIfInBounds, List.take_set]
theorem S3.turn {w : World} {base : Nat} {v0 : Value} {s : St} {e : Ev} {g n cap : Nat} {x : World} (h : S3 w base v0 s e (.slice (some ⟨g, 0, none⟩) n cap) x) (i j : Nat) (p : Ln) (y : Int) (hp : s.lines[i]? = some p) (hj : j < 4) (hg : v0.ownBlock = some g ∨ w.heap.size ≤ g) :
    S3 w base v0 { s with lines := s.lines.set i (turnL p j y) } e (.slice (some ⟨g, 0, none⟩) n cap) (x.setCell ⟨g, i * 4 + j, none⟩ (.int .i64 y)) := by
  have n1 : w.heap.size ≠ g := fun hh => own_st_ne h.row h.st (by simp [Value.ownBlock, hh])
  have n2 : w.heap.size + 1 ≠ g := fun hh => own_ev_ne h.row h.ev (by simp [Value.ownBlock, hh])
  have n3 : w.heap.size + 2 ≠ g := fun hh => own_st_ne h.row h.res (by simp [Value.ownBlock, hh])
  refine ⟨(heap_setCell_other x ⟨g, i * 4 + j, none⟩ _ _ n1).trans h.st, (heap_setCell_other x ⟨g, i * 4 + j, none⟩ _ _ n2).trans h.ev, (heap_setCell_other x ⟨g, i * 4 + j, none⟩ _ _ n3).trans h.res, h.row.turn i j p y hp hj, h.gr.os, h.gr.tape, h.gr.output, by simpa [World.setCell] using h.gr.size, fun k hk hne => (heap_setCell_other x ⟨g, i * 4 + j, none⟩ k _ (fun hh => ?_)).trans (h.gr.block k hk hne)⟩
  subst hh
  rcases hg with hg | hg
  · exact hne hg.symm
  · exact absurd hk (by simpa using hg)
/-- a row that has lines has a block -/
theorem OwnL.block {w : World} {base n cap : Nat} {a : Option Addr} {L : List Ln} {i : Nat} {p : Ln} (h : OwnL w base (.slice a n cap) L) (hp : L[i]? = some p) : ∃ g, a = some ⟨g, 0, none⟩ ∧ n ≤ cap ∧ cap ≤ maxLen ∧ (∀ j, w.frozen? ⟨g, j, none⟩ = false) ∧ g < w.heap.size := by
  have hi := ln_lt hp
  obtain ⟨h1, h2⟩ := h
  rcases h2 with ⟨hv, hn⟩ | ⟨g2, cap2, cur, hv, hb, hg, hnc, hcm, hcs, htake⟩
  · omega
  · injection hv with e1 e2 e3
    subst e1 e2 e3
    exact ⟨g2, rfl, hnc, hcm, fun j => frozen_of_row w g2 j _ _ hg, lt_of_heap hg⟩
theorem OwnL.cells {w : World} {base g n cap : Nat} {L : List Ln} {i : Nat} {p : Ln} (h : OwnL w base (.slice (some ⟨g, 0, none⟩) n cap) L) (hp : L[i]? = some p) : w.cell? ⟨g, i * 4, none⟩ = some (.int .i64 p.item) ∧ w.cell? ⟨g, i * 4 + 1, none⟩ = some (.int .i64 p.price) ∧ w.cell? ⟨g, i * 4 + 2, none⟩ = some (.int .i64 p.qty) ∧ w.cell? ⟨g, i * 4 + 3, none⟩ = some (.int .i64 p.shipped) := by
  obtain ⟨b, off, hb, _, k0, k1, k2, k3⟩ := (ownl_lns h).cells i p hp
  cases hb
  simp only [Nat.zero_add] at k0 k1 k2 k3
  exact ⟨k0, k1, k2, k3⟩
theorem frozen_own {w : World} {base g n cap : Nat} {L : List Ln} (h : OwnL w base (.slice (some ⟨g, 0, none⟩) n cap) L) (j : Nat) : w.frozen? ⟨g, j, none⟩ = false := by obtain ⟨_, _, cur, hc⟩ := h.ob g rfl; exact frozen_of_row w g j _ _ hc
theorem OwnL.len {w : World} {base n cap : Nat} {a : Option Addr} {L : List Ln} (h : OwnL w base (.slice a n cap) L) : L.length = n := by
  obtain ⟨a2, c2, hv, _⟩ := h.shape
  cases hv; rfl
set_option maxRecDepth 20000 in
set_option maxHeartbeats 4000000 in
theorem do_ship : DoOk 59 4 := by
  refine ⟨cf_ship, fun x base s e a n cap ho hb v hr hk hst hrf => ?_⟩
  have hR : ∃ p, lnAt s.lines e.item = some p ∧ e.qty ≤ p.qty - p.shipped := by
    unfold refR at hrf
    rw [if_neg (by omega), if_neg (by omega), if_pos hk] at hrf
    unfold refTake at hrf
    split at hrf
    · omega
    · split at hrf
      · rename_i q hq
        refine ⟨q, hq, ?_⟩
        simp only at hrf
        split at hrf <;> omega
      · omega
  obtain ⟨p, hp, hq⟩ := hR
  rw [show doS s e = shipS s e from by unfold doS; rw [if_neg (by omega), if_neg (by omega), if_neg (by omega), if_pos hk]]
  obtain ⟨g1, g2⟩ := lnAt_some hp
  obtain ⟨h16, hrise⟩ := linesB_from v.lines
  have fp := (linesB_facts v.lines).2 _ _ g1
  have q0 : 0 ≤ e.qty := by have := hr.qty0; simpa [loQ] using this
  have hsl : shipL s.lines e = s.lines.set (lbI s.lines e.item) (turnL p 3 (p.shipped + e.qty)) := by unfold shipL; rw [hp]; rfl
  obtain ⟨LB, hLB⟩ : ∃ LB, lbI s.lines e.item = LB := ⟨_, rfl⟩
  rw [hLB] at g1 hsl
  have hlen := ho.len
  obtain ⟨g, rfl, hnc, hcm, hfz, hglt⟩ := ho.block g1
  obtain ⟨W, hW, H⟩ := s3_new x base s e _ ho
  have HS : Hid (S3 x base (.slice (some ⟨g, 0, none⟩) n cap) s e (.slice (some ⟨g, 0, none⟩) n cap) W) := H
  have c5 := H.st.cell 5 (.slice (some ⟨g, 0, none⟩) n cap) rfl
  have d2 := H.ev.cell 2 (.int .i64 e.item) rfl
  have hLn : LB < n := by have := ln_lt g1; omega
  have hn16 : n ≤ 16 := by omega
  have HF : Hid (lbI s.lines e.item = LB ∧ lnAt s.lines e.item = some p) := ⟨hLB, hp⟩
  have HN : Hid (s.lines.length = n) := hlen
  have HRI : Hid (linesFrom (-1) s.lines = true) := hrise
  have HG1 : Hid (s.lines[LB]? = some p) := g1
  have b1 : 0 ≤ p.shipped := by omega
  have b2 : p.shipped ≤ 100000 := by omega
  have b3 : e.qty ≤ 100000 := by omega
  obtain ⟨s1, hs1⟩ : ∃ s1 : St, { s with lines := s.lines.set LB (turnL p 3 (p.shipped + e.qty)) } = s1 := ⟨_, rfl⟩
  have HS1 : Hid ({ s with lines := s.lines.set LB (turnL p 3 (p.shipped + e.qty)) } = s1) := hs1
  have HN1 : Hid (s1.lines.length = n) := by show s1.lines.length = n; rw [← hs1]; simpa using hlen
  have hP : shipS s e = { s1 with status := if wholeB s1.lines = true then 4 else s1.status } := by unfold shipS; rw [hsl, ← hs1]
  obtain ⟨P, hPP⟩ : ∃ P, wholeB s1.lines = P := ⟨_, rfl⟩
  have HP : Hid (wholeB s1.lines = P) := hPP
  rw [hP, hPP]
  have hmx : n ≤ maxLen := by unfold maxLen; omega
  clear H ho hb v hr hk hst hrf hs1 hlen hP hPP hp hq g1 g2 h16 hrise fp hsl hLB hcm hfz hglt
  cases P
  · rw [if_neg (by simp)]
    go_enter Tryz.func59, Tryz.ntmps59
    go_wp2_with (first
      | (go_at_call 91; refine (find_any s.lines _ n cap e.item _ HN.out (ownl_lns HS.out.row) hn16 HRI.out).mono ?_; rw [HF.out.1, HF.out.2]; rintro _ y1 ⟨rfl, hb1⟩; have h2 : S3 x base (.slice (some ⟨g, 0, none⟩) n cap) s e (.slice (some ⟨g, 0, none⟩) n cap) y1 := HS.out.keep hb1; have c5' := h2.st.cell 5 (.slice (some ⟨g, 0, none⟩) n cap) rfl; have d3' := h2.ev.cell 3 (.int .i64 e.qty) rfl; obtain ⟨k0, k1, k2, k3⟩ := h2.row.cells HG1.out; have kf := frozen_own h2.row (LB * 4 + 3); have HS2 : Hid (S3 x base (.slice (some ⟨g, 0, none⟩) n cap) s e (.slice (some ⟨g, 0, none⟩) n cap) y1) := h2; clear hb1 h2))
    go_region
    all_goals
      have h3 : S3 x base (.slice (some ⟨g, 0, none⟩) n cap) s1 e (.slice (some ⟨g, 0, none⟩) n cap) (y1.drew.setCell ⟨g, LB * 4 + 3, none⟩ (.int .i64 (p.shipped + e.qty))) := HS1.out ▸ (HS2.out.drew.turn LB 3 p (p.shipped + e.qty) HG1.out (by omega) (.inl rfl))
      have HS3 : Hid (S3 x base (.slice (some ⟨g, 0, none⟩) n cap) s1 e (.slice (some ⟨g, 0, none⟩) n cap) (y1.drew.setCell ⟨g, LB * 4 + 3, none⟩ (.int .i64 (p.shipped + e.qty)))) := h3
      clear h3
      go_wp2_with (first
        | (go_at_call 74; refine (whole_any s1 _ n cap _ HN1.out (ownl_lns HS3.out.row) hmx).mono ?_; rw [HP.out]; rintro _ y2 ⟨rfl, hb2⟩; have HS5 : Hid (S3 x base (.slice (some ⟨g, 0, none⟩) n cap) s1 e (.slice (some ⟨g, 0, none⟩) n cap) y2) := HS3.out.keep hb2; clear hb2)
        | ((with_reducible refine guard_load 25 ?_); first | refine wpList_load_st rfl _ rfl HS5.out.st rfl ?_ | refine wpList_load_st rfl _ rfl HS3.out.st rfl ?_)
        | ((with_reducible refine guard_store 25 ?_); refine wpList_store_st (s := zeroS) (s2 := s1) (a2 := some ⟨g, 0, none⟩) (n2 := n) (c2 := cap) rfl _ _ rfl HS5.out.res rfl rfl ?_; intro y z1 z2 z3 z4))
      have HZ := HS5.out.done z3 z2
      exact bodyPost_ret (results_st1 rfl _ _ _ rfl z1) rfl ⟨_, n, cap, rfl, HZ.1, HZ.2⟩
  · rw [if_pos rfl]
    go_enter Tryz.func59, Tryz.ntmps59
    go_wp2_with (first
      | (go_at_call 91; refine (find_any s.lines _ n cap e.item _ HN.out (ownl_lns HS.out.row) hn16 HRI.out).mono ?_; rw [HF.out.1, HF.out.2]; rintro _ y1 ⟨rfl, hb1⟩; have h2 : S3 x base (.slice (some ⟨g, 0, none⟩) n cap) s e (.slice (some ⟨g, 0, none⟩) n cap) y1 := HS.out.keep hb1; have c5' := h2.st.cell 5 (.slice (some ⟨g, 0, none⟩) n cap) rfl; have d3' := h2.ev.cell 3 (.int .i64 e.qty) rfl; obtain ⟨k0, k1, k2, k3⟩ := h2.row.cells HG1.out; have kf := frozen_own h2.row (LB * 4 + 3); have HS2 : Hid (S3 x base (.slice (some ⟨g, 0, none⟩) n cap) s e (.slice (some ⟨g, 0, none⟩) n cap) y1) := h2; clear hb1 h2))
    go_region
    all_goals
      have h3 : S3 x base (.slice (some ⟨g, 0, none⟩) n cap) s1 e (.slice (some ⟨g, 0, none⟩) n cap) (y1.drew.setCell ⟨g, LB * 4 + 3, none⟩ (.int .i64 (p.shipped + e.qty))) := HS1.out ▸ (HS2.out.drew.turn LB 3 p (p.shipped + e.qty) HG1.out (by omega) (.inl rfl))
      have HS3 : Hid (S3 x base (.slice (some ⟨g, 0, none⟩) n cap) s1 e (.slice (some ⟨g, 0, none⟩) n cap) (y1.drew.setCell ⟨g, LB * 4 + 3, none⟩ (.int .i64 (p.shipped + e.qty)))) := h3
      clear h3
      go_wp2_with (first
        | (go_at_call 74; refine (whole_any s1 _ n cap _ HN1.out (ownl_lns HS3.out.row) hmx).mono ?_; rw [HP.out]; rintro _ y2 ⟨rfl, hb2⟩; have h5 : S3 x base (.slice (some ⟨g, 0, none⟩) n cap) s1 e (.slice (some ⟨g, 0, none⟩) n cap) y2 := HS3.out.keep hb2; have q1 := h5.st.cell 1 (.int .i64 s1.status) rfl; have q2 := h5.froz 1; have HS5 : Hid (S3 x base (.slice (some ⟨g, 0, none⟩) n cap) { s1 with status := 4 } e (.slice (some ⟨g, 0, none⟩) n cap) (y2.setCell ⟨x.heap.size, 1, none⟩ (.int .i64 4))) := h5.set 1 _ rfl rfl; clear hb2 h5)
        | ((with_reducible refine guard_load 25 ?_); first | refine wpList_load_st rfl _ rfl HS5.out.st rfl ?_ | refine wpList_load_st rfl _ rfl HS3.out.st rfl ?_)
        | ((with_reducible refine guard_store 25 ?_); refine wpList_store_st (s := zeroS) (s2 := { s1 with status := 4 }) (a2 := some ⟨g, 0, none⟩) (n2 := n) (c2 := cap) rfl _ _ rfl HS5.out.res rfl rfl ?_; intro y z1 z2 z3 z4))
      have HZ := HS5.out.done z3 z2
      exact bodyPost_ret (results_st1 rfl _ _ _ rfl z1) rfl ⟨_, n, cap, rfl, HZ.1, HZ.2⟩
end Go.Proofs.YtblfmfanfpohbaaGreat
namespace Go.Proofs.YtblfmfanfpohbaaGreat
open Go.ChangeShapes Go.WideShapes Go.ChangeAt Go.RowKit
set_option linter.unusedVariables false
set_option linter.unusedSimpArgs false
theorem grown_below {w w' : World} {B : Nat} {ob : Option Nat} (h : w.grownBy w' ob) (hB : B ≤ w.heap.size) (ho : ∀ k, ob = some k → B ≤ k) : Below B w w' := (Below.refl _ _).grown h hB ho
set_option maxRecDepth 20000 in
set_option maxHeartbeats 1000000 in
theorem lnclone_any (L : List Ln) (a : Option Addr) (n cap : Nat) (w : World) (hn : L.length = n) (hl : Lns w a L) (hm : n * 32 ≤ 140737488351232) :
    Calls Tryz.prog 21 #[.slice a n cap] w fun r w' => ∃ a' c', r = .returned (.slice a' n c') ∧ OwnL w' w.heap.size (.slice a' n c') L ∧ Below w.heap.size w w' := by
  cases a with
  | none =>
    have hL : L = [] := by
      rcases hl with h | ⟨b, off, h, _⟩
      · exact h
      · cases h
    subst hL
    have hn0 : n = 0 := by simpa using hn.symm
    subst hn0
    clear hn hl hm
    have he := fun (y : World) => Lib.run_eql_slice_nil (P := Tryz.prog) y 23 44 none 0 cap 0 0 Tryz.underlying23
    go_enter Tryz.func21, Tryz.ntmps21
    go_wp2
    go_ret
    exact ⟨none, 0, rfl, OwnL.nil _ _, Below.refl _ _⟩
  | some ad =>
    obtain ⟨i0, hi, hz0, hz1, hz2⟩ := info_parts Tryz.infoLn
    have HN : Hid (L.length = n) := hn
    obtain ⟨W, hW⟩ : ∃ W, w.alloc (.cells #[] 44) = W := ⟨_, rfl⟩
    have hbW : Below w.heap.size w W := by rw [← hW]; exact (Below.refl _ _).alloc (Nat.le_refl _) _
    have hWs : w.heap.size ≤ W.heap.size := hbW.size
    have HOW : Hid (W.ownsRow w.heap.size 44 4 (.slice (some ⟨w.heap.size, 0, none⟩) 0 0) 0 []) := by rw [← hW]; exact OwnL.lit w
    have HBW : Hid (Below w.heap.size w W) := hbW
    have HNEW : Hid (∀ j u, (lfl L)[j]? = some u → W.cell? (ad.add j) = some u) := by
      intro j u hu
      have hl2 := hl.keep hbW
      rcases hl2 with h | ⟨b, off, h, _, h3⟩
      · subst h; simp [lfl] at hu
      · cases h
        have hj : j < L.length * 4 := by rw [← lfl_length]; exact ln_lt hu
        rw [Addr.add_lit]
        exact (h3 j hj).trans hu
    clear hn hl hbW
    have he := fun (y : World) => Lib.run_eql_slice_nil (P := Tryz.prog) y 23 44 (some ad) n cap 0 0 Tryz.underlying23
    go_enter Tryz.func21, Tryz.ntmps21
    go_wp2_with (at_builtin; refine wpList_append_own _ rfl _ _ 23 rfl w.heap.size 44 i0 _ 4 32 Tryz.underlying23 hi hz0 hz1 hz2 rfl (by decide) (.slice (some ⟨w.heap.size, 0, none⟩) 0 0) 0 [] rfl HOW.out ad n cap (lfl L) rfl (by rw [lfl_length, HN.out]) HNEW.out (lfl_one L) (by unfold maxLen; omega) (by omega) (by omega) ?_; intro v4 w4 ho4 hg4 hi4; have HO4 : Hid (OwnL w4 w.heap.size v4 L) := (show OwnL w4 w.heap.size v4 L from by unfold OwnL; rw [HN.out]; simpa using ho4); have HB4 : Hid (Below w.heap.size w w4) := HBW.out.trans (grown_below hg4 (by omega) (fun k hk => by simp [Value.ownBlock] at hk; omega)); clear ho4 hg4 hi4)
    go_ret
    obtain ⟨a4, c4, rfl, _⟩ := HO4.out.shape
    rw [HN.out] at HO4 ⊢
    exact ⟨a4, c4, rfl, HO4.out, HB4.out⟩
end Go.Proofs.YtblfmfanfpohbaaGreat
namespace Go.Proofs.YtblfmfanfpohbaaGreat
open Go.ChangeShapes Go.WideShapes Go.ChangeAt Go.RowKit
set_option linter.unusedVariables false
set_option linter.unusedSimpArgs false
theorem clr_len (L : List Ln) : (clrL L).length = L.length := by simp [clrL]
theorem clr_at {L : List Ln} {k : Nat} {p : Ln} (hp : L[k]? = some p) : (clrL (L.take k) ++ L.drop k)[k]? = some p := by
  have hk := ln_lt hp
  rw [List.getElem?_append_right (by rw [clr_len, List.length_take]; omega), clr_len, List.length_take, Nat.min_eq_left (by omega), Nat.sub_self, ln_drop L k p hp]
  rfl
theorem clr_step {L : List Ln} {k : Nat} {p : Ln} (hp : L[k]? = some p) : (clrL (L.take k) ++ L.drop k).set k (turnL p 3 p.qty) = clrL (L.take (k + 1)) ++ L.drop (k + 1) := by
  have hk := ln_lt hp
  rw [List.set_append_right _ _ (by rw [clr_len, List.length_take]; omega), clr_len, List.length_take, Nat.min_eq_left (by omega), Nat.sub_self, ln_drop L k p hp, ln_take L k p hp]
  simp [clrL, turnL]
set_option maxRecDepth 20000 in
set_option maxHeartbeats 4000000 in
theorem do_clearUp : DoOk 68 10 := by
  refine ⟨cf_clearUp, fun x base s e a n cap ho hb v hr hk hst hrf => ?_⟩
  rw [show doS s e = { s with lines := clrL s.lines, status := 4 } from by unfold doS; rw [if_neg (by omega), if_neg (by omega), if_neg (by omega), if_neg (by omega), if_neg (by omega), if_neg (by omega), if_neg (by omega), if_neg (by omega), if_neg (by omega)]]
  obtain ⟨h16, hrise⟩ := linesB_from v.lines
  have hlen := ho.len
  have hn16 : n ≤ 16 := by omega
  obtain ⟨W, hW, H⟩ := s3_new x base s e _ ho
  have HS : Hid (S3 x base (.slice a n cap) s e (.slice a n cap) W) := H
  have c5 := H.st.cell 5 (.slice a n cap) rfl
  have HN : Hid (s.lines.length = n) := hlen
  clear H ho hb v hr hk hst hrf hlen h16 hrise
  go_enter Tryz.func68, Tryz.ntmps68
  go_wp2
  go_loopw [10] (fun vi wr => ∃ (k : Nat), k ≤ n ∧ vi = .int .i64 k ∧ Hid (S3 x base (.slice a n cap) { s with lines := clrL (s.lines.take k) ++ s.lines.drop k } e (.slice a n cap) wr)) (fun vi _ => n - (intOf vi).toNat)
  case atStart => exact ⟨0, Nat.zero_le _, rfl, HS.out⟩
  case round =>
    clear HS c5 hW
    obtain ⟨k, hk, rfl, HI⟩ := hrel
    by_cases hkn : k < n
    · obtain ⟨p, hp⟩ := ln_get (L := s.lines) (k := k) (by rw [HN.out]; exact hkn)
      have hat := clr_at hp
      have hstep := clr_step hp
      obtain ⟨g, rfl, _⟩ := HI.out.row.block hat
      have kf := HI.out.row.cells hat
      obtain ⟨k0, k1, k2, k3⟩ := kf
      have HAL : Hid (S3 x base (.slice (some ⟨g, 0, none⟩) n cap) { s with lines := clrL (s.lines.take k) ++ s.lines.drop k } e (.slice (some ⟨g, 0, none⟩) n cap) (wr.alloc (.cells #[.int .i64 p.item, .int .i64 p.price, .int .i64 p.qty, .int .i64 p.shipped] 44))) := HI.out.keep ((Below.refl _ _).alloc (Nat.le_refl _) _)
      have q5 := HAL.out.st.cell 5 (.slice (some ⟨g, 0, none⟩) n cap) rfl
      obtain ⟨m0, m1, m2, m3⟩ := HAL.out.row.cells hat
      have mf := frozen_own HAL.out.row (k * 4 + 3)
      have HT : Hid (S3 x base (.slice (some ⟨g, 0, none⟩) n cap) { s with lines := clrL (s.lines.take (k + 1)) ++ s.lines.drop (k + 1) } e (.slice (some ⟨g, 0, none⟩) n cap) ((wr.setCell ⟨g, k * 4 + 3, none⟩ (.int .i64 p.qty)).alloc (.cells #[.int .i64 p.item, .int .i64 p.price, .int .i64 p.qty, .int .i64 p.shipped] 44))) := by
        have h := HI.out.turn k 3 p p.qty hat (by omega) (.inl rfl)
        simp only [hstep] at h
        exact h.keep ((Below.refl _ _).alloc (Nat.le_refl _) _)
      have hgl : g < wr.heap.size := by
        obtain ⟨_, h, _⟩ := HI.out.row.ob g rfl
        exact h
      have hgn : ¬ g = wr.heap.size := by omega
      have hgn2 : ¬ wr.heap.size = g := by omega
      clear hp hat hstep hgl
      go_wp2
      go_roundw
      case rel => exact ⟨k + 1, by omega, by go_num, HT.out⟩
      case measure => simp [intOf]; omega
    · obtain rfl : k = n := by omega
      have hI : S3 x base (.slice a k cap) { s with lines := clrL s.lines } e (.slice a k cap) wr := by
        have h := HI.out
        rw [List.take_of_length_le (by rw [HN.out]; exact Nat.le_refl _), List.drop_eq_nil_of_le (by rw [HN.out]; exact Nat.le_refl _), List.append_nil] at h
        exact h
      have q1 := hI.st.cell 1 (.int .i64 s.status) rfl
      have q2 := hI.froz 1
      have HS5 : Hid (S3 x base (.slice a k cap) { s with lines := clrL s.lines, status := 4 } e (.slice a k cap) (wr.setCell ⟨x.heap.size, 1, none⟩ (.int .i64 4))) := hI.set 1 _ rfl rfl
      clear hI
      go_wp2_with (first
        | ((with_reducible refine guard_load 25 ?_); refine wpList_load_st rfl _ rfl HS5.out.st rfl ?_)
        | ((with_reducible refine guard_store 25 ?_); refine wpList_store_st (s := zeroS) (s2 := { s with lines := clrL s.lines, status := 4 }) (a2 := a) (n2 := k) (c2 := cap) rfl _ _ rfl HS5.out.res rfl rfl ?_; intro y z1 z2 z3 z4))
      have HZ := HS5.out.done z3 z2
      exact bodyPost_ret (results_st1 rfl _ _ _ rfl z1) rfl ⟨_, k, cap, rfl, HZ.1, HZ.2⟩
end Go.Proofs.YtblfmfanfpohbaaGreat
