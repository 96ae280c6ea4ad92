/- daybookref16.Copy. -/
import Derived.Test.YtoneaannbmkeiaaDoorMf7
import Derived.Deep.RegionLaw
import Derived.Deep.AppendLies
namespace Go.Proofs.YtoneaannbmkeiaaDoor
open Go.ChangeShapes Go.WideShapes Go.ChangeAt Go.RowKit
set_option linter.unusedVariables false
theorem row_blkM {w : World} {base : Nat} {e : TypeId} {size : Nat} {v : Value} {n : Nat} {xs : List Value} (h : w.ownsRow base e size v n xs) {g : Nat} (hg : v.ownBlock = some g) : base ≤ g ∧ ∃ c, w.heap[g]? = some (.cells c e) := by
  rcases h.2 with ⟨rfl, _⟩ | ⟨g2, cap, cur, rfl, h4, h5, h6⟩
  · simp [Value.ownBlock] at hg
  · have : g2 = g := by simpa [Value.ownBlock] using hg
    subst this
    exact ⟨h4, _, h5⟩
theorem MfAt.froz {w : World} {b : Nat} {s : Mf} {v : Value} (h : MfAt w b s v) (j : Nat) : w.frozen? ⟨b, j, none⟩ = false := frozen_of_row _ _ j _ _ h
theorem OwnSm.monoM {w : World} {b b' : Nat} {v : Value} {L : List Sm} (h : OwnSm w b v L) (hb : b' ≤ b) : OwnSm w b' v L := World.ownsRow.mono h hb
/-- while a manifest is copied -/
structure Cpm (w wr : World) (s : Mf) (v v0 : Value) (L : List Sm) : Prop where
  src : MfAt wr w.heap.size s v
  res : MfAt wr (w.heap.size + 1) zeroM (.slice none 0 0)
  tmp : MfAt wr (w.heap.size + 1 + 1) s v0
  row : OwnSm wr (w.heap.size + 3) v0 L
  bel : Below w.heap.size w wr
theorem MfAt.set5M {w : World} {b : Nat} {s : Mf} {v : Value} (h : MfAt w b s v) (v2 : Value) : MfAt (w.setCell ⟨b, 5, none⟩ v2) b s v2 := by
  unfold MfAt at h ⊢
  rw [heap_setCell_same w b 5 _ _ _ h]
  rfl
theorem Cpm.grow {w wr w4 : World} {s : Mf} {v v0 : Value} {L : List Sm} {p : Sm} {g c : Nat} (h : Cpm w wr s v v0 L) (ho : w4.ownsRow (w.heap.size + 3) 43 4 (.slice (some ⟨g, 0, none⟩) (L.length + 1) c) (L.length + 1) (sfl L ++ [.int .i64 p.num, .int .i64 p.first, .int .i64 p.count, .int .i64 p.foot]))
    (hg : (wr.drew.alloc (.cells #[.int .i64 p.num, .int .i64 p.first, .int .i64 p.count, .int .i64 p.foot] 43)).grownBy w4 v0.ownBlock) : Cpm w (w4.setCell ⟨w.heap.size + 1 + 1, 5, none⟩ (.slice (some ⟨g, 0, none⟩) (L.length + 1) c)) s v (.slice (some ⟨g, 0, none⟩) (L.length + 1) c) (L ++ [p]) ∧ MfAt w4 (w.heap.size + 1 + 1) s v0 := by
  have hB : Below wr.heap.size wr (wr.drew.alloc (.cells #[.int .i64 p.num, .int .i64 p.first, .int .i64 p.count, .int .i64 p.foot] 43)) := (Below.refl _ _).drew.alloc (Nat.le_refl _) _
  have hlt := h.tmp.lt
  have key : ∀ k, k < w.heap.size + 3 → w4.heap[k]? = wr.heap[k]? := by
    intro k hk
    have h1 : w4.heap[k]? = (wr.drew.alloc (.cells #[.int .i64 p.num, .int .i64 p.first, .int .i64 p.count, .int .i64 p.foot] 43)).heap[k]? := hg.block k (by have := hB.size; omega) (fun hv => by
      have := (row_blkM (OwnSm.keep h.row hB) hv.symm).1; omega)
    exact h1.trans (hB.block k (by omega))
  have t4 : MfAt w4 (w.heap.size + 1 + 1) s v0 := (key _ (by omega)).trans h.tmp
  refine ⟨⟨?_, ?_, t4.set5M _, ?_, ?_⟩, t4⟩
  · exact (heap_setCell_other w4 ⟨w.heap.size + 1 + 1, 5, none⟩ w.heap.size _ (by show w.heap.size ≠ w.heap.size + 1 + 1; omega)).trans ((key _ (by omega)).trans h.src)
  · exact (heap_setCell_other w4 ⟨w.heap.size + 1 + 1, 5, none⟩ (w.heap.size + 1) _ (by show w.heap.size + 1 ≠ w.heap.size + 1 + 1; omega)).trans ((key _ (by omega)).trans h.res)
  · exact OwnSm.otherM (OwnSm.snoc rfl ho) (k := w.heap.size + 1 + 1) (by omega) (fun j hj => heap_setCell_other w4 ⟨w.heap.size + 1 + 1, 5, none⟩ j _ hj)
  · have hb1 : Below w.heap.size w (wr.drew.alloc (.cells #[.int .i64 p.num, .int .i64 p.first, .int .i64 p.count, .int .i64 p.foot] 43)) := h.bel.drew.alloc h.bel.size _
    have hb2 : Below w.heap.size w w4 := hb1.grown hg (by have := hB.size; have := h.bel.size; omega) (fun k hk => by have := (row_blkM (OwnSm.keep h.row hB) hk).1; omega)
    exact hb2.setCell (p := ⟨w.heap.size + 1 + 1, 5, none⟩) (by show w.heap.size ≤ w.heap.size + 1 + 1; omega) _
theorem three_mf (w : World) (s : Mf) (v : Value) : ∃ W, ((w.alloc (.cells (mfA s v) 24)).alloc (.cells (mfA zeroM (.slice none 0 0)) 24)).alloc (.cells (mfA zeroM (.slice none 0 0)) 24) = W ∧ MfAt W w.heap.size s v ∧ MfAt W (w.heap.size + 1) zeroM (.slice none 0 0) ∧ MfAt W (w.heap.size + 1 + 1) zeroM (.slice none 0 0) ∧ Below w.heap.size w W ∧ W.heap.size = w.heap.size + 3 := by
  refine ⟨_, rfl, ?_, ?_, ?_, (((Below.refl _ _).alloc (Nat.le_refl _) _).alloc (by simp) _).alloc (by simp; omega) _, by simp⟩
  · exact ((MfAt.new w s v).after ((Below.refl _ _).alloc (Nat.le_refl _) _)).after ((Below.refl _ _).alloc (Nat.le_refl _) _)
  · have := (MfAt.new (w.alloc (.cells (mfA s v) 24)) zeroM (.slice none 0 0)).after ((Below.refl _ _).alloc (Nat.le_refl _) (.cells (mfA zeroM (.slice none 0 0)) 24))
    simpa using this
  · have := MfAt.new ((w.alloc (.cells (mfA s v) 24)).alloc (.cells (mfA zeroM (.slice none 0 0)) 24)) zeroM (.slice none 0 0)
    simpa using this
theorem Cpm.start {w x1 : World} {s : Mf} {v : Value} (h1 : MfAt x1 w.heap.size s v) (h2 : MfAt x1 (w.heap.size + 1) zeroM (.slice none 0 0)) (h3 : MfAt x1 (w.heap.size + 1 + 1) s v) (hb : Below w.heap.size w x1) (hs : x1.heap.size = w.heap.size + 3) :
    Cpm w ((x1.alloc (.cells #[] 43)).setCell ⟨w.heap.size + 1 + 1, 5, none⟩ (.slice (some ⟨x1.heap.size, 0, none⟩) 0 0)) s v (.slice (some ⟨x1.heap.size, 0, none⟩) 0 0) [] ∧ (x1.alloc (.cells #[] 43)).frozen? ⟨w.heap.size + 1 + 1, 5, none⟩ = false ∧ (x1.alloc (.cells #[] 43)).cell? ⟨w.heap.size + 1 + 1, 5, none⟩ = some v := by
  have hB : Below x1.heap.size x1 (x1.alloc (.cells #[] 43)) := (Below.refl _ _).alloc (Nat.le_refl _) _
  have k3 := h3.after hB
  refine ⟨⟨?_, ?_, k3.set5M _, ?_, ?_⟩, k3.froz 5, k3.cell 5 _ rfl⟩
  · exact (heap_setCell_other _ ⟨w.heap.size + 1 + 1, 5, none⟩ w.heap.size _ (by show w.heap.size ≠ w.heap.size + 1 + 1; omega)).trans (h1.after hB)
  · exact (heap_setCell_other _ ⟨w.heap.size + 1 + 1, 5, none⟩ (w.heap.size + 1) _ (by show w.heap.size + 1 ≠ w.heap.size + 1 + 1; omega)).trans (h2.after hB)
  · exact (OwnSm.otherM (OwnSm.lit x1) (k := w.heap.size + 1 + 1) (by omega) (fun j hj => heap_setCell_other _ ⟨w.heap.size + 1 + 1, 5, none⟩ j _ hj)).monoM (by omega)
  · exact (hb.alloc hb.size _).setCell (p := ⟨w.heap.size + 1 + 1, 5, none⟩) (by show w.heap.size ≤ w.heap.size + 1 + 1; omega) _
set_option maxRecDepth 20000 in
set_option maxHeartbeats 4000000 in
theorem mcopy_any (s : Mf) (a : Option Addr) (n cap : Nat) (w : World) (hn : s.segs.length = n) (hl : Sms w a s.segs) (hm : n * 32 ≤ 140737488351232) :
    Calls Tryd.prog 7 #[MfV s (.slice a n cap)] w fun r w' => ∃ v', r = .returned (MfV s v') ∧ OwnSm w' w.heap.size v' s.segs ∧ Below w.heap.size w w' := by
  obtain ⟨i0, hi, hz0, hz1, hz2⟩ := info_parts Tryd.infoSm
  have HN : Hid (s.segs.length = n) := hn
  have HL : Hid (Sms w a s.segs) := hl
  obtain ⟨W, hW, t1, t2, t3, t4, t5⟩ := three_mf w s (.slice a n cap)
  have hW2 : ((w.alloc (.cells (mfA s (.slice a n cap)) 24)).alloc (.cells #[.int .i64 0, .int .i64 0, .int .i64 0, .int .i64 0, .int .i64 0, .slice none 0 0] 24)).alloc (.cells #[.int .i64 0, .int .i64 0, .int .i64 0, .int .i64 0, .int .i64 0, .slice none 0 0] 24) = W := hW
  have HS0 : Hid (MfAt ((w.alloc (.cells (mfA s (.slice a n cap)) 24)).alloc (.cells (mfA zeroM (.slice none 0 0)) 24)) w.heap.size s (.slice a n cap)) := (MfAt.new w s _).after ((Below.refl _ _).alloc (Nat.le_refl _) _)
  have H1 : Hid (MfAt W w.heap.size s (.slice a n cap)) := t1
  have H2 : Hid (MfAt W (w.heap.size + 1) zeroM (.slice none 0 0)) := t2
  have H3 : Hid (MfAt W (w.heap.size + 1 + 1) zeroM (.slice none 0 0)) := t3
  have H4 : Hid (Below w.heap.size w W) := t4
  have H5 : Hid (W.heap.size = w.heap.size + 3) := t5
  clear hn hl hW t1 t2 t3 t4 t5
  go_enter Tryd.func7, Tryd.ntmps7
  go_wp2_with (first
    | ((with_reducible refine frm_load 24 ?_); refine wpList_load_mf rfl _ rfl HS0.out rfl ?_)
    | ((with_reducible refine frm_store 24 ?_); refine wpList_store_mf (m := zeroM) (m2 := s) rfl _ _ rfl rfl H3.out rfl rfl ?_; intro x1 z1 z2 z3 z4; obtain ⟨hc0, f5, c5⟩ := Cpm.start (w := w) (s := s) ((z3 _ (by omega)).trans H1.out) ((z3 _ (by omega)).trans H2.out) z1 (z2 _ _ H4.out (by omega)) (z4.trans H5.out); have HC0 : Hid (Cpm w ((x1.alloc (.cells #[] 43)).setCell ⟨w.heap.size + 1 + 1, 5, none⟩ (.slice (some ⟨x1.heap.size, 0, none⟩) 0 0)) s (.slice a n cap) (.slice (some ⟨x1.heap.size, 0, none⟩) 0 0) []) := hc0; have s5 := hc0.src.cell 5 (.slice a n cap) rfl; clear z1 z2 z3 z4 hc0))
  go_loopw [11] (fun vi wr => ∃ (k gc : Nat) (ga : Option Addr), k ≤ n ∧ vi = .int .i64 k ∧ Hid (Cpm w wr s (.slice a n cap) (.slice ga k gc) (s.segs.take k))) (fun vi _ => n - (intOf vi).toNat)
  case atStart => exact ⟨0, 0, _, Nat.zero_le _, rfl, by rw [List.take_zero]; exact HC0.out⟩
  case round =>
    clear HC0 s5 f5 c5 hW2 HS0 H1 H2 H3 H4 H5
    obtain ⟨k, gc, ga, hk, rfl, HI⟩ := hrel
    by_cases hkn : k < n
    · obtain ⟨p, hp⟩ := sm_get (L := s.segs) (k := k) (by rw [HN.out]; exact hkn)
      obtain ⟨b, off, rfl, hlt, q0, q1, q2, q3⟩ := (HL.out.keep HI.out.bel).cells k p hp
      have HTK : Hid (s.segs.take (k + 1) = s.segs.take k ++ [p]) := sm_take _ _ _ hp
      have HTL : Hid ((s.segs.take k).length = k) := by show _ = _; rw [List.length_take, HN.out]; omega
      have hT := HI.out.tmp
      have c5 : wr.cell? ⟨w.heap.size + 1 + 1, 5, none⟩ = some (.slice ga k gc) := hT.cell 5 _ rfl
      have c5d : wr.drew.cell? ⟨w.heap.size + 1 + 1, 5, none⟩ = some (.slice ga k gc) := c5
      have c5a : (wr.drew.alloc (.cells #[.int .i64 p.num, .int .i64 p.first, .int .i64 p.count, .int .i64 p.foot] 43)).cell? ⟨w.heap.size + 1 + 1, 5, none⟩ = some (.slice ga k gc) := (hT.after ((Below.refl wr.heap.size wr).drew.alloc (Nat.le_refl _) (.cells #[.int .i64 p.num, .int .i64 p.first, .int .i64 p.count, .int .i64 p.foot] 43))).cell 5 _ rfl
      have c5b : (wr.alloc (.cells #[.int .i64 p.num, .int .i64 p.first, .int .i64 p.count, .int .i64 p.foot] 43)).cell? ⟨w.heap.size + 1 + 1, 5, none⟩ = some (.slice ga k gc) := c5a
      have s5 : wr.cell? ⟨w.heap.size, 5, none⟩ = some (.slice (some ⟨b, off, none⟩) n cap) := HI.out.src.cell 5 _ rfl
      have HO5 : Hid ((wr.drew.alloc (.cells #[.int .i64 p.num, .int .i64 p.first, .int .i64 p.count, .int .i64 p.foot] 43)).ownsRow (w.heap.size + 3) 43 4 (.slice ga k gc) k (sfl (s.segs.take k))) := by have h := OwnSm.keep HI.out.row ((Below.refl wr.heap.size wr).drew.alloc (Nat.le_refl _) (.cells #[.int .i64 p.num, .int .i64 p.first, .int .i64 p.count, .int .i64 p.foot] 43)); unfold OwnSm at h; rw [HTL.out] at h; exact h
      have HNW : Hid (∀ j u, [.int .i64 p.num, .int .i64 p.first, .int .i64 p.count, .int .i64 p.foot][j]? = some u → (wr.drew.alloc (.cells #[.int .i64 p.num, .int .i64 p.first, .int .i64 p.count, .int .i64 p.foot] 43)).cell? ((⟨wr.heap.size, 0, none⟩ : Addr).add j) = some u) := cell_newS wr.drew p
      have HBS : Hid (w.heap.size + 3 ≤ wr.heap.size) := hT.lt
      have hbI : ¬ w.heap.size + 1 + 1 = wr.heap.size := by have := HBS.out; omega
      have hbI2 : ¬ wr.heap.size = w.heap.size + 1 + 1 := by have := HBS.out; omega
      clear hp hT
      go_wp2
      go_region_law ((refine step_append_lies _ (by rfl) _ _ 22 (by rfl) (w.heap.size + 3) 43 i0 _ 4 32 Tryd.underlying22 hi hz0 hz1 hz2 rfl (by decide) (.slice ga k gc) k (sfl (s.segs.take k)) (by rfl) HO5.out ⟨wr.heap.size, 0, none⟩ 1 1 [.int .i64 p.num, .int .i64 p.first, .int .i64 p.count, .int .i64 p.foot] (by rfl) (by rfl) HNW.out (by intro u hu; simp only [List.mem_cons, List.not_mem_nil, or_false] at hu; rcases hu with rfl | rfl | rfl | rfl <;> rfl) (by omega) (by unfold maxLen; omega) (by omega) (by have := HBS.out; simp; omega) (wr.heap.size + 1) (by simp) ?_; intro g4 cap4 w4 ho4 hg4 hat4 hlt4; rw [show k + 1 = (s.segs.take k).length + 1 from (by rw [HTL.out])] at ho4; obtain ⟨hc4, ht4⟩ := HI.out.grow ho4 hg4; rw [HTL.out, ← HTK.out] at hc4; have d5 := ht4.cell 5 (.slice ga k gc) rfl; have d5f := ht4.froz 5; have HC4 : Hid (Cpm w (w4.setCell ⟨w.heap.size + 1 + 1, 5, none⟩ (.slice (some ⟨g4, 0, none⟩) (k + 1) cap4)) s (.slice (some ⟨b, off, none⟩) n cap) (.slice (some ⟨g4, 0, none⟩) (k + 1) cap4) (s.segs.take (k + 1))) := hc4; clear ho4 hg4 hat4 hlt4 hc4 ht4))
      all_goals go_wp2
      all_goals exact ⟨⟨k + 1, cap4, _, by omega, by go_num, HC4.out⟩, by simp [intOf]; omega⟩
    · obtain rfl : k = n := by omega
      have HCL : Hid (Cpm w wr s (.slice a k cap) (.slice ga k gc) s.segs) := by have h := HI.out; rw [List.take_of_length_le (by rw [HN.out]; exact Nat.le_refl _)] at h; exact h
      go_wp2_with (first
        | ((with_reducible refine frm_load 24 ?_); refine wpList_load_mf rfl _ rfl HCL.out.tmp rfl ?_)
        | ((with_reducible refine frm_store 24 ?_); refine wpList_store_mf (m := zeroM) (m2 := s) rfl _ _ rfl rfl HCL.out.res rfl rfl ?_; intro x8 z1 z2 z3 z4))
      exact bodyPost_ret (results_mf1 rfl _ _ _ rfl z1) rfl ⟨_, rfl, (OwnSm.otherM HCL.out.row (k := w.heap.size + 1) (by omega) z3).monoM (by omega), z2 _ _ HCL.out.bel (by omega)⟩
end Go.Proofs.YtoneaannbmkeiaaDoor
