/- Own texts, joined: Msr, Mfc, Mfo, CrcTie. -/
import Derived.Test.YtnfkdgjgglnniaaDoorK23
import Derived.Test.YtnfkdgjgglnniaaDoorK56
import Derived.Test.YtnfkdgjgglnniaaDoorK20
import Derived.Deep.RegionLaw
import Derived.Deep.AppendLies
import Derived.Test.YtnfkdgjgglnniaaDoorK06
import Derived.Deep.Slices
import Derived.ChangeSame
import Derived.SizedLaws
import Derived.ChangeSlices
import Derived.Test.YtnfkdgjgglnniaaDoorCards
import Derived.Test.YtnfkdgjgglnniaaDoorTie
import Derived.Test.YtnfkdgjgglnniaaDoorK01
import Derived.Deep.DeepHandedRow
import Derived.Lib.LaidTab
namespace Go.Proofs.YtnfkdgjgglnniaaDoor
open Go.ChangeShapes Go.WideShapes Go.ChangeAt Go.RowKit
set_option linter.unusedVariables false
/-- the disk A lies in y, and what is foreign to it is as it was in x -/
structure SvR (x y : World) (base q b : Nat) (A : Ak) (F : Nat → Prop) : Prop where
  d : DF y base q b A F
  k : ∀ j, F j → y.heap[j]? = x.heap[j]?
  b : Below base x y
theorem DF.lt {y : World} {base q b : Nat} {A : Ak} {F : Nat → Prop} (h : DF y base q b A F) (j : Nat) (hj : F j) : j < y.heap.size := by
  obtain ⟨D, _, _, h3⟩ := h; exact (h3 j hj).1
theorem DF.low2 {y : World} {base q b : Nat} {A : Ak} {F : Nat → Prop} (h : DF y base q b A F) : base ≤ y.heap.size := h.da.size
theorem SvR.start {x : World} {base q b : Nat} {A : Ak} {F : Nat → Prop} (h : DF x base q b A F) : SvR x x base q b A F := ⟨h, fun _ _ => rfl, Below.refl _ _⟩
theorem SvR.next {x y z : World} {base q b : Nat} {A : Ak} {F : Nat → Prop} (h : SvR x y base q b A F) (hb : Below y.heap.size y z) : SvR x z base q b A F :=
  ⟨h.d.keep hb, fun j hj => (hb.block j (h.d.lt j hj)).trans (h.k j hj), h.b.trans (hb.mono h.d.low2)⟩
theorem SvR.call {x y z : World} {base q b : Nat} {A A2 : Ak} {F : Nat → Prop} (h : SvR x y base q b A F) (r : DF z base q b A2 F ∧ (∀ k, F k → z.heap[k]? = y.heap[k]?) ∧ Below base y z) : SvR x z base q b A2 F :=
  ⟨r.1, fun j hj => (r.2.1 j hj).trans (h.k j hj), h.b.trans r.2.2⟩
theorem SvR.sub {x y : World} {base q b : Nat} {A : Ak} {F G : Nat → Prop} (h : SvR x y base q b A F) (hg : ∀ k, G k → F k) : SvR x y base q b A G :=
  ⟨h.d.sub hg, fun j hj => h.k j (hg j hj), h.b⟩
/-- from a world ahead, beside which only new blocks were made -/
theorem SvR.back {x0 x y : World} {base q b : Nat} {A : Ak} {F : Nat → Prop} (h : SvR x y base q b A F) (hb : Below x0.heap.size x0 x) (hF : ∀ k, F k → k < x0.heap.size) (h0 : base ≤ x0.heap.size) : SvR x0 y base q b A F :=
  ⟨h.d, fun j hj => (h.k j hj).trans (hb.block j (hF j hj)), (hb.mono h0).trans h.b⟩
/-- one foreign block was turned -/
theorem SvR.turn {x y z : World} {base q b c : Nat} {A : Ak} {F G : Nat → Prop} (h : SvR x y base q b A F) (hc : F c) (hg : ∀ k, G k → F k ∧ k ≠ c) (hcb : base ≤ c) (hs : z.heap.size = y.heap.size) (ht : ∀ k, k ≠ c → z.heap[k]? = y.heap[k]?) (hB : Below base x z) : SvR x z base q b A G :=
  ⟨(h.d.turn (by omega) (fun k _ hk => ht k (fun e => hk (by rw [e]; exact hc)))).sub (fun k hk => (hg k hk).1), fun j hj => (ht j (hg j hj).2).trans (h.k j (hg j hj).1), hB⟩
theorem results_mf3 {fn : Func} {p u s : Tmp} (h : fn.results = #[.cell p 24, .tmp u, .tmp s]) (tmps : Array Value) (w : World) (b : Nat) {m : Mf} {v : Value} (x y : Value) (hp : tmps.getD p undef = .pointer (some ⟨b, 0, none⟩)) (hx : tmps.getD u undef = x) (hy : tmps.getD s undef = y) (hl : MfAt w b m v) :
    (results fn tmps).run Tryd.prog w = .ok (.tuple #[MfV m v, x, y]) w := by
  simp only [Array.getD_eq_getD_getElem?] at hp hx hy
  simp [results, h, hp, hx, hy, asAddr, hl.loadVar]
theorem sms_at {w w' : World} {a : Option Addr} {L : List Sm} (h : Sms w a L) (hk : ∀ b off, a = some ⟨b, off, none⟩ → w'.heap[b]? = w.heap[b]? ∧ b < w'.heap.size) : Sms w' a L := by
  rcases h with h1 | ⟨b, off, h1, h2, h3⟩
  · exact .inl h1
  · refine .inr ⟨b, off, h1, (hk b off h1).2, fun j hj => ?_⟩
    rw [← h3 j hj]
    unfold World.cell?
    rw [(hk b off h1).1]
set_option maxRecDepth 20000 in
set_option maxHeartbeats 1000000 in
theorem first_own (w : World) : Calls Tryd.prog 7 #[] w fun e w' => ∃ g, e = .returned (MfV m1 (.slice (some ⟨g, 0, none⟩) 1 1)) ∧ Sms w' (some ⟨g, 0, none⟩) m1.segs ∧ w.heap.size ≤ g ∧ g < w'.heap.size ∧ Below w.heap.size w w' := by
  have HM0 : Hid (MfAt ((w.alloc (.cells (mfA zeroM (.slice none 0 0)) 24)).alloc (.cells #[.int .i64 1, .int .i64 1, .int .i64 0, .int .i64 0] 55)) w.heap.size zeroM (.slice none 0 0)) := (MfAt.new w zeroM _).after ((Below.refl _ _).alloc (Nat.le_refl _) _)
  go_enter Tryd.func7, Tryd.ntmps7
  go_wp2_with ((with_reducible refine frm_store 24 ?_); refine wpList_store_mf rfl _ _ rfl rfl HM0.out rfl (m2 := m1) (a2 := some ⟨w.heap.size + 1, 0, none⟩) (n2 := 1) (c2 := 1) rfl ?_; intro w3 hf3 ho3 hh3 hs3)
  (try simp only [Exit.inBlock, Exit.then])
  have hb : w3.heap[w.heap.size + 1]? = some (.cells #[.int .i64 1, .int .i64 1, .int .i64 0, .int .i64 0] 55) := by
    rw [hh3 _ (by omega)]
    have h := heap_alloc_new (w.alloc (.cells (mfA zeroM (.slice none 0 0)) 24)) (.cells #[.int .i64 1, .int .i64 1, .int .i64 0, .int .i64 0] 55)
    rw [World.size_alloc] at h
    exact h
  refine bodyPost_ret (results_mf1 rfl _ _ w.heap.size rfl hf3) rfl ⟨w.heap.size + 1, rfl, ?_, Nat.le_succ _, lt_of_heap hb, ho3 _ _ (((Below.refl _ _).alloc (Nat.le_refl _) _).alloc (by simp) _) (Nat.le_refl _)⟩
  refine .inr ⟨w.heap.size + 1, 0, rfl, lt_of_heap hb, fun j hj => ?_⟩
  rw [Nat.zero_add, cell_of_row _ _ j _ _ _ hb]
  simp [sfl]
end Go.Proofs.YtnfkdgjgglnniaaDoor
namespace Go.Proofs.YtnfkdgjgglnniaaDoor
open Go.ChangeShapes Go.WideShapes Go.ChangeAt Go.RowKit
set_option linter.unusedVariables false
theorem row_blkM {w : World} {base : Nat} {e : TypeId} {size : Nat} {v : Value} {n : Nat} {xs : List Value} (h : w.ownsRow base e size v n xs) {g : Nat} (hg : v.ownBlock = some g) : base ≤ g ∧ ∃ c, w.heap[g]? = some (.cells c e) := by
  rcases h.2 with ⟨rfl, _⟩ | ⟨g2, cap, cur, rfl, h4, h5, h6⟩
  · simp [Value.ownBlock] at hg
  · have : g2 = g := by simpa [Value.ownBlock] using hg
    subst this
    exact ⟨h4, _, h5⟩
theorem MfAt.froz {w : World} {b : Nat} {s : Mf} {v : Value} (h : MfAt w b s v) (j : Nat) : w.frozen? ⟨b, j, none⟩ = false := frozen_of_row _ _ j _ _ h
theorem OwnSm.monoM {w : World} {b b' : Nat} {v : Value} {L : List Sm} (h : OwnSm w b v L) (hb : b' ≤ b) : OwnSm w b' v L := World.ownsRow.mono h hb
/-- while a manifest is copied -/
structure Cpm (w wr : World) (s : Mf) (v v0 : Value) (L : List Sm) : Prop where
  src : MfAt wr w.heap.size s v
  res : MfAt wr (w.heap.size + 1) zeroM (.slice none 0 0)
  tmp : MfAt wr (w.heap.size + 1 + 1) s v0
  row : OwnSm wr (w.heap.size + 3) v0 L
  bel : Below w.heap.size w wr
theorem MfAt.set5M {w : World} {b : Nat} {s : Mf} {v : Value} (h : MfAt w b s v) (v2 : Value) : MfAt (w.setCell ⟨b, 5, none⟩ v2) b s v2 := by
  unfold MfAt at h ⊢
  rw [heap_setCell_same w b 5 _ _ _ h]
  rfl
theorem Cpm.grow {w wr w4 : World} {s : Mf} {v v0 : Value} {L : List Sm} {p : Sm} {g c : Nat} (h : Cpm w wr s v v0 L) (ho : w4.ownsRow (w.heap.size + 3) 55 4 (.slice (some ⟨g, 0, none⟩) (L.length + 1) c) (L.length + 1) (sfl L ++ [.int .i64 p.num, .int .i64 p.first, .int .i64 p.count, .int .i64 p.foot]))
    (hg : (wr.drew.alloc (.cells #[.int .i64 p.num, .int .i64 p.first, .int .i64 p.count, .int .i64 p.foot] 55)).grownBy w4 v0.ownBlock) : Cpm w (w4.setCell ⟨w.heap.size + 1 + 1, 5, none⟩ (.slice (some ⟨g, 0, none⟩) (L.length + 1) c)) s v (.slice (some ⟨g, 0, none⟩) (L.length + 1) c) (L ++ [p]) ∧ MfAt w4 (w.heap.size + 1 + 1) s v0 := by
  have hB : Below wr.heap.size wr (wr.drew.alloc (.cells #[.int .i64 p.num, .int .i64 p.first, .int .i64 p.count, .int .i64 p.foot] 55)) := (Below.refl _ _).drew.alloc (Nat.le_refl _) _
  have hlt := h.tmp.lt
  have key : ∀ k, k < w.heap.size + 3 → w4.heap[k]? = wr.heap[k]? := by
    intro k hk
    have h1 : w4.heap[k]? = (wr.drew.alloc (.cells #[.int .i64 p.num, .int .i64 p.first, .int .i64 p.count, .int .i64 p.foot] 55)).heap[k]? := hg.block k (by have := hB.size; omega) (fun hv => by
      have := (row_blkM (OwnSm.keep h.row hB) hv.symm).1; omega)
    exact h1.trans (hB.block k (by omega))
  have t4 : MfAt w4 (w.heap.size + 1 + 1) s v0 := (key _ (by omega)).trans h.tmp
  refine ⟨⟨?_, ?_, t4.set5M _, ?_, ?_⟩, t4⟩
  · exact (heap_setCell_other w4 ⟨w.heap.size + 1 + 1, 5, none⟩ w.heap.size _ (by show w.heap.size ≠ w.heap.size + 1 + 1; omega)).trans ((key _ (by omega)).trans h.src)
  · exact (heap_setCell_other w4 ⟨w.heap.size + 1 + 1, 5, none⟩ (w.heap.size + 1) _ (by show w.heap.size + 1 ≠ w.heap.size + 1 + 1; omega)).trans ((key _ (by omega)).trans h.res)
  · exact OwnSm.otherM (OwnSm.snoc rfl ho) (k := w.heap.size + 1 + 1) (by omega) (fun j hj => heap_setCell_other w4 ⟨w.heap.size + 1 + 1, 5, none⟩ j _ hj)
  · have hb1 : Below w.heap.size w (wr.drew.alloc (.cells #[.int .i64 p.num, .int .i64 p.first, .int .i64 p.count, .int .i64 p.foot] 55)) := h.bel.drew.alloc h.bel.size _
    have hb2 : Below w.heap.size w w4 := hb1.grown hg (by have := hB.size; have := h.bel.size; omega) (fun k hk => by have := (row_blkM (OwnSm.keep h.row hB) hk).1; omega)
    exact hb2.setCell (p := ⟨w.heap.size + 1 + 1, 5, none⟩) (by show w.heap.size ≤ w.heap.size + 1 + 1; omega) _
theorem three_mf (w : World) (s : Mf) (v : Value) : ∃ W, ((w.alloc (.cells (mfA s v) 24)).alloc (.cells (mfA zeroM (.slice none 0 0)) 24)).alloc (.cells (mfA zeroM (.slice none 0 0)) 24) = W ∧ MfAt W w.heap.size s v ∧ MfAt W (w.heap.size + 1) zeroM (.slice none 0 0) ∧ MfAt W (w.heap.size + 1 + 1) zeroM (.slice none 0 0) ∧ Below w.heap.size w W ∧ W.heap.size = w.heap.size + 3 := by
  refine ⟨_, rfl, ?_, ?_, ?_, (((Below.refl _ _).alloc (Nat.le_refl _) _).alloc (by simp) _).alloc (by simp; omega) _, by simp⟩
  · exact ((MfAt.new w s v).after ((Below.refl _ _).alloc (Nat.le_refl _) _)).after ((Below.refl _ _).alloc (Nat.le_refl _) _)
  · have := (MfAt.new (w.alloc (.cells (mfA s v) 24)) zeroM (.slice none 0 0)).after ((Below.refl _ _).alloc (Nat.le_refl _) (.cells (mfA zeroM (.slice none 0 0)) 24))
    simpa using this
  · have := MfAt.new ((w.alloc (.cells (mfA s v) 24)).alloc (.cells (mfA zeroM (.slice none 0 0)) 24)) zeroM (.slice none 0 0)
    simpa using this
theorem Cpm.start {w x1 : World} {s : Mf} {v : Value} (h1 : MfAt x1 w.heap.size s v) (h2 : MfAt x1 (w.heap.size + 1) zeroM (.slice none 0 0)) (h3 : MfAt x1 (w.heap.size + 1 + 1) s v) (hb : Below w.heap.size w x1) (hs : x1.heap.size = w.heap.size + 3) :
    Cpm w ((x1.alloc (.cells #[] 55)).setCell ⟨w.heap.size + 1 + 1, 5, none⟩ (.slice (some ⟨x1.heap.size, 0, none⟩) 0 0)) s v (.slice (some ⟨x1.heap.size, 0, none⟩) 0 0) [] ∧ (x1.alloc (.cells #[] 55)).frozen? ⟨w.heap.size + 1 + 1, 5, none⟩ = false ∧ (x1.alloc (.cells #[] 55)).cell? ⟨w.heap.size + 1 + 1, 5, none⟩ = some v := by
  have hB : Below x1.heap.size x1 (x1.alloc (.cells #[] 55)) := (Below.refl _ _).alloc (Nat.le_refl _) _
  have k3 := h3.after hB
  refine ⟨⟨?_, ?_, k3.set5M _, ?_, ?_⟩, k3.froz 5, k3.cell 5 _ rfl⟩
  · exact (heap_setCell_other _ ⟨w.heap.size + 1 + 1, 5, none⟩ w.heap.size _ (by show w.heap.size ≠ w.heap.size + 1 + 1; omega)).trans (h1.after hB)
  · exact (heap_setCell_other _ ⟨w.heap.size + 1 + 1, 5, none⟩ (w.heap.size + 1) _ (by show w.heap.size + 1 ≠ w.heap.size + 1 + 1; omega)).trans (h2.after hB)
  · exact (OwnSm.otherM (OwnSm.lit x1) (k := w.heap.size + 1 + 1) (by omega) (fun j hj => heap_setCell_other _ ⟨w.heap.size + 1 + 1, 5, none⟩ j _ hj)).monoM (by omega)
  · exact (hb.alloc hb.size _).setCell (p := ⟨w.heap.size + 1 + 1, 5, none⟩) (by show w.heap.size ≤ w.heap.size + 1 + 1; omega) _
set_option maxRecDepth 20000 in
set_option maxHeartbeats 4000000 in
theorem mcopy_any (s : Mf) (a : Option Addr) (n cap : Nat) (w : World) (hn : s.segs.length = n) (hl : Sms w a s.segs) (hm : n * 32 ≤ 140737488351232) :
    Calls Tryd.prog 9 #[MfV s (.slice a n cap)] w fun r w' => ∃ v', r = .returned (MfV s v') ∧ OwnSm w' w.heap.size v' s.segs ∧ Below w.heap.size w w' := by
  obtain ⟨i0, hi, hz0, hz1, hz2⟩ := info_parts Tryd.infoSm
  have HN : Hid (s.segs.length = n) := hn
  have HL : Hid (Sms w a s.segs) := hl
  obtain ⟨W, hW, t1, t2, t3, t4, t5⟩ := three_mf w s (.slice a n cap)
  have hW2 : ((w.alloc (.cells (mfA s (.slice a n cap)) 24)).alloc (.cells #[.int .i64 0, .int .i64 0, .int .i64 0, .int .i64 0, .int .i64 0, .slice none 0 0] 24)).alloc (.cells #[.int .i64 0, .int .i64 0, .int .i64 0, .int .i64 0, .int .i64 0, .slice none 0 0] 24) = W := hW
  have HS0 : Hid (MfAt ((w.alloc (.cells (mfA s (.slice a n cap)) 24)).alloc (.cells (mfA zeroM (.slice none 0 0)) 24)) w.heap.size s (.slice a n cap)) := (MfAt.new w s _).after ((Below.refl _ _).alloc (Nat.le_refl _) _)
  have H1 : Hid (MfAt W w.heap.size s (.slice a n cap)) := t1
  have H2 : Hid (MfAt W (w.heap.size + 1) zeroM (.slice none 0 0)) := t2
  have H3 : Hid (MfAt W (w.heap.size + 1 + 1) zeroM (.slice none 0 0)) := t3
  have H4 : Hid (Below w.heap.size w W) := t4
  have H5 : Hid (W.heap.size = w.heap.size + 3) := t5
  clear hn hl hW t1 t2 t3 t4 t5
  go_enter Tryd.func9, Tryd.ntmps9
  go_wp2_with (first
    | ((with_reducible refine frm_load 24 ?_); refine wpList_load_mf rfl _ rfl HS0.out rfl ?_)
    | ((with_reducible refine frm_store 24 ?_); refine wpList_store_mf (m := zeroM) (m2 := s) rfl _ _ rfl rfl H3.out rfl rfl ?_; intro x1 z1 z2 z3 z4; obtain ⟨hc0, f5, c5⟩ := Cpm.start (w := w) (s := s) ((z3 _ (by omega)).trans H1.out) ((z3 _ (by omega)).trans H2.out) z1 (z2 _ _ H4.out (by omega)) (z4.trans H5.out); have HC0 : Hid (Cpm w ((x1.alloc (.cells #[] 55)).setCell ⟨w.heap.size + 1 + 1, 5, none⟩ (.slice (some ⟨x1.heap.size, 0, none⟩) 0 0)) s (.slice a n cap) (.slice (some ⟨x1.heap.size, 0, none⟩) 0 0) []) := hc0; have s5 := hc0.src.cell 5 (.slice a n cap) rfl; clear z1 z2 z3 z4 hc0))
  go_loopw [11] (fun vi wr => ∃ (k gc : Nat) (ga : Option Addr), k ≤ n ∧ vi = .int .i64 k ∧ Hid (Cpm w wr s (.slice a n cap) (.slice ga k gc) (s.segs.take k))) (fun vi _ => n - (intOf vi).toNat)
  case atStart => exact ⟨0, 0, _, Nat.zero_le _, rfl, by rw [List.take_zero]; exact HC0.out⟩
  case round =>
    clear HC0 s5 f5 c5 hW2 HS0 H1 H2 H3 H4 H5
    obtain ⟨k, gc, ga, hk, rfl, HI⟩ := hrel
    by_cases hkn : k < n
    · obtain ⟨p, hp⟩ := sm_get (L := s.segs) (k := k) (by rw [HN.out]; exact hkn)
      obtain ⟨b, off, rfl, hlt, q0, q1, q2, q3⟩ := (HL.out.keep HI.out.bel).cells k p hp
      have HTK : Hid (s.segs.take (k + 1) = s.segs.take k ++ [p]) := sm_take _ _ _ hp
      have HTL : Hid ((s.segs.take k).length = k) := by show _ = _; rw [List.length_take, HN.out]; omega
      have hT := HI.out.tmp
      have c5 : wr.cell? ⟨w.heap.size + 1 + 1, 5, none⟩ = some (.slice ga k gc) := hT.cell 5 _ rfl
      have c5d : wr.drew.cell? ⟨w.heap.size + 1 + 1, 5, none⟩ = some (.slice ga k gc) := c5
      have c5a : (wr.drew.alloc (.cells #[.int .i64 p.num, .int .i64 p.first, .int .i64 p.count, .int .i64 p.foot] 55)).cell? ⟨w.heap.size + 1 + 1, 5, none⟩ = some (.slice ga k gc) := (hT.after ((Below.refl wr.heap.size wr).drew.alloc (Nat.le_refl _) (.cells #[.int .i64 p.num, .int .i64 p.first, .int .i64 p.count, .int .i64 p.foot] 55))).cell 5 _ rfl
      have c5b : (wr.alloc (.cells #[.int .i64 p.num, .int .i64 p.first, .int .i64 p.count, .int .i64 p.foot] 55)).cell? ⟨w.heap.size + 1 + 1, 5, none⟩ = some (.slice ga k gc) := c5a
      have s5 : wr.cell? ⟨w.heap.size, 5, none⟩ = some (.slice (some ⟨b, off, none⟩) n cap) := HI.out.src.cell 5 _ rfl
      have HO5 : Hid ((wr.drew.alloc (.cells #[.int .i64 p.num, .int .i64 p.first, .int .i64 p.count, .int .i64 p.foot] 55)).ownsRow (w.heap.size + 3) 55 4 (.slice ga k gc) k (sfl (s.segs.take k))) := by have h := OwnSm.keep HI.out.row ((Below.refl wr.heap.size wr).drew.alloc (Nat.le_refl _) (.cells #[.int .i64 p.num, .int .i64 p.first, .int .i64 p.count, .int .i64 p.foot] 55)); unfold OwnSm at h; rw [HTL.out] at h; exact h
      have HNW : Hid (∀ j u, [.int .i64 p.num, .int .i64 p.first, .int .i64 p.count, .int .i64 p.foot][j]? = some u → (wr.drew.alloc (.cells #[.int .i64 p.num, .int .i64 p.first, .int .i64 p.count, .int .i64 p.foot] 55)).cell? ((⟨wr.heap.size, 0, none⟩ : Addr).add j) = some u) := cell_newS wr.drew p
      have HBS : Hid (w.heap.size + 3 ≤ wr.heap.size) := hT.lt
      have hbI : ¬ w.heap.size + 1 + 1 = wr.heap.size := by have := HBS.out; omega
      have hbI2 : ¬ wr.heap.size = w.heap.size + 1 + 1 := by have := HBS.out; omega
      clear hp hT
      go_wp2
      go_region_law ((refine step_append_lies _ (by rfl) _ _ 22 (by rfl) (w.heap.size + 3) 55 i0 _ 4 32 Tryd.underlying22 hi hz0 hz1 hz2 rfl (by decide) (.slice ga k gc) k (sfl (s.segs.take k)) (by rfl) HO5.out ⟨wr.heap.size, 0, none⟩ 1 1 [.int .i64 p.num, .int .i64 p.first, .int .i64 p.count, .int .i64 p.foot] (by rfl) (by rfl) HNW.out (by intro u hu; simp only [List.mem_cons, List.not_mem_nil, or_false] at hu; rcases hu with rfl | rfl | rfl | rfl <;> rfl) (by omega) (by unfold maxLen; omega) (by omega) (by have := HBS.out; simp; omega) (wr.heap.size + 1) (by simp) ?_; intro g4 cap4 w4 ho4 hg4 hat4 hlt4; rw [show k + 1 = (s.segs.take k).length + 1 from (by rw [HTL.out])] at ho4; obtain ⟨hc4, ht4⟩ := HI.out.grow ho4 hg4; rw [HTL.out, ← HTK.out] at hc4; have d5 := ht4.cell 5 (.slice ga k gc) rfl; have d5f := ht4.froz 5; have HC4 : Hid (Cpm w (w4.setCell ⟨w.heap.size + 1 + 1, 5, none⟩ (.slice (some ⟨g4, 0, none⟩) (k + 1) cap4)) s (.slice (some ⟨b, off, none⟩) n cap) (.slice (some ⟨g4, 0, none⟩) (k + 1) cap4) (s.segs.take (k + 1))) := hc4; clear ho4 hg4 hat4 hlt4 hc4 ht4))
      all_goals go_wp2
      all_goals exact ⟨⟨k + 1, cap4, _, by omega, by go_num, HC4.out⟩, by simp [intOf]; omega⟩
    · obtain rfl : k = n := by omega
      have HCL : Hid (Cpm w wr s (.slice a k cap) (.slice ga k gc) s.segs) := by have h := HI.out; rw [List.take_of_length_le (by rw [HN.out]; exact Nat.le_refl _)] at h; exact h
      go_wp2_with (first
        | ((with_reducible refine frm_load 24 ?_); refine wpList_load_mf rfl _ rfl HCL.out.tmp rfl ?_)
        | ((with_reducible refine frm_store 24 ?_); refine wpList_store_mf (m := zeroM) (m2 := s) rfl _ _ rfl rfl HCL.out.res rfl rfl ?_; intro x8 z1 z2 z3 z4))
      exact bodyPost_ret (results_mf1 rfl _ _ _ rfl z1) rfl ⟨_, rfl, (OwnSm.otherM HCL.out.row (k := w.heap.size + 1) (by omega) z3).monoM (by omega), z2 _ _ HCL.out.bel (by omega)⟩
end Go.Proofs.YtnfkdgjgglnniaaDoor
namespace Go.Proofs.YtnfkdgjgglnniaaDoor
open Go.ChangeShapes Go.WideShapes Go.ChangeAt Go.RowKit Go.Deep
set_option linter.unusedVariables false
theorem array6M {α : Type} {cs : Array α} (h : cs.size = 6) : ∃ c0 c1 c2 c3 c4 c5, cs = #[c0, c1, c2, c3, c4, c5] := by
  obtain ⟨l⟩ := cs
  match l, h with
  | [c0, c1, c2, c3, c4, c5], _ => exact ⟨c0, c1, c2, c3, c4, c5, rfl⟩
section
variable {H : Type} {enc : TypeId × Value → H} {w : World} {base : Nat} {spare : Nat → Bool} {held : Bool}
theorem struct6M {P : Program} {t : TypeId} {f0 f1 f2 f3 f4 f5 : Field} {fuel : Nat} {c0 c1 c2 c3 c4 c5 : Value} {x : DataW H × List MemPlace} (ht : P.underlying t = some (.struct #[f0, f1, f2, f3, f4, f5])) (hone : oneCellFields P #[f0, f1, f2, f3, f4, f5] = true)
    (h : DataW.trod enc P w base spare held fuel t [c0, c1, c2, c3, c4, c5] = some x) :
    ∃ y0 y1 y2 y3 y4 y5 n, x = (.agg [y0.1, y1.1, y2.1, y3.1, y4.1, y5.1], y0.2 ++ (y1.2 ++ (y2.2 ++ (y3.2 ++ (y4.2 ++ (y5.2))))))
      ∧ DataW.trod enc P w base spare held n f0.type [c0] = some y0 ∧ DataW.trod enc P w base spare held n f1.type [c1] = some y1 ∧ DataW.trod enc P w base spare held n f2.type [c2] = some y2 ∧ DataW.trod enc P w base spare held n f3.type [c3] = some y3 ∧ DataW.trod enc P w base spare held n f4.type [c4] = some y4 ∧ DataW.trod enc P w base spare held n f5.type [c5] = some y5 := by
  obtain ⟨xs, n, _, rfl, _, hlen, hf⟩ := DataW.trod_struct ht h
  obtain ⟨o0, k0⟩ := hone_of hone 0 f0 rfl
  obtain ⟨o1, k1⟩ := hone_of hone 1 f1 rfl
  obtain ⟨o2, k2⟩ := hone_of hone 2 f2 rfl
  obtain ⟨o3, k3⟩ := hone_of hone 3 f3 rfl
  obtain ⟨o4, k4⟩ := hone_of hone 4 f4 rfl
  obtain ⟨o5, k5⟩ := hone_of hone 5 f5 rfl
  match xs, hlen with
  | [y0, y1, y2, y3, y4, y5], _ =>
    exact ⟨y0, y1, y2, y3, y4, y5, n, by simp, by simpa [o0, k0] using hf 0 f0 rfl, by simpa [o1, k1] using hf 1 f1 rfl, by simpa [o2, k2] using hf 2 f2 rfl, by simpa [o3, k3] using hf 3 f3 rfl, by simpa [o4, k4] using hf 4 f4 rfl, by simpa [o5, k5] using hf 5 f5 rfl⟩
/-- one segment, from its four cells -/
theorem open_sm {fuel : Nat} {c0 c1 c2 c3 : Value} {x : DataW H × List MemPlace} (h : DataW.trod enc Tryd.prog w base (fun _ => true) held fuel 55 [c0, c1, c2, c3] = some x) :
    ∃ p : Sm, c0 = .int .i64 p.num ∧ c1 = .int .i64 p.first ∧ c2 = .int .i64 p.count ∧ c3 = .int .i64 p.foot := by
  obtain ⟨xs, n, _, hxy, _, hlen, hf⟩ := DataW.trod_struct Tryd.underlying55 h
  match xs, hlen with
  | [y0, y1, y2, y3], _ =>
    have k0 : Tryd.prog.cellsOf 3 = 1 := by kernel_rfl
    have g0 : DataW.trod enc Tryd.prog w base (fun _ => true) held n 3 [c0] = some y0 := by have := hf 0 _ rfl; simpa [k0] using this
    have g1 : DataW.trod enc Tryd.prog w base (fun _ => true) held n 3 [c1] = some y1 := by have := hf 1 _ rfl; simpa [k0] using this
    have g2 : DataW.trod enc Tryd.prog w base (fun _ => true) held n 3 [c2] = some y2 := by have := hf 2 _ rfl; simpa [k0] using this
    have g3 : DataW.trod enc Tryd.prog w base (fun _ => true) held n 3 [c3] = some y3 := by have := hf 3 _ rfl; simpa [k0] using this
    obtain ⟨a0, h0, _, _⟩ := DataW.trod_int Tryd.underlying3 g0
    obtain ⟨a1, h1, _, _⟩ := DataW.trod_int Tryd.underlying3 g1
    obtain ⟨a2, h2, _, _⟩ := DataW.trod_int Tryd.underlying3 g2
    obtain ⟨a3, h3, _, _⟩ := DataW.trod_int Tryd.underlying3 g3
    simp only [List.cons.injEq, and_true] at h0 h1 h2 h3
    exact ⟨⟨a0, a1, a2, a3⟩, h0, h1, h2, h3⟩
/-- a list of segments -/
theorem open_sms {fuel : Nat} {cs : List Value} {x : DataW H × List MemPlace} (h : DataW.trod enc Tryd.prog w base (fun _ => true) held fuel 22 cs = some x) :
    ∃ (a : Option Addr) (len cap : Nat) (L : List Sm), cs = [.slice a len cap] ∧ len ≤ cap ∧ cap ≤ maxLen ∧ L.length = len ∧ Sms w a L ∧ (cap = 0 ∨ ∃ e s : List (DataW H), x.1 = .slice e s ∧ e.length + s.length = cap) := by
  rcases open_slice Tryd.underlying22 h with ⟨rfl, rfl⟩ | ⟨a, len, cap, m, n, D, Pl, rfl, hb, hl, hm, hmm, rfl, hx⟩
  · exact ⟨none, 0, 0, [], rfl, Nat.le_refl _, by simp, rfl, .inl rfl, .inl rfl⟩
  have hmc : m = cap := by simpa using hmm
  subst hmc
  have ce : Tryd.prog.cellsOf 55 = 4 := by kernel_rfl
  have each : ∀ i, i < m → ∃ q : Sm, w.cell? (a.add (i * 4)) = some (.int .i64 q.num) ∧ w.cell? (a.add (i * 4 + 1)) = some (.int .i64 q.first) ∧ w.cell? (a.add (i * 4 + 2)) = some (.int .i64 q.count) ∧ w.cell? (a.add (i * 4 + 3)) = some (.int .i64 q.foot) := by
    intro i hi
    obtain ⟨cs', h1, h2⟩ := hx i hi
    rw [ce] at h1
    obtain ⟨_, hlen, hcell⟩ := World.cells?_some h1
    match cs', hlen with
    | [v0, v1, v2, v3], _ =>
      obtain ⟨p, rfl, rfl, rfl, rfl⟩ := open_sm h2
      have e0 := hcell 0 (by omega)
      have e1 := hcell 1 (by omega)
      have e2 := hcell 2 (by omega)
      have e3 := hcell 3 (by omega)
      rw [add_add] at e0 e1 e2 e3
      exact ⟨p, by simpa using e0, by simpa using e1, by simpa using e2, by simpa using e3⟩
  haveI : Inhabited Sm := ⟨⟨0, 0, 0, 0⟩⟩
  obtain ⟨q, hq⟩ := choose_lt each
  refine ⟨some a, len, m, (List.range len).map q, rfl, hl, hm, by simp, ?_, .inr ⟨_, _, rfl, by simp; omega⟩⟩
  by_cases h0 : len = 0
  · left; subst h0; rfl
  · right
    obtain ⟨b, off, spot⟩ := a
    have hc0 := (hq 0 (by omega)).1
    have hspot : spot = none := by simpa [Addr.add] using World.cell?_spot hc0
    subst hspot
    refine ⟨b, off, rfl, World.block_lt_of_cell? _ _ hc0, fun j hj => ?_⟩
    simp only [List.length_map, List.length_range] at hj
    obtain ⟨i, r, hr, rfl⟩ : ∃ i r, r < 4 ∧ j = i * 4 + r := ⟨j / 4, j % 4, by omega, by omega⟩
    have hi : i < len := by omega
    have hp : ((List.range len).map q)[i]? = some (q i) := by rw [List.getElem?_map, List.getElem?_range hi]; rfl
    obtain ⟨f0, f1, f2, f3⟩ := sfl_get _ i _ hp
    obtain ⟨d0, d1, d2, d3⟩ := hq i (by omega)
    have hadd : ∀ z, (⟨b, off, none⟩ : Addr).add z = ⟨b, off + z, none⟩ := fun z => by simp [Addr.add]
    rw [hadd] at d0 d1 d2 d3
    have hr4 : r = 0 ∨ r = 1 ∨ r = 2 ∨ r = 3 := by omega
    rcases hr4 with rfl | rfl | rfl | rfl
    · rw [Nat.add_zero, f0]; exact d0
    · rw [f1]; exact d1
    · rw [f2]; exact d2
    · rw [f3]; exact d3
set_option maxRecDepth 20000 in
/-- a manifest, its segments, and what of it lies on the reach -/
theorem open_manifest {r : Reach} {b0 : Nat} {v : Value} {d : DataW H} {p : List MemPlace} (hv : Value.okWide Tryd.prog w r b0 24 v) (h : DataW.Trod enc Tryd.prog w base (fun _ => true) held 24 v d p)
    {ts : List TypeId} {ds : List (DataW H)} (hsz : (DataW.weightsEach Tryd.prog ts ds).all (· ≤ reachBytes) = true) {j : Nat} (ht : ts[j]? = some 24) (hd : ds[j]? = some d) :
    ∃ (s : Mf) (a : Option Addr) (n cap : Nat), v = MfV s (.slice a n cap) ∧ s.segs.length = n ∧ Sms w a s.segs ∧ n ≤ cap ∧ n * 32 ≤ 140737488351232 := by
  obtain ⟨cs, rfl, hsize⟩ := okWide_struct Tryd.underlying24 hv
  obtain ⟨c0, c1, c2, c3, c4, c5, rfl⟩ := array6M (hsize.trans (show Tryd.prog.cellsOf 24 = 6 from by kernel_rfl))
  obtain ⟨fuel, hf⟩ := h
  obtain ⟨y0, y1, y2, y3, y4, y5, n, hx, h0, h1, h2, h3, h4, h5⟩ := struct6M Tryd.underlying24 (by kernel_rfl) (by simpa [Value.cells] using hf)
  obtain ⟨a0, e0, _, _⟩ := DataW.trod_int Tryd.underlying3 h0
  obtain ⟨a1, e1, _, _⟩ := DataW.trod_int Tryd.underlying3 h1
  obtain ⟨a2, e2, _, _⟩ := DataW.trod_int Tryd.underlying3 h2
  obtain ⟨a3, e3, _, _⟩ := DataW.trod_int Tryd.underlying3 h3
  obtain ⟨a4, e4, _, _⟩ := DataW.trod_int Tryd.underlying3 h4
  obtain ⟨a5, len, cap, L, e5, g1, g2, g3, g4, g5⟩ := open_sms h5
  simp only [List.cons.injEq, and_true] at e0 e1 e2 e3 e4 e5
  subst e0 e1 e2 e3 e4 e5
  refine ⟨⟨a0, a1, a2, a3, a4, L⟩, a5, len, cap, rfl, g3, g4, g1, ?_⟩
  rcases g5 with g5 | ⟨e, s, g6, g7⟩
  · omega
  · have hdd : d = _ := (Prod.mk.inj hx).1
    have hw : (e.length + s.length) * Tryd.prog.bytesOf 55 ∈ d.weights Tryd.prog 24 := by
      rw [hdd, g6]
      simp only [DataW.weights, Tryd.underlying24, DataW.weightsEach, Tryd.underlying22, List.mem_append, List.mem_cons, List.map_cons, List.map_nil]
      simp
    have := of_decide_eq_true (List.all_eq_true.1 hsz _ (DataW.weights_mem_each ht hd _ hw))
    rw [show Tryd.prog.bytesOf 55 = 32 from by kernel_rfl] at this
    simp only [reachBytes] at this
    omega
end
end Go.Proofs.YtnfkdgjgglnniaaDoor
namespace Go.Proofs.YtnfkdgjgglnniaaDoor
open Go.ChangeShapes Go.WideShapes Go.ChangeAt Go.RowKit
theorem gTab : Tryd.prog.globalNamed "daybook/crc.halves" = some 0 := by kernel_rfl
theorem gTabType : (Tryd.prog.globals[0]?).map (·.type) = some 126 := by kernel_rfl
theorem cellsTab : Tryd.prog.cellsOf 126 = 16 := by kernel_rfl
theorem cellsU32 : Tryd.prog.cellsOf 91 = 1 := by kernel_rfl
theorem tab_of {W : World} (h : laidMetH Tryd.prog [("daybook/crc.halves", Rows.laid_daybook_crc_halves)] W) : Tab W := by
  have ht : Lib.TabIs Tryd.prog W "daybook/crc.halves" .u32 [0, 498536548, 997073096, 651767980, 1994146192, 1802195444, 1303535960, 1342533948, 3988292384, 4027552580, 3604390888, 3412177804, 2607071920, 2262029012, 2685067896, 3183342108] :=
    Lib.tabIs_of_head (rest := []) gTab gTabType Tryd.underlying126 Tryd.underlying91 cellsU32 cellsTab h
  have hc := fun i (hi : i < 16) => ht.cell gTab i hi
  refine ⟨World.block_lt_of_cell? _ _ (hc 0 (by decide)), fun i hi => ?_⟩
  rw [hc i hi]
  exact congrArg (fun n : Int => some (Value.int IntKind.u32 n)) ((by decide : ∀ i : Fin 16, ([0, 498536548, 997073096, 651767980, 1994146192, 1802195444, 1303535960, 1342533948, 3988292384, 4027552580, 3604390888, 3412177804, 2607071920, 2262029012, 2685067896, 3183342108] : List Int).getD i.val 0 = ((tab i.val : Nat) : Int)) ⟨i, hi⟩)
end Go.Proofs.YtnfkdgjgglnniaaDoor
