/- What scan.Run answers. -/
import Derived.Test.YtpjikkhcimghaaaDoorSc4
import Derived.Test.YtpjikkhcimghaaaDoorSlci
namespace Go.Proofs.YtpjikkhcimghaaaDoor
open Go.ChangeShapes Go.WideShapes Go.ChangeAt Go.RowKit Go.Shelf
set_option linter.unusedVariables false
attribute [local go_sem] Oper.semAt_some
/-- the events of rising numbers at a list's beginning -/
def runN (first most : Int) : Nat → List Fm → List Fm
  | _, [] => []
  | i, f :: r => if most ≤ (i : Int) ∨ f.kind ≠ 1 ∨ (f.seq : Int) ≠ first + (i : Int) then [] else f :: runN first most (i + 1) r
def sh (d : Nat) (f : Fm) : Fm := ⟨d + f.pos, f.kind, f.seq, f.body⟩
def shI (d : Nat) (x : It) : It := ⟨sh d x.fm, x.bv⟩
def runL (l : List Nat) (d : Nat) (first most : Int) : List Fm := (runN first most 0 (scanL (l.drop d))).map (sh d)
/-- each of them is such an event -/
def Acc (first most : Int) (pre : List It) : Prop := ∀ (i : Nat) (x : It), pre[i]? = some x → (i : Int) < most ∧ x.fm.kind = 1 ∧ (x.fm.seq : Int) = first + (i : Int)
theorem runN_acc (first most : Int) : ∀ (L : List Fm) (i : Nat) (r : List Fm), (∀ (j : Nat) (f : Fm), L[j]? = some f → ((i + j : Nat) : Int) < most ∧ f.kind = 1 ∧ (f.seq : Int) = first + ((i + j : Nat) : Int)) → runN first most i (L ++ r) = L ++ runN first most (i + L.length) r
  | [], i, r, _ => by simp
  | f :: L, i, r, h => by
    have h0 := h 0 f rfl
    simp only [Nat.add_zero] at h0
    have hc : ¬ (most ≤ (i : Int) ∨ f.kind ≠ 1 ∨ (f.seq : Int) ≠ first + (i : Int)) := by
      rintro (h1 | h1 | h1)
      · omega
      · exact h1 h0.2.1
      · exact h1 h0.2.2
    rw [List.cons_append, runN, if_neg hc, runN_acc first most L (i + 1) r (fun j g hg => by have := h (j + 1) g (by simpa using hg); rwa [show i + (j + 1) = i + 1 + j from by omega] at this)]
    simp only [List.cons_append, List.length_cons]
    rw [show i + 1 + L.length = i + (L.length + 1) from by omega]
theorem runN_all {first most : Int} {pre : List It} (h : Acc first most pre) (r : List Fm) : runN first most 0 (pre.map It.fm ++ r) = pre.map It.fm ++ runN first most pre.length r := by
  have := runN_acc first most (pre.map It.fm) 0 r (fun j f hf => by
    rw [List.getElem?_map] at hf
    cases hx : pre[j]? with
    | none => rw [hx] at hf; cases hf
    | some x =>
      rw [hx] at hf
      cases hf
      rw [Nat.zero_add]
      exact h j x hx)
  rw [this]
  simp
theorem scanN_seq (l : List Nat) : ∀ (f p : Nat), ∀ x ∈ scanN f l p, x.seq ≤ 1099511627776
  | 0, p, x, h => by cases h
  | f + 1, p, x, h => by
    unfold scanN at h
    split at h
    · rename_i hc
      rcases List.mem_cons.1 h with rfl | h
      · obtain ⟨q1, q2, q3⟩ := decE_zero hc.2
        unfold peekE at q1
        split at q1
        · cases q1
        · split at q1
          · cases q1
          · split at q1
            · cases q1
            · split at q1
              · rename_i hh
                simp only [decS]
                rw [if_pos hc.2]
                exact hh.2.2.2
              · cases q1
      · exact scanN_seq l f _ x h
    · cases h
theorem RowEq {w : World} {base : Nat} {e : TypeId} {size : Nat} {v : Value} {n : Nat} {xs ys : List Value} (h : w.ownsRow base e size v n xs) (he : xs = ys) : w.ownsRow base e size v n ys := he ▸ h
theorem row_shape {w : World} {base : Nat} {e : TypeId} {size : Nat} {v : Value} {n : Nat} {xs : List Value} (h : w.ownsRow base e size v n xs) : ∃ a c, v = .slice a n c := by
  rcases h.2 with ⟨rfl, rfl⟩ | ⟨g, cap, cur, rfl, _⟩
  · exact ⟨none, 0, rfl⟩
  · exact ⟨_, _, rfl⟩
/-- the new frame's own box, behind the append -/
theorem far_box2 {w W w2 w5 : World} {p z k s : Int} {bv v : Value} {n : Nat} {xs : List Value} (hr : W.ownsRow w.heap.size 34 5 v n xs) (hb : Below W.heap.size W w2) (ho : ((w2.alloc (.cells #[.int .i64 p, .int .i64 z, .int .i64 k, .int .i64 s, bv] 34)).alloc (.cells #[.int .i64 p, .int .i64 z, .int .i64 k, .int .i64 s, bv] 34)).ownsRow w.heap.size 34 5 v n xs)
    (hg : ((w2.alloc (.cells #[.int .i64 p, .int .i64 z, .int .i64 k, .int .i64 s, bv] 34)).alloc (.cells #[.int .i64 p, .int .i64 z, .int .i64 k, .int .i64 s, bv] 34)).grownBy w5 v.ownBlock) : w5.cell? ⟨w2.heap.size, 0, none⟩ = some (.int .i64 p) ∧ w5.cell? ⟨w2.heap.size, 1, none⟩ = some (.int .i64 z) ∧ w2.heap.size < w5.heap.size := by
  have h1 : ((w2.alloc (.cells #[.int .i64 p, .int .i64 z, .int .i64 k, .int .i64 s, bv] 34)).alloc (.cells #[.int .i64 p, .int .i64 z, .int .i64 k, .int .i64 s, bv] 34)).heap[w2.heap.size]? = some (.cells #[.int .i64 p, .int .i64 z, .int .i64 k, .int .i64 s, bv] 34) := (Below.heap_alloc _ _ _ (by simp)).trans (heap_alloc_new w2 _)
  have h2 : w5.heap[w2.heap.size]? = some (.cells #[.int .i64 p, .int .i64 z, .int .i64 k, .int .i64 s, bv] 34) := by
    rw [hg.block _ (lt_of_heap h1) (fun e => ?_)]
    · exact h1
    · have := (hr.lt _ e.symm).2
      have := hb.size
      omega
  exact ⟨by rw [cell_of_row _ _ 0 _ _ _ h2]; rfl, by rw [cell_of_row _ _ 1 _ _ _ h2]; rfl, lt_of_heap h2⟩
/-- what holds in Run's loop -/
structure RI (w : World) (d : Nat) (first most : Int) (pre : List It) (W : World) : Prop where
  ai : AI w (w.heap.size + 1 + 1 + 1) (w.heap.size + 1 + 1 + 1 + 1) (w.heap.size + 1 + 1 + 1 + 1 + 1) d (pre.map (shI d)) W
  b0 : Boxed W w.heap.size 3 (.int .i64 (d : Int))
  b1 : Boxed W (w.heap.size + 1) 3 (.int .i64 first)
  b2 : Boxed W (w.heap.size + 1 + 1) 3 (.int .i64 most)
  acc : Acc first most pre
theorem RI.own (w : World) (d : Nat) (first most : Int) (B : Nat) (hB : w.heap.size ≤ B) : OwnFrom B (RI w d first most) := by
  rintro pre X Y row ⟨h1, h2, h3, h4, h5⟩ hg hr
  have hr2 : ∀ r, row = some r → ∃ o : Obj, X.heap[r]? = some o ∧ o.isCells = false := fun r e => (hr r e).2
  exact ⟨AI.own w _ _ _ _ B hB _ X Y row h1 hg hr, cells_kept h2 hg hr2, cells_kept h3 hg hr2, cells_kept h4 hg hr2, h5⟩
theorem RI.below {w W W' : World} {d : Nat} {first most : Int} {pre : List It} (h : RI w d first most pre W) (hb : Below W.heap.size W W') : RI w d first most pre W' :=
  ⟨h.ai.below hb, (hb.block _ h.b0.lt).trans h.b0, (hb.block _ h.b1.lt).trans h.b1, (hb.block _ h.b2.lt).trans h.b2, h.acc⟩
/-- an item at which the run ends -/
def Off (first most : Int) (i : Nat) (x : It) : Prop := most ≤ (i : Int) ∨ x.fm.kind ≠ 1 ∨ (x.fm.seq : Int) ≠ first + (i : Int)
def RX (w : World) (d : Nat) (first most : Int) (c : Code) (ys : List It) (W : World) : Prop := c = .exit 0 ∧ ∃ pre x, ys = pre ++ [x] ∧ RI w d first most pre W ∧ Off first most pre.length x
theorem RX.own (w : World) (d : Nat) (first most : Int) (c : Code) (B : Nat) (hB : w.heap.size ≤ B) : OwnFrom B (RX w d first most c) := by
  rintro ys X Y row ⟨hc, pre, x, h1, h2, h3⟩ hg hr
  exact ⟨hc, pre, x, h1, RI.own w d first most B hB pre X Y row h2 hg hr, h3⟩
theorem Acc.snoc {first most : Int} {pre : List It} {x : It} (h : Acc first most pre) (hx : ¬ Off first most pre.length x) : Acc first most (pre ++ [x]) := by
  intro i y hy
  rcases Nat.lt_trichotomy i pre.length with hi | rfl | hi
  · rw [List.getElem?_append_left hi] at hy
    exact h i y hy
  · rw [List.getElem?_append_right (Nat.le_refl _)] at hy
    simp at hy
    subst hy
    simp only [Off, not_or, Decidable.not_not] at hx
    exact ⟨by omega, hx.2.1, hx.2.2⟩
  · rw [List.getElem?_eq_none (by simp; omega)] at hy
    cases hy
theorem map_sh (d : Nat) (pre : List It) : (pre.map (shI d)).map It.fm = (pre.map It.fm).map (sh d) := by
  rw [List.map_map, List.map_map]; rfl
theorem RI.all {w W : World} {l : List Nat} {d : Nat} {first most : Int} {pre : List It} (h : RI w d first most pre W) (hS : pre.map It.fm = scanL (l.drop d)) : (pre.map (shI d)).map It.fm = runL l d first most := by
  have := runN_all h.acc []
  rw [List.append_nil, hS] at this
  rw [map_sh, hS, runL, this]
  simp [runN]
theorem RI.stopped {w W : World} {l : List Nat} {d : Nat} {first most : Int} {pre : List It} {x : It} (h : RI w d first most pre W) (hx : Off first most pre.length x) (hS : (pre ++ [x]).map It.fm <+: scanL (l.drop d)) : (pre.map (shI d)).map It.fm = runL l d first most := by
  obtain ⟨r, hr⟩ := hS
  rw [List.map_append, List.append_assoc] at hr
  have := runN_all h.acc (x.fm :: r)
  rw [map_sh, runL, ← hr]
  simp only [List.map_cons, List.map_nil, List.cons_append, List.nil_append]
  unfold Off at hx
  rw [this, runN, if_pos hx, List.append_nil]
set_option maxRecDepth 100000 in
set_option maxHeartbeats 8000000 in
theorem run_any (l : List Nat) (m : Nat) (a : Option Addr) (cap d : Nat) (first most : Int) (w : World) (hm : l.length = m) (hb : Bytes w a l) (hcap : m ≤ cap) (hl : m ≤ 16777216) (hd : d ≤ m) (hf0 : -9223372036854775808 ≤ first) (hf1 : first ≤ 9223372036854775807) (ht : Tab w) :
    Calls Tryd.prog 11 #[.slice a m cap, .int .i64 (d : Int), .int .i64 first, .int .i64 most] w fun e W' => ∃ (xs : List It) (v : Value), e = .returned (.tuple #[v, .int .i64 (endZ d (runL l d first most) : Int)]) ∧ xs.map It.fm = runL l d first most ∧ W'.ownsRow w.heap.size 34 5 v xs.length (pflt xs) ∧ (∀ x ∈ xs, Own W' w.heap.size x.bv x.fm.body) ∧ Below w.heap.size w W' := by
  obtain ⟨i0, hi, hz0, hz1, hz2⟩ := info_parts Tryd.infoPl
  refine (callsIn_wide (n := 5)).1 ?_
  have f15 : Fence.wide.fn 6 := trivial
  have hdI : (d : Int) ≤ (m : Int) := by omega
  have HX : Hid (l.length = m ∧ Bytes w a l ∧ m ≤ cap ∧ Tab w) := ⟨hm, hb, hcap, ht⟩
  have hdN : ¬ (d : Int) < 0 := by omega
  refine callsIn_of_wp_marks Tryd.func11 rfl trivial ?_ rfl
  simp only [Tryd.ntmps11, List.size_toArray, List.length_cons, List.length_nil, Nat.reduceAdd, Nat.reduceSub, Array.replicate_succ, Array.replicate_zero, List.push_toArray, List.append_toArray, List.nil_append, List.cons_append]
  gi_wp2_with (first
    | ((with_reducible refine at_sliceI ?_); refine wpListIn_slice_l2 rfl _ _ rfl rfl rfl hd hcap hm ?_; intro ax hax)
    | (gi_at_call 6; refine (each_in _ _ _ _ _).mono ?_; rintro e w' ⟨rfl, rfl⟩))
  obtain ⟨W0, hW0⟩ : ∃ W0, (((((w.alloc (.cells #[.int .i64 (d : Int)] 3)).alloc (.cells #[.int .i64 first] 3)).alloc (.cells #[.int .i64 most] 3)).alloc (.cells #[.slice none 0 0] 24)).alloc (.cells #[.int .i64 (d : Int)] 3)).alloc (.cells #[.slice ax (m - d) (cap - d)] 22) = W0 := ⟨_, rfl⟩
  have q0 : Boxed W0 w.heap.size 3 (.int .i64 (d : Int)) := by rw [← hW0]; exact (((((Boxed.new w _ _).alloc _).alloc _).alloc _).alloc _).alloc _
  have q1 : Boxed W0 (w.heap.size + 1) 3 (.int .i64 first) := by
    have h := ((((Boxed.new (w.alloc (.cells #[.int .i64 (d : Int)] 3)) 3 (.int .i64 first)).alloc (.cells #[.int .i64 most] 3)).alloc (.cells #[.slice none 0 0] 24)).alloc (.cells #[.int .i64 (d : Int)] 3)).alloc (.cells #[.slice ax (m - d) (cap - d)] 22)
    rw [World.size_alloc] at h
    rw [← hW0]; exact h
  have q2 : Boxed W0 (w.heap.size + 1 + 1) 3 (.int .i64 most) := by
    have h := (((Boxed.new ((w.alloc (.cells #[.int .i64 (d : Int)] 3)).alloc (.cells #[.int .i64 first] 3)) 3 (.int .i64 most)).alloc (.cells #[.slice none 0 0] 24)).alloc (.cells #[.int .i64 (d : Int)] 3)).alloc (.cells #[.slice ax (m - d) (cap - d)] 22)
    rw [World.size_alloc, World.size_alloc] at h
    rw [← hW0]; exact h
  have q3 : Boxed W0 (w.heap.size + 1 + 1 + 1) 24 (.slice none 0 0) := by
    have h := ((Boxed.new (((w.alloc (.cells #[.int .i64 (d : Int)] 3)).alloc (.cells #[.int .i64 first] 3)).alloc (.cells #[.int .i64 most] 3)) 24 (.slice none 0 0)).alloc (.cells #[.int .i64 (d : Int)] 3)).alloc (.cells #[.slice ax (m - d) (cap - d)] 22)
    rw [World.size_alloc, World.size_alloc, World.size_alloc] at h
    rw [← hW0]; exact h
  have q4 : Boxed W0 (w.heap.size + 1 + 1 + 1 + 1) 3 (.int .i64 (d : Int)) := by
    have h := (Boxed.new ((((w.alloc (.cells #[.int .i64 (d : Int)] 3)).alloc (.cells #[.int .i64 first] 3)).alloc (.cells #[.int .i64 most] 3)).alloc (.cells #[.slice none 0 0] 24)) 3 (.int .i64 (d : Int))).alloc (.cells #[.slice ax (m - d) (cap - d)] 22)
    rw [World.size_alloc, World.size_alloc, World.size_alloc, World.size_alloc] at h
    rw [← hW0]; exact h
  have q5 : Boxed W0 (w.heap.size + 1 + 1 + 1 + 1 + 1) 22 (.slice ax (m - d) (cap - d)) := by
    have h := Boxed.new (((((w.alloc (.cells #[.int .i64 (d : Int)] 3)).alloc (.cells #[.int .i64 first] 3)).alloc (.cells #[.int .i64 most] 3)).alloc (.cells #[.slice none 0 0] 24)).alloc (.cells #[.int .i64 (d : Int)] 3)) 22 (.slice ax (m - d) (cap - d))
    rw [World.size_alloc, World.size_alloc, World.size_alloc, World.size_alloc, World.size_alloc] at h
    rw [← hW0]; exact h
  have hB0 : Below w.heap.size w W0 := by rw [← hW0]; exact ((((((Below.refl _ w).alloc (Nat.le_refl _) _).alloc (by simp) _).alloc (by simp; omega) _).alloc (by simp; omega) _).alloc (by simp; omega) _).alloc (by simp; omega) _
  have hsz : W0.heap.size = w.heap.size + 6 := by rw [← hW0]; simp
  rw [hW0]
  clear hW0
  refine range_w rfl (by omega) (gf := 13) (lb := #[.pointer (some ⟨(w.heap.size + 1 + 1 + 1 + 1 + 1), 0, none⟩)]) rfl trivial (enters_of Tryd.func13 (by kernel_rfl) rfl)
    (each_stops _ (by omega) (l.drop d) (m - d) (w.heap.size + 1 + 1 + 1 + 1 + 1) ax (cap - d) w W0 (by rw [List.length_drop, hm]) (hax w hb) (by omega) (by omega) ht (by omega) q5 hB0) (fun _ => rfl) KB.trans (fun W lp o o' hlp h _ _ => KB.put W lp o o' (by omega) (by omega) h)
    (RI w d first most) (RX w d first most) (RI.own w d first most _ (by omega)) (fun c => RX.own w d first most c _ (by omega))
    ⟨⟨⟨_, q3, World.ownsRow_nil _ _ _ _⟩, q4, ⟨_, q5⟩, (fun x hx => by cases hx), hB0⟩, q0, q1, q2, (fun i x h => by simp at h)⟩
    (fun pre x a' W => ∃ (Bx : Nat) (a2 : Option Addr) (c2 : Nat), x.bv = .slice a2 x.fm.body.length c2 ∧ FrmAt W Bx (x.fm.kind : Int) (x.fm.seq : Int) x.bv ∧ Own W w.heap.size x.bv x.fm.body ∧ (pre ++ [x]).map It.fm <+: scanL (l.drop d) ∧ a' = { tmps := #[.slice a m cap, .int .i64 (d : Int), .int .i64 first, .int .i64 most, undef, .pointer (some ⟨w.heap.size, 0, none⟩), .pointer (some ⟨w.heap.size + 1, 0, none⟩), .pointer (some ⟨w.heap.size + 1 + 1, 0, none⟩), .slice none 0 0, .int .i64 0, .pointer (some ⟨w.heap.size + 1 + 1 + 1, 0, none⟩), .pointer (some ⟨w.heap.size + 1 + 1 + 1 + 1, 0, none⟩), .int .i64 (x.fm.pos : Int), .pointer (some ⟨Bx, 0, none⟩), undef, .int .i64 (d : Int), .bool false, .bool false, .int .i64 (d : Int), .slice a m cap, .int .i64 (m : Int), .bool false, .bool false, .int .i64 (d : Int), .slice a m cap, .int .i64 (d : Int), .slice ax (m - d) (cap - d), .func (.func 13) #[] #[.pointer (some ⟨w.heap.size + 1 + 1 + 1 + 1 + 1, 0, none⟩)], .int .i64 (x.fm.pos : Int), FrV (x.fm.kind : Int) (x.fm.seq : Int) x.bv, undef, undef, undef, undef, undef, undef, undef, undef, undef, undef, undef, undef, undef, undef, undef, undef, undef, undef, undef, undef, undef, undef, undef, undef, undef, undef, undef, undef, undef, undef, undef, undef, undef, undef], defers := [] })
    ?hax ?assign ?body ?done ?stop
  case hax =>
    rintro pre x a' _ X Y row ⟨Bx, a2, c2, h1, h2, h3, h4, h5⟩ hg hr
    have hr2 : ∀ r, row = some r → ∃ o : Obj, X.heap[r]? = some o ∧ o.isCells = false := fun r e => (hr r e).2
    exact ⟨Bx, a2, c2, h1, cells_kept h2 hg hr2, ⟨h3.1, row_kept h3.2 hg hr2⟩, h4, h5⟩
  case assign =>
    rintro lp pre ⟨⟨pos, kind, seq, body⟩, bv⟩ W K hI ⟨hX1, hX2⟩ hK
    obtain ⟨a2, c2, hv2, _⟩ := hX2.shape
    simp only at hv2 hX2
    subst hv2
    gi_wp2
    exact hK _ _ ((KeepsOthers.alloc _ _).from _) (KB.below hI.ai.bel.size ((Below.refl _ W).alloc (Nat.le_refl _) _)) (hI.below ((Below.refl _ W).alloc (Nat.le_refl _) _)) ⟨W.heap.size, a2, c2, rfl, FrmAt.new W _ _ _, ⟨hX2.1, World.ownsRow.alloc hX2.2 _⟩, hX1, rfl⟩
  case body =>
    rintro lp pre ⟨⟨pos, kind, seq, body⟩, bv⟩ a' W hI ⟨Bx, a2, c2, h1, h2, h3, h4, rfl⟩
    simp only at h1 h2 h3 h4
    subst h1
    obtain ⟨g0, g1, g2⟩ := h2.cells
    obtain ⟨v, hv, hrow⟩ := hI.ai.row
    rw [List.length_map] at hrow
    obtain ⟨av, cv, rfl⟩ := row_shape hrow
    have hmem : (⟨pos, kind, seq, body⟩ : Fm) ∈ scanL (l.drop d) := h4.subset (by simp)
    obtain ⟨hbl, hps⟩ := scanL_facts _ _ hmem
    simp only [List.length_drop] at hbl hps
    have hpI : (d : Int) + (pos : Int) + (body.length : Int) + 20 ≤ 16777216 := by omega
    have hcnt : pre.length + 1 ≤ 838860 := by
      have q1 := h4.length_le
      have q2 := scanL_count (l.drop d)
      rw [List.length_drop] at q2
      simp at q1
      omega
    have hsum : first + (pre.length : Int) ≤ 9223372036854775807 := by
      cases hpz : pre with
      | nil => simp; omega
      | cons y r =>
        have hy := hI.acc 0 y (by rw [hpz]; rfl)
        have hys : y.fm.seq ≤ 1099511627776 := scanN_seq _ _ _ y.fm (h4.subset (by rw [hpz]; simp) : y.fm ∈ scanL (l.drop d))
        rw [hpz] at hcnt
        simp only [List.length_cons] at hcnt ⊢
        have := hy.2.2
        simp at this
        omega
    have hsum0 : -9223372036854775808 ≤ first + (pre.length : Int) := by omega
    have z0 := hI.b0.cell
    have z1 := hI.b1.cell
    have z2 := hI.b2.cell
    have z3 := hv.cell
    have HI : Hid (RI w d first most pre W) := hI
    have HROW : Hid (Boxed W (w.heap.size + 1 + 1 + 1) 24 (.slice av pre.length cv) ∧ W.ownsRow w.heap.size 34 5 (.slice av pre.length cv) pre.length (pflt (pre.map (shI d)))) := ⟨hv, hrow⟩
    have H3 : Hid (Own W w.heap.size (.slice a2 body.length c2) body) := h3
    have f23 : Fence.wide.fn 17 := trivial
    by_cases hoff : Off first most pre.length ⟨⟨pos, kind, seq, body⟩, .slice a2 body.length c2⟩
    · have HOF : Hid (Off first most pre.length ⟨⟨pos, kind, seq, body⟩, .slice a2 body.length c2⟩) := hoff
      have HKO : Hid (∀ B, KeepsFrom B W W) := fun B => (KeepsOthers.refl W).from B
      clear hv hrow hI h3 h4
      by_cases hmo : most ≤ (pre.length : Int)
      · gi_wp2
        exact ⟨HKO.out _, rfl, pre, _, rfl, HI.out, HOF.out⟩
      · have hmo2 : (pre.length : Int) < most := by omega
        by_cases hk1 : kind = 1
        · subst hk1
          have hsq : ((seq : Int) != first + (pre.length : Int)) = true := by
            rcases hoff with ho | ho | ho
            · exact absurd ho hmo
            · exact absurd rfl ho
            · simpa using ho
          clear hoff
          gi_wp2
          exact ⟨HKO.out _, rfl, pre, _, rfl, HI.out, HOF.out⟩
        · have hkb : ((kind : Int) != 1) = true := by simp; omega
          clear hoff hk1
          gi_wp2
          exact ⟨HKO.out _, rfl, pre, _, rfl, HI.out, HOF.out⟩
    · have HOF : Hid (¬ Off first most pre.length ⟨⟨pos, kind, seq, body⟩, .slice a2 body.length c2⟩) := hoff
      simp only [Off, not_or, Decidable.not_not] at hoff
      obtain ⟨hmo, rfl, hsq⟩ := hoff
      have hmo2 : (pre.length : Int) < most := by omega
      have hsb : ((seq : Int) != first + (pre.length : Int)) = false := by simp [hsq]
      have HHS : Hid (first + (pre.length : Int) = (seq : Int)) := hsq.symm
      obtain ⟨kd, hkd⟩ : ∃ kd : Int, ((1 : Nat) : Int) = kd := ⟨_, rfl⟩
      have hkb : (kd != 1) = false := by rw [← hkd]; rfl
      rw [hkd] at g0
      clear hkd
      have HAC : Hid (Acc first most (pre ++ [⟨⟨pos, 1, seq, body⟩, .slice a2 body.length c2⟩])) := hI.acc.snoc HOF.out
      have hmd : decide (most ≤ (pre.length : Int)) = false := by simp; omega
      clear hv hrow hI h3 h4 hsq
      iterate 62 (first | go_values | gi_guarded | gi_step | gi_upon)
      obtain rfl : kd = 1 := by simpa using hkb
      clear hsb hkb hmd hmo hmo2 hsum hsum0
      gi_wp2_with (first
        | (gi_at_call 17; refine (CallsIn.inRound lp (callsIn_wide.2 (placed_any ((d : Int) + (pos : Int)) 1 (seq : Int) a2 body.length c2 _ hbl))).mono ?_; rintro e w2 ⟨rfl, hb2⟩; have hv2 : Boxed w2 (w.heap.size + 1 + 1 + 1) 24 (.slice av pre.length cv) := (hb2.block _ HROW.out.1.lt).trans HROW.out.1; have hl2 := hv2.lt; have k0 := hv2.cell; have HB2 : Hid (Below W.heap.size W w2) := hb2; have HO4 : Hid (((w2.alloc (.cells #[.int .i64 ((d : Int) + (pos : Int)), .int .i64 ((body.length : Int) + 20), .int .i64 1, .int .i64 (seq : Int), .slice a2 body.length c2] 34)).alloc (.cells #[.int .i64 ((d : Int) + (pos : Int)), .int .i64 ((body.length : Int) + 20), .int .i64 1, .int .i64 (seq : Int), .slice a2 body.length c2] 34)).ownsRow w.heap.size 34 5 (.slice av pre.length cv) pre.length (pflt (pre.map (shI d)))) := World.ownsRow.alloc (World.ownsRow.alloc (own_below HROW.out.2 hb2) _) _; have HB4 : Hid (Below W.heap.size W ((w2.alloc (.cells #[.int .i64 ((d : Int) + (pos : Int)), .int .i64 ((body.length : Int) + 20), .int .i64 1, .int .i64 (seq : Int), .slice a2 body.length c2] 34)).alloc (.cells #[.int .i64 ((d : Int) + (pos : Int)), .int .i64 ((body.length : Int) + 20), .int .i64 1, .int .i64 (seq : Int), .slice a2 body.length c2] 34))) := (hb2.alloc hb2.size _).alloc (by have := hb2.size; simp; omega) _; have HNW : Hid (∀ j u, [.int .i64 ((d : Int) + (pos : Int)), .int .i64 ((body.length : Int) + 20), .int .i64 1, .int .i64 (seq : Int), .slice a2 body.length c2][j]? = some u → ((w2.alloc (.cells #[.int .i64 ((d : Int) + (pos : Int)), .int .i64 ((body.length : Int) + 20), .int .i64 1, .int .i64 (seq : Int), .slice a2 body.length c2] 34)).alloc (.cells #[.int .i64 ((d : Int) + (pos : Int)), .int .i64 ((body.length : Int) + 20), .int .i64 1, .int .i64 (seq : Int), .slice a2 body.length c2] 34)).cell? ((⟨w2.heap.size + 1, 0, none⟩ : Addr).add j) = some u) := (by have h := cell_newL (w2.alloc (.cells #[.int .i64 ((d : Int) + (pos : Int)), .int .i64 ((body.length : Int) + 20), .int .i64 1, .int .i64 (seq : Int), .slice a2 body.length c2] 34)) [.int .i64 ((d : Int) + (pos : Int)), .int .i64 ((body.length : Int) + 20), .int .i64 1, .int .i64 (seq : Int), .slice a2 body.length c2] 34; rw [World.size_alloc] at h; exact h); have HSZ : Hid (w.heap.size ≤ ((w2.alloc (.cells #[.int .i64 ((d : Int) + (pos : Int)), .int .i64 ((body.length : Int) + 20), .int .i64 1, .int .i64 (seq : Int), .slice a2 body.length c2] 34)).alloc (.cells #[.int .i64 ((d : Int) + (pos : Int)), .int .i64 ((body.length : Int) + 20), .int .i64 1, .int .i64 (seq : Int), .slice a2 body.length c2] 34)).heap.size) := Nat.le_trans HI.out.ai.bel.size HB4.out.size; clear hv2 hb2)
        | (gi_at_builtin; refine wpListIn_append_own _ rfl _ _ 24 rfl w.heap.size 34 i0 (.agg #[.int .i64 0, .int .i64 0, .int .i64 0, .int .i64 0, .slice none 0 0]) 5 56 Tryd.underlying24 hi hz0 hz1 hz2 rfl (by decide) _ _ _ rfl HO4.out ⟨w2.heap.size + 1, 0, none⟩ 1 1 [.int .i64 ((d : Int) + (pos : Int)), .int .i64 ((body.length : Int) + 20), .int .i64 1, .int .i64 (seq : Int), .slice a2 body.length c2] rfl rfl HNW.out (one5 _ _ _ _ _ _ _) (by unfold maxLen; omega) (by omega) HSZ.out ?_; intro v' w5 ho5 hg5 _; obtain ⟨g', cap', rfl⟩ := ownsRow_succ ho5; have HG5 : Hid (_) := hg5; have HO5 : Hid (_) := ho5; have hp5 : Boxed w5 (w.heap.size + 1 + 1 + 1) 24 (.slice av pre.length cv) := Boxed.kept ((HB4.out.block _ HROW.out.1.lt).trans HROW.out.1) hg5 (fun e => Boxed.not_row ((HB4.out.block _ HROW.out.1.lt).trans HROW.out.1 : Boxed _ (w.heap.size + 1 + 1 + 1) 24 (.slice av pre.length cv)) (by decide) HO4.out e); have hq5 : Boxed w5 (w.heap.size + 1 + 1 + 1 + 1) 3 (.int .i64 (endZ d ((pre.map (shI d)).map It.fm) : Int)) := Boxed.kept ((HB4.out.block _ HI.out.ai.fin.lt).trans HI.out.ai.fin) hg5 (fun e => Boxed.not_row ((HB4.out.block _ HI.out.ai.fin.lt).trans HI.out.ai.fin : Boxed _ (w.heap.size + 1 + 1 + 1 + 1) 3 _) (by decide) HO4.out e); have y0 := hp5.cell; have y1 := hp5.frozen; have y2 := hq5.cell; have y3 := hq5.frozen; have hx5 := far_box2 (W := W) (w2 := w2) HROW.out.2 HB2.out HO4.out hg5; clear hp5 hq5 hg5 ho5))
      obtain ⟨r1, r2, r3⟩ := AI.step (x := shI d ⟨⟨pos, 1, seq, body⟩, .slice a2 body.length c2⟩) (e := (d : Int) + (pos : Int) + ((body.length : Int) + 20)) HI.out.ai HB4.out ⟨H3.out.1, World.ownsRow.alloc (World.ownsRow.alloc (own_below H3.out.2 HB2.out) _) _⟩ HROW.out.1 (by rw [List.length_map]; exact HO4.out) HG5.out (by rw [List.length_map]; refine RowEq HO5.out ?_; simp [shI, sh, pflt]) (by omega) (by omega) (by omega) (by omega) (by omega) (by rw [List.map_append, List.map_singleton, endF_snoc]; simp only [shI, sh]; omega) W0.heap.size
      refine ⟨r1, r2, by rw [List.map_append]; exact r3, ?_, ?_, ?_, HAC.out⟩
      · exact far_kept HO4.out HG5.out ((HB4.out.block _ HI.out.b0.lt).trans HI.out.b0) (by decide) (by omega) (by omega)
      · exact far_kept HO4.out HG5.out ((HB4.out.block _ HI.out.b1.lt).trans HI.out.b1) (by decide) (by omega) (by omega)
      · exact far_kept HO4.out HG5.out ((HB4.out.block _ HI.out.b2.lt).trans HI.out.b2) (by decide) (by omega) (by omega)
  case done =>
    rintro D pre W hD hS hI hK
    have HL : Hid ((pre.map (shI d)).map It.fm = runL l d first most) := hI.all hS
    have HI : Hid (RI w d first most pre W ∧ w.heap.size ≤ D ∧ W.heap[D]? = some (.deferred (some []))) := ⟨hI, by omega, hK⟩
    clear hS
    obtain ⟨v, hv, hrow⟩ := hI.ai.row
    have hfin := hI.ai.fin
    rw [HL.out] at hfin
    have c0 := hv.cell
    have c1 := hfin.cell
    have HR : Hid (W.ownsRow w.heap.size 34 5 v (pre.map (shI d)).length (pflt (pre.map (shI d)))) := hrow
    clear hK hI hrow hfin hv q0 q1 q2 q3 q4 q5
    gi_wp2
    gi_quiet (fail)
    gi_wp2
    obtain ⟨p1, p2, p3, p4⟩ := all_end (nq := nq) HR.out HI.out.1.ai.byt HI.out.1.ai.bel (Below.refl _ _) HI.out.2.2 HI.out.2.1
    refine ⟨by simp, .inl ⟨_, _, rfl, run_takeDeferred p1, ?_⟩⟩
    exact ⟨_, results_tmp2 rfl _ _ _, pre.map (shI d), v, rfl, HL.out, p2, p3, p4⟩
  case stop =>
    rintro D c ys W hD hS ⟨rfl, pre, x, rfl, hI, hx⟩ hK
    have HL : Hid ((pre.map (shI d)).map It.fm = runL l d first most) := hI.stopped hx hS
    have HI : Hid (RI w d first most pre W ∧ w.heap.size ≤ D ∧ W.heap[D]? = some (.deferred (some []))) := ⟨hI, by omega, hK⟩
    clear hS
    obtain ⟨v, hv, hrow⟩ := hI.ai.row
    have hfin := hI.ai.fin
    rw [HL.out] at hfin
    have c0 := hv.cell
    have c1 := hfin.cell
    have HR : Hid (W.ownsRow w.heap.size 34 5 v (pre.map (shI d)).length (pflt (pre.map (shI d)))) := hrow
    clear hK hI hrow hfin hv q0 q1 q2 q3 q4 q5 hx
    gi_wp2
    gi_quiet (fail)
    gi_wp2
    obtain ⟨p1, p2, p3, p4⟩ := all_end (nq := nq) HR.out HI.out.1.ai.byt HI.out.1.ai.bel (Below.refl _ _) HI.out.2.2 HI.out.2.1
    refine ⟨by simp, .inl ⟨_, _, rfl, run_takeDeferred p1, ?_⟩⟩
    exact ⟨_, results_tmp2 rfl _ _ _, pre.map (shI d), v, rfl, HL.out, p2, p3, p4⟩
end Go.Proofs.YtpjikkhcimghaaaDoor
