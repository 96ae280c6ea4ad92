/- Own texts, joined: Slci, Sc5, Rcrc, Same. -/
import Derived.Test.YtaegmeilhdbnnaaDoorJ04
import Derived.OwnWalkIn
import Derived.Test.YtaegmeilhdbnnaaDoorJ00
import Derived.Test.YtaegmeilhdbnnaaDoorRows
import Derived.Deep.QuietTactic
import Derived.BigQuiet
namespace Go.Proofs.YtaegmeilhdbnnaaDoor
open Go.ChangeShapes Go.WideShapes Go.ChangeAt Go.RowKit
set_option linter.unusedVariables false
theorem at_sliceI {F : Fence} {n : Nat} {ops : Array Oper} {rest : List Oper} {a : Act} {w : World} {Q : Exit → Act → World → Prop} {dst : Option Tmp} {ty : TypeId} {pos : String} {after : Array Edge} {s lo : Operand}
    (h : wpListIn F n Tryd.prog ops Q (⟨dst, .slice 22 s (some lo) none none, ty, pos, after, none⟩ :: rest) a w) : wpListIn F n Tryd.prog ops Q (⟨dst, .slice 22 s (some lo) none none, ty, pos, after, none⟩ :: rest) a w := h
theorem wpListIn_slice_l {F : Fence} {n' : Nat} {ops : Array Oper} {rest : List Oper} {o : Oper} {a : Act} {w : World} {Q : Exit → Act → World → Prop} (hgd : o.guard = none) (s lo : Operand) (ho : o.op = .slice 22 s (some lo) none none)
    {A : Option Addr} {n cap i : Nat} {l : List Nat} (hs : a.eval s = .slice A n cap) (hlo : a.eval lo = .int .i64 (i : Int)) (hi : i ≤ n) (hn : n ≤ cap) (hl : l.length = n) (hb : Bytes w A l)
    (h : ∀ x, Bytes w x (l.drop i) → wpListIn F n' Tryd.prog ops Q rest (a.put o.dst (.slice x (n - i) (cap - i))) w) : wpListIn F n' Tryd.prog ops Q (o :: rest) a w := by
  refine wpListIn_plain hgd fun K hK => ?_
  have hrun := run_slice_l (P := Tryd.prog) w 22 A n cap slice_under .i64 (i : Int) (by omega) (by omega)
  unfold Oper.wpIn
  refine ⟨?_, ?_⟩
  · simp [Oper.about, ho]
  · rw [Oper.semAt_plain F _ _ (by rw [ho]; intro c hc'; cases hc')]
    unfold execOp
    simp only [ho, hs, hlo, Option.map_some, Option.map_none, Sem.run_bind, Sem.run_pure, Result.andThen_ok, run_sliceAt_slice (P := Tryd.prog) w 22 _ _ _ _ slice_under, hrun, slice_size, sliced, Int.toNat_natCast]
    exact hK _ _ (h _ (bytes_cut hb i cap (by omega) (by omega)))
theorem wpListIn_slice_l2 {F : Fence} {n' : Nat} {ops : Array Oper} {rest : List Oper} {o : Oper} {a : Act} {w : World} {Q : Exit → Act → World → Prop} (hgd : o.guard = none) (s lo : Operand) (ho : o.op = .slice 22 s (some lo) none none)
    {A : Option Addr} {n cap i : Nat} {l : List Nat} (hs : a.eval s = .slice A n cap) (hlo : a.eval lo = .int .i64 (i : Int)) (hi : i ≤ n) (hn : n ≤ cap) (hl : l.length = n)
    (h : ∀ x, (∀ w0, Bytes w0 A l → Bytes w0 x (l.drop i)) → wpListIn F n' Tryd.prog ops Q rest (a.put o.dst (.slice x (n - i) (cap - i))) w) : wpListIn F n' Tryd.prog ops Q (o :: rest) a w := by
  refine wpListIn_plain hgd fun K hK => ?_
  have hrun := run_slice_l (P := Tryd.prog) w 22 A n cap slice_under .i64 (i : Int) (by omega) (by omega)
  unfold Oper.wpIn
  refine ⟨?_, ?_⟩
  · simp [Oper.about, ho]
  · rw [Oper.semAt_plain F _ _ (by rw [ho]; intro c hc'; cases hc')]
    unfold execOp
    simp only [ho, hs, hlo, Option.map_some, Option.map_none, Sem.run_bind, Sem.run_pure, Result.andThen_ok, run_sliceAt_slice (P := Tryd.prog) w 22 _ _ _ _ slice_under, hrun, slice_size, sliced, Int.toNat_natCast]
    exact hK _ _ (h _ (fun w0 hb => bytes_cut hb i cap (by omega) (by omega)))
end Go.Proofs.YtaegmeilhdbnnaaDoor
namespace Go.Proofs.YtaegmeilhdbnnaaDoor
open Go.ChangeShapes Go.WideShapes Go.ChangeAt Go.RowKit Go.Shelf
set_option linter.unusedVariables false
attribute [local go_sem] Oper.semAt_some
/-- the events of rising numbers at a list's beginning -/
def runN (first most : Int) : Nat → List Fm → List Fm
  | _, [] => []
  | i, f :: r => if most ≤ (i : Int) ∨ f.kind ≠ 1 ∨ (f.seq : Int) ≠ first + (i : Int) then [] else f :: runN first most (i + 1) r
def sh (d : Nat) (f : Fm) : Fm := ⟨d + f.pos, f.kind, f.seq, f.body⟩
def shI (d : Nat) (x : It) : It := ⟨sh d x.fm, x.bv⟩
def runL (l : List Nat) (d : Nat) (first most : Int) : List Fm := (runN first most 0 (scanL (l.drop d))).map (sh d)
/-- each of them is such an event -/
def Acc (first most : Int) (pre : List It) : Prop := ∀ (i : Nat) (x : It), pre[i]? = some x → (i : Int) < most ∧ x.fm.kind = 1 ∧ (x.fm.seq : Int) = first + (i : Int)
theorem runN_acc (first most : Int) : ∀ (L : List Fm) (i : Nat) (r : List Fm), (∀ (j : Nat) (f : Fm), L[j]? = some f → ((i + j : Nat) : Int) < most ∧ f.kind = 1 ∧ (f.seq : Int) = first + ((i + j : Nat) : Int)) → runN first most i (L ++ r) = L ++ runN first most (i + L.length) r
  | [], i, r, _ => by simp
  | f :: L, i, r, h => by
    have h0 := h 0 f rfl
    simp only [Nat.add_zero] at h0
    have hc : ¬ (most ≤ (i : Int) ∨ f.kind ≠ 1 ∨ (f.seq : Int) ≠ first + (i : Int)) := by
      rintro (h1 | h1 | h1)
      · omega
      · exact h1 h0.2.1
      · exact h1 h0.2.2
    rw [List.cons_append, runN, if_neg hc, runN_acc first most L (i + 1) r (fun j g hg => by have := h (j + 1) g (by simpa using hg); rwa [show i + (j + 1) = i + 1 + j from by omega] at this)]
    simp only [List.cons_append, List.length_cons]
    rw [show i + 1 + L.length = i + (L.length + 1) from by omega]
theorem runN_all {first most : Int} {pre : List It} (h : Acc first most pre) (r : List Fm) : runN first most 0 (pre.map It.fm ++ r) = pre.map It.fm ++ runN first most pre.length r := by
  have := runN_acc first most (pre.map It.fm) 0 r (fun j f hf => by
    rw [List.getElem?_map] at hf
    cases hx : pre[j]? with
    | none => rw [hx] at hf; cases hf
    | some x =>
      rw [hx] at hf
      cases hf
      rw [Nat.zero_add]
      exact h j x hx)
  rw [this]
  simp
theorem scanN_seq (l : List Nat) : ∀ (f p : Nat), ∀ x ∈ scanN f l p, x.seq ≤ 1099511627776
  | 0, p, x, h => by cases h
  | f + 1, p, x, h => by
    unfold scanN at h
    split at h
    · rename_i hc
      rcases List.mem_cons.1 h with rfl | h
      · obtain ⟨q1, q2, q3⟩ := decE_zero hc.2
        unfold peekE at q1
        split at q1
        · cases q1
        · split at q1
          · cases q1
          · split at q1
            · cases q1
            · split at q1
              · rename_i hh
                simp only [decS]
                rw [if_pos hc.2]
                exact hh.2.2.2
              · cases q1
      · exact scanN_seq l f _ x h
    · cases h
theorem RowEq {w : World} {base : Nat} {e : TypeId} {size : Nat} {v : Value} {n : Nat} {xs ys : List Value} (h : w.ownsRow base e size v n xs) (he : xs = ys) : w.ownsRow base e size v n ys := he ▸ h
theorem row_shape {w : World} {base : Nat} {e : TypeId} {size : Nat} {v : Value} {n : Nat} {xs : List Value} (h : w.ownsRow base e size v n xs) : ∃ a c, v = .slice a n c := by
  rcases h.2 with ⟨rfl, rfl⟩ | ⟨g, cap, cur, rfl, _⟩
  · exact ⟨none, 0, rfl⟩
  · exact ⟨_, _, rfl⟩
/-- the new frame's own box, behind the append -/
theorem far_box2 {w W w2 w5 : World} {p z k s : Int} {bv v : Value} {n : Nat} {xs : List Value} (hr : W.ownsRow w.heap.size 67 5 v n xs) (hb : Below W.heap.size W w2) (ho : ((w2.alloc (.cells #[.int .i64 p, .int .i64 z, .int .i64 k, .int .i64 s, bv] 67)).alloc (.cells #[.int .i64 p, .int .i64 z, .int .i64 k, .int .i64 s, bv] 67)).ownsRow w.heap.size 67 5 v n xs)
    (hg : ((w2.alloc (.cells #[.int .i64 p, .int .i64 z, .int .i64 k, .int .i64 s, bv] 67)).alloc (.cells #[.int .i64 p, .int .i64 z, .int .i64 k, .int .i64 s, bv] 67)).grownBy w5 v.ownBlock) : w5.cell? ⟨w2.heap.size, 0, none⟩ = some (.int .i64 p) ∧ w5.cell? ⟨w2.heap.size, 1, none⟩ = some (.int .i64 z) ∧ w2.heap.size < w5.heap.size := by
  have h1 : ((w2.alloc (.cells #[.int .i64 p, .int .i64 z, .int .i64 k, .int .i64 s, bv] 67)).alloc (.cells #[.int .i64 p, .int .i64 z, .int .i64 k, .int .i64 s, bv] 67)).heap[w2.heap.size]? = some (.cells #[.int .i64 p, .int .i64 z, .int .i64 k, .int .i64 s, bv] 67) := (Below.heap_alloc _ _ _ (by simp)).trans (heap_alloc_new w2 _)
  have h2 : w5.heap[w2.heap.size]? = some (.cells #[.int .i64 p, .int .i64 z, .int .i64 k, .int .i64 s, bv] 67) := by
    rw [hg.block _ (lt_of_heap h1) (fun e => ?_)]
    · exact h1
    · have := (hr.lt _ e.symm).2
      have := hb.size
      omega
  exact ⟨by rw [cell_of_row _ _ 0 _ _ _ h2]; rfl, by rw [cell_of_row _ _ 1 _ _ _ h2]; rfl, lt_of_heap h2⟩
/-- what holds in Run's loop -/
structure RI (w : World) (d : Nat) (first most : Int) (pre : List It) (W : World) : Prop where
  ai : AI w (w.heap.size + 1 + 1 + 1) (w.heap.size + 1 + 1 + 1 + 1) (w.heap.size + 1 + 1 + 1 + 1 + 1) d (pre.map (shI d)) W
  b0 : Boxed W w.heap.size 3 (.int .i64 (d : Int))
  b1 : Boxed W (w.heap.size + 1) 3 (.int .i64 first)
  b2 : Boxed W (w.heap.size + 1 + 1) 3 (.int .i64 most)
  acc : Acc first most pre
theorem RI.own (w : World) (d : Nat) (first most : Int) (B : Nat) (hB : w.heap.size ≤ B) : OwnFrom B (RI w d first most) := by
  rintro pre X Y row ⟨h1, h2, h3, h4, h5⟩ hg hr
  have hr2 : ∀ r, row = some r → ∃ o : Obj, X.heap[r]? = some o ∧ o.isCells = false := fun r e => (hr r e).2
  exact ⟨AI.own w _ _ _ _ B hB _ X Y row h1 hg hr, cells_kept h2 hg hr2, cells_kept h3 hg hr2, cells_kept h4 hg hr2, h5⟩
theorem RI.below {w W W' : World} {d : Nat} {first most : Int} {pre : List It} (h : RI w d first most pre W) (hb : Below W.heap.size W W') : RI w d first most pre W' :=
  ⟨h.ai.below hb, (hb.block _ h.b0.lt).trans h.b0, (hb.block _ h.b1.lt).trans h.b1, (hb.block _ h.b2.lt).trans h.b2, h.acc⟩
/-- an item at which the run ends -/
def Off (first most : Int) (i : Nat) (x : It) : Prop := most ≤ (i : Int) ∨ x.fm.kind ≠ 1 ∨ (x.fm.seq : Int) ≠ first + (i : Int)
def RX (w : World) (d : Nat) (first most : Int) (c : Code) (ys : List It) (W : World) : Prop := c = .exit 0 ∧ ∃ pre x, ys = pre ++ [x] ∧ RI w d first most pre W ∧ Off first most pre.length x
theorem RX.own (w : World) (d : Nat) (first most : Int) (c : Code) (B : Nat) (hB : w.heap.size ≤ B) : OwnFrom B (RX w d first most c) := by
  rintro ys X Y row ⟨hc, pre, x, h1, h2, h3⟩ hg hr
  exact ⟨hc, pre, x, h1, RI.own w d first most B hB pre X Y row h2 hg hr, h3⟩
theorem Acc.snoc {first most : Int} {pre : List It} {x : It} (h : Acc first most pre) (hx : ¬ Off first most pre.length x) : Acc first most (pre ++ [x]) := by
  intro i y hy
  rcases Nat.lt_trichotomy i pre.length with hi | rfl | hi
  · rw [List.getElem?_append_left hi] at hy
    exact h i y hy
  · rw [List.getElem?_append_right (Nat.le_refl _)] at hy
    simp at hy
    subst hy
    simp only [Off, not_or, Decidable.not_not] at hx
    exact ⟨by omega, hx.2.1, hx.2.2⟩
  · rw [List.getElem?_eq_none (by simp; omega)] at hy
    cases hy
theorem map_sh (d : Nat) (pre : List It) : (pre.map (shI d)).map It.fm = (pre.map It.fm).map (sh d) := by
  rw [List.map_map, List.map_map]; rfl
theorem RI.all {w W : World} {l : List Nat} {d : Nat} {first most : Int} {pre : List It} (h : RI w d first most pre W) (hS : pre.map It.fm = scanL (l.drop d)) : (pre.map (shI d)).map It.fm = runL l d first most := by
  have := runN_all h.acc []
  rw [List.append_nil, hS] at this
  rw [map_sh, hS, runL, this]
  simp [runN]
theorem RI.stopped {w W : World} {l : List Nat} {d : Nat} {first most : Int} {pre : List It} {x : It} (h : RI w d first most pre W) (hx : Off first most pre.length x) (hS : (pre ++ [x]).map It.fm <+: scanL (l.drop d)) : (pre.map (shI d)).map It.fm = runL l d first most := by
  obtain ⟨r, hr⟩ := hS
  rw [List.map_append, List.append_assoc] at hr
  have := runN_all h.acc (x.fm :: r)
  rw [map_sh, runL, ← hr]
  simp only [List.map_cons, List.map_nil, List.cons_append, List.nil_append]
  unfold Off at hx
  rw [this, runN, if_pos hx, List.append_nil]
set_option maxRecDepth 100000 in
set_option maxHeartbeats 8000000 in
theorem run_any (l : List Nat) (m : Nat) (a : Option Addr) (cap d : Nat) (first most : Int) (w : World) (hm : l.length = m) (hb : Bytes w a l) (hcap : m ≤ cap) (hl : m ≤ 16777216) (hd : d ≤ m) (hf0 : -9223372036854775808 ≤ first) (hf1 : first ≤ 9223372036854775807) (ht : Tab w) :
    Calls Tryd.prog 41 #[.slice a m cap, .int .i64 (d : Int), .int .i64 first, .int .i64 most] w fun e W' => ∃ (xs : List It) (v : Value), e = .returned (.tuple #[v, .int .i64 (endZ d (runL l d first most) : Int)]) ∧ xs.map It.fm = runL l d first most ∧ W'.ownsRow w.heap.size 67 5 v xs.length (pflt xs) ∧ (∀ x ∈ xs, Own W' w.heap.size x.bv x.fm.body) ∧ Below w.heap.size w W' := by
  obtain ⟨i0, hi, hz0, hz1, hz2⟩ := info_parts Tryd.infoPl
  refine (callsIn_wide (n := 5)).1 ?_
  have f15 : Fence.wide.fn 70 := trivial
  have hdI : (d : Int) ≤ (m : Int) := by omega
  have HX : Hid (l.length = m ∧ Bytes w a l ∧ m ≤ cap ∧ Tab w) := ⟨hm, hb, hcap, ht⟩
  have hdN : ¬ (d : Int) < 0 := by omega
  refine callsIn_of_wp_marks Tryd.func41 rfl trivial ?_ rfl
  simp only [Tryd.ntmps41, List.size_toArray, List.length_cons, List.length_nil, Nat.reduceAdd, Nat.reduceSub, Array.replicate_succ, Array.replicate_zero, List.push_toArray, List.append_toArray, List.nil_append, List.cons_append]
  gi_wp2_with (first
    | ((with_reducible refine at_sliceI ?_); refine wpListIn_slice_l2 rfl _ _ rfl rfl rfl hd hcap hm ?_; intro ax hax)
    | (gi_at_call 70; refine (each_in _ _ _ _ _).mono ?_; rintro e w' ⟨rfl, rfl⟩))
  obtain ⟨W0, hW0⟩ : ∃ W0, (((((w.alloc (.cells #[.int .i64 (d : Int)] 3)).alloc (.cells #[.int .i64 first] 3)).alloc (.cells #[.int .i64 most] 3)).alloc (.cells #[.slice none 0 0] 39)).alloc (.cells #[.int .i64 (d : Int)] 3)).alloc (.cells #[.slice ax (m - d) (cap - d)] 22) = W0 := ⟨_, rfl⟩
  have q0 : Boxed W0 w.heap.size 3 (.int .i64 (d : Int)) := by rw [← hW0]; exact (((((Boxed.new w _ _).alloc _).alloc _).alloc _).alloc _).alloc _
  have q1 : Boxed W0 (w.heap.size + 1) 3 (.int .i64 first) := by
    have h := ((((Boxed.new (w.alloc (.cells #[.int .i64 (d : Int)] 3)) 3 (.int .i64 first)).alloc (.cells #[.int .i64 most] 3)).alloc (.cells #[.slice none 0 0] 39)).alloc (.cells #[.int .i64 (d : Int)] 3)).alloc (.cells #[.slice ax (m - d) (cap - d)] 22)
    rw [World.size_alloc] at h
    rw [← hW0]; exact h
  have q2 : Boxed W0 (w.heap.size + 1 + 1) 3 (.int .i64 most) := by
    have h := (((Boxed.new ((w.alloc (.cells #[.int .i64 (d : Int)] 3)).alloc (.cells #[.int .i64 first] 3)) 3 (.int .i64 most)).alloc (.cells #[.slice none 0 0] 39)).alloc (.cells #[.int .i64 (d : Int)] 3)).alloc (.cells #[.slice ax (m - d) (cap - d)] 22)
    rw [World.size_alloc, World.size_alloc] at h
    rw [← hW0]; exact h
  have q3 : Boxed W0 (w.heap.size + 1 + 1 + 1) 39 (.slice none 0 0) := by
    have h := ((Boxed.new (((w.alloc (.cells #[.int .i64 (d : Int)] 3)).alloc (.cells #[.int .i64 first] 3)).alloc (.cells #[.int .i64 most] 3)) 39 (.slice none 0 0)).alloc (.cells #[.int .i64 (d : Int)] 3)).alloc (.cells #[.slice ax (m - d) (cap - d)] 22)
    rw [World.size_alloc, World.size_alloc, World.size_alloc] at h
    rw [← hW0]; exact h
  have q4 : Boxed W0 (w.heap.size + 1 + 1 + 1 + 1) 3 (.int .i64 (d : Int)) := by
    have h := (Boxed.new ((((w.alloc (.cells #[.int .i64 (d : Int)] 3)).alloc (.cells #[.int .i64 first] 3)).alloc (.cells #[.int .i64 most] 3)).alloc (.cells #[.slice none 0 0] 39)) 3 (.int .i64 (d : Int))).alloc (.cells #[.slice ax (m - d) (cap - d)] 22)
    rw [World.size_alloc, World.size_alloc, World.size_alloc, World.size_alloc] at h
    rw [← hW0]; exact h
  have q5 : Boxed W0 (w.heap.size + 1 + 1 + 1 + 1 + 1) 22 (.slice ax (m - d) (cap - d)) := by
    have h := Boxed.new (((((w.alloc (.cells #[.int .i64 (d : Int)] 3)).alloc (.cells #[.int .i64 first] 3)).alloc (.cells #[.int .i64 most] 3)).alloc (.cells #[.slice none 0 0] 39)).alloc (.cells #[.int .i64 (d : Int)] 3)) 22 (.slice ax (m - d) (cap - d))
    rw [World.size_alloc, World.size_alloc, World.size_alloc, World.size_alloc, World.size_alloc] at h
    rw [← hW0]; exact h
  have hB0 : Below w.heap.size w W0 := by rw [← hW0]; exact ((((((Below.refl _ w).alloc (Nat.le_refl _) _).alloc (by simp) _).alloc (by simp; omega) _).alloc (by simp; omega) _).alloc (by simp; omega) _).alloc (by simp; omega) _
  have hsz : W0.heap.size = w.heap.size + 6 := by rw [← hW0]; simp
  rw [hW0]
  clear hW0
  refine range_w rfl (by omega) (gf := 88) (lb := #[.pointer (some ⟨(w.heap.size + 1 + 1 + 1 + 1 + 1), 0, none⟩)]) rfl trivial (enters_of Tryd.func88 (by kernel_rfl) rfl)
    (each_stops _ (by omega) (l.drop d) (m - d) (w.heap.size + 1 + 1 + 1 + 1 + 1) ax (cap - d) w W0 (by rw [List.length_drop, hm]) (hax w hb) (by omega) (by omega) ht (by omega) q5 hB0) (fun _ => rfl) KB.trans (fun W lp o o' hlp h _ _ => KB.put W lp o o' (by omega) (by omega) h)
    (RI w d first most) (RX w d first most) (RI.own w d first most _ (by omega)) (fun c => RX.own w d first most c _ (by omega))
    ⟨⟨⟨_, q3, World.ownsRow_nil _ _ _ _⟩, q4, ⟨_, q5⟩, (fun x hx => by cases hx), hB0⟩, q0, q1, q2, (fun i x h => by simp at h)⟩
    (fun pre x a' W => ∃ (Bx : Nat) (a2 : Option Addr) (c2 : Nat), x.bv = .slice a2 x.fm.body.length c2 ∧ FrmAt W Bx (x.fm.kind : Int) (x.fm.seq : Int) x.bv ∧ Own W w.heap.size x.bv x.fm.body ∧ (pre ++ [x]).map It.fm <+: scanL (l.drop d) ∧ a' = { tmps := #[.slice a m cap, .int .i64 (d : Int), .int .i64 first, .int .i64 most, undef, .pointer (some ⟨w.heap.size, 0, none⟩), .pointer (some ⟨w.heap.size + 1, 0, none⟩), .pointer (some ⟨w.heap.size + 1 + 1, 0, none⟩), .slice none 0 0, .int .i64 0, .pointer (some ⟨w.heap.size + 1 + 1 + 1, 0, none⟩), .pointer (some ⟨w.heap.size + 1 + 1 + 1 + 1, 0, none⟩), .int .i64 (x.fm.pos : Int), .pointer (some ⟨Bx, 0, none⟩), undef, .int .i64 (d : Int), .bool false, .bool false, .int .i64 (d : Int), .slice a m cap, .int .i64 (m : Int), .bool false, .bool false, .int .i64 (d : Int), .slice a m cap, .int .i64 (d : Int), .slice ax (m - d) (cap - d), .func (.func 88) #[] #[.pointer (some ⟨w.heap.size + 1 + 1 + 1 + 1 + 1, 0, none⟩)], .int .i64 (x.fm.pos : Int), FrV (x.fm.kind : Int) (x.fm.seq : Int) x.bv, undef, undef, undef, undef, undef, undef, undef, undef, undef, undef, undef, undef, undef, undef, undef, undef, undef, undef, undef, undef, undef, undef, undef, undef, undef, undef, undef, undef, undef, undef, undef, undef, undef, undef], defers := [] })
    ?hax ?assign ?body ?done ?stop
  case hax =>
    rintro pre x a' _ X Y row ⟨Bx, a2, c2, h1, h2, h3, h4, h5⟩ hg hr
    have hr2 : ∀ r, row = some r → ∃ o : Obj, X.heap[r]? = some o ∧ o.isCells = false := fun r e => (hr r e).2
    exact ⟨Bx, a2, c2, h1, cells_kept h2 hg hr2, ⟨h3.1, row_kept h3.2 hg hr2⟩, h4, h5⟩
  case assign =>
    rintro lp pre ⟨⟨pos, kind, seq, body⟩, bv⟩ W K hI ⟨hX1, hX2⟩ hK
    obtain ⟨a2, c2, hv2, _⟩ := hX2.shape
    simp only at hv2 hX2
    subst hv2
    gi_wp2
    exact hK _ _ ((KeepsOthers.alloc _ _).from _) (KB.below hI.ai.bel.size ((Below.refl _ W).alloc (Nat.le_refl _) _)) (hI.below ((Below.refl _ W).alloc (Nat.le_refl _) _)) ⟨W.heap.size, a2, c2, rfl, FrmAt.new W _ _ _, ⟨hX2.1, World.ownsRow.alloc hX2.2 _⟩, hX1, rfl⟩
  case body =>
    rintro lp pre ⟨⟨pos, kind, seq, body⟩, bv⟩ a' W hI ⟨Bx, a2, c2, h1, h2, h3, h4, rfl⟩
    simp only at h1 h2 h3 h4
    subst h1
    obtain ⟨g0, g1, g2⟩ := h2.cells
    obtain ⟨v, hv, hrow⟩ := hI.ai.row
    rw [List.length_map] at hrow
    obtain ⟨av, cv, rfl⟩ := row_shape hrow
    have hmem : (⟨pos, kind, seq, body⟩ : Fm) ∈ scanL (l.drop d) := h4.subset (by simp)
    obtain ⟨hbl, hps⟩ := scanL_facts _ _ hmem
    simp only [List.length_drop] at hbl hps
    have hpI : (d : Int) + (pos : Int) + (body.length : Int) + 20 ≤ 16777216 := by omega
    have hcnt : pre.length + 1 ≤ 838860 := by
      have q1 := h4.length_le
      have q2 := scanL_count (l.drop d)
      rw [List.length_drop] at q2
      simp at q1
      omega
    have hsum : first + (pre.length : Int) ≤ 9223372036854775807 := by
      cases hpz : pre with
      | nil => simp; omega
      | cons y r =>
        have hy := hI.acc 0 y (by rw [hpz]; rfl)
        have hys : y.fm.seq ≤ 1099511627776 := scanN_seq _ _ _ y.fm (h4.subset (by rw [hpz]; simp) : y.fm ∈ scanL (l.drop d))
        rw [hpz] at hcnt
        simp only [List.length_cons] at hcnt ⊢
        have := hy.2.2
        simp at this
        omega
    have hsum0 : -9223372036854775808 ≤ first + (pre.length : Int) := by omega
    have z0 := hI.b0.cell
    have z1 := hI.b1.cell
    have z2 := hI.b2.cell
    have z3 := hv.cell
    have HI : Hid (RI w d first most pre W) := hI
    have HROW : Hid (Boxed W (w.heap.size + 1 + 1 + 1) 39 (.slice av pre.length cv) ∧ W.ownsRow w.heap.size 67 5 (.slice av pre.length cv) pre.length (pflt (pre.map (shI d)))) := ⟨hv, hrow⟩
    have H3 : Hid (Own W w.heap.size (.slice a2 body.length c2) body) := h3
    have f23 : Fence.wide.fn 71 := trivial
    by_cases hoff : Off first most pre.length ⟨⟨pos, kind, seq, body⟩, .slice a2 body.length c2⟩
    · have HOF : Hid (Off first most pre.length ⟨⟨pos, kind, seq, body⟩, .slice a2 body.length c2⟩) := hoff
      have HKO : Hid (∀ B, KeepsFrom B W W) := fun B => (KeepsOthers.refl W).from B
      clear hv hrow hI h3 h4
      by_cases hmo : most ≤ (pre.length : Int)
      · gi_wp2
        exact ⟨HKO.out _, rfl, pre, _, rfl, HI.out, HOF.out⟩
      · have hmo2 : (pre.length : Int) < most := by omega
        by_cases hk1 : kind = 1
        · subst hk1
          have hsq : ((seq : Int) != first + (pre.length : Int)) = true := by
            rcases hoff with ho | ho | ho
            · exact absurd ho hmo
            · exact absurd rfl ho
            · simpa using ho
          clear hoff
          gi_wp2
          exact ⟨HKO.out _, rfl, pre, _, rfl, HI.out, HOF.out⟩
        · have hkb : ((kind : Int) != 1) = true := by simp; omega
          clear hoff hk1
          gi_wp2
          exact ⟨HKO.out _, rfl, pre, _, rfl, HI.out, HOF.out⟩
    · have HOF : Hid (¬ Off first most pre.length ⟨⟨pos, kind, seq, body⟩, .slice a2 body.length c2⟩) := hoff
      simp only [Off, not_or, Decidable.not_not] at hoff
      obtain ⟨hmo, rfl, hsq⟩ := hoff
      have hmo2 : (pre.length : Int) < most := by omega
      have hsb : ((seq : Int) != first + (pre.length : Int)) = false := by simp [hsq]
      have HHS : Hid (first + (pre.length : Int) = (seq : Int)) := hsq.symm
      obtain ⟨kd, hkd⟩ : ∃ kd : Int, ((1 : Nat) : Int) = kd := ⟨_, rfl⟩
      have hkb : (kd != 1) = false := by rw [← hkd]; rfl
      rw [hkd] at g0
      clear hkd
      have HAC : Hid (Acc first most (pre ++ [⟨⟨pos, 1, seq, body⟩, .slice a2 body.length c2⟩])) := hI.acc.snoc HOF.out
      have hmd : decide (most ≤ (pre.length : Int)) = false := by simp; omega
      clear hv hrow hI h3 h4 hsq
      iterate 62 (first | go_values | gi_guarded | gi_step | gi_upon)
      obtain rfl : kd = 1 := by simpa using hkb
      clear hsb hkb hmd hmo hmo2 hsum hsum0
      gi_wp2_with (first
        | (gi_at_call 71; refine (CallsIn.inRound lp (callsIn_wide.2 (placed_any ((d : Int) + (pos : Int)) 1 (seq : Int) a2 body.length c2 _ hbl))).mono ?_; rintro e w2 ⟨rfl, hb2⟩; have hv2 : Boxed w2 (w.heap.size + 1 + 1 + 1) 39 (.slice av pre.length cv) := (hb2.block _ HROW.out.1.lt).trans HROW.out.1; have hl2 := hv2.lt; have k0 := hv2.cell; have HB2 : Hid (Below W.heap.size W w2) := hb2; have HO4 : Hid (((w2.alloc (.cells #[.int .i64 ((d : Int) + (pos : Int)), .int .i64 ((body.length : Int) + 20), .int .i64 1, .int .i64 (seq : Int), .slice a2 body.length c2] 67)).alloc (.cells #[.int .i64 ((d : Int) + (pos : Int)), .int .i64 ((body.length : Int) + 20), .int .i64 1, .int .i64 (seq : Int), .slice a2 body.length c2] 67)).ownsRow w.heap.size 67 5 (.slice av pre.length cv) pre.length (pflt (pre.map (shI d)))) := World.ownsRow.alloc (World.ownsRow.alloc (own_below HROW.out.2 hb2) _) _; have HB4 : Hid (Below W.heap.size W ((w2.alloc (.cells #[.int .i64 ((d : Int) + (pos : Int)), .int .i64 ((body.length : Int) + 20), .int .i64 1, .int .i64 (seq : Int), .slice a2 body.length c2] 67)).alloc (.cells #[.int .i64 ((d : Int) + (pos : Int)), .int .i64 ((body.length : Int) + 20), .int .i64 1, .int .i64 (seq : Int), .slice a2 body.length c2] 67))) := (hb2.alloc hb2.size _).alloc (by have := hb2.size; simp; omega) _; have HNW : Hid (∀ j u, [.int .i64 ((d : Int) + (pos : Int)), .int .i64 ((body.length : Int) + 20), .int .i64 1, .int .i64 (seq : Int), .slice a2 body.length c2][j]? = some u → ((w2.alloc (.cells #[.int .i64 ((d : Int) + (pos : Int)), .int .i64 ((body.length : Int) + 20), .int .i64 1, .int .i64 (seq : Int), .slice a2 body.length c2] 67)).alloc (.cells #[.int .i64 ((d : Int) + (pos : Int)), .int .i64 ((body.length : Int) + 20), .int .i64 1, .int .i64 (seq : Int), .slice a2 body.length c2] 67)).cell? ((⟨w2.heap.size + 1, 0, none⟩ : Addr).add j) = some u) := (by have h := cell_newL (w2.alloc (.cells #[.int .i64 ((d : Int) + (pos : Int)), .int .i64 ((body.length : Int) + 20), .int .i64 1, .int .i64 (seq : Int), .slice a2 body.length c2] 67)) [.int .i64 ((d : Int) + (pos : Int)), .int .i64 ((body.length : Int) + 20), .int .i64 1, .int .i64 (seq : Int), .slice a2 body.length c2] 67; rw [World.size_alloc] at h; exact h); have HSZ : Hid (w.heap.size ≤ ((w2.alloc (.cells #[.int .i64 ((d : Int) + (pos : Int)), .int .i64 ((body.length : Int) + 20), .int .i64 1, .int .i64 (seq : Int), .slice a2 body.length c2] 67)).alloc (.cells #[.int .i64 ((d : Int) + (pos : Int)), .int .i64 ((body.length : Int) + 20), .int .i64 1, .int .i64 (seq : Int), .slice a2 body.length c2] 67)).heap.size) := Nat.le_trans HI.out.ai.bel.size HB4.out.size; clear hv2 hb2)
        | (gi_at_builtin; refine wpListIn_append_own _ rfl _ _ 39 rfl w.heap.size 67 i0 (.agg #[.int .i64 0, .int .i64 0, .int .i64 0, .int .i64 0, .slice none 0 0]) 5 56 Tryd.underlying39 hi hz0 hz1 hz2 rfl (by decide) _ _ _ rfl HO4.out ⟨w2.heap.size + 1, 0, none⟩ 1 1 [.int .i64 ((d : Int) + (pos : Int)), .int .i64 ((body.length : Int) + 20), .int .i64 1, .int .i64 (seq : Int), .slice a2 body.length c2] rfl rfl HNW.out (one5 _ _ _ _ _ _ _) (by unfold maxLen; omega) (by omega) HSZ.out ?_; intro v' w5 ho5 hg5 _; obtain ⟨g', cap', rfl⟩ := ownsRow_succ ho5; have HG5 : Hid (_) := hg5; have HO5 : Hid (_) := ho5; have hp5 : Boxed w5 (w.heap.size + 1 + 1 + 1) 39 (.slice av pre.length cv) := Boxed.kept ((HB4.out.block _ HROW.out.1.lt).trans HROW.out.1) hg5 (fun e => Boxed.not_row ((HB4.out.block _ HROW.out.1.lt).trans HROW.out.1 : Boxed _ (w.heap.size + 1 + 1 + 1) 39 (.slice av pre.length cv)) (by decide) HO4.out e); have hq5 : Boxed w5 (w.heap.size + 1 + 1 + 1 + 1) 3 (.int .i64 (endZ d ((pre.map (shI d)).map It.fm) : Int)) := Boxed.kept ((HB4.out.block _ HI.out.ai.fin.lt).trans HI.out.ai.fin) hg5 (fun e => Boxed.not_row ((HB4.out.block _ HI.out.ai.fin.lt).trans HI.out.ai.fin : Boxed _ (w.heap.size + 1 + 1 + 1 + 1) 3 _) (by decide) HO4.out e); have y0 := hp5.cell; have y1 := hp5.frozen; have y2 := hq5.cell; have y3 := hq5.frozen; have hx5 := far_box2 (W := W) (w2 := w2) HROW.out.2 HB2.out HO4.out hg5; clear hp5 hq5 hg5 ho5))
      obtain ⟨r1, r2, r3⟩ := AI.step (x := shI d ⟨⟨pos, 1, seq, body⟩, .slice a2 body.length c2⟩) (e := (d : Int) + (pos : Int) + ((body.length : Int) + 20)) HI.out.ai HB4.out ⟨H3.out.1, World.ownsRow.alloc (World.ownsRow.alloc (own_below H3.out.2 HB2.out) _) _⟩ HROW.out.1 (by rw [List.length_map]; exact HO4.out) HG5.out (by rw [List.length_map]; refine RowEq HO5.out ?_; simp [shI, sh, pflt]) (by omega) (by omega) (by omega) (by omega) (by omega) (by rw [List.map_append, List.map_singleton, endF_snoc]; simp only [shI, sh]; omega) W0.heap.size
      refine ⟨r1, r2, by rw [List.map_append]; exact r3, ?_, ?_, ?_, HAC.out⟩
      · exact far_kept HO4.out HG5.out ((HB4.out.block _ HI.out.b0.lt).trans HI.out.b0) (by decide) (by omega) (by omega)
      · exact far_kept HO4.out HG5.out ((HB4.out.block _ HI.out.b1.lt).trans HI.out.b1) (by decide) (by omega) (by omega)
      · exact far_kept HO4.out HG5.out ((HB4.out.block _ HI.out.b2.lt).trans HI.out.b2) (by decide) (by omega) (by omega)
  case done =>
    rintro D pre W hD hS hI hK
    have HL : Hid ((pre.map (shI d)).map It.fm = runL l d first most) := hI.all hS
    have HI : Hid (RI w d first most pre W ∧ w.heap.size ≤ D ∧ W.heap[D]? = some (.deferred (some []))) := ⟨hI, by omega, hK⟩
    clear hS
    obtain ⟨v, hv, hrow⟩ := hI.ai.row
    have hfin := hI.ai.fin
    rw [HL.out] at hfin
    have c0 := hv.cell
    have c1 := hfin.cell
    have HR : Hid (W.ownsRow w.heap.size 67 5 v (pre.map (shI d)).length (pflt (pre.map (shI d)))) := hrow
    clear hK hI hrow hfin hv q0 q1 q2 q3 q4 q5
    gi_wp2
    gi_quiet (fail)
    gi_wp2
    obtain ⟨p1, p2, p3, p4⟩ := all_end (nq := nq) HR.out HI.out.1.ai.byt HI.out.1.ai.bel (Below.refl _ _) HI.out.2.2 HI.out.2.1
    refine ⟨by simp, .inl ⟨_, _, rfl, run_takeDeferred p1, ?_⟩⟩
    exact ⟨_, results_tmp2 rfl _ _ _, pre.map (shI d), v, rfl, HL.out, p2, p3, p4⟩
  case stop =>
    rintro D c ys W hD hS ⟨rfl, pre, x, rfl, hI, hx⟩ hK
    have HL : Hid ((pre.map (shI d)).map It.fm = runL l d first most) := hI.stopped hx hS
    have HI : Hid (RI w d first most pre W ∧ w.heap.size ≤ D ∧ W.heap[D]? = some (.deferred (some []))) := ⟨hI, by omega, hK⟩
    clear hS
    obtain ⟨v, hv, hrow⟩ := hI.ai.row
    have hfin := hI.ai.fin
    rw [HL.out] at hfin
    have c0 := hv.cell
    have c1 := hfin.cell
    have HR : Hid (W.ownsRow w.heap.size 67 5 v (pre.map (shI d)).length (pflt (pre.map (shI d)))) := hrow
    clear hK hI hrow hfin hv q0 q1 q2 q3 q4 q5 hx
    gi_wp2
    gi_quiet (fail)
    gi_wp2
    obtain ⟨p1, p2, p3, p4⟩ := all_end (nq := nq) HR.out HI.out.1.ai.byt HI.out.1.ai.bel (Below.refl _ _) HI.out.2.2 HI.out.2.1
    refine ⟨by simp, .inl ⟨_, _, rfl, run_takeDeferred p1, ?_⟩⟩
    exact ⟨_, results_tmp2 rfl _ _ _, pre.map (shI d), v, rfl, HL.out, p2, p3, p4⟩
end Go.Proofs.YtaegmeilhdbnnaaDoor
namespace Go.Proofs.YtaegmeilhdbnnaaDoor
open Go.ChangeShapes Go.WideShapes Go.ChangeAt Go.RowKit
theorem shN_snoc (k x : Nat) : Crcm.shN (k + 1) x = Crcm.sh (Crcm.shN k x) := by rw [Crcm.shN_add]; rfl
set_option maxRecDepth 20000 in
set_option maxHeartbeats 400000 in
theorem rtake_any (r c : Nat) (w : World) (hr : r < 4294967296) (hc : c < 256) :
    Calls Tryd.prog 90 #[.int .u32 r, .int .u8 c] w fun e w' => e = .returned (.int .u32 (Crcm.take r c : Nat)) ∧ w = w' := by
  have e1 : bits .xor .u32 (r : Int) (c : Int) = ((r ^^^ c : Nat) : Int) := u32_xor_nat r c hr (by omega)
  have hx : r ^^^ c < 4294967296 := xor_lt32 hr (by omega)
  have HT : Hid (Crcm.shN 8 (r ^^^ c) = Crcm.take r c) := rfl
  generalize r ^^^ c = x at *
  go_enter Tryd.func90, Tryd.ntmps90
  go_wp2
  go_loop [0, 5, 6] (fun vc vi vo => ∃ k y : Nat, k ≤ 8 ∧ vi = .int .i64 k ∧ vc = .int .u32 y ∧ y = Crcm.shN k x) (fun _ vi _ => 8 - (intOf vi).toNat)
  case atStart => exact ⟨0, x, Nat.zero_le _, rfl, rfl, rfl⟩
  case round =>
    obtain ⟨k, y, hk, rfl, rfl, hy⟩ := hrel
    have hylt : y < 4294967296 := by rw [hy]; exact Crcm.shN_lt k x hx
    have HS : Hid (Crcm.sh y = Crcm.shN (k + 1) x) := by show _ = _; rw [shN_snoc, hy]
    have HY : Hid (y = Crcm.shN k x) := hy
    clear hy
    by_cases hk8 : k < 8
    · by_cases ho : y % 2 = 1
      · have hb : ((y : Int) % 2 == 1) = true := by simp; omega
        have e2 : bits .xor .u32 ((y : Int) / 2) 3988292384 = ((Crcm.sh y : Nat) : Int) := by
          have h := u32_xor_nat (y / 2) 3988292384 (by omega) (by omega)
          rw [show ((y / 2 : Nat) : Int) = (y : Int) / 2 from by omega] at h
          unfold Crcm.sh
          rw [if_pos ho]
          exact h
        clear ho
        go_wp2
        go_round
        case rel => exact ⟨k + 1, _, by omega, by go_num, rfl, HS.out⟩
        case measure => simp [intOf]; omega
      · have hb : ((y : Int) % 2 == 1) = false := by simp; omega
        have HS2 : Hid (Crcm.sh y = y / 2) := by show _ = _; unfold Crcm.sh; rw [if_neg ho]
        clear ho
        go_wp2
        go_round
        case rel => exact ⟨k + 1, y / 2, by omega, by go_num, by go_num, by rw [← HS.out, HS2.out]⟩
        case measure => simp [intOf]; omega
    · have hk9 : k = 8 := by omega
      subst hk9
      go_wp2
      go_ret
      exact ⟨ret_int (by rw [← HT.out, HY.out]), rfl⟩
set_option maxRecDepth 20000 in
set_option maxHeartbeats 400000 in
theorem rupdate_any (s : Nat) (l : List Nat) (a : Option Addr) (cap : Nat) (w : World) (hs : s < 4294967296) (hb : Bytes w a l) (hl : l.length ≤ maxLen) :
    Calls Tryd.prog 82 #[.int .u32 s, .slice a l.length cap] w fun e w' => e = .returned (.int .u32 (Crcm.update s l : Nat)) ∧ w = w' := by
  unfold maxLen at hl
  have e0 : (4294967295 : Int) - (s : Int) = ((s ^^^ Crcm.ones : Nat) : Int) := by
    rw [← Crcm.ones_sub s hs]; unfold Crcm.ones; omega
  have HE0 : Hid (_ = _) := e0
  clear e0
  have hr0 : s ^^^ Crcm.ones < 4294967296 := xor_lt32 hs (by decide)
  have HTK : Hid (∀ k, ∀ x ∈ l.take k, x < 256) := fun k => mem_take_lt hb k
  have HU : Hid (Crcm.upd (s ^^^ Crcm.ones) l ^^^ Crcm.ones = Crcm.update s l) := rfl
  generalize s ^^^ Crcm.ones = r0 at *
  obtain ⟨hby, rfl | ⟨b, off, rfl, hlt, hcell⟩⟩ := hb
  · have HE9 : Hid (Crcm.update s [] = s) := by
      show _ = _
      rw [← HU.out]
      have h1 := HE0.out
      have h2 := Crcm.ones_sub r0 hr0
      show r0 ^^^ Crcm.ones = s
      rw [← h2]; unfold Crcm.ones; omega
    clear hby
    go_enter Tryd.func82, Tryd.ntmps82
    go_wp2
    refine wp_loop_rounds 1 ?_
    rw [rounds_succ]
    go_wp2
    go_ret
    refine ⟨ret_int ?_, rfl⟩
    rw [HE9.out]
    omega
  · have HBY : Hid (∀ i, l.getD i 0 < 256) := hby
    have HCELL : Hid (∀ i, i < l.length → w.cell? ⟨b, off + i, none⟩ = some (.int .u8 (l.getD i 0 : Nat))) := hcell
    clear hby hcell
    go_enter Tryd.func82, Tryd.ntmps82
    go_wp2
    go_loop [5, 6] (fun vr vi => ∃ k r : Nat, k ≤ l.length ∧ vi = .int .i64 k ∧ vr = .int .u32 r ∧ r = Crcm.upd r0 (l.take k)) (fun _ vi => l.length - (intOf vi).toNat)
    case atStart => exact ⟨0, r0, Nat.zero_le _, rfl, congrArg (Value.int IntKind.u32) HE0.out, rfl⟩
    case round =>
      obtain ⟨k, r, hk, rfl, rfl, hr⟩ := hrel
      have hrlt : r < 4294967296 := by rw [hr]; exact Crcm.upd_lt _ _ hr0 (HTK.out k)
      have HR : Hid (r = Crcm.upd r0 (l.take k)) := hr
      clear hr
      by_cases hkl : k < l.length
      · have hc := HCELL.out k hkl
        have hc256 := HBY.out k
        obtain ⟨c, hcE⟩ : ∃ c, c = l.getD k 0 := ⟨_, rfl⟩
        rw [← hcE] at hc hc256
        have HN : Hid (Crcm.take r c = Crcm.upd r0 (l.take (k + 1))) := by
          show _ = _
          rw [take_snoc_nat l k c hkl hcE, upd_snoc, HR.out]
        clear hcE HCELL HBY
        go_wp2_with (go_at_call 90; refine (rtake_any r c _ hrlt hc256).mono ?_; rintro e w' ⟨rfl, rfl⟩)
        go_round
        case rel => exact ⟨k + 1, _, by omega, by go_num, rfl, HN.out⟩
        case measure => simp [intOf]; omega
      · have HF : Hid ((4294967295 : Int) - (r : Int) = (Crcm.update s l : Nat)) := by
          show _ = _
          have h1 : r = Crcm.upd r0 l := by rw [HR.out, List.take_of_length_le (by omega)]
          rw [← HU.out, ← h1, ← Crcm.ones_sub r hrlt]; unfold Crcm.ones; omega
        clear HCELL HBY
        go_wp2
        go_ret
        exact ⟨ret_int HF.out, rfl⟩
theorem rsum_any (l : List Nat) (n : Nat) (a : Option Addr) (cap : Nat) (w : World) (hn : l.length = n) (hb : Bytes w a l) (hl : l.length ≤ maxLen) :
    Calls Tryd.prog 56 #[.slice a n cap] w fun e w' => e = .returned (.int .u32 (Crcm.sum l : Nat)) ∧ w = w' := by
  subst hn
  have HB : Hid (Bytes w a l) := hb
  have HU : Hid (Crcm.update 0 l = Crcm.sum l) := rfl
  clear hb
  go_enter Tryd.func56, Tryd.ntmps56
  go_wp2_with (go_at_call 82; refine (rupdate_any 0 l _ _ _ (by omega) HB.out hl).mono ?_; rw [HU.out]; rintro e w' ⟨rfl, rfl⟩)
  go_ret
  exact ⟨rfl, rfl⟩
end Go.Proofs.YtaegmeilhdbnnaaDoor
namespace Go.Proofs.YtaegmeilhdbnnaaDoor
open Go.ChangeShapes Go.WideShapes Go.ChangeAt Go.RowKit
theorem drewN_add (w : World) (a b : Nat) : (w.drewN a).drewN b = w.drewN (a + b) := by
  induction b with
  | zero => rfl
  | succ b ih => show ((w.drewN a).drewN b).drew = (w.drewN (a + b)).drew; rw [ih]
theorem same_end (l m : List Nat) (hl : l.length = m.length) (h : ∀ i, i < l.length → l.getD i 0 = m.getD i 0) : l = m := by
  apply List.ext_getElem hl
  intro i h1 h2
  have := h i h1
  simpa [List.getD_eq_getElem?_getD, List.getElem?_eq_getElem h1, List.getElem?_eq_getElem h2] using this
set_option maxRecDepth 20000 in
set_option maxHeartbeats 1000000 in
theorem same_any (l m : List Nat) (a1 a2 : Option Addr) (c1 c2 : Nat) (w : World) (hb1 : Bytes w a1 l) (hb2 : Bytes w a2 m) (hl : l.length ≤ maxLen) (hm : m.length ≤ maxLen) :
    Calls Tryd.prog 12 #[.slice a1 l.length c1, .slice a2 m.length c2] w fun e w' => e = .returned (.bool (decide (l = m))) ∧ ∃ n, w' = w.drewN n := by
  unfold maxLen at hl hm
  by_cases hne : l.length = m.length
  · have HN : Hid (l.length = m.length) := hne
    have hnb : ((l.length : Int) != (m.length : Int)) = false := by simp; omega
    obtain ⟨hy1, hb1⟩ := hb1
    obtain ⟨hy2, hb2⟩ := hb2
    by_cases h0 : l = []
    · subst h0
      have h1 : m = [] := List.length_eq_zero_iff.1 hne.symm
      subst h1
      clear hne
      go_enter Tryd.func12, Tryd.ntmps12
      go_wp2
      refine wp_loop_rounds 1 ?_
      rw [rounds_succ]
      go_wp2
      go_ret
      exact ⟨rfl, 0, rfl⟩
    · have h1 : m ≠ [] := by intro h; subst h; simp at hne; exact h0 hne
      rcases hb1 with hb1 | ⟨b, off, rfl, hlt1, hc1⟩
      · exact absurd hb1 h0
      rcases hb2 with hb2 | ⟨b', off', rfl, hlt2, hc2⟩
      · exact absurd hb2 h1
      clear h0 h1 hne
      go_enter Tryd.func12, Tryd.ntmps12
      go_wp2
      go_loopw [13] (fun i wr => ∃ k n0 : Nat, k ≤ l.length ∧ i = .int .i64 k ∧ wr = w.drewN n0 ∧ ∀ j, j < k → l.getD j 0 = m.getD j 0) (fun i _ => l.length - (intOf i).toNat)
      case atStart => exact ⟨0, 0, Nat.zero_le _, rfl, rfl, fun j hj => absurd hj (Nat.not_lt_zero _)⟩
      case round =>
        obtain ⟨k, n0, hk, rfl, rfl, hj⟩ := hrel
        have HJ : Hid (∀ j, j < k → l.getD j 0 = m.getD j 0) := hj
        clear hj
        by_cases hlt : k < l.length
        · have e1 := hc1 k hlt
          have e2 := hc2 k (by have := HN.out; omega)
          have hkm : k < m.length := by have := HN.out; omega
          obtain ⟨x, hx⟩ : ∃ x, x = l.getD k 0 := ⟨_, rfl⟩
          obtain ⟨y, hy⟩ : ∃ y, y = m.getD k 0 := ⟨_, rfl⟩
          rw [← hx] at e1
          rw [← hy] at e2
          have HX : Hid (x = l.getD k 0) := hx
          have HY : Hid (y = m.getD k 0) := hy
          clear hx hy hc1 hc2 hy1 hy2
          by_cases hxy : x = y
          · have HXY : Hid (x = y) := hxy
            have hq : ((x : Int) != (y : Int)) = false := by simp [hxy]
            clear hxy
            go_wp2
            go_quiet (fail)
            go_wp2
            go_roundw
            case rel =>
              refine ⟨k + 1, n0 + nq, by omega, by go_num, by first | rfl | exact drewN_add _ _ _, fun j hj => ?_⟩
              by_cases hjk : j < k
              · exact HJ.out j hjk
              · obtain rfl : j = k := by omega
                rw [← HX.out, ← HY.out, HXY.out]
            case measure => simp [intOf]; omega
          · have hq : ((x : Int) != (y : Int)) = true := by simp; omega
            have HNE : Hid (decide (l = m) = false) := by
              show _ = _
              rw [decide_eq_false_iff_not]
              intro h
              apply hxy
              rw [HX.out, HY.out, h]
            clear hxy
            go_wp2
            go_quiet (fail)
            go_wp2
            go_ret
            exact ⟨by rw [HNE.out]; rfl, n0 + nq, by first | rfl | exact drewN_add _ _ _⟩
        · have HEQ : Hid (decide (l = m) = true) := by
            show _ = _
            rw [decide_eq_true_iff]
            exact same_end l m HN.out fun i hi => HJ.out i (by omega)
          clear hc1 hc2 hy1 hy2
          go_wp2
          go_ret
          exact ⟨by rw [HEQ.out]; rfl, n0, rfl⟩
  · have hnb : ((l.length : Int) != (m.length : Int)) = true := by simp; omega
    have HNE : Hid (decide (l = m) = false) := by
      show _ = _
      rw [decide_eq_false_iff_not]
      intro h
      exact hne (by rw [h])
    clear hne hb1 hb2
    go_enter Tryd.func12, Tryd.ntmps12
    go_wp2
    go_ret
    exact ⟨by rw [HNE.out]; rfl, 0, rfl⟩
theorem same_at (l m : List Nat) (n1 n2 : Nat) (a1 a2 : Option Addr) (c1 c2 : Nat) (w : World) (e1 : l.length = n1) (e2 : m.length = n2) (hb1 : Bytes w a1 l) (hb2 : Bytes w a2 m) (hl : l.length ≤ maxLen) (hm : m.length ≤ maxLen) :
    Calls Tryd.prog 12 #[.slice a1 n1 c1, .slice a2 n2 c2] w fun e w' => e = .returned (.bool (decide (l = m))) ∧ ∃ n, w' = w.drewN n := by
  subst e1 e2
  exact same_any l m a1 a2 c1 c2 w hb1 hb2 hl hm
end Go.Proofs.YtaegmeilhdbnnaaDoor
