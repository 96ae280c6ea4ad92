/- Own texts, joined: Rdx. -/
import Derived.Test.YtbdgiecnhgiogaaK17
import Derived.Test.YtbdgiecnhgiogaaK28
import Derived.Test.YtbdgiecnhgiogaaK30
namespace Go.Proofs.Ytbdgiecnhgiogaa
open Go.ChangeShapes Go.WideShapes Go.ChangeAt Go.RowKit
set_option linter.unusedVariables false
theorem row_other {w w' : World} {base size n x y : Nat} {e : TypeId} {v : Value} {xs : List Value} (h : w.ownsRow base e size v n xs) (hx : ∀ c, w.heap[x]? ≠ some (.cells c e)) (hy : ∀ c, w.heap[y]? ≠ some (.cells c e)) (hs : ∀ k, k < w.heap.size → k ≠ x → k ≠ y → w'.heap[k]? = w.heap[k]?) : w'.ownsRow base e size v n xs := by
  refine ⟨h.1, ?_⟩
  rcases h.2 with h2 | ⟨g, cap, cur, h3, h4, h5, h6⟩
  · exact .inl h2
  · refine .inr ⟨g, cap, cur, h3, h4, ?_, h6⟩
    rw [hs g (lt_of_heap h5) (fun e => by subst e; exact hx _ h5) (fun e => by subst e; exact hy _ h5)]
    exact h5
/-- the reader, the fields that are left, no script yet -/
structure RS (w x : World) (rb q b : Nat) (vf : Value) (Lf L : List (Fld × Value)) (e : Nat) : Prop where
  bel : Below w.heap.size w x
  rd : RdAt x rb q b L e
  lo : w.heap.size ≤ rb ∧ rb ≤ q ∧ rb ≤ b
  fs : Rws x w.heap.size vf Lf
theorem RS.keep {w x y : World} {rb q b : Nat} {vf : Value} {Lf L : List (Fld × Value)} {e : Nat} (h : RS w x rb q b vf Lf L e) (hb : Below x.heap.size x y) : RS w y rb q b vf Lf L e :=
  ⟨h.bel.trans (hb.mono h.bel.size), h.rd.keep hb, h.lo, ⟨own_below2 h.fs.own hb, fun p hp => own_app (h.fs.byt p hp) hb⟩⟩
/-- what lies below the reader is written over -/
theorem RdAt.low {w w' : World} {base q b : Nat} {L : List (Fld × Value)} {e : Nat} (h : RdAt w base q b L e) (h1 : base ≤ q) (h2 : base ≤ b) (hs : ∀ k, base ≤ k → w'.heap[k]? = w.heap[k]?) : RdAt w' base q b L e := by
  obtain ⟨n, D, hm, hr⟩ := h.map
  exact ⟨(hs q h1).trans h.blk, ⟨n, D, owns_same hm (hs b h2), hr⟩, fun p hp => ⟨(h.byt p hp).1, own_same (h.byt p hp).2 hs⟩⟩
/-- .. and the script -/
structure RI (w x : World) (rb q b g cap : Nat) (P : List (Pt × Value)) (vf : Value) (Lf L : List (Fld × Value)) (e : Nat) : Prop where
  st : RS w x rb q b vf Lf L e
  row : x.ownsRow w.heap.size 29 4 (.slice (some ⟨g, 0, none⟩) P.length cap) P.length (flatP P)
theorem RI.keep {w x y : World} {rb q b g cap : Nat} {P : List (Pt × Value)} {vf : Value} {Lf L : List (Fld × Value)} {e : Nat} (h : RI w x rb q b g cap P vf Lf L e) (hb : Below x.heap.size x y) : RI w y rb q b g cap P vf Lf L e :=
  ⟨h.st.keep hb, own_below2 h.row hb⟩
theorem RI.cells {w x : World} {rb q b g cap : Nat} {P : List (Pt × Value)} {vf : Value} {Lf L : List (Fld × Value)} {e : Nat} (h : RI w x rb q b g cap P vf Lf L e) (k : Nat) (p : Pt × Value) (hp : P[k]? = some p) : x.cell? ⟨g, k * 4, none⟩ = some (.int .i64 p.1.k) ∧ x.cell? ⟨g, k * 4 + 1, none⟩ = some (.int .i64 p.1.tag) ∧ x.cell? ⟨g, k * 4 + 2, none⟩ = some (.int .i64 p.1.v) ∧ x.cell? ⟨g, k * 4 + 3, none⟩ = some p.2 := by
  have hk : k < P.length := by
    by_cases hh : k < P.length
    · exact hh
    · rw [List.getElem?_eq_none (by omega)] at hp; cases hp
  obtain ⟨f0, f1, f2, f3⟩ := flatP_get P k p hp
  exact ⟨(h.row.cellAt (k * 4) (by omega)).trans f0, (h.row.cellAt (k * 4 + 1) (by omega)).trans f1, (h.row.cellAt (k * 4 + 2) (by omega)).trans f2, (h.row.cellAt (k * 4 + 3) (by omega)).trans f3⟩
theorem RdAt.not_cells {w : World} {base q b : Nat} {L : List (Fld × Value)} {e : Nat} (h : RdAt w base q b L e) {t : TypeId} (ht : t ≠ 73) : (∀ c, w.heap[q]? ≠ some (.cells c t)) ∧ ∀ c, w.heap[b]? ≠ some (.cells c t) := by
  refine ⟨fun c hc => ?_, fun c hc => ?_⟩
  · rw [h.blk] at hc
    injection hc with h1
    injection h1 with h2 h3
    exact ht h3.symm
  · obtain ⟨n, D, hm, _⟩ := h.map
    obtain ⟨es, c2, hb⟩ := map_blk hm
    rw [hb] at hc; cases hc
/-- behind a take -/
theorem RI.took {w x y : World} {rb q b g cap : Nat} {P : List (Pt × Value)} {vf : Value} {Lf L : List (Fld × Value)} {e : Nat} (h : RI w x rb q b g cap P vf Lf L e) {t : Int} {X : Bool} (hp : RdPost x rb q b L e t X y) : RI w y rb q b g cap P vf Lf (delT L t) (errF (L.map Prod.fst) e t X) := by
  obtain ⟨h1, h2⟩ := hp
  obtain ⟨l1, l2, l3⟩ := h.st.lo
  have hs : ∀ k, k < x.heap.size → k ≠ q → k ≠ b → y.heap[k]? = x.heap[k]? := fun k hk a c => h2.block k hk a c
  obtain ⟨n1, n2⟩ := h.st.rd.not_cells (t := 32) (by decide)
  obtain ⟨n3, n4⟩ := h.st.rd.not_cells (t := 29) (by decide)
  obtain ⟨n5, n6⟩ := h.st.rd.not_cells (t := 5) (by decide)
  exact ⟨⟨h2.below h.st.bel (by omega) (by omega), h1, h.st.lo, ⟨row_other h.st.fs.own n1 n2 hs, fun p hp => own_other (h.st.fs.byt p hp) n5 n6 hs⟩⟩, row_other h.row n3 n4 hs⟩
/-- the fields of a record that was read -/
structure OkF (fs : List Fld) : Prop where
  rise : fs.Pairwise (fun f g => f.tag < g.tag)
  right : ∀ f ∈ fs, FRight f
  few : fs.length ≤ 31
theorem OkF.del {fs : List Fld} (h : OkF fs) (t : Int) : OkF (delF fs t) :=
  ⟨h.rise.filter _, fun f hf => h.right f (List.mem_filter.1 hf).1, Nat.le_trans (List.length_filter_le _ _) h.few⟩
theorem rise_few : ∀ (fs : List Fld) (A : Int), fs.Pairwise (fun f g => f.tag < g.tag) → (∀ f ∈ fs, A < f.tag ∧ f.tag ≤ 31) → (fs.length : Int) ≤ 31 - A ∨ fs = []
  | [], _, _, _ => .inr rfl
  | f :: r, A, h, hb => by
    obtain ⟨h1, h2⟩ := List.pairwise_cons.1 h
    have h3 := hb f (List.mem_cons_self ..)
    rcases rise_few r f.tag h2 (fun g hg => ⟨h1 g hg, (hb g (List.mem_cons_of_mem _ hg)).2⟩) with h4 | h4
    · left; simp only [List.length_cons]; omega
    · left; subst h4; simp; omega
theorem okF_recs (l : List Nat) (hl : ∀ x ∈ l, x < 256) (he : (recs l).2.2 = 0) : OkF (recs l).1 := by
  obtain ⟨_, h2, h3, _⟩ := recs_ok l hl he
  obtain ⟨r1, r2⟩ := encs_rise _ _ _ _ h2
  refine ⟨r1, h3, ?_⟩
  rcases rise_few _ 0 r1 (fun f hf => ⟨(r2 f hf).1, (r2 f hf).2.2.1⟩) with h | h
  · omega
  · rw [h]; simp
theorem getF_two {L Lf : List (Fld × Value)} (h : L.map Prod.fst = Lf.map Prod.fst) (t : Int) : (getT L t).map Prod.fst = (getT Lf t).map Prod.fst := by
  rw [← getF_of, ← getF_of, h]
theorem del_two {L Lf : List (Fld × Value)} (h : L.map Prod.fst = Lf.map Prod.fst) (t : Int) : (delT L t).map Prod.fst = (delT Lf t).map Prod.fst := by
  rw [← delF_of, ← delF_of, h]
/-- what the three kinds of asking answer, by what the fields hold -/
theorem ask_none {L Lf : List (Fld × Value)} (h : L.map Prod.fst = Lf.map Prod.fst) {t : Int} (hg : getT Lf t = none) (e : Nat) (X : Bool) : numF (L.map Prod.fst) t = 0 ∧ txtF (L.map Prod.fst) t = [] ∧ errF (L.map Prod.fst) e t X = e ∧ delT L t = L := by
  have h1 : getF (L.map Prod.fst) t = none := by rw [h, getF_of, hg]; rfl
  refine ⟨by unfold numF; rw [h1], by unfold txtF; rw [h1], by unfold errF; rw [h1], ?_⟩
  apply delT_none
  have h2 := getF_of L t
  rw [h1] at h2
  cases h3 : getT L t with
  | none => rfl
  | some p => rw [h3] at h2; cases h2
theorem ask_some {L Lf : List (Fld × Value)} (h : L.map Prod.fst = Lf.map Prod.fst) {t : Int} {T : Int} {tx : Bool} {nu : Nat} {by0 : List Nat} {bv : Value} (hg : getT Lf t = some (⟨T, tx, nu, by0⟩, bv)) (e : Nat) (X : Bool) : numF (L.map Prod.fst) t = (if tx = false then nu else 0) ∧ txtF (L.map Prod.fst) t = (if tx = true then by0 else []) ∧ errF (L.map Prod.fst) e t X = (if tx = X then e else 33) := by
  have h1 : getF (L.map Prod.fst) t = some ⟨T, tx, nu, by0⟩ := by rw [h, getF_of, hg]; rfl
  exact ⟨by unfold numF; rw [h1], by unfold txtF; rw [h1], by unfold errF; rw [h1]⟩
/-- a list of fields while it grows in memory newer than x -/
structure GL (x y : World) (v : Value) (M : List (Fld × Value)) : Prop where
  row : y.ownsRow x.heap.size 32 4 v M.length (flat M)
  bel : Below x.heap.size x y
theorem GL.start (x : World) : GL x (x.alloc (.cells #[] 32)) (.slice (some ⟨x.heap.size, 0, none⟩) 0 0) [] :=
  ⟨⟨by simp [flat], .inr ⟨x.heap.size, 0, #[], rfl, Nat.le_refl _, heap_alloc_new x _, by simp, by simp, by simp, by simp [flat]⟩⟩, (Below.refl _ _).alloc (Nat.le_refl _) _⟩
theorem GL.step {x y z : World} {v : Value} {M : List (Fld × Value)} {p : Fld × Value} {g c m : Nat} (h : GL x y v M) (hm : M.length = m) (ho : z.ownsRow x.heap.size 32 4 (.slice (some ⟨g, 0, none⟩) (m + 1) c) (m + 1) (flat M ++ [.int .i64 p.1.tag, .bool p.1.text, .int .u64 (p.1.num : Int), p.2]))
    (hg : (y.alloc (.cells #[.int .i64 p.1.tag, .bool p.1.text, .int .u64 (p.1.num : Int), p.2] 32)).grownBy z v.ownBlock) : GL x z (.slice (some ⟨g, 0, none⟩) (m + 1) c) (M ++ [p]) := by
  subst hm
  refine ⟨?_, ?_⟩
  · rw [flat_append, List.length_append]
    exact ho
  · exact (h.bel.alloc h.bel.size _).grown hg (by have := h.bel.size; simp; omega) (fun k hk => (h.row.lt k hk).1)
theorem delT_snoc (M : List (Fld × Value)) (p : Fld × Value) (t : Int) : delT (M ++ [p]) t = if p.1.tag = t then delT M t else delT M t ++ [p] := by
  unfold delT
  rw [List.filter_append]
  by_cases h : p.1.tag = t <;> simp [h]
theorem take_snocF {L : List (Fld × Value)} {k : Nat} {p : Fld × Value} (hp : L[k]? = some p) : L.take (k + 1) = L.take k ++ [p] := by
  have hk : k < L.length := by
    by_cases hh : k < L.length
    · exact hh
    · rw [List.getElem?_eq_none (by omega)] at hp; cases hp
  rw [List.take_succ_eq_append_getElem hk]
  rw [List.getElem?_eq_getElem hk] at hp
  cases hp; rfl
/-- the list that was left is the new one -/
theorem RI.left {w x y : World} {rb q b g cap : Nat} {P : List (Pt × Value)} {vf v : Value} {Lf L : List (Fld × Value)} {e : Nat} (h : RI w x rb q b g cap P vf Lf L e) {t : Int} (hg : GL x y v (delT Lf t)) : RI w y rb q b g cap P v (delT Lf t) L e := by
  have h1 := h.keep hg.bel
  exact ⟨⟨h1.st.bel, h1.st.rd, h1.st.lo, ⟨World.ownsRow.mono hg.row h.st.bel.size, fun p hp => h1.st.fs.byt p (List.mem_filter.1 hp).1⟩⟩, h1.row⟩
/-- the answer of Rest while it is written over: from place j on it holds what it held -/
structure RW (x y : World) (base : Nat) (a : Option Addr) (n c : Nat) (ts : List Int) (j : Nat) : Prop where
  os : y.os = x.os
  tape : y.tape = x.tape
  output : y.output = x.output
  size : y.heap.size = x.heap.size
  block : ∀ k, a ≠ some ⟨k, 0, none⟩ → y.heap[k]? = x.heap[k]?
  p : ∃ xs, y.ownsRow base 3 1 (.slice a n c) n xs ∧ ∀ i, j ≤ i → xs[i]? = (ts.map (Value.int .i64))[i]?
theorem RW.start {x : World} {base n c : Nat} {a : Option Addr} {ts : List Int} (h : x.ownsRow base 3 1 (.slice a n c) n (ts.map (Value.int .i64))) : RW x x base a n c ts 0 :=
  ⟨rfl, rfl, rfl, rfl, fun _ _ => rfl, ⟨_, h, fun _ _ => rfl⟩⟩
theorem RW.step {x y : World} {base n c j : Nat} {a : Option Addr} {ts : List Int} (h : RW x y base a n c ts j) (hj : j < n) {t : Int} (ht : ts[j]? = some t) :
    ∃ g, a = some ⟨g, 0, none⟩ ∧ base ≤ g ∧ g < y.heap.size ∧ y.cell? ⟨g, j, none⟩ = some (.int .i64 t) ∧ y.frozen? ⟨g, j, none⟩ = false ∧ ∀ u : Int, RW x (y.setCell ⟨g, j, none⟩ (.int .i64 u)) base a n c ts (j + 1) := by
  obtain ⟨xs, hx, hz⟩ := h.p
  have hx2 := hx
  rcases hx2.2 with ⟨_, hn⟩ | ⟨g, cap, cur, hv, hb, hg, _⟩
  · omega
  · injection hv with h1 h2 h3
    subst h1
    have e2 := hx.cellAt j (by omega)
    rw [hz j (Nat.le_refl _), List.getElem?_map, ht] at e2
    refine ⟨g, rfl, hb, lt_of_heap hg, e2, hx.frozenAt j, fun u => ?_⟩
    have hst := hx.stored j (.int .i64 u)
    refine ⟨h.os, h.tape, h.output, by simp [World.setCell]; exact h.size, fun k hk => (heap_setCell_other _ ⟨g, j, none⟩ k _ (fun hh => hk (by rw [hh]))).trans (h.block k hk), ⟨_, hst.1, fun i hi => ?_⟩⟩
    rw [List.getElem?_set_ne (by omega)]
    exact hz i (by omega)
theorem RW.below {x y : World} {base n c j b : Nat} {a : Option Addr} {ts : List Int} (h : RW x y base a n c ts j) (hb : b ≤ base) : Below b x y :=
  ⟨h.os, h.tape, h.output, by rw [h.size]; exact Nat.le_refl _, fun k hk => h.block k (fun hh => by
    obtain ⟨xs, hx, _⟩ := h.p
    have := (hx.lt k (by rw [hh]; rfl)).1
    omega)⟩
theorem GL.drew {x y : World} {v : Value} {M : List (Fld × Value)} (h : GL x y v M) : GL x y.drew v M := ⟨own_below2 h.row ((Below.refl y.heap.size y).drew), h.bel.drew⟩
theorem new_good {w w' : World} {l : List Nat} {r : Ending} (h : NewPost w l r w') (he : (recs l).2.2 = 0) : ∃ q b L, r = .returned (.tuple #[.pointer (some ⟨q, 0, none⟩), .int .i64 0]) ∧ L.map Prod.fst = (recs l).1 ∧ RdAt w' w.heap.size q b L 0 ∧ w.heap.size ≤ q ∧ w.heap.size ≤ b ∧ Below w.heap.size w w' := by
  obtain ⟨hb, h1 | ⟨_, q, b, L, h2, h3, h4, h5, h6⟩⟩ := h
  · exact absurd he h1.1
  · exact ⟨q, b, L, h2, h3, h4, h5, h6, hb⟩
theorem new_none {w w' : World} {l : List Nat} {r : Ending} (h : NewPost w l r w') (he : (recs l).2.2 ≠ 0) : r = .returned (.tuple #[.pointer none, .int .i64 ((recs l).2.2 : Int)]) ∧ Below w.heap.size w w' := by
  obtain ⟨hb, h1 | ⟨h1, _⟩⟩ := h
  · exact ⟨h1.2, hb⟩
  · exact absurd h1 he
theorem rs_start {w x y : World} {s1 s2 s3 q b n c : Nat} {a : Option Addr} {v : Value} {Lf L : List (Fld × Value)} {e : Nat} (hb : Below w.heap.size w x) (hrd : RdAt x s2 q b L e) (hq : s2 ≤ q) (hqb : s2 ≤ b) (hfs : Rws x s3 v Lf) (h1 : w.heap.size ≤ s1) (h12 : s1 ≤ s2) (h23 : s2 ≤ s3) (ht : Tu x y s1 a n c) (hg : ∀ g, a = some ⟨g, 0, none⟩ → g < s2) : RS w y s2 q b v Lf L e := by
  have hs : ∀ k, s2 ≤ k → y.heap[k]? = x.heap[k]? := fun k hk => ht.block k (fun hh => by have := hg k hh; omega)
  exact ⟨hb.trans (ht.below h1), hrd.low hq hqb hs, ⟨by omega, hq, hqb⟩, ⟨World.ownsRow.mono (own_same hfs.own (fun k hk => hs k (by omega))) (by omega), fun p hp => ⟨(hfs.byt p hp).1, World.ownsRow.mono (own_same (hfs.byt p hp).2 (fun k hk => hs k (by omega))) (by omega)⟩⟩⟩
theorem ri_start {w y z1 z2 : World} {rb q b g cap4 n : Nat} {P : List (Pt × Value)} {vf v3 : Value} {Lf L : List (Fld × Value)} {e : Nat} (h : RS w y rb q b vf Lf L e) (ho3 : z1.ownsRow y.heap.size 29 4 v3 n (flatP P)) (hb3 : Below y.heap.size y z1) (hn : P.length = n)
    (ho4 : z2.ownsRow y.heap.size 29 4 (.slice (some ⟨g, 0, none⟩) (n + 1) cap4) (n + 1) (flatP P ++ [.int .i64 3, .int .i64 0, .int .i64 0, .slice none 0 0]))
    (hg4 : (z1.alloc (.cells #[.int .i64 3, .int .i64 0, .int .i64 0, .slice none 0 0] 29)).grownBy z2 v3.ownBlock) : RI w z2 rb q b g cap4 (P ++ [(⟨3, 0, 0, []⟩, .slice none 0 0)]) vf Lf L e := by
  have hs3 := hb3.size
  have hB : Below y.heap.size y z2 := (hb3.alloc hs3 _).grown hg4 (by simp; omega) (fun k hk => (ho3.lt k hk).1)
  refine ⟨h.keep hB, ?_⟩
  rw [flatP_append, List.length_append, hn]
  exact World.ownsRow.mono ho4 h.bel.size
/-- two empty lists of bytes, whatever their memory -/
theorem same_nil (a1 a2 : Option Addr) (c1 c2 : Nat) (w : World) : Calls Try.prog 15 #[.slice a1 0 c1, .slice a2 0 c2] w fun e w' => e = .returned (.bool true) ∧ Below w.heap.size w w' :=
  same_yes [] 0 0 a1 a2 c1 c2 w rfl rfl ⟨by simp, by simp⟩ ⟨by simp, by simp⟩ (by unfold maxLen; omega)
end Go.Proofs.Ytbdgiecnhgiogaa
