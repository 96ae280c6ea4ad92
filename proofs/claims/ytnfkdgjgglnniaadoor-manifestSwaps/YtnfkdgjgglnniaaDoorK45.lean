/- Own texts, joined: Fs1, Fs2, Rgt. -/
import Derived.Test.YtnfkdgjgglnniaaDoorK43
import Derived.Test.YtnfkdgjgglnniaaDoorK08
import Derived.Laws.OwnMore
import Derived.Laws.AppendOwnNone
import Derived.ArgAppend
import Derived.Deep.AppendSrc
import Derived.Deep.Upon
import Derived.Test.YtnfkdgjgglnniaaDoorK44
import Derived.Maps.RangeWalk
import Derived.Test.YtnfkdgjgglnniaaDoorProg
import Derived.Lib.AppendIntMem
import Derived.Laws.IdiomStrings
namespace Go.Proofs.YtnfkdgjgglnniaaDoor
open Go.ChangeShapes Go.WideShapes Go.ChangeAt Go.RowKit
set_option linter.unusedVariables false
theorem DatAt.nil (w : World) (base : Nat) : DatAt w base (.slice none 0 0) [] := .inl ⟨rfl, rfl⟩
theorem DatAt.moved {w w' : World} {base : Nat} {v : Value} {l : List Nat} (h : DatAt w base v l) (hs : ∀ k, base ≤ k → k < w.heap.size → v.ownBlock = some k → w'.heap[k]? = w.heap[k]?) : DatAt w' base v l := by
  rcases h with h | ⟨g, cap, cur, h1, h2, h3, h4⟩
  · exact .inl h
  · exact .inr ⟨g, cap, cur, h1, h2, (hs g h2 (lt_of_heap h3) (by rw [h1]; rfl)).trans h3, h4⟩
theorem DatAt.keep {w w' : World} {base : Nat} {v : Value} {l : List Nat} (h : DatAt w base v l) (hb : Below w.heap.size w w') : DatAt w' base v l := h.moved (fun k _ hk _ => hb.block k hk)
theorem DatAt.mono {w : World} {b b' : Nat} {v : Value} {l : List Nat} (h : DatAt w b' v l) (hb : b ≤ b') : DatAt w b v l := by
  rcases h with h | ⟨g, cap, cur, h1, h2, h3⟩
  · exact .inl h
  · exact .inr ⟨g, cap, cur, h1, Nat.le_trans hb h2, h3⟩
theorem DatAt.lt {w : World} {base : Nat} {v : Value} {l : List Nat} (h : DatAt w base v l) {k : Nat} (hk : v.ownBlock = some k) : base ≤ k ∧ k < w.heap.size := by
  rcases h with ⟨h, _⟩ | ⟨g, cap, cur, h1, h2, h3, _⟩
  · rw [h] at hk; simp [Value.ownBlock] at hk
  · rw [h1] at hk
    have : g = k := by simpa [Value.ownBlock] using hk
    subst this
    exact ⟨h2, lt_of_heap h3⟩
theorem DatAt.typ {w : World} {base : Nat} {v : Value} {l : List Nat} (h : DatAt w base v l) {k : Nat} (hk : v.ownBlock = some k) : ∃ c, w.heap[k]? = some (.cells c 5) := by
  rcases h with ⟨h, _⟩ | ⟨g, cap, cur, h1, h2, h3, _⟩
  · rw [h] at hk; simp [Value.ownBlock] at hk
  · rw [h1] at hk
    have : g = k := by simpa [Value.ownBlock] using hk
    subst this
    exact ⟨_, h3⟩
theorem take_cell {cur : Array Value} {l : List Nat} (h : cur.toList.take l.length = l.map (fun x : Nat => Value.int .u8 (x : Int))) (i : Nat) (hi : i < l.length) : cur[i]? = some (.int .u8 (l.getD i 0 : Nat)) := by
  have h1 := congrArg (fun y => y[i]?) h
  simp only [List.getElem?_take, if_pos hi, List.getElem?_map] at h1
  rw [← Array.getElem?_toList, h1, List.getD_eq_getElem?_getD, List.getElem?_eq_getElem hi]
  rfl
theorem DatAt.bytes {w : World} {base : Nat} {v : Value} {l : List Nat} (h : DatAt w base v l) : ∃ a c, v = .slice a l.length c ∧ l.length ≤ c ∧ c ≤ maxLen ∧ Bytes w a l ∧ (a = none → c = 0) ∧ v.oneCell' = true := by
  rcases h with ⟨rfl, rfl⟩ | ⟨g, cap, cur, rfl, h2, h3, h4, h5, h6, h7, h8⟩
  · exact ⟨none, 0, rfl, Nat.le_refl _, Nat.zero_le _, Bytes.none _ _, fun _ => rfl, rfl⟩
  · refine ⟨some ⟨g, 0, none⟩, cap, rfl, h4, h6, ⟨fun i => ?_, ?_⟩, (fun h => by cases h), rfl⟩
    · rw [List.getD_eq_getElem?_getD]
      cases hx : l[i]? with
      | none => simp
      | some x => exact h7 x (List.mem_of_getElem? hx)
    · refine .inr ⟨g, 0, rfl, lt_of_heap h3, fun i hi => ?_⟩
      rw [Nat.zero_add, cell_of_row w g i cur 5 (0, 0) h3]
      exact take_cell h8 i hi
theorem DatAt.of_own {w : World} {base : Nat} {v : Value} {l : List Nat} (h : Own w base v l) : DatAt w base v l := by
  obtain ⟨h1, h2, h3⟩ := h
  rcases h3 with ⟨h4, h5⟩ | ⟨g, cap, cur, h4, h5, h6, h7, h8, h9, h10⟩
  · exact .inl ⟨h4, List.length_eq_zero_iff.1 h5⟩
  · refine .inr ⟨g, cap, cur, h4, h5, h6, h7, by omega, h8, fun x hx => ?_, ?_⟩
    · obtain ⟨i, hi, rfl⟩ := List.mem_iff_getElem.1 hx
      have := h1 i
      rw [List.getD_eq_getElem?_getD, List.getElem?_eq_getElem hi] at this
      exact this
    · rw [Nat.mul_one] at h10
      exact h10
/-- the first n bytes, with no room behind them -/
theorem DatAt.first {w : World} {base : Nat} {a : Option Addr} {m c : Nat} {l : List Nat} (h : DatAt w base (.slice a m c) l) (n : Nat) (hn : n ≤ l.length) : DatAt w base (.slice a n n) (l.take n) := by
  rcases h with ⟨h1, rfl⟩ | ⟨g, cap, cur, h1, h2, h3, h4, h5, h6, h7, h8⟩
  · injection h1 with e1 e2 e3
    have : n = 0 := by simpa using hn
    subst e1 this
    exact .inl ⟨rfl, rfl⟩
  · injection h1 with e1 e2 e3
    subst e1
    have hl : (l.take n).length = n := by rw [List.length_take]; omega
    refine .inr ⟨g, n, cur, by rw [hl], h2, h3, by rw [hl]; exact Nat.le_refl _, by omega, by omega, fun x hx => h7 x (List.mem_of_mem_take hx), ?_⟩
    rw [hl, List.map_take, ← h8, List.take_take, Nat.min_eq_left hn]
/-- the bytes ahead of the last ones, with all the room -/
theorem DatAt.pre {w : World} {base : Nat} {a : Option Addr} {m c : Nat} {X l : List Nat} (h : DatAt w base (.slice a m c) (X ++ l)) : DatAt w base (.slice a X.length c) X := by
  rcases h with ⟨h1, h2⟩ | ⟨g, cap, cur, h1, h2, h3, h4, h5, h6, h7, h8⟩
  · injection h1 with e1 e2 e3
    have hX : X = [] := (List.append_eq_nil_iff.1 h2).1
    subst e1 e3 hX
    exact .inl ⟨rfl, rfl⟩
  · injection h1 with e1 e2 e3
    subst e1 e3
    rw [List.length_append] at h4 h8
    refine .inr ⟨g, c, cur, rfl, h2, h3, by omega, h5, h6, fun x hx => h7 x (List.mem_append_left _ hx), ?_⟩
    have h9 := congrArg (List.take X.length) h8
    rw [List.take_take, Nat.min_eq_left (by omega), List.map_append, List.take_append_of_le_length (by simp)] at h9
    exact h9.trans (List.take_of_length_le (by simp))
theorem setCells_row (g : Nat) {e : TypeId} : ∀ (vs : List Value) (o : Nat) (w : World) (cur : Array Value), w.heap[g]? = some (.cells cur e (0, 0)) → o + vs.length ≤ cur.size →
    ∃ cur', (w.setCells g o vs).heap[g]? = some (.cells cur' e (0, 0)) ∧ cur'.size = cur.size ∧ (∀ i, i < o → cur'[i]? = cur[i]?) ∧ (∀ i, i < vs.length → cur'[o + i]? = vs[i]?) ∧ (w.setCells g o vs).heap.size = w.heap.size ∧ (w.setCells g o vs).os = w.os ∧ (w.setCells g o vs).tape = w.tape ∧ (w.setCells g o vs).output = w.output ∧ ∀ k, k ≠ g → (w.setCells g o vs).heap[k]? = w.heap[k]?
  | [], o, w, cur, h, _ => ⟨cur, h, rfl, fun _ _ => rfl, fun i hi => by simp at hi, rfl, rfl, rfl, rfl, fun _ _ => rfl⟩
  | v :: r, o, w, cur, h, hs => by
    simp only [List.length_cons] at hs
    obtain ⟨cur', h1, h2, h3, h4, h5, h6, h7, h8, h9⟩ := setCells_row g r (o + 1) (w.setCell ⟨g, o, none⟩ v) (cur.setIfInBounds o v) (heap_setCell_same w g o cur e v h) (by simp; omega)
    refine ⟨cur', h1, by rw [h2]; simp, fun i hi => ?_, fun i hi => ?_, by rw [World.setCells, h5]; simp [World.setCell], h6, h7, h8, fun k hk => (h9 k hk).trans (heap_setCell_other w ⟨g, o, none⟩ k v hk)⟩
    · rw [h3 i (by omega), Array.getElem?_setIfInBounds, if_neg (by omega)]
    · cases i with
      | zero =>
        rw [Nat.add_zero, h3 o (by omega), Array.getElem?_setIfInBounds, if_pos rfl, if_pos (by omega)]
        rfl
      | succ i =>
        have h := h4 i (by simpa using hi)
        rw [show o + (i + 1) = o + 1 + i from by omega, h]
        rfl
theorem dat_snoc {w : World} {base g cap : Nat} {cur cur' : Array Value} {X l : List Nat} (hX : cur.toList.take X.length = X.map (fun x : Nat => Value.int .u8 (x : Int))) (hx : ∀ x ∈ X, x < 256) (hl : ∀ x ∈ l, x < 256) (hb : base ≤ g) (hh : w.heap[g]? = some (.cells cur' 5 (0, 0))) (hc : X.length + l.length ≤ cap) (hcap : cap ≤ cur.size) (hm : cap ≤ maxLen) (hsz : cur'.size = cur.size) (h1 : ∀ i, i < X.length → cur'[i]? = cur[i]?) (h2 : ∀ i, i < l.length → cur'[X.length + i]? = (l.map (fun x : Nat => Value.int .u8 (x : Int)))[i]?) :
    DatAt w base (.slice (some ⟨g, 0, none⟩) (X.length + l.length) cap) (X ++ l) := by
  refine .inr ⟨g, cap, cur', by rw [List.length_append], hb, hh, by rw [List.length_append]; exact hc, by omega, hm, fun x hx2 => ?_, ?_⟩
  · rcases List.mem_append.1 hx2 with h | h
    · exact hx x h
    · exact hl x h
  · rw [List.map_append, ← hX]
    apply List.ext_getElem?
    intro i
    rw [List.length_append, List.getElem?_take]
    have hXl : (cur.toList.take X.length).length = X.length := by rw [hX, List.length_map]
    by_cases hi : i < X.length
    · rw [if_pos (by omega), List.getElem?_append_left (by omega), List.getElem?_take, if_pos hi, Array.getElem?_toList, Array.getElem?_toList, h1 i hi]
    · rw [List.getElem?_append_right (by omega), hXl]
      by_cases hi2 : i < X.length + l.length
      · rw [if_pos hi2, Array.getElem?_toList, ← h2 (i - X.length) (by omega)]
        rw [show X.length + (i - X.length) = i from by omega]
      · rw [if_neg hi2, List.getElem?_eq_none (by rw [List.length_map]; omega)]
theorem info8 : ∃ i0, Tryd.prog.info? 5 = some i0 ∧ i0.zero = some (.int .u8 0) ∧ i0.size = 1 ∧ i0.bytes = 1 := by
  obtain ⟨i0, hi, hz0, hz1, hz2⟩ := info_parts Tryd.info5c
  exact ⟨i0, hi, hz0, hz1, hz2⟩
/-- append to a file's bytes: they stay where they are, or go to new memory -/
theorem wpList_append_dat (w : World) {ops : Array Oper} {rest : List Oper} {o : Oper} {act : Act} {Q : Exit → Act → World → Prop}
    (hg : o.guard = none) (s x : Operand) (hop : o.op = Op.call { callee := Callee.builtin Builtin.append, args := #[s, x], argTypes := #[40, 40] })
    (base : Nat) (v : Value) (X l : List Nat) (A : Option Addr) (n C : Nat) (hs : act.eval s = v) (hd : DatAt w base v X) (hx : act.eval x = .slice A n C) (hln : l.length = n) (hb : Bytes w A l) (hnc : n ≤ C) (hA : A = none → C = 0) (hl : X.length + n ≤ 70368744177664) (hbase : base ≤ w.heap.size)
    (hK : ∀ v' w', DatAt w' base v' (X ++ l) → DatAt w' base v X → w.grownBy w' v.ownBlock → (∀ g, v'.ownBlock = some g → v.ownBlock = some g ∨ w.heap.size ≤ g) → wpList Tryd.prog ops Q rest (act.put o.dst v') w') :
    wpList Tryd.prog ops Q (o :: rest) act w := by
  subst hln
  obtain ⟨i0, hi, hz0, hz1, hz2⟩ := info8
  have hmem := hb.mem
  by_cases h0 : l.length = 0
  · -- nothing is appended
    have hl0 : l = [] := List.length_eq_zero_iff.1 h0
    subst hl0
    have hsrc : Src Tryd.prog i0.size 40 (.slice A 0 C) 0 [] w := by
      rw [hz1]
      cases A with
      | none => exact Src.ofNil w Tryd.underlying40 C
      | some x0 => exact Src.ofSlice w Tryd.underlying40 x0 0 C [] rfl (fun j u h => by simp at h) (fun u hu => by cases hu)
    obtain ⟨a, c, hv, hc1, _⟩ := hd.bytes
    have hrun := run_append_nothing (P := Tryd.prog) w 40 40 o.type 5 i0 Tryd.underlying40 hi a X.length c hc1 (.slice A 0 C) hsrc
    refine wpList_plain hg fun K hK' => ?_
    unfold Oper.wp
    have hs2 := hs
    rw [hv] at hs2
    simp [execOp, hop, resolve, invoke, builtin, hs2, hx, hrun, Result.andThen]
    rw [← hv]
    exact hK' _ _ (hK v w (by rw [List.append_nil]; exact hd) hd ⟨rfl, rfl, rfl, Nat.le_refl _, fun _ _ _ => rfl⟩ (fun g h => .inl h))
  · obtain ⟨x0, rfl⟩ : ∃ x0, A = some x0 := by
      cases A with
      | none => have := hA rfl; omega
      | some x0 => exact ⟨x0, rfl⟩
    have grown : ∀ v' w', w'.ownsRow w.heap.size 5 1 v' (X.length + l.length) (B8 X ++ B8 l) → w.grownBy w' none → (hXb : ∀ i, X.getD i 0 < 256) → wpList Tryd.prog ops Q rest (act.put o.dst v') w' := fun v' w' ho hgr hXb =>
      hK v' w' (DatAt.of_own (Own.append hXb hb.1 ⟨ho.1, by
        rcases ho.2 with h | ⟨g, cap, cur, h1, h2, h3⟩
        · exact .inl h
        · exact .inr ⟨g, cap, cur, h1, Nat.le_trans hbase h2, h3⟩⟩)) (hd.moved (fun k _ hk _ => hgr.block k hk (by simp))) ⟨hgr.os, hgr.tape, hgr.output, hgr.size, fun k hk _ => hgr.block k hk (by simp)⟩ (fun g h => .inr (ho.lt g h).1)
    have hdb := hd.bytes
    obtain ⟨a, c, hv, hc1, hc2, hby, hnil, _⟩ := hdb
    by_cases hfit : X.length + l.length ≤ c
    · rcases hd with ⟨h1, h2⟩ | ⟨g, cap, cur, h1, h2, h3, h4, h5, h6, h7, h8⟩
      · rw [h1] at hv
        injection hv with e1 e2 e3
        omega
      · rw [h1] at hv
        injection hv with e1 e2 e3
        subst e1 e3
        refine wpList_append_arg w hg s x 40 hop 5 i0 (.int .u8 0) 1 1 Tryd.underlying40 hi hz0 hz1 hz2 rfl (by decide) g 0 X.length cap (B8 X) (by rw [hs, h1]) (B8_length X) ?_ x0 l.length C (B8 l) hx (B8_length l) (bytes_cells hb) (B8_one l) ?_ (by unfold maxLen; omega) (by omega) ?_ ?_
        · intro j u hj
          rw [Nat.zero_add]
          have hjl : j < X.length := by have h9 := List.getElem?_eq_some_iff.1 hj; obtain ⟨h9, _⟩ := h9; rw [B8_length] at h9; omega
          rw [cell_of_row w g j cur 5 (0, 0) h3, take_cell h8 j hjl]
          rw [← hj]
          simp [B8, List.getD_eq_getElem?_getD, List.getElem?_eq_getElem hjl]
        · intro _ j hj
          rw [B8_length] at hj
          refine ⟨?_, frozen_of_row _ _ _ _ _ h3⟩
          rw [cell_of_row w g _ cur 5 (0, 0) h3, Array.getElem?_eq_getElem (by omega)]
          rfl
        · intro _
          obtain ⟨cur', k1, k2, k3, k4, k5, k6, k7, k8, k9⟩ := setCells_row g (B8 l) (0 + X.length * 1) w cur h3 (by rw [B8_length]; omega)
          have hfin : DatAt (w.setCells g (0 + X.length * 1) (B8 l)) base (.slice (some ⟨g, 0, none⟩) (X.length + l.length) cap) (X ++ l) := by
            refine dat_snoc h8 h7 hmem h2 k1 hfit h5 h6 k2 (fun i hi => k3 i (by omega)) (fun i hi => ?_)
            have := k4 i (by rw [B8_length]; omega)
            rw [show 0 + X.length * 1 + i = X.length + i from by omega] at this
            rw [this]
            rfl
          refine hK _ _ hfin (by rw [h1]; exact hfin.pre) ⟨k6, k7, k8, by rw [k5]; exact Nat.le_refl _, fun k hk hne => k9 k (fun e => hne (by rw [h1, e]; rfl))⟩ (fun k hk => .inl (by rw [h1]; exact hk))
        · intro hh
          omega
    · have hXb : ∀ i, X.getD i 0 < 256 := hby.1
      refine wpList_append_grows w hg s x 40 hop 5 i0 (.int .u8 0) 1 1 Tryd.underlying40 hi hz0 hz1 hz2 rfl (by decide) a X.length c (B8 X) (by rw [hs, hv]) ?_ (B8_length X) ?_ x0 l.length C (B8 l) hx (B8_length l) (bytes_cells hb) (B8_one l) (by omega) (by unfold maxLen; omega) (by omega) (fun v' w' ho hgr => grown v' w' ho hgr hXb)
      · intro ha
        have := hnil ha
        exact ⟨by omega, this⟩
      · intro b hb2 j u hj
        subst hb2
        exact bytes_cells hby j u hj
end Go.Proofs.YtnfkdgjgglnniaaDoor
namespace Go.Proofs.YtnfkdgjgglnniaaDoor
open Go.ChangeShapes Go.WideShapes Go.ChangeAt Go.RowKit
set_option linter.unusedVariables false
/-- a disk -/
structure Dk where
  room : Int
  fuse : Int
  off : Bool
  steps : Int
  read : Int
  fs : List Fi
abbrev dkA (D : Dk) (b : Nat) : Array Value := #[.int .i64 D.room, .map (some b), .int .i64 D.fuse, .bool D.off, .int .i64 D.steps, .int .i64 D.read]
def usedN (L : List Fi) : Nat := (L.map (fun f => f.l.length)).sum
abbrev OwnDist (L : List Fi) : Prop := L.Pairwise (fun f g => ∀ k, f.v.ownBlock = some k → g.v.ownBlock ≠ some k)
/-- the disk D lies in block q, its map in block b; all of it from base on -/
structure DkAt (w : World) (base q b : Nat) (D : Dk) : Prop where
  blk : w.heap[q]? = some (.cells (dkA D b) 48)
  map : ∃ M, w.ownsMap Tryd.prog 9 hvS b D.fs.length M ∧ RepN M D.fs
  srt : SortN D.fs
  dat : ∀ f ∈ D.fs, DatAt w base f.v f.l
  dist : OwnDist D.fs
  lo : base ≤ q ∧ base ≤ b
/-- what a disk's numbers keep to -/
structure DkOk (D : Dk) : Prop where
  room : 0 ≤ D.room ∧ D.room ≤ 67108864
  used : (usedN D.fs : Int) ≤ D.room
  fuse : 0 ≤ D.fuse ∧ D.fuse ≤ 9223372036854775807
  steps : -9223372036854775808 ≤ D.steps ∧ D.steps ≤ 9223372036854775807
  read : -9223372036854775808 ≤ D.read ∧ D.read ≤ 9223372036854775807
  few : D.fs.length ≤ 700
  name : ∀ f ∈ D.fs, f.name.length ≤ 24
  safe : ∀ f ∈ D.fs, f.s ≤ f.l.length
theorem owns_sameS {w w' : World} {b n : Nat} {M : DataW Value} (h : w.ownsMap Tryd.prog 9 hvS b n M) (hs : w'.heap[b]? = w.heap[b]?) : w'.ownsMap Tryd.prog 9 hvS b n M := by
  obtain ⟨es, c, h1, h2⟩ := h
  exact ⟨es, c, hs.trans h1, h2⟩
theorem owns_blkS {w : World} {b n : Nat} {M : DataW Value} (h : w.ownsMap Tryd.prog 9 hvS b n M) : ∃ es c, w.heap[b]? = some (.map es c) := by
  obtain ⟨es, c, h1, _⟩ := h; exact ⟨es, c, h1⟩
theorem owns_tight {w : World} {b n : Nat} {M : DataW Value} (h : w.ownsMap Tryd.prog 9 hvS b n M) : w.ownsMap Tryd.prog 9 hvS b (Maps.size M) M := by
  obtain ⟨es, c, h1, h2, h3, h4⟩ := h
  refine ⟨es, c, h1, h2, ?_, h4⟩
  have e1 : Maps.size M = es.size := by rw [h4]; simp [Maps.size, Go.length_sorted]
  rw [e1]
  exact Nat.le_refl _
theorem usedN_mem {L : List Fi} {f : Fi} (h : f ∈ L) : f.l.length ≤ usedN L := by
  unfold usedN
  induction L with
  | nil => cases h
  | cons g r ih =>
    simp only [List.map_cons, List.sum_cons]
    rcases List.mem_cons.1 h with h1 | h1
    · subst h1; omega
    · have := ih h1; omega
theorem DkAt.cells {w : World} {base q b : Nat} {D : Dk} (h : DkAt w base q b D) : w.cell? ⟨q, 0, none⟩ = some (.int .i64 D.room) ∧ w.cell? ⟨q, 1, none⟩ = some (.map (some b)) ∧ w.cell? ⟨q, 2, none⟩ = some (.int .i64 D.fuse) ∧ w.cell? ⟨q, 3, none⟩ = some (.bool D.off) ∧ w.cell? ⟨q, 4, none⟩ = some (.int .i64 D.steps) ∧ w.cell? ⟨q, 5, none⟩ = some (.int .i64 D.read) :=
  ⟨by rw [cell_of_row _ _ 0 _ _ _ h.blk]; rfl, by rw [cell_of_row _ _ 1 _ _ _ h.blk]; rfl, by rw [cell_of_row _ _ 2 _ _ _ h.blk]; rfl, by rw [cell_of_row _ _ 3 _ _ _ h.blk]; rfl, by rw [cell_of_row _ _ 4 _ _ _ h.blk]; rfl, by rw [cell_of_row _ _ 5 _ _ _ h.blk]; rfl⟩
theorem DkAt.froz {w : World} {base q b : Nat} {D : Dk} (h : DkAt w base q b D) (i : Nat) : w.frozen? ⟨q, i, none⟩ = false := frozen_of_row _ _ i _ _ h.blk
theorem DkAt.lt {w : World} {base q b : Nat} {D : Dk} (h : DkAt w base q b D) : q < w.heap.size ∧ b < w.heap.size := by
  obtain ⟨M, hm, _⟩ := h.map
  exact ⟨lt_of_heap h.blk, hm.lt⟩
theorem DkAt.moved {w w' : World} {base q b : Nat} {D : Dk} (h : DkAt w base q b D) (hs : ∀ k, base ≤ k → k < w.heap.size → w'.heap[k]? = w.heap[k]?) : DkAt w' base q b D := by
  obtain ⟨M, hm, hr⟩ := h.map
  obtain ⟨l1, l2⟩ := h.lo
  exact ⟨(hs q l1 (lt_of_heap h.blk)).trans h.blk, ⟨M, owns_sameS hm (hs b l2 hm.lt), hr⟩, h.srt, fun f hf => (h.dat f hf).moved (fun k hk hl _ => hs k hk hl), h.dist, h.lo⟩
theorem DkAt.keep {w w' : World} {base q b : Nat} {D : Dk} (h : DkAt w base q b D) (hb : Below w.heap.size w w') : DkAt w' base q b D := h.moved (fun k _ hk => hb.block k hk)
theorem DkAt.ne {w : World} {base q b : Nat} {D : Dk} (h : DkAt w base q b D) : q ≠ b := by
  obtain ⟨M, hm, _⟩ := h.map
  obtain ⟨es, c, hb⟩ := owns_blkS hm
  intro e
  have := h.blk
  rw [e, hb] at this
  cases this
/-- a file's bytes lie in no block of a disk or of its map -/
theorem DkAt.dat_ne {w : World} {base q b : Nat} {D : Dk} (h : DkAt w base q b D) {v : Value} {l : List Nat} {c : Nat} (hd : DatAt w c v l) : ∀ k, v.ownBlock = some k → k ≠ q ∧ k ≠ b := by
  intro k hk
  obtain ⟨cs, ht⟩ := hd.typ hk
  refine ⟨fun e => ?_, fun e => ?_⟩
  · subst e
    have := h.blk
    rw [ht] at this
    cases this
  · subst e
    obtain ⟨M, hm, _⟩ := h.map
    obtain ⟨es, c2, hb⟩ := owns_blkS hm
    rw [ht] at hb
    cases hb
/-- the disk's own cells are turned (another room, fuse .. ), the rest stays -/
theorem DkAt.setTo {w w' : World} {base q b : Nat} {D D2 : Dk} (h : DkAt w base q b D) (hf : D2.fs = D.fs) (hq : w'.heap[q]? = some (.cells (dkA D2 b) 48)) (hs : ∀ k, base ≤ k → k < w.heap.size → k ≠ q → w'.heap[k]? = w.heap[k]?) : DkAt w' base q b D2 := by
  obtain ⟨M, hm, hr⟩ := h.map
  obtain ⟨l1, l2⟩ := h.lo
  refine ⟨hq, ⟨M, ?_, by rw [hf]; exact hr⟩, by rw [hf]; exact h.srt, fun f hf2 => ?_, by rw [hf]; exact h.dist, h.lo⟩
  · rw [hf]; exact owns_sameS hm (hs b l2 hm.lt h.ne.symm)
  · rw [hf] at hf2
    exact (h.dat f hf2).moved (fun k hk hl ho => hs k hk hl (h.dat_ne (h.dat f hf2) k ho).1)
end Go.Proofs.YtnfkdgjgglnniaaDoor
namespace Go.Proofs.YtnfkdgjgglnniaaDoor
open Go.ChangeShapes Go.WideShapes Go.ChangeAt Go.RowKit
set_option linter.unusedVariables false
/-- a byte that a name may have -/
def okc (c : Nat) : Bool := decide ((97 ≤ c ∧ c ≤ 122) ∨ (48 ≤ c ∧ c ≤ 57) ∨ c = 45 ∨ c = 46)
def rightS (l : List UInt8) : Bool := decide (1 ≤ l.length ∧ l.length ≤ 24 ∧ ∀ c ∈ l, okc c.toNat = true)
set_option maxRecDepth 20000 in
set_option maxHeartbeats 400000 in
theorem rbyte_any (c : Nat) (w : World) (hc : c < 256) : Calls Tryd.prog 66 #[.int .u8 (c : Int)] w fun e w' => e = .returned (.bool (okc c)) ∧ w = w' := by
  by_cases a1 : 97 ≤ c
  · have i1 : (97 : Int) ≤ (c : Int) := by omega
    have i3 : (48 : Int) ≤ (c : Int) := by omega
    have i4 : ¬ (c : Int) ≤ 57 := by omega
    have i5 : ((c : Int) == 45) = false := by simp; omega
    have i6 : ((c : Int) == 46) = false := by simp; omega
    by_cases a2 : c ≤ 122
    · have HO : Hid (okc c = true) := by show _ = _; simp [okc]; omega
      have i2 : (c : Int) ≤ 122 := by omega
      go_enter Tryd.func66, Tryd.ntmps66
      go_wp2
      go_ret
      exact ⟨by rw [HO.out]; rfl, rfl⟩
    · have HO : Hid (okc c = false) := by show _ = _; simp [okc]; omega
      have i2 : ¬ (c : Int) ≤ 122 := by omega
      go_enter Tryd.func66, Tryd.ntmps66
      go_wp2
      go_ret
      exact ⟨by rw [HO.out]; rfl, rfl⟩
  · have i1 : ¬ (97 : Int) ≤ (c : Int) := by omega
    by_cases a3 : 48 ≤ c
    · have i3 : (48 : Int) ≤ (c : Int) := by omega
      have i5 : ((c : Int) == 45) = false := by simp; omega
      have i6 : ((c : Int) == 46) = false := by simp; omega
      by_cases a4 : c ≤ 57
      · have HO : Hid (okc c = true) := by show _ = _; simp [okc]; omega
        have i4 : (c : Int) ≤ 57 := by omega
        go_enter Tryd.func66, Tryd.ntmps66
        go_wp2
        go_ret
        exact ⟨by rw [HO.out]; rfl, rfl⟩
      · have HO : Hid (okc c = false) := by show _ = _; simp [okc]; omega
        have i4 : ¬ (c : Int) ≤ 57 := by omega
        go_enter Tryd.func66, Tryd.ntmps66
        go_wp2
        go_ret
        exact ⟨by rw [HO.out]; rfl, rfl⟩
    · have i3 : ¬ (48 : Int) ≤ (c : Int) := by omega
      by_cases a5 : c = 45
      · subst a5
        clear a1 a3
        go_enter Tryd.func66, Tryd.ntmps66
        go_wp2
        go_ret
        exact ⟨by rfl, rfl⟩
      · have i5 : ((c : Int) == 45) = false := by simp; omega
        by_cases a6 : c = 46
        · subst a6
          clear a1 a3
          go_enter Tryd.func66, Tryd.ntmps66
          go_wp2
          go_ret
          exact ⟨by rfl, rfl⟩
        · have i6 : ((c : Int) == 46) = false := by simp; omega
          have HO : Hid (okc c = false) := by show _ = _; simp [okc]; omega
          go_enter Tryd.func66, Tryd.ntmps66
          go_wp2
          go_ret
          exact ⟨by rw [HO.out]; rfl, rfl⟩
set_option maxRecDepth 20000 in
set_option maxHeartbeats 400000 in
theorem right_any (l : List UInt8) (w : World) (hl : l.length ≤ 281474976710656) : Calls Tryd.prog 57 #[.string (bs l)] w fun e w' => e = .returned (.bool (rightS l)) ∧ w = w' := by
  have hlI : (l.length : Int) ≤ 281474976710656 := by omega
  by_cases h1 : l.length < 1
  · have HO : Hid (rightS l = false) := by show _ = _; unfold rightS; rw [decide_eq_false_iff_not]; omega
    have i1 : (l.length : Int) < 1 := by omega
    go_enter Tryd.func57, Tryd.ntmps57
    go_wp2
    go_ret
    exact ⟨by rw [HO.out]; rfl, rfl⟩
  by_cases h2 : 24 < l.length
  · have HO : Hid (rightS l = false) := by show _ = _; unfold rightS; rw [decide_eq_false_iff_not]; omega
    have i1 : (1 : Int) ≤ (l.length : Int) := by omega
    have i2 : (24 : Int) < (l.length : Int) := by omega
    go_enter Tryd.func57, Tryd.ntmps57
    go_wp2
    go_ret
    exact ⟨by rw [HO.out]; rfl, rfl⟩
  have i1 : (1 : Int) ≤ (l.length : Int) := by omega
  have i2 : (l.length : Int) ≤ 24 := by omega
  go_enter Tryd.func57, Tryd.ntmps57
  go_wp2
  go_loop [14] (fun vi => ∃ k : Nat, k ≤ l.length ∧ vi = .int .i64 k ∧ ∀ j (hj : j < l.length), j < k → okc (l[j]).toNat = true) (fun vi => l.length - (intOf vi).toNat)
  case atStart => exact ⟨0, Nat.zero_le _, rfl, fun j hj h => by omega⟩
  case round =>
    obtain ⟨k, hk, rfl, hall⟩ := hrel
    have HALL : Hid (∀ j (hj : j < l.length), j < k → okc (l[j]).toNat = true) := hall
    clear hall
    by_cases hkl : k < l.length
    · have hkI : (k : Int) < (l.length : Int) := by omega
      obtain ⟨c, hc⟩ : ∃ c, (l[k]'hkl).toNat = c := ⟨_, rfl⟩
      have hc256 : c < 256 := by rw [← hc]; exact UInt8.toNat_lt _
      have HBY : Hid (∀ w, Calls Tryd.prog 66 #[.int .u8 (((bs l)[k]'hkl).toNat : Int)] w fun e w' => e = .returned (.bool (okc c)) ∧ w = w') := fun w => by
        have := rbyte_any c w hc256
        rw [← hc] at this ⊢
        exact this
      cases ho : okc c with
      | true =>
        rw [ho] at HBY
        have HN : Hid (∀ j (hj : j < l.length), j < k + 1 → okc (l[j]).toNat = true) := fun j hj h => by
          by_cases hjk : j < k
          · exact HALL.out j hj hjk
          · obtain rfl : j = k := by omega
            rw [hc]; exact ho
        clear ho hc
        go_wp2_with (go_at_call 66; refine (HBY.out _).mono ?_; rintro e w1 ⟨rfl, rfl⟩)
        go_round
        case rel => exact ⟨k + 1, by omega, by go_num, HN.out⟩
        case measure => simp [intOf]; omega
      | false =>
        rw [ho] at HBY
        have HO : Hid (rightS l = false) := by
          show _ = _
          unfold rightS
          rw [decide_eq_false_iff_not]
          rintro ⟨_, _, h⟩
          have := h _ (List.getElem_mem hkl)
          rw [hc, ho] at this
          cases this
        clear ho hc
        go_wp2_with (go_at_call 66; refine (HBY.out _).mono ?_; rintro e w1 ⟨rfl, rfl⟩)
        go_ret
        exact ⟨by rw [HO.out]; rfl, rfl⟩
    · have HO : Hid (rightS l = true) := by
        show _ = _
        unfold rightS
        rw [decide_eq_true_eq]
        refine ⟨by omega, by omega, fun c hc => ?_⟩
        obtain ⟨j, hj, rfl⟩ := List.getElem_of_mem hc
        exact HALL.out j hj (by omega)
      go_wp2
      go_ret
      exact ⟨by rw [HO.out]; rfl, rfl⟩
end Go.Proofs.YtnfkdgjgglnniaaDoor
