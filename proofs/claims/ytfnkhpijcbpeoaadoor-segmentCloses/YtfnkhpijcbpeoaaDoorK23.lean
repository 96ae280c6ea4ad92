/- Own texts, joined: Mk, MkV. -/
import Derived.Test.YtfnkhpijcbpeoaaDoorRows
import Derived.Test.YtfnkhpijcbpeoaaDoorK05
namespace Go.Proofs.YtfnkhpijcbpeoaaDoor
open Go.ChangeShapes Go.WideShapes Go.ChangeAt Go.RowKit
set_option linter.unusedVariables false
/-- a mark: its number, its place -/
abbrev Mk := Int × Int
/-- the cells of a list of marks -/
def mfl : List Mk → List Value
  | [] => []
  | p :: r => .int .i64 p.1 :: .int .i64 p.2 :: mfl r
theorem mfl_append : ∀ (L M : List Mk), mfl (L ++ M) = mfl L ++ mfl M
  | [], M => rfl
  | p :: r, M => by simp only [List.cons_append, mfl, mfl_append r M]
theorem mfl_length : ∀ (L : List Mk), (mfl L).length = L.length * 2
  | [] => rfl
  | p :: r => by simp only [mfl, List.length_cons, mfl_length r]; omega
theorem mfl_one : ∀ (L : List Mk), ∀ u ∈ mfl L, u.oneCell' = true
  | [], u, h => by cases h
  | p :: r, u, h => by
    simp only [mfl, List.mem_cons] at h
    rcases h with rfl | rfl | h
    · rfl
    · rfl
    · exact mfl_one r u h
theorem mfl_get : ∀ (L : List Mk) (k : Nat) (p : Mk), L[k]? = some p → (mfl L)[k * 2]? = some (.int .i64 p.1) ∧ (mfl L)[k * 2 + 1]? = some (.int .i64 p.2)
  | q :: r, 0, p, h => by simp at h; subst h; exact ⟨rfl, rfl⟩
  | q :: r, k + 1, p, h => by
    have := mfl_get r k p (by simpa using h)
    rw [show (k + 1) * 2 = k * 2 + 2 from by omega]
    simpa [mfl] using this
  | [], k, p, h => by simp at h
theorem lt_of_get {α : Type} {L : List α} {k : Nat} {p : α} (h : L[k]? = some p) : k < L.length := by
  by_cases hh : k < L.length
  · exact hh
  · rw [List.getElem?_eq_none (by omega)] at h; cases h
theorem drop_get {α : Type} (L : List α) (k : Nat) (p : α) (h : L[k]? = some p) : L.drop k = p :: L.drop (k + 1) := by
  have hk := lt_of_get h
  rw [List.drop_eq_getElem_cons hk]
  rw [List.getElem?_eq_getElem hk] at h
  cases h; rfl
theorem take_get {α : Type} (L : List α) (k : Nat) (p : α) (h : L[k]? = some p) : L.take (k + 1) = L.take k ++ [p] := by
  have hk := lt_of_get h
  rw [List.take_succ_eq_append_getElem hk]
  rw [List.getElem?_eq_getElem hk] at h
  cases h; rfl
theorem get_of_lt {α : Type} {L : List α} {k : Nat} (h : k < L.length) : ∃ p, L[k]? = some p := ⟨_, List.getElem?_eq_getElem h⟩
/-- the marks L lie from address a on -/
def Marks (w : World) (a : Option Addr) (L : List Mk) : Prop :=
  L = [] ∨ ∃ b off, a = some ⟨b, off, none⟩ ∧ b < w.heap.size ∧ ∀ j, j < L.length * 2 → w.cell? ⟨b, off + j, none⟩ = (mfl L)[j]?
theorem Marks.keep {w w' : World} {a : Option Addr} {L : List Mk} (h : Marks w a L) (hb : Below w.heap.size w w') : Marks w' a L := by
  rcases h with h1 | ⟨b, off, h1, h2, h3⟩
  · exact .inl h1
  · exact .inr ⟨b, off, h1, Nat.lt_of_lt_of_le h2 hb.size, fun j hj => (hb.cell (p := ⟨b, off + j, none⟩) h2).trans (h3 j hj)⟩
theorem Marks.cells {w : World} {b off : Nat} {L : List Mk} (h : ∀ j, j < L.length * 2 → w.cell? ⟨b, off + j, none⟩ = (mfl L)[j]?) (k : Nat) (p : Mk) (hp : L[k]? = some p) : w.cell? ⟨b, off + k * 2, none⟩ = some (.int .i64 p.1) ∧ w.cell? ⟨b, off + k * 2 + 1, none⟩ = some (.int .i64 p.2) := by
  have hk := lt_of_get hp
  obtain ⟨f0, f1⟩ := mfl_get L k p hp
  exact ⟨(h (k * 2) (by omega)).trans f0, (h (k * 2 + 1) (by omega)).trans f1⟩
theorem Marks.all {w : World} {x : Addr} {L : List Mk} (h : Marks w (some x) L) : ∀ j u, (mfl L)[j]? = some u → w.cell? (x.add j) = some u := by
  intro j u hj
  have hlt := lt_of_get hj
  rw [mfl_length] at hlt
  rcases h with rfl | ⟨b, off, hx, _, hc⟩
  · simp at hlt
  · cases hx
    rw [← hj, show (⟨b, off, none⟩ : Addr).add j = ⟨b, off + j, none⟩ from by simp [Addr.add]]
    exact hc j hlt
/-- the value v is a row of the call's own that holds the marks L -/
def OwnM (w : World) (base : Nat) (v : Value) (L : List Mk) : Prop := w.ownsRow base 68 2 v L.length (mfl L)
theorem OwnM.shape {w : World} {base : Nat} {v : Value} {L : List Mk} (h : OwnM w base v L) :
    ∃ a cap, v = .slice a L.length cap ∧ L.length ≤ cap ∧ cap ≤ maxLen ∧ Marks w a L ∧ ((a = none ∧ L = [] ∧ cap = 0) ∨ ∃ g, a = some ⟨g, 0, none⟩ ∧ base ≤ g ∧ g < w.heap.size) := by
  have h' := h
  obtain ⟨h1, h2⟩ := h
  rcases h2 with ⟨rfl, hn⟩ | ⟨g, cap, cur, rfl, hb, hg, hnc, hcm, hcs, htake⟩
  · have : L = [] := List.length_eq_zero_iff.1 hn
    subst this
    exact ⟨none, 0, rfl, Nat.le_refl _, by simp, .inl rfl, .inl ⟨rfl, rfl, rfl⟩⟩
  · have hlt := lt_of_heap hg
    refine ⟨some ⟨g, 0, none⟩, cap, rfl, hnc, hcm, .inr ⟨g, 0, rfl, hlt, fun j hj => ?_⟩, .inr ⟨g, rfl, hb, hlt⟩⟩
    rw [Nat.zero_add]
    exact World.ownsRow.cellAt h' j hj
theorem OwnM.keep {w w' : World} {base : Nat} {v : Value} {L : List Mk} (h : OwnM w base v L) (hb : Below w.heap.size w w') : OwnM w' base v L := own_below h hb
theorem OwnM.nil (w : World) (base : Nat) : OwnM w base (.slice none 0 0) [] := World.ownsRow_nil w base _ 2
theorem OwnM.lit (w : World) : OwnM (w.alloc (.cells #[] 68)) w.heap.size (.slice (some ⟨w.heap.size, 0, none⟩) 0 0) [] := World.ownsRow_lit w #[] 0 (Nat.le_refl _) (by simp) rfl
theorem OwnM.snoc {w : World} {base : Nat} {v : Value} {L : List Mk} {p : Mk} {n : Nat} (hn : L.length = n) (h : w.ownsRow base 68 2 v (n + 1) (mfl L ++ [.int .i64 p.1, .int .i64 p.2])) : OwnM w base v (L ++ [p]) := by
  unfold OwnM
  rw [List.length_append, mfl_append, hn]
  exact h
theorem Tryd.infoMk : (Tryd.prog.info? 68).map (fun i => (i.zero, i.size, i.bytes)) = some (some (.agg #[.int .i64 0, .int .i64 0]), 2, 16) := by kernel_rfl
/-- from a mark (s, a) on they rise, and stay within bounds -/
def vfrom : Int → Int → List Mk → Bool
  | _, _, [] => true
  | s, a, p :: r => !(decide (p.1 ≤ s) || decide (p.2 ≤ a) || decide (1099511627776 < p.1) || decide (1099511627776 < p.2)) && vfrom p.1 p.2 r
def validB (L : List Mk) : Bool := decide (L.length ≤ 512) && vfrom 0 (-1) L
theorem validB_long {L : List Mk} (h : 512 < L.length) : validB L = false := by unfold validB; rw [decide_eq_false (by omega)]; rfl
theorem validB_short {L : List Mk} (h : L.length ≤ 512) : validB L = vfrom 0 (-1) L := by unfold validB; rw [decide_eq_true h]; rfl
theorem vfrom_cons (s a : Int) (p : Mk) (r : List Mk) : vfrom s a (p :: r) = if p.1 ≤ s ∨ p.2 ≤ a ∨ 1099511627776 < p.1 ∨ 1099511627776 < p.2 then false else vfrom p.1 p.2 r := by
  show (!(decide (p.1 ≤ s) || decide (p.2 ≤ a) || decide (1099511627776 < p.1) || decide (1099511627776 < p.2)) && vfrom p.1 p.2 r) = _
  split
  · rename_i h
    rcases h with h | h | h | h <;> simp [h]
  · rename_i h
    have h1 : ¬ p.1 ≤ s := fun x => h (.inl x)
    have h2 : ¬ p.2 ≤ a := fun x => h (.inr (.inl x))
    have h3 : ¬ 1099511627776 < p.1 := fun x => h (.inr (.inr (.inl x)))
    have h4 : ¬ 1099511627776 < p.2 := fun x => h (.inr (.inr (.inr x)))
    rw [decide_eq_false h1, decide_eq_false h2, decide_eq_false h3, decide_eq_false h4]
    rfl
end Go.Proofs.YtfnkhpijcbpeoaaDoor
namespace Go.Proofs.YtfnkhpijcbpeoaaDoor
open Go.ChangeShapes Go.WideShapes Go.ChangeAt Go.RowKit
set_option linter.unusedVariables false
abbrev MkAt (w : World) (k : Nat) (s y : Int) : Prop := w.heap[k]? = some (.cells #[.int .i64 s, .int .i64 y] 68)
theorem mk_box {w : World} {k : Nat} {s y : Int} (h : MkAt w k s y) : w.cell? ⟨k, 0, none⟩ = some (.int .i64 s) ∧ w.cell? ⟨k, 1, none⟩ = some (.int .i64 y) ∧ w.frozen? ⟨k, 0, none⟩ = false ∧ w.frozen? ⟨k, 1, none⟩ = false :=
  ⟨by rw [cell_of_row _ _ 0 _ _ _ h]; rfl, by rw [cell_of_row _ _ 1 _ _ _ h]; rfl, frozen_of_row _ _ 0 _ _ h, frozen_of_row _ _ 1 _ _ h⟩
theorem mk_set {w : World} {k : Nat} {s y : Int} (h : MkAt w k s y) (x z : Int) : MkAt ((w.setCell ⟨k, 0, none⟩ (.int .i64 x)).setCell ⟨k, 1, none⟩ (.int .i64 z)) k x z := by
  have h1 := heap_setCell_same w k 0 _ _ (.int .i64 x) h
  have h2 := heap_setCell_same _ k 1 _ _ (.int .i64 z) h1
  rw [MkAt, h2]; rfl
theorem mk_alloc {w : World} {k : Nat} {s y : Int} (h : MkAt w k s y) (o : Obj) : MkAt (w.alloc o) k s y := (Below.heap_alloc w o k (lt_of_heap h)).trans h
set_option maxRecDepth 20000 in
set_option maxHeartbeats 2000000 in
theorem valid_any (L : List Mk) (n : Nat) (a : Option Addr) (cap : Nat) (w : World) (hn : L.length = n) (hm : Marks w a L) (hl : n ≤ maxLen) :
    Calls Tryd.prog 41 #[.slice a n cap] w fun e w' => e = .returned (.bool (validB L)) ∧ Below w.heap.size w w' := by
  unfold maxLen at hl
  by_cases h5 : n ≤ 512
  · have HV : Hid (validB L = vfrom 0 (-1) (L.drop 0)) := by show _ = _; rw [validB_short (by omega)]; rfl
    have HN : Hid (L.length = n) := hn
    have h5I : (n : Int) ≤ 512 := by omega
    rcases hm with rfl | ⟨b, off, rfl, hlt, hc⟩
    · obtain rfl : n = 0 := by simpa using hn.symm
      have HF : Hid (validB [] = true) := HV.out
      clear HV hn
      go_enter Tryd.func41, Tryd.ntmps41
      go_wp2
      refine wp_loop_rounds 1 ?_
      rw [rounds_succ]
      go_wp2
      go_ret
      exact ⟨ret_bool (by rw [HF.out]), (Below.refl _ _).alloc (Nat.le_refl _) _⟩
    · clear hn hl
      go_enter Tryd.func41, Tryd.ntmps41
      go_wp2
      go_loopw [12] (fun vi wr => ∃ (k : Nat) (s y : Int), k ≤ n ∧ vi = .int .i64 k ∧ MkAt wr w.heap.size s y ∧ validB L = vfrom s y (L.drop k) ∧ Below w.heap.size w wr) (fun vi _ => n - (intOf vi).toNat)
      case atStart => exact ⟨0, 0, -1, Nat.zero_le _, rfl, heap_alloc_new w _, HV.out, (Below.refl _ _).alloc (Nat.le_refl _) _⟩
      case round =>
        obtain ⟨k, s, y, hk, rfl, hbx, hv, hbe⟩ := hrel
        have HVK : Hid (validB L = vfrom s y (L.drop k)) := hv
        have HBX : Hid (MkAt wr w.heap.size s y) := hbx
        obtain ⟨q0, q1, q2, q3⟩ := mk_box hbx
        have hlt2 := lt_of_heap hbx
        clear hbx hv HV
        by_cases hkn : k < n
        · obtain ⟨⟨x, z⟩, hp⟩ := get_of_lt (L := L) (k := k) (by rw [HN.out]; exact hkn)
          obtain ⟨c0, c1⟩ := Marks.cells hc k (x, z) hp
          rw [← hbe.cell (p := ⟨b, off + k * 2, none⟩) hlt] at c0
          rw [← hbe.cell (p := ⟨b, off + k * 2 + 1, none⟩) hlt] at c1
          have HVN : Hid (validB L = if x ≤ s ∨ z ≤ y ∨ 1099511627776 < x ∨ 1099511627776 < z then false else vfrom x z (L.drop (k + 1))) := by show _ = _; rw [HVK.out, drop_get L k _ hp, vfrom_cons]
          simp only at c0 c1
          clear hp hc HVK
          go_wp2
          all_goals first
            | (go_ret; exact ⟨ret_bool (by rw [HVN.out, if_pos (by omega)]), hbe.alloc hbe.size _⟩)
            | (refine ⟨⟨k + 1, x, z, by omega, by go_num, mk_alloc (mk_set HBX.out x z) _, by rw [HVN.out, if_neg (by omega)], ?_⟩, by simp [intOf]; omega⟩; exact ((hbe.setCell (p := ⟨w.heap.size, 0, none⟩) (Nat.le_refl _) _).setCell (p := ⟨w.heap.size, 1, none⟩) (Nat.le_refl _) _).alloc (by simp; omega) _)
        · have HT : Hid (validB L = true) := by show _ = _; rw [HVK.out, List.drop_eq_nil_of_le (by rw [HN.out]; omega)]; rfl
          clear HVK hc
          go_wp2
          go_ret
          exact ⟨ret_bool (by rw [HT.out]), hbe⟩
  · have HF : Hid (validB L = false) := validB_long (by omega)
    clear hm hn
    go_enter Tryd.func41, Tryd.ntmps41
    go_wp2
    go_ret
    exact ⟨ret_bool (by rw [HF.out]), Below.refl _ _⟩
end Go.Proofs.YtfnkhpijcbpeoaaDoor
