/- Own texts, joined: Fs0. -/
import Derived.Test.YtnfkdgjgglnniaaDoorK00
import Derived.Maps.OwnSet
namespace Go.Proofs.YtnfkdgjgglnniaaDoor
open Go.ChangeShapes Go.WideShapes Go.ChangeAt Go.RowKit
set_option linter.unusedVariables false
/-- a file: its name, the slice of its bytes, the bytes, how many are safe -/
structure Fi where
  name : List UInt8
  v : Value
  l : List Nat
  s : Nat
abbrev FiV (f : Fi) : Value := .agg #[f.v, .int .i64 (f.s : Int)]
def getN (L : List Fi) (t : List UInt8) : Option Fi := L.find? (fun f => f.name == t)
def delN (L : List Fi) (t : List UInt8) : List Fi := L.filter (fun f => !(f.name == t))
def insN (f : Fi) : List Fi → List Fi
  | [] => [f]
  | g :: r => if f.name < g.name then f :: g :: r else if f.name = g.name then f :: r else g :: insN f r
abbrev SortN (L : List Fi) : Prop := L.Pairwise (fun f g => f.name < g.name)
theorem lt_irr (a : List UInt8) : ¬ a < a := List.lt_irrefl a
theorem lt_tr {a b c : List UInt8} (h : a < b) (g : b < c) : a < c := List.lt_trans h g
theorem lt_tot {a b : List UInt8} (h : ¬ a < b) (g : a ≠ b) : b < a :=
  Decidable.byContradiction fun hba => g (List.le_antisymm (as := a) (bs := b) hba h)
theorem getN_cons (g : Fi) (r : List Fi) (t : List UInt8) : getN (g :: r) t = if g.name = t then some g else getN r t := by
  unfold getN
  rw [List.find?_cons]
  by_cases h : g.name = t
  · have h1 : (g.name == t) = true := by simpa using h
    rw [h1, if_pos h]
  · have h1 : (g.name == t) = false := by simpa using h
    rw [h1, if_neg h]
theorem getN_mem {L : List Fi} {t : List UInt8} {f : Fi} (h : getN L t = some f) : f ∈ L ∧ f.name = t := by
  unfold getN at h
  exact ⟨List.mem_of_find?_eq_some h, by simpa using List.find?_some h⟩
theorem getN_none {L : List Fi} {t : List UInt8} : getN L t = none ↔ ∀ f ∈ L, f.name ≠ t := by
  unfold getN
  rw [List.find?_eq_none]
  simp
theorem getN_ins (f : Fi) (t : List UInt8) : ∀ L : List Fi, getN (insN f L) t = if f.name = t then some f else getN L t
  | [] => by unfold insN; rw [getN_cons]
  | g :: r => by
    unfold insN
    by_cases h1 : f.name < g.name
    · rw [if_pos h1, getN_cons]
    · rw [if_neg h1]
      by_cases h2 : f.name = g.name
      · rw [if_pos h2, getN_cons, getN_cons]
        by_cases h3 : f.name = t
        · rw [if_pos h3, if_pos h3]
        · rw [if_neg h3, if_neg h3, if_neg (by rw [← h2]; exact h3)]
      · rw [if_neg h2, getN_cons, getN_cons, getN_ins f t r]
        by_cases h3 : g.name = t
        · rw [if_pos h3, if_pos h3, if_neg (by rw [← h3]; exact h2)]
        · rw [if_neg h3, if_neg h3]
theorem mem_ins {f g : Fi} : ∀ {L : List Fi}, g ∈ insN f L → g = f ∨ g ∈ L
  | [], h => by unfold insN at h; exact .inl (List.mem_singleton.1 h)
  | x :: r, h => by
    unfold insN at h
    split at h
    · rcases List.mem_cons.1 h with h1 | h1
      · exact .inl h1
      · exact .inr h1
    · split at h
      · rcases List.mem_cons.1 h with h1 | h1
        · exact .inl h1
        · exact .inr (List.mem_cons_of_mem _ h1)
      · rcases List.mem_cons.1 h with h1 | h1
        · exact .inr (by rw [h1]; exact List.mem_cons_self ..)
        · rcases mem_ins h1 with h2 | h2
          · exact .inl h2
          · exact .inr (List.mem_cons_of_mem _ h2)
theorem mem_ins_of {f g : Fi} : ∀ {L : List Fi}, g ∈ L → g.name ≠ f.name → g ∈ insN f L
  | x :: r, h, hn => by
    unfold insN
    split
    · exact List.mem_cons_of_mem _ h
    · split
      · rename_i h2
        rcases List.mem_cons.1 h with h1 | h1
        · subst h1; exact absurd h2.symm hn
        · exact List.mem_cons_of_mem _ h1
      · rcases List.mem_cons.1 h with h1 | h1
        · rw [h1]; exact List.mem_cons_self ..
        · exact List.mem_cons_of_mem _ (mem_ins_of h1 hn)
theorem ins_sorted (f : Fi) : ∀ {L : List Fi}, SortN L → SortN (insN f L)
  | [], _ => by unfold insN; exact List.pairwise_singleton _ _
  | g :: r, h => by
    obtain ⟨h1, h2⟩ := List.pairwise_cons.1 h
    unfold insN
    by_cases e1 : f.name < g.name
    · rw [if_pos e1]
      exact List.pairwise_cons.2 ⟨fun x hx => by rcases List.mem_cons.1 hx with h3 | h3; rw [h3]; exact e1; exact lt_tr e1 (h1 x h3), h⟩
    · rw [if_neg e1]
      by_cases e2 : f.name = g.name
      · rw [if_pos e2]
        exact List.pairwise_cons.2 ⟨fun x hx => by rw [e2]; exact h1 x hx, h2⟩
      · rw [if_neg e2]
        refine List.pairwise_cons.2 ⟨fun x hx => ?_, ins_sorted f h2⟩
        rcases mem_ins hx with h3 | h3
        · rw [h3]; exact lt_tot e1 e2
        · exact h1 x h3
theorem ins_len (f : Fi) : ∀ {L : List Fi}, SortN L → (insN f L).length = L.length + (if (getN L f.name).isSome = true then 0 else 1)
  | [], _ => rfl
  | g :: r, h => by
    obtain ⟨h1, h2⟩ := List.pairwise_cons.1 h
    rw [getN_cons]
    unfold insN
    by_cases e1 : f.name < g.name
    · have hn : getN r f.name = none := getN_none.2 (fun x hx e => lt_irr f.name (by have := lt_tr e1 (h1 x hx); rw [e] at this; exact this))
      have hne : ¬ g.name = f.name := fun e => lt_irr f.name (by rw [e] at e1; exact e1)
      rw [if_pos e1, if_neg hne, hn]
      rfl
    · rw [if_neg e1]
      by_cases e2 : f.name = g.name
      · rw [if_pos e2, if_pos e2.symm]
        rfl
      · have hne : ¬ g.name = f.name := fun e => e2 e.symm
        rw [if_neg e2, if_neg hne]
        simp only [List.length_cons, ins_len f h2]
        omega
theorem names_ne {L : List Fi} (h : SortN L) : L.Pairwise (fun f g => f.name ≠ g.name) := by
  refine h.imp ?_
  intro a b h1 e
  rw [e] at h1
  exact lt_irr _ h1
theorem getN_del_same (L : List Fi) (t : List UInt8) : getN (delN L t) t = none := by
  rw [getN_none]
  intro p hp
  unfold delN at hp
  simpa using (List.mem_filter.1 hp).2
theorem getN_del_other (L : List Fi) {t s : List UInt8} (h : s ≠ t) : getN (delN L t) s = getN L s := by
  unfold getN delN
  refine Go.Maps.find_filter_keep (fun p hp => ?_) L
  simp at hp ⊢
  rw [hp]; exact h
theorem delN_len (t : List UInt8) : ∀ {L : List Fi}, SortN L → (delN L t).length + (if (getN L t).isSome = true then 1 else 0) = L.length
  | [], _ => rfl
  | g :: r, h => by
    obtain ⟨h1, h2⟩ := List.pairwise_cons.1 h
    have ih := delN_len t h2
    rw [getN_cons]
    by_cases hp : g.name = t
    · have hr : getN r t = none := getN_none.2 (fun x hx e => lt_irr t (by have := h1 x hx; rw [hp, e] at this; exact this))
      have e1 : delN (g :: r) t = delN r t := by unfold delN; rw [List.filter_cons, if_neg (by simp [hp])]
      rw [hr] at ih
      rw [e1, if_pos hp]
      simp at ih ⊢
      omega
    · have e1 : delN (g :: r) t = g :: delN r t := by unfold delN; rw [List.filter_cons, if_pos (by simp [hp])]
      rw [e1, if_neg hp]
      simp only [List.length_cons]
      omega
/-- an element of the map is told by its value -/
def hvS (v : Value) : Option (DataW Value × List MemPlace) := some (.held v, [])
theorem hvS_inv {v : Value} {d : DataW Value} {ps : List MemPlace} (h : hvS v = some (d, ps)) : d = .held v := by
  unfold hvS at h; exact (congrArg Prod.fst (Option.some.inj h)).symm
/-- the map reads as the files L, each at its name -/
structure RepN (D : DataW Value) (L : List Fi) : Prop where
  tidy : Maps.Tidy D
  sz : Maps.size D = L.length
  look : ∀ t z, D.atKey (.string t) z = match getN L t with | some f => .held (FiV f) | none => z
  hs : ∀ t, Maps.has D (.string t) = (getN L t).isSome
theorem repN_nil : RepN (.map []) [] := ⟨Maps.tidy_empty, rfl, fun _ _ => rfl, fun _ => rfl⟩
theorem keyS_lit (t : List UInt8) : WideAt.IsKeyLit (.string t) := trivial
theorem keyS_ne {s t : List UInt8} (h : s ≠ t) : Lit.string s ≠ Lit.string t := by intro e; cases e; exact h rfl
theorem RepN.put {D : DataW Value} {L : List Fi} (h : RepN D L) (hs : SortN L) (f : Fi) : RepN (D.put (.string f.name) (.held (FiV f))) (insN f L) := by
  refine ⟨h.tidy.put (keyS_lit _) _, ?_, fun t z => ?_, fun t => ?_⟩
  · rw [Maps.size_put h.tidy, h.hs, ins_len f hs, h.sz]
    cases (getN L f.name).isSome <;> simp
  · rw [getN_ins]
    by_cases ht : f.name = t
    · subst ht
      rw [Maps.atKey_put_same h.tidy.isMap (keyS_lit _), if_pos rfl]
    · rw [Maps.atKey_put_other (keyS_ne (fun e => ht e.symm)), h.look, if_neg ht]
  · rw [getN_ins]
    by_cases ht : f.name = t
    · subst ht
      rw [Maps.has_put_same h.tidy.isMap (keyS_lit _), if_pos rfl]; rfl
    · rw [Maps.has_put_other (keyS_ne (fun e => ht e.symm)), h.hs, if_neg ht]
theorem RepN.del {D : DataW Value} {L : List Fi} (h : RepN D L) (hs : SortN L) (t : List UInt8) : RepN (D.del (.string t)) (delN L t) := by
  refine ⟨h.tidy.del _, ?_, fun s z => ?_, fun s => ?_⟩
  · have h1 := Maps.size_del (k := .string t) h.tidy
    have h2 := delN_len t hs
    rw [h.hs, h.sz] at h1
    omega
  · by_cases e : s = t
    · subst e
      rw [Maps.atKey_del_same, getN_del_same]
    · rw [Maps.atKey_del_other (keyS_ne e), h.look, getN_del_other L e]
  · by_cases e : s = t
    · subst e
      rw [Maps.has_del_same, getN_del_same]; rfl
    · rw [Maps.has_del_other (keyS_ne e), h.hs, getN_del_other L e]
/-- the bytes l of a file lie where v says; there may be room behind them -/
def DatAt (w : World) (base : Nat) (v : Value) (l : List Nat) : Prop :=
  (v = .slice none 0 0 ∧ l = []) ∨ ∃ g cap cur, v = .slice (some ⟨g, 0, none⟩) l.length cap ∧ base ≤ g ∧ w.heap[g]? = some (.cells cur 5 (0, 0)) ∧ l.length ≤ cap ∧ cap ≤ cur.size ∧ cap ≤ maxLen ∧ (∀ x ∈ l, x < 256) ∧ cur.toList.take l.length = l.map (fun x : Nat => Value.int .u8 (x : Int))
end Go.Proofs.YtnfkdgjgglnniaaDoor
