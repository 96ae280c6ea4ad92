/- Own texts, joined: Tlwl. -/
import Derived.Test.YtbdgiecnhgiogaaK21
import Derived.Test.YtbdgiecnhgiogaaK22
namespace Go.Proofs.Ytbdgiecnhgiogaa
open Go.ChangeShapes Go.WideShapes Go.ChangeAt Go.RowKit
set_option linter.unusedVariables false
/-- bytes of one's own lie in no block of fields -/
theorem own_not_fld {w : World} {base : Nat} {p : Value} {l : List Nat} {k : Nat} {c : Array Value} {m : Nat × Nat} (hp : Own w base p l) (hk : w.heap[k]? = some (.cells c 32 m)) : p.ownBlock ≠ some k := by
  intro h
  rcases hp.2.2 with ⟨rfl, _⟩ | ⟨g, cap, cur, rfl, _, h5, _⟩
  · simp [Value.ownBlock] at h
  · have : g = k := by simpa [Value.ownBlock] using h
    subst this
    rw [h5] at hk
    cases hk
theorem own_moved2 {w w' : World} {base e size n : Nat} {v : Value} {xs : List Value} (h : w.ownsRow base e size v n xs) (hs : ∀ k, base ≤ k → k < w.heap.size → v.ownBlock = some k → w'.heap[k]? = w.heap[k]?) : w'.ownsRow base e size v n xs := by
  refine ⟨h.1, ?_⟩
  rcases h.2 with h2 | ⟨g, cap, cur, h3, h4, h5, h6⟩
  · exact .inl h2
  · exact .inr ⟨g, cap, cur, h3, h4, (hs g h4 (lt_of_heap h5) (by rw [h3]; rfl)).trans h5, h6⟩
theorem rws_block {w : World} {base : Nat} {v : Value} {L : List (Fld × Value)} (h : Rws w base v L) {k : Nat} (hk : v.ownBlock = some k) : ∃ c m, w.heap[k]? = some (.cells c 32 m) := by
  rcases h.own.2 with ⟨h2, _⟩ | ⟨g, cap, cur, h3, h4, h5, h6⟩
  · rw [h2] at hk; simp [Value.ownBlock] at hk
  · rw [h3] at hk
    have : g = k := by simpa [Value.ownBlock] using hk
    subst this
    exact ⟨_, _, h5⟩
/-- a row of fields is not touched where a writer's block and another row of fields are -/
theorem Rws.kept {w w' : World} {base q : Nat} {v v2 : Value} {L L2 : List (Fld × Value)} (h : Rws w base v L) (h2 : Rws w base v2 L2) (hq : q < base) (hne : ∀ k, v2.ownBlock = some k → v.ownBlock ≠ some k) (hk : Kept q (v2.ownBlock.getD q) w w') : Rws w' base v L := by
  have hg : ∀ k, v2.ownBlock.getD q = k → k ≠ q → v2.ownBlock = some k := by
    intro k h1 h3
    cases h4 : v2.ownBlock with
    | none => rw [h4] at h1; exact absurd h1.symm h3
    | some x => rw [h4] at h1; simp at h1; rw [h1]
  refine ⟨own_moved2 h.own (fun k h1 h3 h4 => hk.block k h3 (by omega) (fun hc => ?_)), fun p hp => ⟨(h.byt p hp).1, own_moved2 (h.byt p hp).2 (fun k h1 h3 h4 => hk.block k h3 (by omega) (fun hc => ?_))⟩⟩
  · exact hne k (hg k hc.symm (by omega)) h4
  · obtain ⟨c, m, hb⟩ := rws_block h2 (hg k hc.symm (by omega))
    exact own_not_fld (h.byt p hp) hb h4
/-- what holds in the loop: the writer at q, the law's own list vk of what was kept, the row of puts -/
structure WI (w wr : World) (base q g cap : Nat) (P : List (Pt × Value)) (vk : Value) (Lk : List (Fld × Value)) (A : Int) (e : Nat) : Prop where
  bel : Below w.heap.size w wr
  bse : w.heap.size ≤ q
  wri : ∃ v L, WrAt wr base q v L A e ∧ (e = 0 → L.map Prod.fst = Lk.map Prod.fst) ∧ L.length ≤ Lk.length ∧ ∀ k, v.ownBlock = some k → vk.ownBlock ≠ some k
  kep : Rws wr base vk Lk
  row : wr.ownsRow base 29 4 (.slice (some ⟨g, 0, none⟩) P.length cap) P.length (flatP P)
  len : (Lk.length : Int) ≤ A ∧ A ≤ 31
  oks : ∀ p ∈ Lk, p.1.num ≤ 18446744073709551615 ∧ p.1.bytes.length ≤ maxLen
theorem own_below2 {w w' : World} {base e size n : Nat} {v : Value} {xs : List Value} (h : w.ownsRow base e size v n xs) (hb : Below w.heap.size w w') : w'.ownsRow base e size v n xs := own_moved2 h (fun k _ h1 _ => hb.block k h1)
theorem WI.keep {w wr w' : World} {base q g cap : Nat} {P : List (Pt × Value)} {vk : Value} {Lk : List (Fld × Value)} {A : Int} {e : Nat} (h : WI w wr base q g cap P vk Lk A e) (hb : Below wr.heap.size wr w') : WI w w' base q g cap P vk Lk A e := by
  obtain ⟨v, L, h1, h2, h3, h4⟩ := h.wri
  exact ⟨h.bel.trans (hb.mono h.bel.size), h.bse, ⟨v, L, h1.keep hb, h2, h3, h4⟩, h.kep.same (fun k _ hk => hb.block k hk), own_below2 h.row hb, h.len, h.oks⟩
/-- the puts' cells -/
theorem WI.cells {w wr : World} {base q g cap : Nat} {P : List (Pt × Value)} {vk : Value} {Lk : List (Fld × Value)} {A : Int} {e : Nat} (h : WI w wr base q g cap P vk Lk A e) (k : Nat) (p : Pt × Value) (hp : P[k]? = some p) : wr.cell? ⟨g, k * 4, none⟩ = some (.int .i64 p.1.k) ∧ wr.cell? ⟨g, k * 4 + 1, none⟩ = some (.int .i64 p.1.tag) ∧ wr.cell? ⟨g, k * 4 + 2, none⟩ = some (.int .i64 p.1.v) ∧ wr.cell? ⟨g, k * 4 + 3, none⟩ = some p.2 := by
  have hk : k < P.length := by
    by_cases hh : k < P.length
    · exact hh
    · rw [List.getElem?_eq_none (by omega)] at hp; cases hp
  obtain ⟨f0, f1, f2, f3⟩ := flatP_get P k p hp
  exact ⟨(h.row.cellAt (k * 4) (by omega)).trans f0, (h.row.cellAt (k * 4 + 1) (by omega)).trans f1, (h.row.cellAt (k * 4 + 2) (by omega)).trans f2, (h.row.cellAt (k * 4 + 3) (by omega)).trans f3⟩
end Go.Proofs.Ytbdgiecnhgiogaa
