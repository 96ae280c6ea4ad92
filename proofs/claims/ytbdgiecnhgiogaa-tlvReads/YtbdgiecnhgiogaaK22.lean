/- Own texts, joined: Tlwl, Tlwm. -/
import Derived.Test.YtbdgiecnhgiogaaK20
import Derived.Test.YtbdgiecnhgiogaaK21
namespace Go.Proofs.Ytbdgiecnhgiogaa
open Go.ChangeShapes Go.WideShapes Go.ChangeAt Go.RowKit
set_option linter.unusedVariables false
/-- bytes of one's own lie in no block of fields -/
theorem own_not_fld {w : World} {base : Nat} {p : Value} {l : List Nat} {k : Nat} {c : Array Value} {m : Nat × Nat} (hp : Own w base p l) (hk : w.heap[k]? = some (.cells c 32 m)) : p.ownBlock ≠ some k := by
  intro h
  rcases hp.2.2 with ⟨rfl, _⟩ | ⟨g, cap, cur, rfl, _, h5, _⟩
  · simp [Value.ownBlock] at h
  · have : g = k := by simpa [Value.ownBlock] using h
    subst this
    rw [h5] at hk
    cases hk
theorem own_moved2 {w w' : World} {base e size n : Nat} {v : Value} {xs : List Value} (h : w.ownsRow base e size v n xs) (hs : ∀ k, base ≤ k → k < w.heap.size → v.ownBlock = some k → w'.heap[k]? = w.heap[k]?) : w'.ownsRow base e size v n xs := by
  refine ⟨h.1, ?_⟩
  rcases h.2 with h2 | ⟨g, cap, cur, h3, h4, h5, h6⟩
  · exact .inl h2
  · exact .inr ⟨g, cap, cur, h3, h4, (hs g h4 (lt_of_heap h5) (by rw [h3]; rfl)).trans h5, h6⟩
theorem rws_block {w : World} {base : Nat} {v : Value} {L : List (Fld × Value)} (h : Rws w base v L) {k : Nat} (hk : v.ownBlock = some k) : ∃ c m, w.heap[k]? = some (.cells c 32 m) := by
  rcases h.own.2 with ⟨h2, _⟩ | ⟨g, cap, cur, h3, h4, h5, h6⟩
  · rw [h2] at hk; simp [Value.ownBlock] at hk
  · rw [h3] at hk
    have : g = k := by simpa [Value.ownBlock] using hk
    subst this
    exact ⟨_, _, h5⟩
/-- a row of fields is not touched where a writer's block and another row of fields are -/
theorem Rws.kept {w w' : World} {base q : Nat} {v v2 : Value} {L L2 : List (Fld × Value)} (h : Rws w base v L) (h2 : Rws w base v2 L2) (hq : q < base) (hne : ∀ k, v2.ownBlock = some k → v.ownBlock ≠ some k) (hk : Kept q (v2.ownBlock.getD q) w w') : Rws w' base v L := by
  have hg : ∀ k, v2.ownBlock.getD q = k → k ≠ q → v2.ownBlock = some k := by
    intro k h1 h3
    cases h4 : v2.ownBlock with
    | none => rw [h4] at h1; exact absurd h1.symm h3
    | some x => rw [h4] at h1; simp at h1; rw [h1]
  refine ⟨own_moved2 h.own (fun k h1 h3 h4 => hk.block k h3 (by omega) (fun hc => ?_)), fun p hp => ⟨(h.byt p hp).1, own_moved2 (h.byt p hp).2 (fun k h1 h3 h4 => hk.block k h3 (by omega) (fun hc => ?_))⟩⟩
  · exact hne k (hg k hc.symm (by omega)) h4
  · obtain ⟨c, m, hb⟩ := rws_block h2 (hg k hc.symm (by omega))
    exact own_not_fld (h.byt p hp) hb h4
/-- what holds in the loop: the writer at q, the law's own list vk of what was kept, the row of puts -/
structure WI (w wr : World) (base q g cap : Nat) (P : List (Pt × Value)) (vk : Value) (Lk : List (Fld × Value)) (A : Int) (e : Nat) : Prop where
  bel : Below w.heap.size w wr
  bse : w.heap.size ≤ q
  wri : ∃ v L, WrAt wr base q v L A e ∧ (e = 0 → L.map Prod.fst = Lk.map Prod.fst) ∧ L.length ≤ Lk.length ∧ ∀ k, v.ownBlock = some k → vk.ownBlock ≠ some k
  kep : Rws wr base vk Lk
  row : wr.ownsRow base 29 4 (.slice (some ⟨g, 0, none⟩) P.length cap) P.length (flatP P)
  len : (Lk.length : Int) ≤ A ∧ A ≤ 31
  oks : ∀ p ∈ Lk, p.1.num ≤ 18446744073709551615 ∧ p.1.bytes.length ≤ maxLen
theorem own_below2 {w w' : World} {base e size n : Nat} {v : Value} {xs : List Value} (h : w.ownsRow base e size v n xs) (hb : Below w.heap.size w w') : w'.ownsRow base e size v n xs := own_moved2 h (fun k _ h1 _ => hb.block k h1)
theorem WI.keep {w wr w' : World} {base q g cap : Nat} {P : List (Pt × Value)} {vk : Value} {Lk : List (Fld × Value)} {A : Int} {e : Nat} (h : WI w wr base q g cap P vk Lk A e) (hb : Below wr.heap.size wr w') : WI w w' base q g cap P vk Lk A e := by
  obtain ⟨v, L, h1, h2, h3, h4⟩ := h.wri
  exact ⟨h.bel.trans (hb.mono h.bel.size), h.bse, ⟨v, L, h1.keep hb, h2, h3, h4⟩, h.kep.same (fun k _ hk => hb.block k hk), own_below2 h.row hb, h.len, h.oks⟩
/-- the puts' cells -/
theorem WI.cells {w wr : World} {base q g cap : Nat} {P : List (Pt × Value)} {vk : Value} {Lk : List (Fld × Value)} {A : Int} {e : Nat} (h : WI w wr base q g cap P vk Lk A e) (k : Nat) (p : Pt × Value) (hp : P[k]? = some p) : wr.cell? ⟨g, k * 4, none⟩ = some (.int .i64 p.1.k) ∧ wr.cell? ⟨g, k * 4 + 1, none⟩ = some (.int .i64 p.1.tag) ∧ wr.cell? ⟨g, k * 4 + 2, none⟩ = some (.int .i64 p.1.v) ∧ wr.cell? ⟨g, k * 4 + 3, none⟩ = some p.2 := by
  have hk : k < P.length := by
    by_cases hh : k < P.length
    · exact hh
    · rw [List.getElem?_eq_none (by omega)] at hp; cases hp
  obtain ⟨f0, f1, f2, f3⟩ := flatP_get P k p hp
  exact ⟨(h.row.cellAt (k * 4) (by omega)).trans f0, (h.row.cellAt (k * 4 + 1) (by omega)).trans f1, (h.row.cellAt (k * 4 + 2) (by omega)).trans f2, (h.row.cellAt (k * 4 + 3) (by omega)).trans f3⟩
end Go.Proofs.Ytbdgiecnhgiogaa
namespace Go.Proofs.Ytbdgiecnhgiogaa
open Go.ChangeShapes Go.WideShapes Go.ChangeAt Go.RowKit
set_option linter.unusedVariables false
/-- the writer has kept F, the law's own list not yet -/
structure WH (w wr : World) (base q g cap : Nat) (P : List (Pt × Value)) (vk : Value) (Lk : List (Fld × Value)) (F : Fld) : Prop where
  bel : Below w.heap.size w wr
  bse : w.heap.size ≤ q
  wri : ∃ v L, WrAt wr base q v L F.tag 0 ∧ L.map Prod.fst = Lk.map Prod.fst ++ [F] ∧ ∀ k, v.ownBlock = some k → vk.ownBlock ≠ some k
  kep : Rws wr base vk Lk
  row : wr.ownsRow base 29 4 (.slice (some ⟨g, 0, none⟩) P.length cap) P.length (flatP P)
  len : (Lk.length : Int) < F.tag ∧ F.tag ≤ 31
  oks : ∀ p ∈ Lk, p.1.num ≤ 18446744073709551615 ∧ p.1.bytes.length ≤ maxLen
theorem WH.keep {w wr w' : World} {base q g cap : Nat} {P : List (Pt × Value)} {vk : Value} {Lk : List (Fld × Value)} {F : Fld} (h : WH w wr base q g cap P vk Lk F) (hb : Below wr.heap.size wr w') : WH w w' base q g cap P vk Lk F := by
  obtain ⟨v, L, h1, h2, h4⟩ := h.wri
  exact ⟨h.bel.trans (hb.mono h.bel.size), h.bse, ⟨v, L, h1.keep hb, h2, h4⟩, h.kep.same (fun k _ hk => hb.block k hk), own_below2 h.row hb, h.len, h.oks⟩
/-- blocks from s on below t may have been written -/
structure Betw (s t : Nat) (w w' : World) : Prop where
  os : w'.os = w.os
  tape : w'.tape = w.tape
  output : w'.output = w.output
  size : w.heap.size ≤ w'.heap.size
  block : ∀ k, k < w.heap.size → (k < s ∨ t ≤ k) → w'.heap[k]? = w.heap[k]?
theorem Betw.refl (s t : Nat) (w : World) : Betw s t w w := ⟨rfl, rfl, rfl, Nat.le_refl _, fun _ _ _ => rfl⟩
/-- rows that lie below s or from t on are as they were -/
theorem Rws.betw {w w' : World} {base s t : Nat} {v : Value} {L : List (Fld × Value)} (h : Rws w base v L) (hb : Betw s t w w') (hv : ∀ k, v.ownBlock = some k → k < s ∨ t ≤ k) (hp : ∀ p ∈ L, ∀ k, p.2.ownBlock = some k → k < s ∨ t ≤ k) : Rws w' base v L :=
  ⟨own_moved2 h.own (fun k h1 h2 h3 => hb.block k h2 (hv k h3)), fun p hpm => ⟨(h.byt p hpm).1, own_moved2 (h.byt p hpm).2 (fun k h1 h2 h3 => hb.block k h2 (hp p hpm k h3))⟩⟩
theorem rws_lt {w : World} {base : Nat} {v : Value} {L : List (Fld × Value)} (h : Rws w base v L) : (∀ k, v.ownBlock = some k → k < w.heap.size) ∧ ∀ p ∈ L, ∀ k, p.2.ownBlock = some k → k < w.heap.size :=
  ⟨fun k hk => (h.own.lt k hk).2, fun p hp k hk => ((h.byt p hp).2.lt k hk).2⟩
/-- behind a field put: the law's list goes on, or must keep the field too -/
theorem WI.put {w wr w2 w3 w4 : World} {base q g cap : Nat} {P : List (Pt × Value)} {vk v : Value} {Lk L : List (Fld × Value)} {A : Int} {e : Nat} {F : Fld} {r : Ending} (h : WI w wr base q g cap P vk Lk A e) (hwr : WrAt wr base q v L A e) (hm : e = 0 → L.map Prod.fst = Lk.map Prod.fst) (hll : L.length ≤ Lk.length) (hdj : ∀ k, v.ownBlock = some k → vk.ownBlock ≠ some k) (hb : Below wr.heap.size wr w2) (hp : WPost w2 base q v L A e F r w3) (hx : Betw wr.heap.size w2.heap.size w3 w4) :
    r = .returned (.pointer (some ⟨q, 0, none⟩)) ∧ (∀ k, wr.heap.size ≤ k → k < w2.heap.size → w3.heap[k]? = w2.heap[k]?) ∧ w2.heap.size ≤ w3.heap.size ∧ (if e ≠ 0 then WI w w4 base q g cap P vk Lk A e else if flt F A = 0 then WH w w4 base q g cap P vk Lk F else if flt F A = 22 then WI w w4 base q g cap P vk Lk A e else WI w w4 base q g cap P vk Lk A (flt F A)) := by
  obtain ⟨hr, v', L', h1, h2, h3, h4, h5⟩ := hp
  have hw2 := hwr.keep hb
  have hk2 : Rws w2 base vk Lk := h.kep.same (fun k _ hk => hb.block k hk)
  have hk3 : Rws w3 base vk Lk := hk2.kept hw2.row hwr.qlt hdj h4
  have hqs : q < wr.heap.size := lt_of_heap hwr.blk
  have hown : ∀ k, v.ownBlock = some k → k < wr.heap.size := (rws_lt hwr.row).1
  have hblk : ∀ k, wr.heap.size ≤ k → k < w2.heap.size → w3.heap[k]? = w2.heap[k]? := fun k hk1 hk2 => h4.block k hk2 (by omega) (fun hc => by
    cases h6 : v.ownBlock with
    | none => rw [h6] at hc; simp at hc; omega
    | some x => rw [h6] at hc; simp at hc; have := hown x h6; omega)
  have hk4 : Rws w4 base vk Lk := hk3.betw hx (fun k hk => .inl ((rws_lt h.kep).1 k hk)) (fun p hp k hk => .inl ((rws_lt h.kep).2 p hp k hk))
  have hrow3 : w3.ownsRow base 29 4 (.slice (some ⟨g, 0, none⟩) P.length cap) P.length (flatP P) := by
    refine own_moved2 (own_below2 h.row hb) (fun k h6 h7 h8 => h4.block k h7 (by have := hwr.qlt; omega) (fun hc => ?_))
    cases h9 : v.ownBlock with
    | none => rw [h9] at hc; simp at hc; have := hwr.qlt; omega
    | some x =>
      rw [h9] at hc
      simp at hc
      subst hc
      obtain ⟨c, m, hcm⟩ := rws_block hw2.row h9
      rcases (own_below2 h.row hb).2 with ⟨h10, _⟩ | ⟨g', cap', cur', h10, _, h11, _⟩
      · cases h10
      · cases h10
        have : g = k := by simpa [Value.ownBlock] using h8
        subst this
        rw [h11] at hcm
        cases hcm
  have hg : g < wr.heap.size := (h.row.lt g rfl).2
  have hrow4 : w4.ownsRow base 29 4 (.slice (some ⟨g, 0, none⟩) P.length cap) P.length (flatP P) :=
    own_moved2 hrow3 (fun k h6 h7 h8 => hx.block k h7 (.inl (by rw [← (show g = k from by simpa [Value.ownBlock] using h8)]; exact hg)))
  have hv' : ∀ k, v'.ownBlock = some k → k < wr.heap.size ∨ w2.heap.size ≤ k := by
    intro k hk
    rcases h3 with h6 | h6
    · exact .inl (hown k (by rw [← h6]; exact hk))
    · exact .inr (h6 k hk)
  have hp' : ∀ p ∈ L', ∀ k, p.2.ownBlock = some k → k < wr.heap.size ∨ w2.heap.size ≤ k := by
    intro p hp k hk
    rcases h5 p hp with h6 | h6
    · exact .inl ((rws_lt hwr.row).2 p h6 k hk)
    · exact .inr (h6 k hk)
  have hs24 : w2.heap.size ≤ w4.heap.size := Nat.le_trans h4.size hx.size
  have hW4 : WrAt w4 base q v' L' (wput (L.map Prod.fst) A e F).2.1 (wput (L.map Prod.fst) A e F).2.2 := ⟨(hx.block q (lt_of_heap h1.blk) (.inl hqs)).trans h1.blk, h1.row.betw hx hv' hp', h1.qlt, Nat.le_trans h1.bsz hx.size⟩
  have hdj' : ∀ k, v'.ownBlock = some k → vk.ownBlock ≠ some k := by
    intro k hk
    rcases h3 with h6 | h6
    · exact hdj k (by rw [← h6]; exact hk)
    · intro h7
      have h8 := h6 k hk
      have h9 := (rws_lt h.kep).1 k h7
      have := hb.size
      omega
  have hbel : Below w.heap.size w w4 := by
    have h6 := h.bel.trans (hb.mono h.bel.size)
    have hws := h.bel.size
    refine ⟨hx.os.trans (h4.os.trans h6.os), hx.tape.trans (h4.tape.trans h6.tape), hx.output.trans (h4.output.trans h6.output), Nat.le_trans h6.size hs24, fun k hk => ?_⟩
    have hkb : k < base := by have := h.bse; have := hwr.qlt; omega
    refine (hx.block k (by have := h4.size; have := h6.size; omega) (.inl (by omega))).trans ((h4.block k (by have := h6.size; omega) (by have := h.bse; omega) (fun hc => ?_)).trans (h6.block k hk))
    cases h9 : v.ownBlock with
    | none => rw [h9] at hc; simp at hc; have := h.bse; omega
    | some x =>
      rw [h9] at hc
      simp at hc
      have := (hwr.row.own.lt x h9).1
      omega
  refine ⟨hr, hblk, h4.size, ?_⟩
  by_cases he : e = 0
  · subst he
    rw [if_neg (by simp)]
    by_cases hz : flt F A = 0
    · rw [if_pos hz]
      have e1 : wput (L.map Prod.fst) A 0 F = (L.map Prod.fst ++ [F], F.tag, 0) := by unfold wput; rw [if_neg (by simp), if_pos hz]
      rw [e1] at h2 hW4
      obtain ⟨t1, t2, t3⟩ := flt_tag hz
      have hle := h.len
      exact ⟨hbel, h.bse, ⟨v', L', hW4, by rw [h2, hm rfl], hdj'⟩, hk4, hrow4, ⟨by omega, t2⟩, h.oks⟩
    · rw [if_neg hz]
      by_cases hz2 : flt F A = 22
      · rw [if_pos hz2]
        have e1 : wput (L.map Prod.fst) A 0 F = (L.map Prod.fst, A, 0) := by unfold wput; rw [if_neg (by simp), if_neg hz, if_pos hz2]
        rw [e1] at h2 hW4
        have hl2 := congrArg List.length h2
        simp only [List.length_map] at hl2
        exact ⟨hbel, h.bse, ⟨v', L', hW4, fun _ => by rw [h2, hm rfl], by omega, hdj'⟩, hk4, hrow4, h.len, h.oks⟩
      · rw [if_neg hz2]
        have e1 : wput (L.map Prod.fst) A 0 F = ([], A, flt F A) := by unfold wput; rw [if_neg (by simp), if_neg hz, if_neg hz2]
        rw [e1] at h2 hW4
        have hl2 := congrArg List.length h2
        simp only [List.length_map, List.length_nil] at hl2
        exact ⟨hbel, h.bse, ⟨v', L', hW4, fun h0 => absurd h0 hz, by omega, hdj'⟩, hk4, hrow4, h.len, h.oks⟩
  · rw [if_pos he]
    have e1 : wput (L.map Prod.fst) A e F = (L.map Prod.fst, A, e) := by unfold wput; rw [if_pos he]
    rw [e1] at h2 hW4
    have hl2 := congrArg List.length h2
    simp only [List.length_map] at hl2
    exact ⟨hbel, h.bse, ⟨v', L', hW4, fun h0 => absurd h0 he, by omega, hdj'⟩, hk4, hrow4, h.len, h.oks⟩
end Go.Proofs.Ytbdgiecnhgiogaa
