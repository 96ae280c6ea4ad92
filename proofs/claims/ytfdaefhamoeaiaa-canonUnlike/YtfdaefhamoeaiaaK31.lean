/- Own texts, joined: Sd1, Sd2, Evc. -/
import Derived.Test.YtfdaefhamoeaiaaK30
import Derived.Test.YtfdaefhamoeaiaaK11
namespace Go.Proofs.Ytfdaefhamoeaiaa
open Go.ChangeShapes Go.WideShapes Go.ChangeAt Go.RowKit
set_option linter.unusedVariables false
/-- the world behind []byte(s) -/
def cvW (w : World) (s : ByteArray) : World := Lib.bytesWorld w 5 s
def cvC (w : World) (s : ByteArray) : Nat := grownCap w s.size 0 5
theorem cv_run (s : ByteArray) (w : World) : (convert 9 27 (.string s)).run Try.prog w = .ok (.slice (some ⟨w.heap.size, 0, none⟩) s.size (cvC w s)) (cvW w s) :=
  Lib.run_convert_string_bytes w 9 27 5 s Try.underlying9 Try.underlying27 Try.underlying5
theorem cv_below (s : ByteArray) (w : World) : Below w.heap.size w (cvW w s) := ⟨rfl, rfl, rfl, by unfold cvW; rw [Lib.bytesWorld_size]; omega, fun k hk => Lib.bytesWorld_at_old w 5 s k hk⟩
theorem cv_size (s : ByteArray) (w : World) : (cvW w s).heap.size = w.heap.size + 1 := Lib.bytesWorld_size w 5 s
theorem cv_bytes (s : ByteArray) (w : World) : Bytes (cvW w s) (some ⟨w.heap.size, 0, none⟩) (nums8 s) := by
  refine ⟨fun i => ?_, .inr ⟨w.heap.size, 0, rfl, by rw [cv_size]; omega, fun i hi => ?_⟩⟩
  · rw [List.getD_eq_getElem?_getD]
    rcases h : (nums8 s)[i]? with _ | x
    · decide
    · exact nums8_lt s x (List.mem_of_getElem? h)
  · rw [nums8_len] at hi
    rw [Nat.zero_add, nums8_getD s i hi]
    exact Lib.bytesWorld_cell w 5 s i hi
theorem cv_cell {s : ByteArray} {w : World} {a : Addr} {v : Value} (h : w.cell? a = some v) : (cvW w s).cell? a = some v := by
  have ha : a.block < w.heap.size := by
    by_cases hh : a.block < w.heap.size
    · exact hh
    · exfalso
      unfold World.cell? at h
      rw [Array.getElem?_eq_none (by omega)] at h
      cases h
  unfold cvW
  rw [Lib.bytesWorld_old w 5 s a ha]; exact h
/-- what a writer holds behind a field -/
def wp1 (S : List Fld × Int × Nat) (F : Fld) : List Fld × Int × Nat := wput S.1 S.2.1 S.2.2 F
/-- the writer in block q, the event in block eb, texts in the blocks of G -/
structure Wst (w0 w' : World) (q eb : Nat) (E : Ev) (S : List Fld × Int × Nat) (n : Nat) (G : List (Nat × List Nat)) : Prop where
  wr : ∃ v L, WrAt w' (q + 1) q v L S.2.1 S.2.2 ∧ L.map Prod.fst = S.1 ∧ (∀ x ∈ G, v.ownBlock ≠ some x.1) ∧ L.length ≤ n
  oks : ∀ f ∈ S.1, f.num ≤ 18446744073709551615 ∧ f.bytes.length ≤ maxLen
  ev : EvAt w' eb E
  evq : eb < q
  byt : ∀ x ∈ G, Bytes w' (some ⟨x.1, 0, none⟩) x.2 ∧ x.1 ≠ q ∧ x.1 < w'.heap.size
  bel : Below w0.heap.size w0 w'
  bq : w0.heap.size ≤ eb
theorem Wst.keep {w0 w1 w2 : World} {q eb : Nat} {E : Ev} {S : List Fld × Int × Nat} {n : Nat} {G : List (Nat × List Nat)} (h : Wst w0 w1 q eb E S n G) (hb : Below w1.heap.size w1 w2) : Wst w0 w2 q eb E S n G := by
  obtain ⟨v, L, h1, h2, h3, h4⟩ := h.wr
  exact ⟨⟨v, L, h1.keep hb, h2, h3, h4⟩, h.oks, h.ev.after hb, h.evq, fun x hx => ⟨(h.byt x hx).1.keep hb, (h.byt x hx).2.1, Nat.lt_of_lt_of_le (h.byt x hx).2.2 hb.size⟩, below_next h.bel hb, h.bq⟩
theorem Wst.drew {w0 w1 : World} {q eb : Nat} {E : Ev} {S : List Fld × Int × Nat} {n : Nat} {G : List (Nat × List Nat)} (h : Wst w0 w1 q eb E S n G) : Wst w0 w1.drew q eb E S n G := h.keep (Below.refl _ _).drew
theorem Wst.cv {w0 w1 : World} {q eb : Nat} {E : Ev} {S : List Fld × Int × Nat} {n : Nat} {G : List (Nat × List Nat)} (h : Wst w0 w1 q eb E S n G) (s : ByteArray) : Wst w0 (cvW w1 s) q eb E S n ((w1.heap.size, nums8 s) :: G) := by
  have hk := h.keep (cv_below s w1)
  obtain ⟨v, L, h1, h2, h3, h4⟩ := h.wr
  have hq := lt_of_heap h1.blk
  refine ⟨⟨v, L, h1.keep (cv_below s w1), h2, fun x hx => ?_, h4⟩, h.oks, hk.ev, h.evq, fun x hx => ?_, hk.bel, h.bq⟩
  · rcases List.mem_cons.1 hx with rfl | hx
    · intro hv
      have := (h1.row.own.lt _ hv).2
      simp only at this
      omega
    · exact h3 x hx
  · rcases List.mem_cons.1 hx with rfl | hx
    · exact ⟨cv_bytes s w1, by simp only; omega, by simp only; rw [cv_size]; omega⟩
    · exact hk.byt x hx
/-- behind a put -/
theorem Wst.put {w0 w1 w2 : World} {q eb : Nat} {E : Ev} {S : List Fld × Int × Nat} {n : Nat} {G : List (Nat × List Nat)} {v : Value} {L : List (Fld × Value)} {F : Fld} {r : Ending} (h : Wst w0 w1 q eb E S n G) (hw : WrAt w1 (q + 1) q v L S.2.1 S.2.2) (hL : L.map Prod.fst = S.1) (hv : ∀ x ∈ G, v.ownBlock ≠ some x.1) (hn : L.length ≤ n) (hF : F.num ≤ 18446744073709551615 ∧ F.bytes.length ≤ maxLen) (hp : WPost w1 (q + 1) q v L S.2.1 S.2.2 F r w2) : r = .returned (.pointer (some ⟨q, 0, none⟩)) ∧ Wst w0 w2 q eb E (wp1 S F) (n + 1) G := by
  obtain ⟨h1, v', L', h2, h3, h4, h5, h6⟩ := hp
  rw [hL] at h2 h3
  show _ ∧ Wst w0 w2 q eb E (wput S.1 S.2.1 S.2.2 F) (n + 1) G
  have hrow : ∀ k, v.ownBlock = some k → q + 1 ≤ k ∧ k < w1.heap.size := fun k hk => hw.row.own.lt k hk
  have hne : ∀ k, k < w1.heap.size → k ≠ q → (∀ b, v.ownBlock = some b → k ≠ b) → w2.heap[k]? = w1.heap[k]? := by
    intro k hk hkq hkv
    refine h5.block k hk hkq ?_
    rcases hb : v.ownBlock with _ | b
    · exact hkq
    · exact hkv b hb
  have hev := h.ev.lt
  have hlen : (wput S.1 S.2.1 S.2.2 F).1.length ≤ n + 1 := by
    have : S.1.length ≤ n := by rw [← hL, List.length_map]; exact hn
    unfold wput
    split
    · simp only; omega
    · split
      · simp only [List.length_append, List.length_cons, List.length_nil]; omega
      · split
        · simp only; omega
        · simp
  refine ⟨h1, ⟨v', L', h2, h3, fun x hx hh => ?_, ?_⟩, ?_, ?_, h.evq, fun x hx => ?_, ?_, h.bq⟩
  · rcases h4 with h4 | h4
    · exact hv x hx (h4 ▸ hh)
    · have := h4 _ hh
      have := (h.byt x hx).2.2
      omega
  · have e1 : (L'.map Prod.fst).length = L'.length := List.length_map ..
    rw [h3] at e1; omega
  · intro f hf
    unfold wput at hf
    split at hf
    · exact h.oks f hf
    · split at hf
      · rcases List.mem_append.1 hf with hf | hf
        · exact h.oks f hf
        · obtain rfl := List.mem_singleton.1 hf; exact hF
      · split at hf
        · exact h.oks f hf
        · cases hf
  · exact (hne eb hev (by have := h.evq; omega) (fun b hb => by have := (hrow b hb).1; have := h.evq; omega)).trans h.ev
  · have hx3 := (h.byt x hx).2.2
    have hx2 := (h.byt x hx).2.1
    have hbl := hne x.1 hx3 hx2 (fun b hb e => hv x hx (by rw [hb, e]))
    refine ⟨?_, hx2, Nat.lt_of_lt_of_le hx3 h5.size⟩
    obtain ⟨a1, a2⟩ := (h.byt x hx).1
    refine ⟨a1, ?_⟩
    rcases a2 with a2 | ⟨b, off, a3, a4, a5⟩
    · exact .inl a2
    · cases a3
      exact .inr ⟨x.1, 0, rfl, Nat.lt_of_lt_of_le a4 h5.size, fun i hi => (World.cell?_of_block (w := w1) (a := ⟨x.1, 0 + i, none⟩) hbl).trans (a5 i hi)⟩
  · have hq := h.evq
    have hb0 := h.bq
    refine ⟨h5.os.trans h.bel.os, h5.tape.trans h.bel.tape, h5.output.trans h.bel.output, Nat.le_trans h.bel.size h5.size, fun k hk => (hne k (Nat.lt_of_lt_of_le hk h.bel.size) (by omega) (fun b hb => by have := (hrow b hb).1; omega)).trans (h.bel.block k hk)⟩
theorem num_st (t : Int) (u : Nat) (w0 w1 : World) (q eb : Nat) (E : Ev) (S : List Fld × Int × Nat) (n : Nat) (G : List (Nat × List Nat)) (h : Wst w0 w1 q eb E S n G) (hu : u ≤ 18446744073709551615) (hn : n ≤ 900) :
    Calls Try.prog 16 #[.pointer (some ⟨q, 0, none⟩), .int .i64 t, .int .u64 (u : Int)] w1 fun r w2 => r = .returned (.pointer (some ⟨q, 0, none⟩)) ∧ Wst w0 w2 q eb E (wp1 S ⟨t, false, u, []⟩) (n + 1) G := by
  obtain ⟨v, L, h1, h2, h3, h4⟩ := h.wr
  refine (wnum_any t u w1 (q + 1) q v L S.2.1 S.2.2 h1 hu (by omega)).mono ?_
  rintro r w2 hp
  exact h.put h1 h2 h3 h4 ⟨hu, by simp⟩ hp
theorem text_st (t : Int) (l : List Nat) (g m cap : Nat) (w0 w1 : World) (q eb : Nat) (E : Ev) (S : List Fld × Int × Nat) (n : Nat) (G : List (Nat × List Nat)) (h : Wst w0 w1 q eb E S n G) (hg : (g, l) ∈ G) (hm : l.length = m) (hm2 : m ≤ 1000) (hn : n ≤ 900) :
    Calls Try.prog 17 #[.pointer (some ⟨q, 0, none⟩), .int .i64 t, .slice (some ⟨g, 0, none⟩) m cap] w1 fun r w2 => r = .returned (.pointer (some ⟨q, 0, none⟩)) ∧ Wst w0 w2 q eb E (wp1 S ⟨t, true, 0, l⟩) (n + 1) G := by
  obtain ⟨v, L, h1, h2, h3, h4⟩ := h.wr
  refine (wtext_any t l (some ⟨g, 0, none⟩) m cap w1 (q + 1) q v L S.2.1 S.2.2 h1 hm (h.byt _ hg).1 (by omega) (by omega)).mono ?_
  rintro r w2 hp
  exact h.put h1 h2 h3 h4 ⟨by show 0 ≤ _; omega, by show l.length ≤ _; rw [hm]; unfold maxLen; omega⟩ hp
theorem done_st (w0 w1 : World) (q eb : Nat) (E : Ev) (S : List Fld × Int × Nat) (n : Nat) (G : List (Nat × List Nat)) (h : Wst w0 w1 q eb E S n G) (h0 : S.2.2 = 0) (hn : n ≤ 900) :
    Calls Try.prog 19 #[.pointer (some ⟨q, 0, none⟩)] w1 fun r w2 => ∃ v', r = .returned (.tuple #[v', .int .i64 ((encs S.1 0 []).2 : Int)]) ∧ Own w2 w0.heap.size v' (encs S.1 0 []).1 ∧ Below w0.heap.size w0 w2 := by
  obtain ⟨v, L, h1, h2, h3, h4⟩ := h.wr
  rw [h0] at h1
  refine (wdone_ok w1 (q + 1) q v L S.2.1 h1 (fun p hp => h.oks p.1 (by rw [← h2]; exact List.mem_map_of_mem hp)) (by omega)).mono ?_
  rw [h2]
  rintro r w2 ⟨v', hr, ho, hb⟩
  exact ⟨v', hr, ⟨ho.1, ho.2.mono h.bel.size⟩, below_next h.bel hb⟩
end Go.Proofs.Ytfdaefhamoeaiaa
namespace Go.Proofs.Ytfdaefhamoeaiaa
open Go.ChangeShapes Go.WideShapes Go.ChangeAt Go.RowKit
set_option linter.unusedVariables false
end Go.Proofs.Ytfdaefhamoeaiaa
namespace Go.Proofs.Ytfdaefhamoeaiaa
open Go.ChangeShapes Go.WideShapes Go.ChangeAt Go.RowKit
theorem EvAt.cells {w : World} {b : Nat} {e : Ev} (h : EvAt w b e) : w.cell? ⟨b, 0, none⟩ = some (.int .i64 e.kind) ∧ w.cell? ⟨b, 1, none⟩ = some (.int .i64 e.order) ∧ w.cell? ⟨b, 2, none⟩ = some (.int .i64 e.item) ∧ w.cell? ⟨b, 3, none⟩ = some (.int .i64 e.qty) ∧ w.cell? ⟨b, 4, none⟩ = some (.int .i64 e.price) ∧ w.cell? ⟨b, 5, none⟩ = some (.int .i64 e.cur) ∧ w.cell? ⟨b, 6, none⟩ = some (.int .i64 e.tax) ∧ w.cell? ⟨b, 7, none⟩ = some (.string e.who) ∧ w.cell? ⟨b, 8, none⟩ = some (.int .i64 e.stamp) ∧ w.cell? ⟨b, 9, none⟩ = some (.string e.note) :=
  ⟨by rw [cell_of_row _ _ 0 _ _ _ h]; rfl, by rw [cell_of_row _ _ 1 _ _ _ h]; rfl, by rw [cell_of_row _ _ 2 _ _ _ h]; rfl, by rw [cell_of_row _ _ 3 _ _ _ h]; rfl, by rw [cell_of_row _ _ 4 _ _ _ h]; rfl, by rw [cell_of_row _ _ 5 _ _ _ h]; rfl, by rw [cell_of_row _ _ 6 _ _ _ h]; rfl, by rw [cell_of_row _ _ 7 _ _ _ h]; rfl, by rw [cell_of_row _ _ 8 _ _ _ h]; rfl, by rw [cell_of_row _ _ 9 _ _ _ h]; rfl⟩
end Go.Proofs.Ytfdaefhamoeaiaa
