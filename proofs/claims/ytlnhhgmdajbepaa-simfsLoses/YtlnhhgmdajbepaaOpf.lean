/- A list of files that came in, opened. -/
import Derived.Test.YtlnhhgmdajbepaaFsu
namespace Go.Proofs.Ytlnhhgmdajbepaa
open Go.ChangeShapes Go.WideShapes Go.ChangeAt Go.RowKit Go.Deep
set_option linter.unusedVariables false
def feL (p : Fe × Value) : List Value := [.string (bs p.1.name), p.2, .int .i64 p.1.s]
theorem feL_len (p : Fe × Value) : (feL p).length = 3 := rfl
def FeRaw (w : World) (p : Fe × Value) : Prop := (∃ a2 c2, p.2 = .slice a2 p.1.l.length c2 ∧ Bytes w a2 p.1.l ∧ p.1.l.length ≤ c2 ∧ (a2 = none → c2 = 0)) ∧ inI p.1.s
section
variable {H : Type} {enc : TypeId × Value → H} {w : World} {base : Nat} {spare : Nat → Bool} {held : Bool}
/-- what the datum of a file tells of its sizes -/
def FeD (f : Fe) (d : DataW H) : Prop := ∃ (Yb X2 : DataW H), d = .agg [.lit (.string f.name), Yb, X2] ∧ (f.l = [] ∨ ∃ e s : List (DataW H), Yb = .slice e s ∧ f.l.length ≤ e.length + s.length)
theorem open_fe {fuel : Nat} {c0 c1 c2 : Value} {x : DataW H × List MemPlace} (h : DataW.trod enc Try.prog w base (fun _ => true) held fuel 49 [c0, c1, c2] = some x) :
    ∃ p : Fe × Value, [c0, c1, c2] = feL p ∧ FeRaw w p ∧ FeD p.1 x.1 := by
  obtain ⟨xs, n, _, hxy, _, hlen, hf⟩ := DataW.trod_struct Try.underlying49 h
  match xs, hlen with
  | [y0, y1, y2], _ =>
    have k0 : Try.prog.cellsOf 9 = 1 := by kernel_rfl
    have k1 : Try.prog.cellsOf 31 = 1 := by kernel_rfl
    have k2 : Try.prog.cellsOf 3 = 1 := by kernel_rfl
    have g0 : DataW.trod enc Try.prog w base (fun _ => true) held n 9 [c0] = some y0 := by have := hf 0 _ rfl; simpa [k0] using this
    have g1 : DataW.trod enc Try.prog w base (fun _ => true) held n 31 [c1] = some y1 := by have := hf 1 _ rfl; simpa [k0, k1] using this
    have g2 : DataW.trod enc Try.prog w base (fun _ => true) held n 3 [c2] = some y2 := by have := hf 2 _ rfl; simpa [k0, k1, k2] using this
    obtain ⟨s0, e0, rfl, _⟩ := DataW.trod_string Try.underlying9 g0
    obtain ⟨t2, e2, rfl, w2⟩ := DataW.trod_int Try.underlying3 g2
    simp only [List.cons.injEq, and_true] at e0 e2
    subst e0 e2
    obtain ⟨P, C, lb, rfl, hb, hbc, hbn, hbd⟩ : ∃ (P : Option Addr) (C : Nat) (lb : List Nat), c1 = .slice P lb.length C ∧ Bytes w P lb ∧ lb.length ≤ C ∧ (P = none → C = 0) ∧ (lb = [] ∨ ∃ e s : List (DataW H), y1.1 = .slice e s ∧ lb.length ≤ e.length + s.length) := by
      rcases open_ints Try.underlying31 Try.underlying5 (by kernel_rfl) g1 with ⟨hcs, rfl⟩ | ⟨a, len, cap, zs, hcs, _, hl, hm, hz, rfl, hcell, hwz⟩
      · simp only [List.cons.injEq, and_true] at hcs
        subst hcs
        exact ⟨none, 0, [], rfl, Bytes.none _ _, Nat.le_refl _, fun _ => rfl, .inl rfl⟩
      · simp only [List.cons.injEq, and_true] at hcs
        subst hcs
        have hz2 : zs.length = cap := by simpa using hz
        obtain ⟨ll, e1, e2, e3⟩ := row_nats .u8 256 (by decide) wf_u8 w a zs len (by omega) hcell hwz
        subst e1
        refine ⟨some a, cap, ll, rfl, ⟨e2, e3⟩, hl, (fun h => by cases h), .inr ⟨_, _, rfl, ?_⟩⟩
        simp only [lits, List.length_map, List.length_take, List.length_drop]
        omega
    have b1 : bs s0.data.toList = s0 := by simp
    refine ⟨(⟨s0.data.toList, lb, t2⟩, .slice P lb.length C), by unfold feL; simp only [b1], ⟨⟨P, C, rfl, hb, hbc, hbn⟩, wf_i64 _ w2⟩, ⟨y1.1, _, by rw [hxy]; rfl, hbd⟩⟩
theorem open_files {fuel : Nat} {cs : List Value} {x : DataW H × List MemPlace} (h : DataW.trod enc Try.prog w base (fun _ => true) held fuel 26 cs = some x) :
    (cs = [.slice none 0 0] ∧ x = (.nil, [])) ∨
    ∃ (a : Addr) (len cap : Nat) (L : List (Fe × Value)) (D : Nat → DataW H), cs = [.slice (some a) len cap] ∧ len ≤ cap ∧ cap ≤ maxLen ∧ L.length = len ∧ (L = [] ∨ ∃ b off, a = ⟨b, off, none⟩ ∧ b < w.heap.size ∧ ∀ k o, L[k]? = some o → w.rangeAt b (off + k * 3) (feL o)) ∧ (∀ o ∈ L, FeRaw w o) ∧
      x.1 = .slice ((List.range len).map D) ((List.range (cap - len)).map fun j => D (len + j)) ∧ ∀ i o, L[i]? = some o → FeD o.1 (D i) := by
  rcases open_slice Try.underlying26 h with h0 | ⟨a, len, cap, m, n, D, Pl, rfl, hb, hl, hm, hmm, rfl, hx⟩
  · exact Or.inl h0
  right
  have hmc : m = cap := by simpa using hmm
  subst hmc
  have ce : Try.prog.cellsOf 49 = 3 := by kernel_rfl
  have each : ∀ i, i < m → ∃ o : Fe × Value, (∀ j v, (feL o)[j]? = some v → w.cell? (a.add (i * 3 + j)) = some v) ∧ FeRaw w o ∧ FeD o.1 (D i) := by
    intro i hi
    obtain ⟨cs', h1, h2⟩ := hx i hi
    rw [ce] at h1
    obtain ⟨_, hlen, hcell⟩ := World.cells?_some h1
    match cs', hlen with
    | [v0, v1, v2], _ =>
      obtain ⟨o, hcs, hraw, hd⟩ := open_fe h2
      refine ⟨o, fun j v hj => ?_, hraw, hd⟩
      have hj3 : j < 3 := by have := (List.getElem?_eq_some_iff.1 hj).1; rw [feL_len] at this; exact this
      have hc := hcell j hj3
      rw [add_add] at hc
      rw [hc, ← hj, ← hcs]
  haveI : Inhabited (Fe × Value) := ⟨(⟨[], [], 0⟩, .slice none 0 0)⟩
  obtain ⟨q, hq⟩ := choose_lt each
  have hL : ∀ i o, ((List.range len).map q)[i]? = some o → i < len ∧ o = q i := by
    intro i p hp
    have hi : i < len := by
      by_cases hh : i < len
      · exact hh
      · rw [List.getElem?_eq_none (by simp; omega)] at hp; cases hp
    refine ⟨hi, ?_⟩
    rw [List.getElem?_map, List.getElem?_range hi] at hp
    exact (Option.some.inj hp).symm
  refine ⟨a, len, m, (List.range len).map q, D, rfl, hl, hm, by simp, ?_, ?_, rfl, ?_⟩
  · by_cases h0 : len = 0
    · left; subst h0; rfl
    · right
      obtain ⟨b, off, spot⟩ := a
      have hc0 := (hq 0 (by omega)).1 0 _ rfl
      have hspot : spot = none := by simpa [Addr.add] using World.cell?_spot hc0
      subst hspot
      refine ⟨b, off, rfl, World.block_lt_of_cell? _ _ hc0, fun k o ho j v hj => ?_⟩
      obtain ⟨hk, rfl⟩ := hL k o ho
      have h1 := (hq k (by omega)).1 j v hj
      have hadd : ∀ z, (⟨b, off, none⟩ : Addr).add z = ⟨b, off + z, none⟩ := fun z => by simp [Addr.add]
      rw [hadd] at h1
      rw [Nat.add_assoc]
      exact h1
  · intro o ho
    obtain ⟨i, hi, rfl⟩ := List.mem_map.1 ho
    exact (hq i (by have := List.mem_range.1 hi; omega)).2.1
  · intro i o ho
    obtain ⟨hi, rfl⟩ := hL i o ho
    exact (hq i (by omega)).2.2
theorem sized_files {ts : List TypeId} {ds : List (DataW H)} (h : (DataW.weightsEach Try.prog ts ds).all (· ≤ reachBytes) = true) {j len cap : Nat} {L : List (Fe × Value)} {D : Nat → DataW H} (ht : ts[j]? = some 26)
    (hd : ds[j]? = some (.slice ((List.range len).map D) ((List.range (cap - len)).map fun j => D (len + j)))) (hl : len ≤ cap) (hLl : L.length = len)
    (hD : ∀ i o, L[i]? = some o → FeD o.1 (D i)) : cap * 48 ≤ 140737488351232 ∧ ∀ o ∈ L, o.1.name.length ≤ 281474976710656 ∧ o.1.l.length ≤ 140737488351232 := by
  constructor
  · have := sized_slice h ht hd Try.underlying26
    rw [show Try.prog.bytesOf 49 = 48 from by kernel_rfl] at this
    simp only [List.length_map, List.length_range, reachBytes] at this
    have hc : len + (cap - len) = cap := by omega
    rw [hc] at this
    exact this
  · intro o ho
    obtain ⟨i, hi⟩ := List.getElem?_of_mem ho
    have hil : i < len := by
      by_cases hh : i < L.length
      · omega
      · rw [List.getElem?_eq_none (by omega)] at hi; cases hi
    obtain ⟨Yb, X2, h1, h2⟩ := hD i o hi
    have hm : D i ∈ (List.range len).map D := List.mem_map.2 ⟨i, List.mem_range.2 hil, rfl⟩
    have lift : ∀ n, n ∈ (D i).weights Try.prog 49 → n ≤ 140737488351232 := by
      intro n hn
      have := List.all_eq_true.1 h _ (DataW.weights_mem_each ht hd _ (by
        simp only [DataW.weights, Try.underlying26, List.mem_cons, List.mem_append]
        exact .inr (.inl (weights_all_memO hm _ hn))))
      exact of_decide_eq_true this
    rw [h1] at lift
    simp only [DataW.weights, Try.underlying49, DataW.weightsEach, List.mem_append, List.mem_cons, List.map_cons, List.map_nil] at lift
    have n1 := lift o.1.name.length (by simp)
    have n3 : o.1.l.length ≤ 140737488351232 := by
      rcases h2 with h2 | ⟨e, s, rfl, h4⟩
      · rw [h2]; simp
      · have := lift ((e.length + s.length) * Try.prog.bytesOf 5) (by simp [DataW.weights, Try.underlying31])
        rw [show Try.prog.bytesOf 5 = 1 from by kernel_rfl] at this
        omega
    exact ⟨by omega, n3⟩
end
/-- files that came in: with what their bytes may hold -/
structure FilesAt (w : World) (a : Option Addr) (Y : List (Fe × Value)) : Prop where
  fe : FeA w a Y
  byt : ∀ p ∈ Y, ∃ a2 c2, p.2 = .slice a2 p.1.l.length c2 ∧ Bytes w a2 p.1.l ∧ p.1.l.length ≤ c2 ∧ (a2 = none → c2 = 0)
theorem files_mk {w : World} {a : Option Addr} {Y : List (Fe × Value)} (h1 : Y = [] ∨ ∃ b off, a = some ⟨b, off, none⟩ ∧ b < w.heap.size ∧ ∀ k o, Y[k]? = some o → w.rangeAt b (off + k * 3) (feL o)) (h2 : ∀ o ∈ Y, FeRaw w o) (h3 : ∀ o ∈ Y, o.1.name.length ≤ 281474976710656 ∧ o.1.l.length ≤ 140737488351232) : FilesAt w a Y :=
  ⟨⟨h1, fun p hp => by obtain ⟨⟨a2, c2, e1, e2, _⟩, e3⟩ := h2 p hp; exact ⟨⟨a2, c2, e1, e2⟩, (h3 p hp).1, (h3 p hp).2, e3⟩⟩, fun p hp => (h2 p hp).1⟩
theorem FilesAt.keep {w w' : World} {a : Option Addr} {Y : List (Fe × Value)} (h : FilesAt w a Y) (hb : Below w.heap.size w w') : FilesAt w' a Y :=
  ⟨h.fe.keep hb, fun p hp => by obtain ⟨a2, c2, h1, h2, h3, h4⟩ := h.byt p hp; exact ⟨a2, c2, h1, h2.keep hb, h3, h4⟩⟩
end Go.Proofs.Ytlnhhgmdajbepaa
