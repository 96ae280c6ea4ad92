/- A list of calls (a script) that came in, opened. -/
import Derived.Test.YtlnhhgmdajbepaaFsz
import Derived.Test.YtlnhhgmdajbepaaFsi
import Derived.Deep.Slices
import Derived.Deep.MidRow
import Derived.ChangeSame
import Derived.SizedLaws
import Derived.ChangeSlices
namespace Go.Proofs.Ytlnhhgmdajbepaa
open Go.ChangeShapes Go.WideShapes Go.ChangeAt Go.RowKit Go.Deep
set_option linter.unusedVariables false
def opL (o : Oa) : List Value := [.int .i64 o.k, .string (bs o.nm), .string (bs o.to), .slice o.P o.lb.length o.C, .int .i64 o.n, .int .i64 o.m, .slice o.K o.ks.length o.CK]
theorem opL_len (o : Oa) : (opL o).length = 7 := rfl
/-- a call without its bounds -/
structure OpRaw (w : World) (o : Oa) : Prop where
  k : inI o.k
  b : Bytes w o.P o.lb
  bc : o.lb.length ≤ o.C
  bn : o.P = none → o.C = 0
  n : inI o.n
  m : inI o.m
  ks : Ints w o.K o.ks
  kc : o.ks.length ≤ o.CK
  kn : o.K = none → o.CK = 0
/-- the calls L lie from address a on -/
def OpsAt (w : World) (a : Option Addr) (L : List Oa) : Prop := (L = [] ∨ ∃ b off, a = some ⟨b, off, none⟩ ∧ b < w.heap.size ∧ ∀ k o, L[k]? = some o → w.rangeAt b (off + k * 7) (opL o)) ∧ ∀ o ∈ L, OpIn w o
theorem range_keep {w w' : World} {b off : Nat} {xs : List Value} (h : w.rangeAt b off xs) (hlt : b < w.heap.size) (hb : Below w.heap.size w w') : w'.rangeAt b off xs := by
  intro j v hj
  exact (hb.cell (p := ⟨b, off + j, none⟩) hlt).trans (h j v hj)
theorem OpsAt.keep {w w' : World} {a : Option Addr} {L : List Oa} (h : OpsAt w a L) (hb : Below w.heap.size w w') : OpsAt w' a L := by
  refine ⟨?_, fun o ho => (h.2 o ho).keep hb⟩
  rcases h.1 with h1 | ⟨b, off, h1, h2, h3⟩
  · exact .inl h1
  · exact .inr ⟨b, off, h1, Nat.lt_of_lt_of_le h2 hb.size, fun k o ho => range_keep (h3 k o ho) h2 hb⟩
section
variable {H : Type} {enc : TypeId × Value → H} {w : World} {base : Nat} {spare : Nat → Bool} {held : Bool}
theorem weights_all_memO {P : Program} {e : TypeId} : ∀ {ds : List (DataW H)} {d : DataW H}, d ∈ ds → ∀ n ∈ d.weights P e, n ∈ DataW.weightsAll P e ds
  | d0 :: r, d, hd, n, hn => by
    simp only [DataW.weightsAll, List.mem_append]
    rcases List.mem_cons.1 hd with rfl | hd
    · exact .inl hn
    · exact .inr (weights_all_memO hd n hn)
/-- what the datum of a call tells of its sizes -/
def OpD (o : Oa) (d : DataW H) : Prop := ∃ (X0 Yb X4 X5 Yk : DataW H), d = .agg [X0, .lit (.string o.nm), .lit (.string o.to), Yb, X4, X5, Yk] ∧ (o.lb = [] ∨ ∃ e s : List (DataW H), Yb = .slice e s ∧ o.lb.length ≤ e.length + s.length) ∧ (o.ks = [] ∨ ∃ e s : List (DataW H), Yk = .slice e s ∧ o.ks.length ≤ e.length + s.length)
theorem open_op {fuel : Nat} {c0 c1 c2 c3 c4 c5 c6 : Value} {x : DataW H × List MemPlace} (h : DataW.trod enc Try.prog w base (fun _ => true) held fuel 34 [c0, c1, c2, c3, c4, c5, c6] = some x) :
    ∃ o : Oa, [c0, c1, c2, c3, c4, c5, c6] = opL o ∧ OpRaw w o ∧ OpD o x.1 := by
  obtain ⟨xs, n, _, hxy, _, hlen, hf⟩ := DataW.trod_struct Try.underlying34 h
  match xs, hlen with
  | [y0, y1, y2, y3, y4, y5, y6], _ =>
    have k0 : Try.prog.cellsOf 3 = 1 := by kernel_rfl
    have k1 : Try.prog.cellsOf 9 = 1 := by kernel_rfl
    have k3 : Try.prog.cellsOf 31 = 1 := by kernel_rfl
    have k6 : Try.prog.cellsOf 32 = 1 := by kernel_rfl
    have g0 : DataW.trod enc Try.prog w base (fun _ => true) held n 3 [c0] = some y0 := by have := hf 0 _ rfl; simpa [k0] using this
    have g1 : DataW.trod enc Try.prog w base (fun _ => true) held n 9 [c1] = some y1 := by have := hf 1 _ rfl; simpa [k0, k1] using this
    have g2 : DataW.trod enc Try.prog w base (fun _ => true) held n 9 [c2] = some y2 := by have := hf 2 _ rfl; simpa [k0, k1] using this
    have g3 : DataW.trod enc Try.prog w base (fun _ => true) held n 31 [c3] = some y3 := by have := hf 3 _ rfl; simpa [k0, k1, k3] using this
    have g4 : DataW.trod enc Try.prog w base (fun _ => true) held n 3 [c4] = some y4 := by have := hf 4 _ rfl; simpa [k0, k1, k3] using this
    have g5 : DataW.trod enc Try.prog w base (fun _ => true) held n 3 [c5] = some y5 := by have := hf 5 _ rfl; simpa [k0, k1, k3] using this
    have g6 : DataW.trod enc Try.prog w base (fun _ => true) held n 32 [c6] = some y6 := by have := hf 6 _ rfl; simpa [k0, k1, k3, k6] using this
    obtain ⟨t0, e0, rfl, w0⟩ := DataW.trod_int Try.underlying3 g0
    obtain ⟨s1, e1, rfl, _⟩ := DataW.trod_string Try.underlying9 g1
    obtain ⟨s2, e2, rfl, _⟩ := DataW.trod_string Try.underlying9 g2
    obtain ⟨t4, e4, rfl, w4⟩ := DataW.trod_int Try.underlying3 g4
    obtain ⟨t5, e5, rfl, w5⟩ := DataW.trod_int Try.underlying3 g5
    simp only [List.cons.injEq, and_true] at e0 e1 e2 e4 e5
    subst e0 e1 e2 e4 e5
    obtain ⟨P, C, lb, rfl, hb, hbc, hbn, hbd⟩ : ∃ (P : Option Addr) (C : Nat) (lb : List Nat), c3 = .slice P lb.length C ∧ Bytes w P lb ∧ lb.length ≤ C ∧ (P = none → C = 0) ∧ (lb = [] ∨ ∃ e s : List (DataW H), y3.1 = .slice e s ∧ lb.length ≤ e.length + s.length) := by
      rcases open_ints Try.underlying31 Try.underlying5 (by kernel_rfl) g3 with ⟨hcs, rfl⟩ | ⟨a, len, cap, zs, hcs, _, hl, hm, hz, rfl, hcell, hwz⟩
      · simp only [List.cons.injEq, and_true] at hcs
        subst hcs
        exact ⟨none, 0, [], rfl, Bytes.none _ _, Nat.le_refl _, fun _ => rfl, .inl rfl⟩
      · simp only [List.cons.injEq, and_true] at hcs
        subst hcs
        have hz2 : zs.length = cap := by simpa using hz
        obtain ⟨ll, e1, e2, e3⟩ := row_nats .u8 256 (by decide) wf_u8 w a zs len (by omega) hcell hwz
        subst e1
        refine ⟨some a, cap, ll, rfl, ⟨e2, e3⟩, hl, (fun h => by cases h), .inr ⟨_, _, rfl, ?_⟩⟩
        simp only [lits, List.length_map, List.length_take, List.length_drop]
        omega
    obtain ⟨K, CK, ks, rfl, hk, hkc, hkn, hkd⟩ : ∃ (K : Option Addr) (CK : Nat) (ks : List Int), c6 = .slice K ks.length CK ∧ Ints w K ks ∧ ks.length ≤ CK ∧ (K = none → CK = 0) ∧ (ks = [] ∨ ∃ e s : List (DataW H), y6.1 = .slice e s ∧ ks.length ≤ e.length + s.length) := by
      rcases open_ints Try.underlying32 Try.underlying3 (by kernel_rfl) g6 with ⟨hcs, rfl⟩ | ⟨a, len, cap, zs, hcs, _, hl, hm, hz, rfl, hcell, hwz⟩
      · simp only [List.cons.injEq, and_true] at hcs
        subst hcs
        exact ⟨none, 0, [], rfl, ⟨by simp, .inl rfl⟩, Nat.le_refl _, fun _ => rfl, .inl rfl⟩
      · simp only [List.cons.injEq, and_true] at hcs
        subst hcs
        have hz2 : zs.length = cap := by simpa using hz
        obtain ⟨ll, e1, e2, e3⟩ := row_ints w a zs len (by omega) hcell hwz
        subst e1
        refine ⟨some a, cap, ll, rfl, ⟨e2, e3⟩, hl, (fun h => by cases h), .inr ⟨_, _, rfl, ?_⟩⟩
        simp only [lits, List.length_map, List.length_take, List.length_drop]
        omega
    have b1 : bs s1.data.toList = s1 := by simp
    have b2 : bs s2.data.toList = s2 := by simp
    refine ⟨⟨t0, s1.data.toList, s2.data.toList, P, C, lb, t4, t5, K, CK, ks⟩, by unfold opL; simp only [b1, b2], ⟨wf_i64 _ w0, hb, hbc, hbn, wf_i64 _ w4, wf_i64 _ w5, hk, hkc, hkn⟩, ⟨_, y3.1, _, _, y6.1, by rw [hxy]; rfl, hbd, hkd⟩⟩
theorem open_ops {fuel : Nat} {cs : List Value} {x : DataW H × List MemPlace} (h : DataW.trod enc Try.prog w base (fun _ => true) held fuel 22 cs = some x) :
    (cs = [.slice none 0 0] ∧ x = (.nil, [])) ∨
    ∃ (a : Addr) (len cap : Nat) (L : List Oa) (D : Nat → DataW H), cs = [.slice (some a) len cap] ∧ len ≤ cap ∧ cap ≤ maxLen ∧ L.length = len ∧ (L = [] ∨ ∃ b off, a = ⟨b, off, none⟩ ∧ b < w.heap.size ∧ ∀ k o, L[k]? = some o → w.rangeAt b (off + k * 7) (opL o)) ∧ (∀ o ∈ L, OpRaw w o) ∧
      x.1 = .slice ((List.range len).map D) ((List.range (cap - len)).map fun j => D (len + j)) ∧ ∀ i o, L[i]? = some o → OpD o (D i) := by
  rcases open_slice Try.underlying22 h with h0 | ⟨a, len, cap, m, n, D, Pl, rfl, hb, hl, hm, hmm, rfl, hx⟩
  · exact Or.inl h0
  right
  have hmc : m = cap := by simpa using hmm
  subst hmc
  have ce : Try.prog.cellsOf 34 = 7 := by kernel_rfl
  have each : ∀ i, i < m → ∃ o : Oa, (∀ j v, (opL o)[j]? = some v → w.cell? (a.add (i * 7 + j)) = some v) ∧ OpRaw w o ∧ OpD o (D i) := by
    intro i hi
    obtain ⟨cs', h1, h2⟩ := hx i hi
    rw [ce] at h1
    obtain ⟨_, hlen, hcell⟩ := World.cells?_some h1
    match cs', hlen with
    | [v0, v1, v2, v3, v4, v5, v6], _ =>
      obtain ⟨o, hcs, hraw, hd⟩ := open_op h2
      refine ⟨o, fun j v hj => ?_, hraw, hd⟩
      have hj7 : j < 7 := by have := (List.getElem?_eq_some_iff.1 hj).1; rw [opL_len] at this; exact this
      have hc := hcell j hj7
      rw [add_add] at hc
      rw [hc, ← hj, ← hcs]
  haveI : Inhabited Oa := ⟨⟨0, [], [], none, 0, [], 0, 0, none, 0, []⟩⟩
  obtain ⟨q, hq⟩ := choose_lt each
  have hL : ∀ i o, ((List.range len).map q)[i]? = some o → i < len ∧ o = q i := by
    intro i p hp
    have hi : i < len := by
      by_cases hh : i < len
      · exact hh
      · rw [List.getElem?_eq_none (by simp; omega)] at hp; cases hp
    refine ⟨hi, ?_⟩
    rw [List.getElem?_map, List.getElem?_range hi] at hp
    exact (Option.some.inj hp).symm
  refine ⟨a, len, m, (List.range len).map q, D, rfl, hl, hm, by simp, ?_, ?_, rfl, ?_⟩
  · by_cases h0 : len = 0
    · left; subst h0; rfl
    · right
      obtain ⟨b, off, spot⟩ := a
      have hc0 := (hq 0 (by omega)).1 0 _ rfl
      have hspot : spot = none := by simpa [Addr.add] using World.cell?_spot hc0
      subst hspot
      refine ⟨b, off, rfl, World.block_lt_of_cell? _ _ hc0, fun k o ho j v hj => ?_⟩
      obtain ⟨hk, rfl⟩ := hL k o ho
      have h1 := (hq k (by omega)).1 j v hj
      have hadd : ∀ z, (⟨b, off, none⟩ : Addr).add z = ⟨b, off + z, none⟩ := fun z => by simp [Addr.add]
      rw [hadd] at h1
      rw [Nat.add_assoc]
      exact h1
  · intro o ho
    obtain ⟨i, hi, rfl⟩ := List.mem_map.1 ho
    exact (hq i (by have := List.mem_range.1 hi; omega)).2.1
  · intro i o ho
    obtain ⟨hi, rfl⟩ := hL i o ho
    exact (hq i (by omega)).2.2
theorem sized_ops {ts : List TypeId} {ds : List (DataW H)} (h : (DataW.weightsEach Try.prog ts ds).all (· ≤ reachBytes) = true) {j len cap : Nat} {L : List Oa} {D : Nat → DataW H} (ht : ts[j]? = some 22)
    (hd : ds[j]? = some (.slice ((List.range len).map D) ((List.range (cap - len)).map fun j => D (len + j)))) (hl : len ≤ cap) (hLl : L.length = len) (hraw : ∀ o ∈ L, OpRaw w o)
    (hD : ∀ i o, L[i]? = some o → OpD o (D i)) : cap * 104 ≤ 140737488351232 ∧ ∀ o ∈ L, OpIn w o := by
  constructor
  · have := sized_slice h ht hd Try.underlying22
    rw [show Try.prog.bytesOf 34 = 104 from by kernel_rfl] at this
    simp only [List.length_map, List.length_range, reachBytes] at this
    have hc : len + (cap - len) = cap := by omega
    rw [hc] at this
    exact this
  · intro o ho
    obtain ⟨i, hi⟩ := List.getElem?_of_mem ho
    have hil : i < len := by
      by_cases hh : i < L.length
      · omega
      · rw [List.getElem?_eq_none (by omega)] at hi; cases hi
    have hr := hraw o ho
    obtain ⟨X0, Yb, X4, X5, Yk, h1, h2, h3⟩ := hD i o hi
    have hm : D i ∈ (List.range len).map D := List.mem_map.2 ⟨i, List.mem_range.2 hil, rfl⟩
    have lift : ∀ n, n ∈ (D i).weights Try.prog 34 → n ≤ 140737488351232 := by
      intro n hn
      have := List.all_eq_true.1 h _ (DataW.weights_mem_each ht hd _ (by
        simp only [DataW.weights, Try.underlying22, List.mem_cons, List.mem_append]
        exact .inr (.inl (weights_all_memO hm _ hn))))
      exact of_decide_eq_true this
    rw [h1] at lift
    simp only [DataW.weights, Try.underlying34, DataW.weightsEach, List.mem_append, List.mem_cons, List.map_cons, List.map_nil] at lift
    have n1 := lift o.nm.length (by simp)
    have n2 := lift o.to.length (by simp)
    have n3 : o.lb.length ≤ 140737488351232 := by
      rcases h2 with h2 | ⟨e, s, rfl, h4⟩
      · rw [h2]; simp
      · have := lift ((e.length + s.length) * Try.prog.bytesOf 5) (by simp [DataW.weights, Try.underlying31])
        rw [show Try.prog.bytesOf 5 = 1 from by kernel_rfl] at this
        omega
    have n4 : o.ks.length * 8 ≤ 140737488351232 := by
      rcases h3 with h3 | ⟨e, s, rfl, h4⟩
      · rw [h3]; simp
      · have := lift ((e.length + s.length) * Try.prog.bytesOf 3) (by simp [DataW.weights, Try.underlying32])
        rw [show Try.prog.bytesOf 3 = 8 from by kernel_rfl] at this
        omega
    exact ⟨hr.k, by omega, by omega, hr.b, hr.bc, hr.bn, by omega, hr.n, hr.m, hr.ks, hr.kc, hr.kn, by omega⟩
end
end Go.Proofs.Ytlnhhgmdajbepaa
