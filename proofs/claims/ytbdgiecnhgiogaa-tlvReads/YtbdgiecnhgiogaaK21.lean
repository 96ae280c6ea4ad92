/- Own texts, joined: Tly, Tlyp. -/
import Derived.Test.YtbdgiecnhgiogaaK16
import Derived.Deep.Slices
import Derived.ChangeSame
import Derived.SizedLaws
import Derived.ChangeSlices
namespace Go.Proofs.Ytbdgiecnhgiogaa
open Go.ChangeShapes Go.WideShapes Go.ChangeAt Go.RowKit Go.Deep
set_option linter.unusedVariables false
section
variable {H : Type} {enc : TypeId × Value → H} {w : World} {base : Nat} {spare : Nat → Bool} {held : Bool}
theorem weights_all_memF {P : Program} {e : TypeId} : ∀ {ds : List (DataW H)} {d : DataW H}, d ∈ ds → ∀ n ∈ d.weights P e, n ∈ DataW.weightsAll P e ds
  | d0 :: r, d, hd, n, hn => by
    simp only [DataW.weightsAll, List.mem_append]
    rcases List.mem_cons.1 hd with rfl | hd
    · exact .inl hn
    · exact .inr (weights_all_memF hd n hn)
/-- one field, from its four cells -/
theorem open_fld {fuel : Nat} {c0 c1 c2 c3 : Value} {x : DataW H × List MemPlace} (h : DataW.trod enc Try.prog w base (fun _ => true) held fuel 32 [c0, c1, c2, c3] = some x) :
    ∃ (F : Fld) (Y : DataW H), c0 = .int .i64 F.tag ∧ c1 = .bool F.text ∧ c2 = .int .u64 (F.num : Int) ∧ x.1 = .agg [.lit (.int .i64 F.tag), .lit (.bool F.text), .lit (.int .u64 (F.num : Int)), Y] ∧ F.num ≤ 18446744073709551615 ∧
      ∃ ad cap, c3 = .slice ad F.bytes.length cap ∧ F.bytes.length ≤ cap ∧ cap ≤ maxLen ∧ Bytes w ad F.bytes ∧ (cap = 0 ∨ ∃ e s : List (DataW H), Y = .slice e s ∧ e.length + s.length = cap) := by
  obtain ⟨xs, n, _, hxy, _, hlen, hf⟩ := DataW.trod_struct Try.underlying32 h
  match xs, hlen with
  | [y0, y1, y2, y3], _ =>
    have k0 : Try.prog.cellsOf 3 = 1 := by kernel_rfl
    have k1 : Try.prog.cellsOf 4 = 1 := by kernel_rfl
    have k2 : Try.prog.cellsOf 30 = 1 := by kernel_rfl
    have k3 : Try.prog.cellsOf 27 = 1 := by kernel_rfl
    have g0 : DataW.trod enc Try.prog w base (fun _ => true) held n 3 [c0] = some y0 := by have := hf 0 _ rfl; simpa [k0] using this
    have g1 : DataW.trod enc Try.prog w base (fun _ => true) held n 4 [c1] = some y1 := by have := hf 1 _ rfl; simpa [k1] using this
    have g2 : DataW.trod enc Try.prog w base (fun _ => true) held n 30 [c2] = some y2 := by have := hf 2 _ rfl; simpa [k2] using this
    have g3 : DataW.trod enc Try.prog w base (fun _ => true) held n 27 [c3] = some y3 := by have := hf 3 _ rfl; simpa [k3] using this
    obtain ⟨t, ht, rfl, _⟩ := DataW.trod_int Try.underlying3 g0
    obtain ⟨tx, htx, rfl⟩ := DataW.trod_bool Try.underlying4 g1
    obtain ⟨u, hu, rfl, hwu⟩ := DataW.trod_int Try.underlying30 g2
    simp only [List.cons.injEq, and_true] at ht htx hu
    subst ht htx hu
    have hu2 : 0 ≤ u ∧ u.toNat < 18446744073709551616 := wf_u64 u hwu
    obtain ⟨U, rfl⟩ : ∃ U : Nat, u = (U : Int) := ⟨u.toNat, by omega⟩
    have hU : U ≤ 18446744073709551615 := by have := hu2.2; simp at this; omega
    rcases open_ints Try.underlying27 Try.underlying5 (by kernel_rfl) g3 with ⟨hcs, rfl⟩ | ⟨a, len, cap, zs, hcs, _, hl, hm, hz, rfl, hcell, hwz⟩
    · simp only [List.cons.injEq, and_true] at hcs
      subst hcs
      refine ⟨⟨t, tx, U, []⟩, .nil, rfl, rfl, rfl, by rw [hxy]; rfl, hU, none, 0, rfl, by simp, by simp, Bytes.none _ _, .inl rfl⟩
    · simp only [List.cons.injEq, and_true] at hcs
      subst hcs
      have hz2 : zs.length = cap := by simpa using hz
      obtain ⟨ll, e1, e2, e3⟩ := row_nats .u8 256 (by decide) wf_u8 w a zs len (by omega) hcell hwz
      subst e1
      refine ⟨⟨t, tx, U, ll⟩, _, rfl, rfl, rfl, by rw [hxy]; rfl, hU, some a, cap, rfl, hl, hm, ⟨e2, e3⟩, .inr ⟨_, _, rfl, ?_⟩⟩
      simp only [lits, List.length_map, List.length_take, List.length_drop]
      omega
/-- a list of fields -/
theorem open_fields {fuel : Nat} {cs : List Value} {x : DataW H × List MemPlace} (h : DataW.trod enc Try.prog w base (fun _ => true) held fuel 26 cs = some x) :
    (cs = [.slice none 0 0] ∧ x = (.nil, [])) ∨
    ∃ (a : Addr) (len cap : Nat) (L : List (Fld × Value)) (D : Nat → DataW H), cs = [.slice (some a) len cap] ∧ len ≤ cap ∧ cap ≤ maxLen ∧ L.length = len ∧ FsAt w (some a) L ∧
      x.1 = .slice ((List.range len).map D) ((List.range (cap - len)).map fun j => D (len + j)) ∧
      ∀ i p, L[i]? = some p → ∃ (A B C Y : DataW H), D i = .agg [A, B, C, Y] ∧ (p.1.bytes = [] ∨ ∃ e s : List (DataW H), Y = .slice e s ∧ p.1.bytes.length ≤ e.length + s.length) := by
  rcases open_slice Try.underlying26 h with h0 | ⟨a, len, cap, m, n, D, Pl, rfl, hb, hl, hm, hmm, rfl, hx⟩
  · exact Or.inl h0
  right
  have hmc : m = cap := by simpa using hmm
  subst hmc
  have ce : Try.prog.cellsOf 32 = 4 := by kernel_rfl
  have each : ∀ i, i < m → ∃ q : Fld × Value × DataW H, w.cell? (a.add (i * 4)) = some (.int .i64 q.1.tag) ∧ w.cell? (a.add (i * 4 + 1)) = some (.bool q.1.text) ∧ w.cell? (a.add (i * 4 + 2)) = some (.int .u64 (q.1.num : Int)) ∧ w.cell? (a.add (i * 4 + 3)) = some q.2.1 ∧ FOk w (q.1, q.2.1) ∧
      ∃ (A B C : DataW H), D i = .agg [A, B, C, q.2.2] ∧ (q.1.bytes = [] ∨ ∃ e s : List (DataW H), q.2.2 = .slice e s ∧ q.1.bytes.length ≤ e.length + s.length) := by
    intro i hi
    obtain ⟨cs', h1, h2⟩ := hx i hi
    rw [ce] at h1
    obtain ⟨_, hlen, hcell⟩ := World.cells?_some h1
    match cs', hlen with
    | [v0, v1, v2, v3], _ =>
      obtain ⟨F, Y, rfl, rfl, rfl, hD, hU, ad, cp, rfl, q1, q2, q3, q4⟩ := open_fld h2
      have e0 := hcell 0 (by omega)
      have e1 := hcell 1 (by omega)
      have e2 := hcell 2 (by omega)
      have e3 := hcell 3 (by omega)
      rw [add_add] at e0 e1 e2 e3
      refine ⟨(F, .slice ad F.bytes.length cp, Y), by simpa using e0, by simpa using e1, by simpa using e2, by simpa using e3, ⟨hU, ⟨ad, cp, rfl, q1, q3⟩, Nat.le_trans q1 q2⟩, _, _, _, hD, ?_⟩
      rcases q4 with rfl | ⟨e, s, h3, h4⟩
      · exact .inl (List.length_eq_zero_iff.1 (by simpa using q1))
      · exact .inr ⟨e, s, h3, by simp only; omega⟩
  haveI : Inhabited (Fld × Value × DataW H) := ⟨(⟨0, false, 0, []⟩, .nilIface, .nil)⟩
  obtain ⟨q, hq⟩ := choose_lt each
  have hL : ∀ i p, ((List.range len).map fun i => ((q i).1, (q i).2.1))[i]? = some p → i < len ∧ p = ((q i).1, (q i).2.1) := by
    intro i p hp
    have hi : i < len := by
      by_cases hh : i < len
      · exact hh
      · rw [List.getElem?_eq_none (by simp; omega)] at hp; cases hp
    refine ⟨hi, ?_⟩
    rw [List.getElem?_map, List.getElem?_range hi] at hp
    exact (Option.some.inj hp).symm
  refine ⟨a, len, m, (List.range len).map fun i => ((q i).1, (q i).2.1), D, rfl, hl, hm, by simp, ⟨?_, ?_⟩, rfl, ?_⟩
  · by_cases h0 : len = 0
    · left; subst h0; rfl
    · right
      obtain ⟨b, off, spot⟩ := a
      have hc0 := (hq 0 (by omega)).1
      have hspot : spot = none := by simpa [Addr.add] using World.cell?_spot hc0
      subst hspot
      refine ⟨b, off, rfl, World.block_lt_of_cell? _ _ hc0, fun j hj => ?_⟩
      simp only [List.length_map, List.length_range] at hj
      obtain ⟨i, r, hr, rfl⟩ : ∃ i r, r < 4 ∧ j = i * 4 + r := ⟨j / 4, j % 4, by omega, by omega⟩
      have hi : i < len := by omega
      have hp : ((List.range len).map fun i => ((q i).1, (q i).2.1))[i]? = some ((q i).1, (q i).2.1) := by rw [List.getElem?_map, List.getElem?_range hi]; rfl
      obtain ⟨f0, f1, f2, f3⟩ := flat_get _ i _ hp
      obtain ⟨d0, d1, d2, d3, _⟩ := hq i (by omega)
      have hadd : ∀ z, (⟨b, off, none⟩ : Addr).add z = ⟨b, off + z, none⟩ := fun z => by simp [Addr.add]
      rw [hadd] at d0 d1 d2 d3
      have hr4 : r = 0 ∨ r = 1 ∨ r = 2 ∨ r = 3 := by omega
      rcases hr4 with rfl | rfl | rfl | rfl
      · rw [Nat.add_zero, f0]; exact d0
      · rw [f1]; exact d1
      · rw [f2]; exact d2
      · rw [f3]; exact d3
  · intro p hp
    obtain ⟨i, hi, rfl⟩ := List.mem_map.1 hp
    exact (hq i (by have := List.mem_range.1 hi; omega)).2.2.2.2.1
  · intro i p hp
    obtain ⟨hi, rfl⟩ := hL i p hp
    obtain ⟨A, B, C, h1, h2⟩ := (hq i (by omega)).2.2.2.2.2
    exact ⟨A, B, C, _, h1, h2⟩
/-- what the form's reach says of a list of fields that came in -/
theorem sized_fields {ts : List TypeId} {ds : List (DataW H)} (h : (DataW.weightsEach Try.prog ts ds).all (· ≤ reachBytes) = true) {j len cap : Nat} {L : List (Fld × Value)} {D : Nat → DataW H} (ht : ts[j]? = some 26)
    (hd : ds[j]? = some (.slice ((List.range len).map D) ((List.range (cap - len)).map fun j => D (len + j)))) (hl : len ≤ cap) (hLl : L.length = len)
    (hD : ∀ i p, L[i]? = some p → ∃ (A B C Y : DataW H), D i = .agg [A, B, C, Y] ∧ (p.1.bytes = [] ∨ ∃ e s : List (DataW H), Y = .slice e s ∧ p.1.bytes.length ≤ e.length + s.length)) :
    cap * 48 ≤ 140737488351232 ∧ ∀ p ∈ L, p.1.bytes.length ≤ 140737488351232 := by
  constructor
  · have := sized_slice h ht hd Try.underlying26
    rw [show Try.prog.bytesOf 32 = 48 from by kernel_rfl] at this
    simp only [List.length_map, List.length_range, reachBytes] at this
    have hc : len + (cap - len) = cap := by omega
    rw [hc] at this
    exact this
  · intro p hp
    obtain ⟨i, hi⟩ := List.getElem?_of_mem hp
    have hil : i < len := by
      by_cases hh : i < L.length
      · omega
      · rw [List.getElem?_eq_none (by omega)] at hi; cases hi
    obtain ⟨A, B, C, Y, h1, h2⟩ := hD i p hi
    rcases h2 with h2 | ⟨e, s, rfl, h3⟩
    · rw [h2]; simp
    · have hm : D i ∈ (List.range len).map D := List.mem_map.2 ⟨i, List.mem_range.2 hil, rfl⟩
      have hw : (e.length + s.length) * Try.prog.bytesOf 5 ∈ (D i).weights Try.prog 32 := by
        rw [h1]
        simp only [DataW.weights, Try.underlying32, DataW.weightsEach, Try.underlying27, List.mem_append, List.mem_cons, List.map_cons, List.map_nil]
        simp
      have := List.all_eq_true.1 h _ (DataW.weights_mem_each ht hd _ (by
        simp only [DataW.weights, Try.underlying26, List.mem_cons, List.mem_append]
        exact .inr (.inl (weights_all_memF hm _ hw))))
      have h4 := of_decide_eq_true this
      rw [show Try.prog.bytesOf 5 = 1 from by kernel_rfl] at h4
      simp only [reachBytes] at h4
      omega
end
end Go.Proofs.Ytbdgiecnhgiogaa
namespace Go.Proofs.Ytbdgiecnhgiogaa
open Go.ChangeShapes Go.WideShapes Go.ChangeAt Go.RowKit Go.Deep
set_option linter.unusedVariables false
/-- what a writer is told: which call, the tag, the number, the bytes -/
structure Pt where
  k : Int
  tag : Int
  v : Int
  bytes : List Nat
theorem wf_i64P (n : Int) (h : (Lit.int .i64 n).wf = true) : -9223372036854775808 ≤ n ∧ n ≤ 9223372036854775807 := by
  simp [Lit.wf, IntKind.min, IntKind.max, IntKind.bits, IntKind.signed] at h; omega
def flatP : List (Pt × Value) → List Value
  | [] => []
  | p :: r => .int .i64 p.1.k :: .int .i64 p.1.tag :: .int .i64 p.1.v :: p.2 :: flatP r
structure POk (w : World) (p : Pt × Value) : Prop where
  num : -9223372036854775808 ≤ p.1.v ∧ p.1.v ≤ 9223372036854775807
  byt : ∃ ad cap, p.2 = .slice ad p.1.bytes.length cap ∧ p.1.bytes.length ≤ cap ∧ Bytes w ad p.1.bytes
  len : p.1.bytes.length ≤ maxLen
  tg : (Lit.int .i64 p.1.tag).wf = true
/-- the fields L lie from address a on -/
structure PsAt (w : World) (a : Option Addr) (L : List (Pt × Value)) : Prop where
  row : L = [] ∨ ∃ b off, a = some ⟨b, off, none⟩ ∧ b < w.heap.size ∧ ∀ j, j < L.length * 4 → w.cell? ⟨b, off + j, none⟩ = (flatP L)[j]?
  fok : ∀ p ∈ L, POk w p
theorem POk.keep {w w' : World} {p : Pt × Value} (h : POk w p) (hb : Below w.heap.size w w') : POk w' p := by
  obtain ⟨ad, cap, h1, h2, h3⟩ := h.byt
  exact ⟨h.num, ⟨ad, cap, h1, h2, h3.keep hb⟩, h.len, h.tg⟩
theorem PsAt.keep {w w' : World} {a : Option Addr} {L : List (Pt × Value)} (h : PsAt w a L) (hb : Below w.heap.size w w') : PsAt w' a L := by
  refine ⟨?_, fun p hp => (h.fok p hp).keep hb⟩
  rcases h.row with h1 | ⟨b, off, h1, h2, h3⟩
  · exact .inl h1
  · exact .inr ⟨b, off, h1, Nat.lt_of_lt_of_le h2 hb.size, fun j hj => (hb.cell (p := ⟨b, off + j, none⟩) h2).trans (h3 j hj)⟩
theorem flatP_get : ∀ (L : List (Pt × Value)) (k : Nat) (p : Pt × Value), L[k]? = some p → (flatP L)[k * 4]? = some (.int .i64 p.1.k) ∧ (flatP L)[k * 4 + 1]? = some (.int .i64 p.1.tag) ∧ (flatP L)[k * 4 + 2]? = some (.int .i64 p.1.v) ∧ (flatP L)[k * 4 + 3]? = some p.2
  | q :: r, 0, p, h => by simp at h; subst h; exact ⟨rfl, rfl, rfl, rfl⟩
  | q :: r, k + 1, p, h => by
    have := flatP_get r k p (by simpa using h)
    rw [show (k + 1) * 4 = k * 4 + 4 from by omega]
    simpa [flatP] using this
  | [], k, p, h => by simp at h
theorem PsAt.cells {w : World} {b off : Nat} {L : List (Pt × Value)} (h : PsAt w (some ⟨b, off, none⟩) L) (k : Nat) (p : Pt × Value) (hp : L[k]? = some p) : w.cell? ⟨b, off + k * 4, none⟩ = some (.int .i64 p.1.k) ∧ w.cell? ⟨b, off + k * 4 + 1, none⟩ = some (.int .i64 p.1.tag) ∧ w.cell? ⟨b, off + k * 4 + 2, none⟩ = some (.int .i64 p.1.v) ∧ w.cell? ⟨b, off + k * 4 + 3, none⟩ = some p.2 := by
  have hk : k < L.length := by
    by_cases hh : k < L.length
    · exact hh
    · rw [List.getElem?_eq_none (by omega)] at hp; cases hp
  rcases h.row with rfl | ⟨b', off', hx, _, hc⟩
  · simp at hk
  · cases hx
    obtain ⟨f0, f1, f2, f3⟩ := flatP_get L k p hp
    exact ⟨(hc (k * 4) (by omega)).trans f0, (hc (k * 4 + 1) (by omega)).trans f1, (hc (k * 4 + 2) (by omega)).trans f2, (hc (k * 4 + 3) (by omega)).trans f3⟩
section
variable {H : Type} {enc : TypeId × Value → H} {w : World} {base : Nat} {spare : Nat → Bool} {held : Bool}
/-- one field, from its four cells -/
theorem open_put {fuel : Nat} {c0 c1 c2 c3 : Value} {x : DataW H × List MemPlace} (h : DataW.trod enc Try.prog w base (fun _ => true) held fuel 29 [c0, c1, c2, c3] = some x) :
    ∃ (F : Pt) (Y : DataW H), c0 = .int .i64 F.k ∧ c1 = .int .i64 F.tag ∧ c2 = .int .i64 F.v ∧ x.1 = .agg [.lit (.int .i64 F.k), .lit (.int .i64 F.tag), .lit (.int .i64 F.v), Y] ∧ ((-9223372036854775808 ≤ F.v ∧ F.v ≤ 9223372036854775807) ∧ (Lit.int .i64 F.tag).wf = true) ∧
      ∃ ad cap, c3 = .slice ad F.bytes.length cap ∧ F.bytes.length ≤ cap ∧ cap ≤ maxLen ∧ Bytes w ad F.bytes ∧ (cap = 0 ∨ ∃ e s : List (DataW H), Y = .slice e s ∧ e.length + s.length = cap) := by
  obtain ⟨xs, n, _, hxy, _, hlen, hf⟩ := DataW.trod_struct Try.underlying29 h
  match xs, hlen with
  | [y0, y1, y2, y3], _ =>
    have k0 : Try.prog.cellsOf 3 = 1 := by kernel_rfl
    have k1 : Try.prog.cellsOf 3 = 1 := by kernel_rfl
    have k2 : Try.prog.cellsOf 2 = 1 := by kernel_rfl
    have k3 : Try.prog.cellsOf 27 = 1 := by kernel_rfl
    have g0 : DataW.trod enc Try.prog w base (fun _ => true) held n 3 [c0] = some y0 := by have := hf 0 _ rfl; simpa [k0] using this
    have g1 : DataW.trod enc Try.prog w base (fun _ => true) held n 3 [c1] = some y1 := by have := hf 1 _ rfl; simpa [k1] using this
    have g2 : DataW.trod enc Try.prog w base (fun _ => true) held n 2 [c2] = some y2 := by have := hf 2 _ rfl; simpa [k2] using this
    have g3 : DataW.trod enc Try.prog w base (fun _ => true) held n 27 [c3] = some y3 := by have := hf 3 _ rfl; simpa [k3] using this
    obtain ⟨t, ht, rfl, _⟩ := DataW.trod_int Try.underlying3 g0
    obtain ⟨tx, htx, rfl, hwt⟩ := DataW.trod_int Try.underlying3 g1
    obtain ⟨u, hu, rfl, hwu⟩ := DataW.trod_int Try.underlying2 g2
    simp only [List.cons.injEq, and_true] at ht htx hu
    subst ht htx hu
    have hU : (-9223372036854775808 ≤ u ∧ u ≤ 9223372036854775807) ∧ (Lit.int .i64 tx).wf = true := ⟨wf_i64P u hwu, hwt⟩
    rcases open_ints Try.underlying27 Try.underlying5 (by kernel_rfl) g3 with ⟨hcs, rfl⟩ | ⟨a, len, cap, zs, hcs, _, hl, hm, hz, rfl, hcell, hwz⟩
    · simp only [List.cons.injEq, and_true] at hcs
      subst hcs
      refine ⟨⟨t, tx, u, []⟩, .nil, rfl, rfl, rfl, by rw [hxy]; rfl, hU, none, 0, rfl, by simp, by simp, Bytes.none _ _, .inl rfl⟩
    · simp only [List.cons.injEq, and_true] at hcs
      subst hcs
      have hz2 : zs.length = cap := by simpa using hz
      obtain ⟨ll, e1, e2, e3⟩ := row_nats .u8 256 (by decide) wf_u8 w a zs len (by omega) hcell hwz
      subst e1
      refine ⟨⟨t, tx, u, ll⟩, _, rfl, rfl, rfl, by rw [hxy]; rfl, hU, some a, cap, rfl, hl, hm, ⟨e2, e3⟩, .inr ⟨_, _, rfl, ?_⟩⟩
      simp only [lits, List.length_map, List.length_take, List.length_drop]
      omega
/-- a list of fields -/
theorem open_puts {fuel : Nat} {cs : List Value} {x : DataW H × List MemPlace} (h : DataW.trod enc Try.prog w base (fun _ => true) held fuel 22 cs = some x) :
    (cs = [.slice none 0 0] ∧ x = (.nil, [])) ∨
    ∃ (a : Addr) (len cap : Nat) (L : List (Pt × Value)) (D : Nat → DataW H), cs = [.slice (some a) len cap] ∧ len ≤ cap ∧ cap ≤ maxLen ∧ L.length = len ∧ PsAt w (some a) L ∧
      x.1 = .slice ((List.range len).map D) ((List.range (cap - len)).map fun j => D (len + j)) ∧
      ∀ i p, L[i]? = some p → ∃ (A B C Y : DataW H), D i = .agg [A, B, C, Y] ∧ (p.1.bytes = [] ∨ ∃ e s : List (DataW H), Y = .slice e s ∧ p.1.bytes.length ≤ e.length + s.length) := by
  rcases open_slice Try.underlying22 h with h0 | ⟨a, len, cap, m, n, D, Pl, rfl, hb, hl, hm, hmm, rfl, hx⟩
  · exact Or.inl h0
  right
  have hmc : m = cap := by simpa using hmm
  subst hmc
  have ce : Try.prog.cellsOf 29 = 4 := by kernel_rfl
  have each : ∀ i, i < m → ∃ q : Pt × Value × DataW H, w.cell? (a.add (i * 4)) = some (.int .i64 q.1.k) ∧ w.cell? (a.add (i * 4 + 1)) = some (.int .i64 q.1.tag) ∧ w.cell? (a.add (i * 4 + 2)) = some (.int .i64 q.1.v) ∧ w.cell? (a.add (i * 4 + 3)) = some q.2.1 ∧ POk w (q.1, q.2.1) ∧
      ∃ (A B C : DataW H), D i = .agg [A, B, C, q.2.2] ∧ (q.1.bytes = [] ∨ ∃ e s : List (DataW H), q.2.2 = .slice e s ∧ q.1.bytes.length ≤ e.length + s.length) := by
    intro i hi
    obtain ⟨cs', h1, h2⟩ := hx i hi
    rw [ce] at h1
    obtain ⟨_, hlen, hcell⟩ := World.cells?_some h1
    match cs', hlen with
    | [v0, v1, v2, v3], _ =>
      obtain ⟨F, Y, rfl, rfl, rfl, hD, hU, ad, cp, rfl, q1, q2, q3, q4⟩ := open_put h2
      have e0 := hcell 0 (by omega)
      have e1 := hcell 1 (by omega)
      have e2 := hcell 2 (by omega)
      have e3 := hcell 3 (by omega)
      rw [add_add] at e0 e1 e2 e3
      refine ⟨(F, .slice ad F.bytes.length cp, Y), by simpa using e0, by simpa using e1, by simpa using e2, by simpa using e3, ⟨hU.1, ⟨ad, cp, rfl, q1, q3⟩, Nat.le_trans q1 q2, hU.2⟩, _, _, _, hD, ?_⟩
      rcases q4 with rfl | ⟨e, s, h3, h4⟩
      · exact .inl (List.length_eq_zero_iff.1 (by simpa using q1))
      · exact .inr ⟨e, s, h3, by simp only; omega⟩
  haveI : Inhabited (Pt × Value × DataW H) := ⟨(⟨0, 0, 0, []⟩, .nilIface, .nil)⟩
  obtain ⟨q, hq⟩ := choose_lt each
  have hL : ∀ i p, ((List.range len).map fun i => ((q i).1, (q i).2.1))[i]? = some p → i < len ∧ p = ((q i).1, (q i).2.1) := by
    intro i p hp
    have hi : i < len := by
      by_cases hh : i < len
      · exact hh
      · rw [List.getElem?_eq_none (by simp; omega)] at hp; cases hp
    refine ⟨hi, ?_⟩
    rw [List.getElem?_map, List.getElem?_range hi] at hp
    exact (Option.some.inj hp).symm
  refine ⟨a, len, m, (List.range len).map fun i => ((q i).1, (q i).2.1), D, rfl, hl, hm, by simp, ⟨?_, ?_⟩, rfl, ?_⟩
  · by_cases h0 : len = 0
    · left; subst h0; rfl
    · right
      obtain ⟨b, off, spot⟩ := a
      have hc0 := (hq 0 (by omega)).1
      have hspot : spot = none := by simpa [Addr.add] using World.cell?_spot hc0
      subst hspot
      refine ⟨b, off, rfl, World.block_lt_of_cell? _ _ hc0, fun j hj => ?_⟩
      simp only [List.length_map, List.length_range] at hj
      obtain ⟨i, r, hr, rfl⟩ : ∃ i r, r < 4 ∧ j = i * 4 + r := ⟨j / 4, j % 4, by omega, by omega⟩
      have hi : i < len := by omega
      have hp : ((List.range len).map fun i => ((q i).1, (q i).2.1))[i]? = some ((q i).1, (q i).2.1) := by rw [List.getElem?_map, List.getElem?_range hi]; rfl
      obtain ⟨f0, f1, f2, f3⟩ := flatP_get _ i _ hp
      obtain ⟨d0, d1, d2, d3, _⟩ := hq i (by omega)
      have hadd : ∀ z, (⟨b, off, none⟩ : Addr).add z = ⟨b, off + z, none⟩ := fun z => by simp [Addr.add]
      rw [hadd] at d0 d1 d2 d3
      have hr4 : r = 0 ∨ r = 1 ∨ r = 2 ∨ r = 3 := by omega
      rcases hr4 with rfl | rfl | rfl | rfl
      · rw [Nat.add_zero, f0]; exact d0
      · rw [f1]; exact d1
      · rw [f2]; exact d2
      · rw [f3]; exact d3
  · intro p hp
    obtain ⟨i, hi, rfl⟩ := List.mem_map.1 hp
    exact (hq i (by have := List.mem_range.1 hi; omega)).2.2.2.2.1
  · intro i p hp
    obtain ⟨hi, rfl⟩ := hL i p hp
    obtain ⟨A, B, C, h1, h2⟩ := (hq i (by omega)).2.2.2.2.2
    exact ⟨A, B, C, _, h1, h2⟩
/-- what the form's reach says of a list of fields that came in -/
theorem sized_puts {ts : List TypeId} {ds : List (DataW H)} (h : (DataW.weightsEach Try.prog ts ds).all (· ≤ reachBytes) = true) {j len cap : Nat} {L : List (Pt × Value)} {D : Nat → DataW H} (ht : ts[j]? = some 22)
    (hd : ds[j]? = some (.slice ((List.range len).map D) ((List.range (cap - len)).map fun j => D (len + j)))) (hl : len ≤ cap) (hLl : L.length = len)
    (hD : ∀ i p, L[i]? = some p → ∃ (A B C Y : DataW H), D i = .agg [A, B, C, Y] ∧ (p.1.bytes = [] ∨ ∃ e s : List (DataW H), Y = .slice e s ∧ p.1.bytes.length ≤ e.length + s.length)) :
    cap * 48 ≤ 140737488351232 ∧ ∀ p ∈ L, p.1.bytes.length ≤ 140737488351232 := by
  constructor
  · have := sized_slice h ht hd Try.underlying22
    rw [show Try.prog.bytesOf 29 = 48 from by kernel_rfl] at this
    simp only [List.length_map, List.length_range, reachBytes] at this
    have hc : len + (cap - len) = cap := by omega
    rw [hc] at this
    exact this
  · intro p hp
    obtain ⟨i, hi⟩ := List.getElem?_of_mem hp
    have hil : i < len := by
      by_cases hh : i < L.length
      · omega
      · rw [List.getElem?_eq_none (by omega)] at hi; cases hi
    obtain ⟨A, B, C, Y, h1, h2⟩ := hD i p hi
    rcases h2 with h2 | ⟨e, s, rfl, h3⟩
    · rw [h2]; simp
    · have hm : D i ∈ (List.range len).map D := List.mem_map.2 ⟨i, List.mem_range.2 hil, rfl⟩
      have hw : (e.length + s.length) * Try.prog.bytesOf 5 ∈ (D i).weights Try.prog 29 := by
        rw [h1]
        simp only [DataW.weights, Try.underlying29, DataW.weightsEach, Try.underlying27, List.mem_append, List.mem_cons, List.map_cons, List.map_nil]
        simp
      have := List.all_eq_true.1 h _ (DataW.weights_mem_each ht hd _ (by
        simp only [DataW.weights, Try.underlying22, List.mem_cons, List.mem_append]
        exact .inr (.inl (weights_all_memF hm _ hw))))
      have h4 := of_decide_eq_true this
      rw [show Try.prog.bytesOf 5 = 1 from by kernel_rfl] at h4
      simp only [reachBytes] at h4
      omega
end
end Go.Proofs.Ytbdgiecnhgiogaa
