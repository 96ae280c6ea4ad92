/- Own texts, joined: Evo, Evp. -/
import Derived.Test.YtldbdhhbmnbmaaaGreatM34
import Derived.Test.YtldbdhhbmnbmaaaGreatK10
import Derived.Deep.Slices
import Derived.ChangeSame
import Derived.SizedLaws
import Derived.ChangeSlices
import Derived.Laws.AppendOwnNone
import Derived.Deep.AppendLies
import Derived.Deep.Upon
import Derived.ArgAppend
import Derived.OrdersHeld
import Derived.Deep.RegionHeld
namespace Go.Proofs.YtldbdhhbmnbmaaaGreat
open Go.ChangeShapes Go.WideShapes Go.ChangeAt Go.RowKit Go.Deep
set_option linter.unusedVariables false
def efl : List Ev → List Value
  | [] => []
  | e :: r => (evA e).toList ++ efl r
theorem evA_len (e : Ev) : (evA e).toList.length = 10 := rfl
theorem efl_length : ∀ (L : List Ev), (efl L).length = L.length * 10
  | [] => rfl
  | p :: r => by simp only [efl, List.length_append, evA_len, List.length_cons, efl_length r]; omega
theorem efl_get : ∀ (L : List Ev) (k : Nat) (e : Ev) (j : Nat), L[k]? = some e → j < 10 → (efl L)[k * 10 + j]? = (evA e)[j]?
  | q :: r, 0, e, j, h, hj => by
    simp at h; subst h
    rw [efl, Nat.zero_mul, Nat.zero_add, List.getElem?_append_left (by rw [evA_len]; exact hj)]
    simp
  | q :: r, k + 1, e, j, h, hj => by
    rw [efl, List.getElem?_append_right (by rw [evA_len]; omega), evA_len, show (k + 1) * 10 + j - 10 = k * 10 + j from by omega]
    exact efl_get r k e j (by simpa using h) hj
  | [], k, e, j, h, hj => by simp at h
theorem evA_lt {e : Ev} {j : Nat} {u : Value} (h : (evA e)[j]? = some u) : j < 10 := by
  by_cases hh : j < 10
  · exact hh
  · rw [Array.getElem?_eq_none (by simp [evA]; omega)] at h; cases h
theorem evsIn_of {w : World} {b off : Nat} {L : List Ev} (hb : b < w.heap.size) (h : ∀ j, j < L.length * 10 → w.cell? ⟨b, off + j, none⟩ = (efl L)[j]?) : EvsIn w (some ⟨b, off, none⟩) L :=
  .inr ⟨b, off, rfl, hb, fun k e he j u hu => by
    have hk := ln_lt he
    have hj := evA_lt hu
    rw [Nat.add_assoc, h (k * 10 + j) (by omega), efl_get L k e j he hj]
    exact hu⟩
theorem EvsIn.flat {w : World} {ad : Addr} {L : List Ev} (h : EvsIn w (some ad) L) : ∀ j u, (efl L)[j]? = some u → w.cell? (ad.add j) = some u := by
  intro j u hu
  have hj := ln_lt hu
  rw [efl_length] at hj
  obtain ⟨i, r, hr, rfl⟩ : ∃ i r, r < 10 ∧ j = i * 10 + r := ⟨j / 10, j % 10, by omega, by omega⟩
  obtain ⟨e, he⟩ := ln_get (L := L) (k := i) (by omega)
  rw [efl_get L i e r he hr] at hu
  rcases h with rfl | ⟨b, off, h1, h2, h3⟩
  · simp at he
  · cases h1
    have := h3 i e he r u hu
    rw [show (⟨b, off, none⟩ : Addr).add (i * 10 + r) = ⟨b, off + i * 10 + r, none⟩ from by simp [Addr.add, Nat.add_assoc]]
    exact this
def OwnE (w : World) (base : Nat) (v : Value) (L : List Ev) : Prop := w.ownsRow base 28 10 v L.length (efl L)
theorem OwnE.shape {w : World} {base : Nat} {v : Value} {L : List Ev} (h : OwnE w base v L) :
    ∃ a cap, v = .slice a L.length cap ∧ L.length ≤ cap ∧ cap ≤ maxLen ∧ EvsIn w a L ∧ ((a = none ∧ L = [] ∧ cap = 0) ∨ ∃ g, a = some ⟨g, 0, none⟩ ∧ base ≤ g ∧ g < w.heap.size) := by
  have h' := h
  obtain ⟨h1, h2⟩ := h
  rcases h2 with ⟨rfl, hn⟩ | ⟨g, cap, cur, rfl, hb, hg, hnc, hcm, hcs, htake⟩
  · have : L = [] := List.length_eq_zero_iff.1 hn
    subst this
    exact ⟨none, 0, rfl, Nat.le_refl _, by simp, .inl rfl, .inl ⟨rfl, rfl, rfl⟩⟩
  · have hlt := lt_of_heap hg
    refine ⟨some ⟨g, 0, none⟩, cap, rfl, hnc, hcm, evsIn_of hlt (fun j hj => ?_), .inr ⟨g, rfl, hb, hlt⟩⟩
    rw [Nat.zero_add]
    exact World.ownsRow.cellAt h' j hj
theorem OwnE.keep {w w' : World} {base : Nat} {v : Value} {L : List Ev} (h : OwnE w base v L) (hb : Below w.heap.size w w') : OwnE w' base v L := own_below h hb
theorem OwnE.lit (w : World) : OwnE (w.alloc (.cells #[] 28)) w.heap.size (.slice (some ⟨w.heap.size, 0, none⟩) 0 0) [] := World.ownsRow_lit w #[] 0 (Nat.le_refl _) (by simp) rfl
theorem Tryz.infoEvs : (Tryz.prog.info? 28).map (fun i => (i.zero, i.size, i.bytes)) = some (some (.agg #[.int .i64 0, .int .i64 0, .int .i64 0, .int .i64 0, .int .i64 0, .int .i64 0, .int .i64 0, .string ⟨#[]⟩, .int .i64 0, .string ⟨#[]⟩]), 10, 96) := by kernel_rfl
section
variable {H : Type} {enc : TypeId × Value → H} {w : World} {base : Nat} {spare : Nat → Bool} {held : Bool}
theorem open_ev10 {fuel : Nat} {cs : List Value} {x : DataW H × List MemPlace} (hlen : cs.length = 10) (h : DataW.trod enc Tryz.prog w base (fun _ => true) held fuel 28 cs = some x) :
    ∃ e : Ev, cs = (evA e).toList := by
  match cs, hlen with
  | [c0, c1, c2, c3, c4, c5, c6, c7, c8, c9], _ =>
    obtain ⟨y0, y1, y2, y3, y4, y5, y6, y7, y8, y9, n, hx, h0, h1, h2, h3, h4, h5, h6, h7, h8, h9⟩ := struct10 Tryz.underlying28 (by kernel_rfl) h
    obtain ⟨a0, rfl, rfl, w0⟩ := int_of (by kernel_rfl) h0
    obtain ⟨a1, rfl, rfl, w1⟩ := int_of (by kernel_rfl) h1
    obtain ⟨a2, rfl, rfl, w2⟩ := int_of (by kernel_rfl) h2
    obtain ⟨a3, rfl, rfl, w3⟩ := int_of (by kernel_rfl) h3
    obtain ⟨a4, rfl, rfl, w4⟩ := int_of (by kernel_rfl) h4
    obtain ⟨a5, rfl, rfl, w5⟩ := int_of (by kernel_rfl) h5
    obtain ⟨a6, rfl, rfl, w6⟩ := int_of (by kernel_rfl) h6
    obtain ⟨a7, rfl, rfl, w7⟩ := str_of (by kernel_rfl) h7
    obtain ⟨a8, rfl, rfl, w8⟩ := int_of (by kernel_rfl) h8
    obtain ⟨a9, rfl, rfl, w9⟩ := str_of (by kernel_rfl) h9
    exact ⟨⟨a0, a1, a2, a3, a4, a5, a6, a7, a8, a9⟩, rfl⟩
theorem open_evs {fuel : Nat} {cs : List Value} {x : DataW H × List MemPlace} (h : DataW.trod enc Tryz.prog w base (fun _ => true) held fuel 38 cs = some x) :
    ∃ (a : Option Addr) (len cap : Nat) (L : List Ev), cs = [.slice a len cap] ∧ len ≤ cap ∧ cap ≤ maxLen ∧ L.length = len ∧ EvsIn w a L ∧ (a = none → cap = 0) ∧ (cap = 0 ∨ ∃ e s : List (DataW H), x.1 = .slice e s ∧ e.length + s.length = cap) := by
  rcases open_slice Tryz.underlying38 h with ⟨rfl, rfl⟩ | ⟨a, len, cap, m, n, D, Pl, rfl, hb, hl, hm, hmm, rfl, hx⟩
  · exact ⟨none, 0, 0, [], rfl, Nat.le_refl _, by simp, rfl, .inl rfl, fun _ => rfl, .inl rfl⟩
  have hmc : m = cap := by simpa using hmm
  subst hmc
  have ce : Tryz.prog.cellsOf 28 = 10 := by kernel_rfl
  have each : ∀ i, i < m → ∃ q : Ev, ∀ j, j < 10 → w.cell? (a.add (i * 10 + j)) = (evA q)[j]? := by
    intro i hi
    obtain ⟨cs', h1, h2⟩ := hx i hi
    rw [ce] at h1
    obtain ⟨_, hlen, hcell⟩ := World.cells?_some h1
    obtain ⟨q, rfl⟩ := open_ev10 hlen h2
    refine ⟨q, fun j hj => ?_⟩
    have e0 := hcell j hj
    rw [add_add] at e0
    rw [e0]
    simp
  haveI : Inhabited Ev := ⟨⟨0, 0, 0, 0, 0, 0, 0, ⟨#[]⟩, 0, ⟨#[]⟩⟩⟩
  obtain ⟨q, hq⟩ := choose_lt each
  refine ⟨some a, len, m, (List.range len).map q, rfl, hl, hm, by simp, ?_, (fun h => by cases h), .inr ⟨_, _, rfl, by simp; omega⟩⟩
  by_cases h0 : len = 0
  · left; subst h0; rfl
  · obtain ⟨b, off, spot⟩ := a
    have hc0 : w.cell? ((⟨b, off, spot⟩ : Addr).add (0 * 10 + 0)) = some (.int .i64 (q 0).kind) := hq 0 (by omega) 0 (by omega)
    have hspot : spot = none := by simpa [Addr.add] using World.cell?_spot hc0
    subst hspot
    refine .inr ⟨b, off, rfl, World.block_lt_of_cell? _ _ hc0, fun k e he j u hu => ?_⟩
    have hk := ln_lt he
    simp only [List.length_map, List.length_range] at hk
    rw [List.getElem?_map, List.getElem?_range hk] at he
    simp only [Option.map_some, Option.some.injEq] at he
    subst he
    have := hq k (by omega) j (evA_lt hu)
    rw [show (⟨b, off, none⟩ : Addr).add (k * 10 + j) = ⟨b, off + k * 10 + j, none⟩ from by simp [Addr.add, Nat.add_assoc]] at this
    exact this.trans hu
theorem sized_evs {ts : List TypeId} {ds : List (DataW H)} (h : (DataW.weightsEach Tryz.prog ts ds).all (· ≤ reachBytes) = true) {j : Nat} {e s : List (DataW H)} (ht : ts[j]? = some 38)
    (hd : ds[j]? = some (.slice e s)) : (e.length + s.length) * 96 ≤ 140737488351232 := by
  have := sized_slice h ht hd Tryz.underlying38
  rw [show Tryz.prog.bytesOf 28 = 96 from by kernel_rfl] at this
  simpa [reachBytes] using this
end
end Go.Proofs.YtldbdhhbmnbmaaaGreat
namespace Go.Proofs.YtldbdhhbmnbmaaaGreat
open Go.ChangeShapes Go.WideShapes Go.ChangeAt Go.RowKit Go.Deep
set_option linter.unusedVariables false
theorem EvsIn.take {w : World} {a : Option Addr} {es : List Ev} (h : EvsIn w a es) (i : Nat) : EvsIn w a (es.take i) := by
  rcases h with rfl | ⟨b, off, h1, h2, h3⟩
  · exact .inl (by simp)
  · refine .inr ⟨b, off, h1, h2, fun k e he j u hu => h3 k e ?_ j u hu⟩
    rw [List.getElem?_take] at he
    split at he
    · exact he
    · cases he
theorem run_append_fresh (w : World) (ty : TypeId) (g : Addr) (xa : Option Addr) (m c : Nat) (M : List Ev) (hl : M.length = m) (hb : EvsIn w xa M) (hc : xa = none → c = 0) (h63 : m * 96 ≤ 140737488355328) :
    ∃ a' c' w', (Builtin.append_ #[38, 38] ty #[.slice (some g) 0 0, .slice xa m c]).run Tryz.prog w = .ok (.slice a' m c') w' ∧ EvsIn w' a' M ∧ Below w.heap.size w w' ∧ (a' = none → c' = 0) := by
  obtain ⟨i0, hi, hz0, hz1, hz2⟩ := info_parts Tryz.infoEvs
  by_cases h0 : m = 0
  · subst h0
    obtain rfl : M = [] := List.length_eq_zero_iff.1 hl
    refine ⟨some g, 0, w, ?_, .inl rfl, Below.refl _ _, fun h => by cases h⟩
    cases xa with
    | none =>
      obtain rfl := hc rfl
      exact run_append_nothing (P := Tryz.prog) w _ _ ty _ i0 Tryz.underlying38 hi (some g) 0 0 (Nat.le_refl _) _ (Src.ofNil w Tryz.underlying38 0)
    | some ad =>
      exact run_append_nothing (P := Tryz.prog) w _ _ ty _ i0 Tryz.underlying38 hi (some g) 0 0 (Nat.le_refl _) _ (Src.ofSlice w Tryz.underlying38 ad 0 c [] (by simp) (fun j u h => by simp at h) (fun u h => by cases h))
  · cases xa with
    | none =>
      rcases hb with rfl | ⟨b, off, h, _⟩
      · exact absurd hl.symm h0
      · cases h
    | some ad =>
      obtain ⟨v', w', hr, h1, h2⟩ := run_append_arg_grows (P := Tryz.prog) w _ ty _ i0 _ 10 96 Tryz.underlying38 hi hz0 hz1 hz2 rfl (by decide) g 0 0 [] (by simp) (fun j u h => by simp at h) ad m c (efl M) (by rw [efl_length, hl]) hb.flat (by omega) (by unfold maxLen; omega) (by omega)
      have ho : OwnE w' w.heap.size v' M := by
        unfold OwnE
        rw [hl]
        simpa using h1
      obtain ⟨a', c', hv, _, _, he, hx⟩ := ho.shape
      rw [hl] at hv
      subst hv
      refine ⟨a', c', w', hr, he, ⟨h2.os, h2.tape, h2.output, h2.size, fun k hk => h2.block k hk (by simp)⟩, fun h => ?_⟩
      rcases hx with ⟨_, _, h3⟩ | ⟨g2, h3, _⟩
      · exact h3
      · rw [h] at h3; cases h3
theorem wp_append_fresh {w : World} {o : Oper} {a : Act} {K : Act → World → Prop} {Q : Exit → Act → World → Prop} (s x : Operand)
    (ho : o.op = .call { callee := .builtin .append, args := #[s, x], argTypes := #[38, 38] })
    (g : Addr) (xa : Option Addr) (m c : Nat) (M : List Ev) (hs : a.eval s = .slice (some g) 0 0) (hx : a.eval x = .slice xa m c) (hl : M.length = m) (hb : EvsIn w xa M) (hc : xa = none → c = 0) (h63 : m * 96 ≤ 140737488355328)
    (h : ∀ a' c' w', EvsIn w' a' M → Below w.heap.size w w' → K (a.put o.dst (.slice a' m c')) w') : o.wp Tryz.prog a w K Q := by
  obtain ⟨a', c', w', hr, h1, h2, _⟩ := run_append_fresh w o.type g xa m c M hl hb hc h63
  unfold Oper.wp execOp
  simp only [ho, resolve, invoke, builtin, Sem.run_bind, Sem.run_pure, Result.andThen_ok, List.map_toArray, List.map_cons, List.map_nil, hs, hx, hr]
  exact h a' c' w' h1 h2
theorem step_append_fresh {w : World} {ops : Array Oper} {o : Oper} {a : Act} {K : Act → World → Prop} {Q : Exit → Act → World → Prop} {E : Prop} (hgd : o.guard = none) (s x : Operand)
    (ho : o.op = .call { callee := .builtin .append, args := #[s, x], argTypes := #[38, 38] })
    (g : Addr) (xa : Option Addr) (m c : Nat) (M : List Ev) (hs : a.eval s = .slice (some g) 0 0) (hx : a.eval x = .slice xa m c) (hl : M.length = m) (hb : EvsIn w xa M) (hc : xa = none → c = 0) (h63 : m * 96 ≤ 140737488355328)
    (h : ∀ a' c' w', EvsIn w' a' M → Below w.heap.size w w' → K (a.put o.dst (.slice a' m c')) w') : if Region.wanted o (yielded ops a.tmps) = true then Oper.wp Tryz.prog o a w K Q else E := by
  have hw : Region.wanted o (yielded ops a.tmps) = true := by simp [Region.wanted, hgd]
  rw [if_pos hw]
  exact wp_append_fresh s x ho g xa m c M hs hx hl hb hc h63 h
end Go.Proofs.YtldbdhhbmnbmaaaGreat
