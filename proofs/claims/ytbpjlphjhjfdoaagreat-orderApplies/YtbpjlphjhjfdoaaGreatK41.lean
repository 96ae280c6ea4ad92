/- Own texts, joined: Sto. -/
import Derived.Test.YtbpjlphjhjfdoaaGreatK10
import Derived.Deep.Slices
import Derived.ChangeSame
import Derived.SizedLaws
import Derived.ChangeSlices
namespace Go.Proofs.YtbpjlphjhjfdoaaGreat
open Go.ChangeShapes Go.WideShapes Go.ChangeAt Go.RowKit Go.Deep
set_option linter.unusedVariables false
theorem array12 {α : Type} {cs : Array α} (h : cs.size = 12) : ∃ c0 c1 c2 c3 c4 c5 c6 c7 c8 c9 c10 c11, cs = #[c0, c1, c2, c3, c4, c5, c6, c7, c8, c9, c10, c11] := by
  obtain ⟨l⟩ := cs
  match l, h with
  | [c0, c1, c2, c3, c4, c5, c6, c7, c8, c9, c10, c11], _ => exact ⟨c0, c1, c2, c3, c4, c5, c6, c7, c8, c9, c10, c11, rfl⟩
section
variable {H : Type} {enc : TypeId × Value → H} {w : World} {base : Nat} {spare : Nat → Bool} {held : Bool}
theorem struct12 {P : Program} {t : TypeId} {f0 f1 f2 f3 f4 f5 f6 f7 f8 f9 f10 f11 : Field} {fuel : Nat} {c0 c1 c2 c3 c4 c5 c6 c7 c8 c9 c10 c11 : Value} {x : DataW H × List MemPlace} (ht : P.underlying t = some (.struct #[f0, f1, f2, f3, f4, f5, f6, f7, f8, f9, f10, f11])) (hone : oneCellFields P #[f0, f1, f2, f3, f4, f5, f6, f7, f8, f9, f10, f11] = true)
    (h : DataW.trod enc P w base spare held fuel t [c0, c1, c2, c3, c4, c5, c6, c7, c8, c9, c10, c11] = some x) :
    ∃ y0 y1 y2 y3 y4 y5 y6 y7 y8 y9 y10 y11 n, x = (.agg [y0.1, y1.1, y2.1, y3.1, y4.1, y5.1, y6.1, y7.1, y8.1, y9.1, y10.1, y11.1], y0.2 ++ (y1.2 ++ (y2.2 ++ (y3.2 ++ (y4.2 ++ (y5.2 ++ (y6.2 ++ (y7.2 ++ (y8.2 ++ (y9.2 ++ (y10.2 ++ (y11.2))))))))))))
      ∧ DataW.trod enc P w base spare held n f0.type [c0] = some y0 ∧ DataW.trod enc P w base spare held n f1.type [c1] = some y1 ∧ DataW.trod enc P w base spare held n f2.type [c2] = some y2 ∧ DataW.trod enc P w base spare held n f3.type [c3] = some y3 ∧ DataW.trod enc P w base spare held n f4.type [c4] = some y4 ∧ DataW.trod enc P w base spare held n f5.type [c5] = some y5 ∧ DataW.trod enc P w base spare held n f6.type [c6] = some y6 ∧ DataW.trod enc P w base spare held n f7.type [c7] = some y7 ∧ DataW.trod enc P w base spare held n f8.type [c8] = some y8 ∧ DataW.trod enc P w base spare held n f9.type [c9] = some y9 ∧ DataW.trod enc P w base spare held n f10.type [c10] = some y10 ∧ DataW.trod enc P w base spare held n f11.type [c11] = some y11 := by
  obtain ⟨xs, n, _, rfl, _, hlen, hf⟩ := DataW.trod_struct ht h
  obtain ⟨o0, k0⟩ := hone_of hone 0 f0 rfl
  obtain ⟨o1, k1⟩ := hone_of hone 1 f1 rfl
  obtain ⟨o2, k2⟩ := hone_of hone 2 f2 rfl
  obtain ⟨o3, k3⟩ := hone_of hone 3 f3 rfl
  obtain ⟨o4, k4⟩ := hone_of hone 4 f4 rfl
  obtain ⟨o5, k5⟩ := hone_of hone 5 f5 rfl
  obtain ⟨o6, k6⟩ := hone_of hone 6 f6 rfl
  obtain ⟨o7, k7⟩ := hone_of hone 7 f7 rfl
  obtain ⟨o8, k8⟩ := hone_of hone 8 f8 rfl
  obtain ⟨o9, k9⟩ := hone_of hone 9 f9 rfl
  obtain ⟨o10, k10⟩ := hone_of hone 10 f10 rfl
  obtain ⟨o11, k11⟩ := hone_of hone 11 f11 rfl
  match xs, hlen with
  | [y0, y1, y2, y3, y4, y5, y6, y7, y8, y9, y10, y11], _ =>
    exact ⟨y0, y1, y2, y3, y4, y5, y6, y7, y8, y9, y10, y11, n, by simp, by simpa [o0, k0] using hf 0 f0 rfl, by simpa [o1, k1] using hf 1 f1 rfl, by simpa [o2, k2] using hf 2 f2 rfl, by simpa [o3, k3] using hf 3 f3 rfl, by simpa [o4, k4] using hf 4 f4 rfl, by simpa [o5, k5] using hf 5 f5 rfl, by simpa [o6, k6] using hf 6 f6 rfl, by simpa [o7, k7] using hf 7 f7 rfl, by simpa [o8, k8] using hf 8 f8 rfl, by simpa [o9, k9] using hf 9 f9 rfl, by simpa [o10, k10] using hf 10 f10 rfl, by simpa [o11, k11] using hf 11 f11 rfl⟩
theorem open_ln {fuel : Nat} {c0 c1 c2 c3 : Value} {x : DataW H × List MemPlace} (h : DataW.trod enc Tryz.prog w base (fun _ => true) held fuel 36 [c0, c1, c2, c3] = some x) :
    ∃ p : Ln, c0 = .int .i64 p.item ∧ c1 = .int .i64 p.price ∧ c2 = .int .i64 p.qty ∧ c3 = .int .i64 p.shipped := by
  obtain ⟨xs, n, _, hxy, _, hlen, hf⟩ := DataW.trod_struct Tryz.underlying36 h
  match xs, hlen with
  | [y0, y1, y2, y3], _ =>
    have k0 : Tryz.prog.cellsOf 3 = 1 := by kernel_rfl
    have g0 : DataW.trod enc Tryz.prog w base (fun _ => true) held n 3 [c0] = some y0 := by have := hf 0 _ rfl; simpa [k0] using this
    have g1 : DataW.trod enc Tryz.prog w base (fun _ => true) held n 3 [c1] = some y1 := by have := hf 1 _ rfl; simpa [k0] using this
    have g2 : DataW.trod enc Tryz.prog w base (fun _ => true) held n 3 [c2] = some y2 := by have := hf 2 _ rfl; simpa [k0] using this
    have g3 : DataW.trod enc Tryz.prog w base (fun _ => true) held n 3 [c3] = some y3 := by have := hf 3 _ rfl; simpa [k0] using this
    obtain ⟨a0, h0, _, _⟩ := DataW.trod_int Tryz.underlying3 g0
    obtain ⟨a1, h1, _, _⟩ := DataW.trod_int Tryz.underlying3 g1
    obtain ⟨a2, h2, _, _⟩ := DataW.trod_int Tryz.underlying3 g2
    obtain ⟨a3, h3, _, _⟩ := DataW.trod_int Tryz.underlying3 g3
    simp only [List.cons.injEq, and_true] at h0 h1 h2 h3
    exact ⟨⟨a0, a1, a2, a3⟩, h0, h1, h2, h3⟩
theorem open_lines {fuel : Nat} {cs : List Value} {x : DataW H × List MemPlace} (h : DataW.trod enc Tryz.prog w base (fun _ => true) held fuel 23 cs = some x) :
    ∃ (a : Option Addr) (len cap : Nat) (L : List Ln), cs = [.slice a len cap] ∧ len ≤ cap ∧ cap ≤ maxLen ∧ L.length = len ∧ Lns w a L ∧ (cap = 0 ∨ ∃ e s : List (DataW H), x.1 = .slice e s ∧ e.length + s.length = cap) := by
  rcases open_slice Tryz.underlying23 h with ⟨rfl, rfl⟩ | ⟨a, len, cap, m, n, D, Pl, rfl, hb, hl, hm, hmm, rfl, hx⟩
  · exact ⟨none, 0, 0, [], rfl, Nat.le_refl _, by simp, rfl, .inl rfl, .inl rfl⟩
  have hmc : m = cap := by simpa using hmm
  subst hmc
  have ce : Tryz.prog.cellsOf 36 = 4 := by kernel_rfl
  have each : ∀ i, i < m → ∃ q : Ln, w.cell? (a.add (i * 4)) = some (.int .i64 q.item) ∧ w.cell? (a.add (i * 4 + 1)) = some (.int .i64 q.price) ∧ w.cell? (a.add (i * 4 + 2)) = some (.int .i64 q.qty) ∧ w.cell? (a.add (i * 4 + 3)) = some (.int .i64 q.shipped) := by
    intro i hi
    obtain ⟨cs', h1, h2⟩ := hx i hi
    rw [ce] at h1
    obtain ⟨_, hlen, hcell⟩ := World.cells?_some h1
    match cs', hlen with
    | [v0, v1, v2, v3], _ =>
      obtain ⟨p, rfl, rfl, rfl, rfl⟩ := open_ln h2
      have e0 := hcell 0 (by omega)
      have e1 := hcell 1 (by omega)
      have e2 := hcell 2 (by omega)
      have e3 := hcell 3 (by omega)
      rw [add_add] at e0 e1 e2 e3
      exact ⟨p, by simpa using e0, by simpa using e1, by simpa using e2, by simpa using e3⟩
  haveI : Inhabited Ln := ⟨⟨0, 0, 0, 0⟩⟩
  obtain ⟨q, hq⟩ := choose_lt each
  refine ⟨some a, len, m, (List.range len).map q, rfl, hl, hm, by simp, ?_, .inr ⟨_, _, rfl, by simp; omega⟩⟩
  by_cases h0 : len = 0
  · left; subst h0; rfl
  · right
    obtain ⟨b, off, spot⟩ := a
    have hc0 := (hq 0 (by omega)).1
    have hspot : spot = none := by simpa [Addr.add] using World.cell?_spot hc0
    subst hspot
    refine ⟨b, off, rfl, World.block_lt_of_cell? _ _ hc0, fun j hj => ?_⟩
    simp only [List.length_map, List.length_range] at hj
    obtain ⟨i, r, hr, rfl⟩ : ∃ i r, r < 4 ∧ j = i * 4 + r := ⟨j / 4, j % 4, by omega, by omega⟩
    have hi : i < len := by omega
    have hp : ((List.range len).map q)[i]? = some (q i) := by rw [List.getElem?_map, List.getElem?_range hi]; rfl
    obtain ⟨f0, f1, f2, f3⟩ := lfl_get _ i _ hp
    obtain ⟨d0, d1, d2, d3⟩ := hq i (by omega)
    have hadd : ∀ z, (⟨b, off, none⟩ : Addr).add z = ⟨b, off + z, none⟩ := fun z => by simp [Addr.add]
    rw [hadd] at d0 d1 d2 d3
    have hr4 : r = 0 ∨ r = 1 ∨ r = 2 ∨ r = 3 := by omega
    rcases hr4 with rfl | rfl | rfl | rfl
    · rw [Nat.add_zero, f0]; exact d0
    · rw [f1]; exact d1
    · rw [f2]; exact d2
    · rw [f3]; exact d3
set_option maxRecDepth 20000 in
theorem open_state {r : Reach} {b0 : Nat} {v : Value} {d : DataW H} {p : List MemPlace} (hv : Value.okWide Tryz.prog w r b0 25 v) (h : DataW.Trod enc Tryz.prog w base (fun _ => true) held 25 v d p)
    {ts : List TypeId} {ds : List (DataW H)} (hsz : (DataW.weightsEach Tryz.prog ts ds).all (· ≤ reachBytes) = true) {j : Nat} (ht : ts[j]? = some 25) (hd : ds[j]? = some d) :
    ∃ (s : St) (a : Option Addr) (n cap : Nat), v = .agg (stA s (.slice a n cap)) ∧ s.lines.length = n ∧ Lns w a s.lines ∧ n ≤ cap ∧ n * 32 ≤ 140737488351232 := by
  obtain ⟨cs, rfl, hsize⟩ := okWide_struct Tryz.underlying25 hv
  obtain ⟨c0, c1, c2, c3, c4, c5, c6, c7, c8, c9, c10, c11, rfl⟩ := array12 (hsize.trans (show Tryz.prog.cellsOf 25 = 12 from by kernel_rfl))
  obtain ⟨fuel, hf⟩ := h
  obtain ⟨y0, y1, y2, y3, y4, y5, y6, y7, y8, y9, y10, y11, n, hx, h0, h1, h2, h3, h4, h5, h6, h7, h8, h9, h10, h11⟩ := struct12 Tryz.underlying25 (by kernel_rfl) (by simpa [Value.cells] using hf)
  obtain ⟨a0, e0, _, _⟩ := DataW.trod_int Tryz.underlying3 h0
  obtain ⟨a1, e1, _, _⟩ := DataW.trod_int Tryz.underlying22 h1
  obtain ⟨a2, e2, _, _⟩ := DataW.trod_int Tryz.underlying22 h2
  obtain ⟨a3, e3, _, _⟩ := DataW.trod_int Tryz.underlying3 h3
  obtain ⟨a4, e4, _, _⟩ := DataW.trod_int Tryz.underlying3 h4
  obtain ⟨a6, e6, _, _⟩ := DataW.trod_int Tryz.underlying3 h6
  obtain ⟨a7, e7, _, _⟩ := DataW.trod_int Tryz.underlying3 h7
  obtain ⟨a8, e8, _, _⟩ := DataW.trod_int Tryz.underlying3 h8
  obtain ⟨a9, e9, _, _⟩ := DataW.trod_int Tryz.underlying3 h9
  obtain ⟨a10, e10, _, _⟩ := DataW.trod_int Tryz.underlying3 h10
  obtain ⟨a11, e11, _, _⟩ := DataW.trod_string Tryz.underlying9 h11
  obtain ⟨a5, len, cap, L, e5, g1, g2, g3, g4, g5⟩ := open_lines h5
  simp only [List.cons.injEq, and_true] at e0 e1 e2 e3 e4 e5 e6 e7 e8 e9 e10 e11
  subst e0 e1 e2 e3 e4 e5 e6 e7 e8 e9 e10 e11
  refine ⟨⟨a0, a1, a2, a3, a4, L, a6, a7, a8, a9, a10, a11⟩, a5, len, cap, rfl, g3, g4, g1, ?_⟩
  rcases g5 with g5 | ⟨e, s, g6, g7⟩
  · omega
  · have hdd : d = _ := (Prod.mk.inj hx).1
    have hw : (e.length + s.length) * Tryz.prog.bytesOf 36 ∈ d.weights Tryz.prog 25 := by
      rw [hdd, g6]
      simp only [DataW.weights, Tryz.underlying25, DataW.weightsEach, Tryz.underlying23, List.mem_append, List.mem_cons, List.map_cons, List.map_nil]
      simp
    have := of_decide_eq_true (List.all_eq_true.1 hsz _ (DataW.weights_mem_each ht hd _ hw))
    rw [show Tryz.prog.bytesOf 36 = 32 from by kernel_rfl] at this
    simp only [reachBytes] at this
    omega
end
end Go.Proofs.YtbpjlphjhjfdoaaGreat
