/- A list of placed frames that came in, opened. -/
import Derived.Test.YtifackbilmkjlaaMkB
import Derived.Test.YtifackbilmkjlaaMky
namespace Go.Proofs.Ytifackbilmkjlaa
open Go.ChangeShapes Go.WideShapes Go.ChangeAt Go.RowKit Go.Deep
set_option linter.unusedVariables false
section
variable {H : Type} {enc : TypeId × Value → H} {w : World} {base : Nat} {spare : Nat → Bool} {held : Bool}
theorem open_frm5 {fuel : Nat} {c0 c1 c2 : Value} {x : DataW H × List MemPlace} (h : DataW.trod enc Try.prog w base (fun _ => true) held fuel 55 [c0, c1, c2] = some x) :
    ∃ k s : Int, c0 = .int .i64 k ∧ c1 = .int .i64 s ∧ c2.oneCell' = true := by
  obtain ⟨xs, n, _, hxy, _, hlen, hf⟩ := DataW.trod_struct Try.underlying55 h
  match xs, hlen with
  | [y0, y1, y2], _ =>
    have k0 : Try.prog.cellsOf 3 = 1 := by kernel_rfl
    have k3 : Try.prog.cellsOf 39 = 1 := by kernel_rfl
    have g0 : DataW.trod enc Try.prog w base (fun _ => true) held n 3 [c0] = some y0 := by have := hf 0 _ rfl; simpa [k0] using this
    have g1 : DataW.trod enc Try.prog w base (fun _ => true) held n 3 [c1] = some y1 := by have := hf 1 _ rfl; simpa [k0] using this
    have g2 : DataW.trod enc Try.prog w base (fun _ => true) held n 39 [c2] = some y2 := by have := hf 2 _ rfl; simpa [k3] using this
    obtain ⟨t, ht, _, _⟩ := DataW.trod_int Try.underlying3 g0
    obtain ⟨u, hu, _, _⟩ := DataW.trod_int Try.underlying3 g1
    simp only [List.cons.injEq, and_true] at ht hu
    refine ⟨t, u, ht, hu, ?_⟩
    rcases open_ints Try.underlying39 Try.underlying5 (by kernel_rfl) g2 with ⟨hcs, _⟩ | ⟨a, len, cap, zs, hcs, _⟩
    · simp only [List.cons.injEq, and_true] at hcs
      subst hcs; rfl
    · simp only [List.cons.injEq, and_true] at hcs
      subst hcs; rfl
theorem open_plc {fuel : Nat} {c0 c1 c2 c3 c4 : Value} {x : DataW H × List MemPlace} (h : DataW.trod enc Try.prog w base (fun _ => true) held fuel 57 [c0, c1, c2, c3, c4] = some x) :
    ∃ q : Int × Int, c0 = .int .i64 q.2 ∧ c3 = .int .i64 q.1 ∧ c0.oneCell' = true ∧ c1.oneCell' = true ∧ c2.oneCell' = true ∧ c3.oneCell' = true ∧ c4.oneCell' = true := by
  obtain ⟨xs, n, _, hxy, _, hlen, hf⟩ := DataW.trod_struct Try.underlying57 h
  match xs, hlen with
  | [y0, y1, y2], _ =>
    have k0 : Try.prog.cellsOf 3 = 1 := by kernel_rfl
    have k3 : Try.prog.cellsOf 55 = 3 := by kernel_rfl
    have g0 : DataW.trod enc Try.prog w base (fun _ => true) held n 3 [c0] = some y0 := by have := hf 0 _ rfl; simpa [k0] using this
    have g1 : DataW.trod enc Try.prog w base (fun _ => true) held n 3 [c1] = some y1 := by have := hf 1 _ rfl; simpa [k0] using this
    have g2 : DataW.trod enc Try.prog w base (fun _ => true) held n 55 [c2, c3, c4] = some y2 := by have := hf 2 _ rfl; simpa [k3] using this
    obtain ⟨t, ht, _, _⟩ := DataW.trod_int Try.underlying3 g0
    obtain ⟨u, hu, _, _⟩ := DataW.trod_int Try.underlying3 g1
    simp only [List.cons.injEq, and_true] at ht hu
    obtain ⟨kd, sq, h2, h3, h4⟩ := open_frm5 g2
    subst ht hu h2 h3
    exact ⟨(sq, t), rfl, rfl, rfl, rfl, rfl, rfl, h4⟩
theorem open_placed {fuel : Nat} {cs : List Value} {x : DataW H × List MemPlace} (h : DataW.trod enc Try.prog w base (fun _ => true) held fuel 26 cs = some x) :
    (cs = [.slice none 0 0] ∧ x = (.nil, [])) ∨
    ∃ (a : Addr) (len cap : Nat) (L : List Mk) (V : List Value) (D : Nat → DataW H), cs = [.slice (some a) len cap] ∧ len ≤ cap ∧ cap ≤ maxLen ∧ L.length = len ∧ PlAt w (some a) L V ∧
      x.1 = .slice ((List.range len).map D) ((List.range (cap - len)).map fun j => D (len + j)) := by
  rcases open_slice Try.underlying26 h with h0 | ⟨a, len, cap, m, n, D, Pl, rfl, hb, hl, hm, hmm, rfl, hx⟩
  · exact Or.inl h0
  right
  have hmc : m = cap := by simpa using hmm
  subst hmc
  have ce : Try.prog.cellsOf 57 = 5 := by kernel_rfl
  have each : ∀ i, i < m → ∃ q : (Int × Int) × (Value × Value × Value × Value × Value), w.cell? (a.add (i * 5)) = some q.2.1 ∧ w.cell? (a.add (i * 5 + 1)) = some q.2.2.1 ∧ w.cell? (a.add (i * 5 + 2)) = some q.2.2.2.1 ∧ w.cell? (a.add (i * 5 + 3)) = some q.2.2.2.2.1 ∧ w.cell? (a.add (i * 5 + 4)) = some q.2.2.2.2.2 ∧ q.2.1 = .int .i64 q.1.2 ∧ q.2.2.2.2.1 = .int .i64 q.1.1 ∧ q.2.1.oneCell' = true ∧ q.2.2.1.oneCell' = true ∧ q.2.2.2.1.oneCell' = true ∧ q.2.2.2.2.1.oneCell' = true ∧ q.2.2.2.2.2.oneCell' = true := by
    intro i hi
    obtain ⟨cs', h1, h2⟩ := hx i hi
    rw [ce] at h1
    obtain ⟨_, hlen, hcell⟩ := World.cells?_some h1
    match cs', hlen with
    | [v0, v1, v2, v3, v4], _ =>
      obtain ⟨q, r0, r3, o0, o1, o2, o3, o4⟩ := open_plc h2
      have e0 := hcell 0 (by omega)
      have e1 := hcell 1 (by omega)
      have e2 := hcell 2 (by omega)
      have e3 := hcell 3 (by omega)
      have e4 := hcell 4 (by omega)
      rw [add_add] at e0 e1 e2 e3 e4
      exact ⟨(q, v0, v1, v2, v3, v4), by simpa using e0, by simpa using e1, by simpa using e2, by simpa using e3, by simpa using e4, r0, r3, o0, o1, o2, o3, o4⟩
  haveI : Inhabited ((Int × Int) × (Value × Value × Value × Value × Value)) := ⟨((0, 0), .nilIface, .nilIface, .nilIface, .nilIface, .nilIface)⟩
  obtain ⟨q, hq⟩ := choose_lt each
  have hV : ∀ (k : Nat), ((List.range k).flatMap fun i => [(q i).2.1, (q i).2.2.1, (q i).2.2.2.1, (q i).2.2.2.2.1, (q i).2.2.2.2.2]).length = k * 5 := by
    intro k
    induction k with
    | zero => rfl
    | succ k ih => rw [List.range_succ, List.flatMap_append, List.length_append, ih]; simp; omega
  have hg : ∀ (k i r : Nat), i < k → r < 5 → ((List.range k).flatMap fun i => [(q i).2.1, (q i).2.2.1, (q i).2.2.2.1, (q i).2.2.2.2.1, (q i).2.2.2.2.2])[i * 5 + r]? = [(q i).2.1, (q i).2.2.1, (q i).2.2.2.1, (q i).2.2.2.2.1, (q i).2.2.2.2.2][r]? := by
    intro k
    induction k with
    | zero => intro i r hi; omega
    | succ k ih =>
      intro i r hi hr
      rw [List.range_succ, List.flatMap_append]
      by_cases hik : i < k
      · rw [List.getElem?_append_left (by rw [hV]; omega)]
        exact ih i r hik hr
      · obtain rfl : i = k := by omega
        rw [List.getElem?_append_right (by rw [hV]; omega), hV]
        rw [show i * 5 + r - i * 5 = r from by omega]
        simp
  have hL : ∀ i p, ((List.range len).map fun i => (q i).1)[i]? = some p → i < len ∧ p = (q i).1 := by
    intro i p hp
    have hi : i < len := by
      by_cases hh : i < len
      · exact hh
      · rw [List.getElem?_eq_none (by simp; omega)] at hp; cases hp
    refine ⟨hi, ?_⟩
    rw [List.getElem?_map, List.getElem?_range hi] at hp
    exact (Option.some.inj hp).symm
  refine ⟨a, len, m, (List.range len).map fun i => (q i).1, (List.range len).flatMap fun i => [(q i).2.1, (q i).2.2.1, (q i).2.2.2.1, (q i).2.2.2.2.1, (q i).2.2.2.2.2], D, rfl, hl, hm, by simp, ⟨by rw [hV]; simp, ?_, ?_, ?_⟩, rfl⟩
  · intro u hu
    obtain ⟨i, hi, hu⟩ := List.mem_flatMap.1 hu
    have hi2 := List.mem_range.1 hi
    obtain ⟨_, _, _, _, _, _, _, o0, o1, o2, o3, o4⟩ := hq i (by omega)
    simp only [List.mem_cons, List.not_mem_nil, or_false] at hu
    rcases hu with rfl | rfl | rfl | rfl | rfl <;> assumption
  · by_cases h0 : len = 0
    · left; subst h0; rfl
    · right
      obtain ⟨b, off, spot⟩ := a
      have hc0 := (hq 0 (by omega)).1
      have hspot : spot = none := by simpa [Addr.add] using World.cell?_spot hc0
      subst hspot
      refine ⟨b, off, rfl, World.block_lt_of_cell? _ _ hc0, fun j hj => ?_⟩
      simp only [List.length_map, List.length_range] at hj
      obtain ⟨i, r, hr, rfl⟩ : ∃ i r, r < 5 ∧ j = i * 5 + r := ⟨j / 5, j % 5, by omega, by omega⟩
      have hi : i < len := by omega
      rw [hg len i r hi hr]
      obtain ⟨d0, d1, d2, d3, d4, _⟩ := hq i (by omega)
      have hadd : ∀ z, (⟨b, off, none⟩ : Addr).add z = ⟨b, off + z, none⟩ := fun z => by simp [Addr.add]
      rw [hadd] at d0 d1 d2 d3 d4
      have hr5 : r = 0 ∨ r = 1 ∨ r = 2 ∨ r = 3 ∨ r = 4 := by omega
      rcases hr5 with rfl | rfl | rfl | rfl | rfl
      · exact d0
      · exact d1
      · exact d2
      · exact d3
      · exact d4
  · intro i p hp
    obtain ⟨hi, rfl⟩ := hL i p hp
    obtain ⟨_, _, _, _, _, r0, r3, _⟩ := hq i (by omega)
    refine ⟨?_, ?_⟩
    · have h := hg len i 0 hi (by omega)
      rw [Nat.add_zero] at h
      rw [h]
      show some (q i).2.1 = _
      rw [r0]
    · rw [hg len i 3 hi (by omega)]
      show some (q i).2.2.2.2.1 = _
      rw [r3]
theorem sized_placed {ts : List TypeId} {ds : List (DataW H)} (h : (DataW.weightsEach Try.prog ts ds).all (· ≤ reachBytes) = true) {j len cap : Nat} {D : Nat → DataW H} (ht : ts[j]? = some 26)
    (hd : ds[j]? = some (.slice ((List.range len).map D) ((List.range (cap - len)).map fun j => D (len + j)))) (hl : len ≤ cap) : cap * 56 ≤ 140737488351232 := by
  have := sized_slice h ht hd Try.underlying26
  rw [show Try.prog.bytesOf 57 = 56 from by kernel_rfl] at this
  simp only [List.length_map, List.length_range, reachBytes] at this
  have hc : len + (cap - len) = cap := by omega
  rw [hc] at this
  exact this
end
end Go.Proofs.Ytifackbilmkjlaa
