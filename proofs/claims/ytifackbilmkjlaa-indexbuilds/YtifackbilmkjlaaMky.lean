/- A list of marks that came in, opened. -/
import Derived.Test.YtifackbilmkjlaaMk
import Derived.Deep.SlicePairs
import Derived.ChangeSame
import Derived.SizedLaws
import Derived.ChangeSlices
namespace Go.Proofs.Ytifackbilmkjlaa
open Go.ChangeShapes Go.WideShapes Go.ChangeAt Go.RowKit Go.Deep
set_option linter.unusedVariables false
theorem marks_len {w : World} {base : Nat} {v : Value} {L : List Mk} (h : OwnM w base v L) (n : Nat) (hn : L.length = n) : ∃ a c, v = .slice a n c ∧ Marks w a L := by
  obtain ⟨a, c, h1, h2, h3, h4, _⟩ := h.shape
  exact ⟨a, c, by rw [h1, hn], h4⟩
theorem own_len {w : World} {base : Nat} {v : Value} {l : List Nat} (h : Own w base v l) (n : Nat) (hn : l.length = n) : ∃ a c, v = .slice a n c ∧ n ≤ c ∧ Bytes w a l := by
  obtain ⟨a, c, h1, h2, _, h3, _⟩ := h.shape
  exact ⟨a, c, by rw [h1, hn], by omega, h3⟩
section
variable {H : Type} {enc : TypeId × Value → H} {w : World} {base : Nat} {spare : Nat → Bool} {held : Bool}
theorem open_marks {fuel : Nat} {cs : List Value} {x : DataW H × List MemPlace} (h : DataW.trod enc Try.prog w base (fun _ => true) held fuel 27 cs = some x) :
    (cs = [.slice none 0 0] ∧ x = (.nil, [])) ∨
    ∃ (a : Addr) (len cap : Nat) (L : List Mk) (D : Nat → DataW H), cs = [.slice (some a) len cap] ∧ len ≤ cap ∧ cap ≤ maxLen ∧ L.length = len ∧ Marks w (some a) L ∧
      x.1 = .slice ((List.range len).map D) ((List.range (cap - len)).map fun j => D (len + j)) := by
  rcases open_slice_pairs Try.underlying27 Try.underlying34 (by kernel_rfl) rfl rfl (by kernel_rfl) (by kernel_rfl) h with h0 | ⟨a, len, cap, m, k, V0, V1, D0, D1, P0, P1, hcs, _, hl, hm, hmm, hx, hall⟩
  · exact Or.inl h0
  right
  have hmc : m = cap := by simpa using hmm
  subst hmc
  have each : ∀ i, i < m → ∃ q : Int × Int, V0 i = .int .i64 q.1 ∧ V1 i = .int .i64 q.2 := by
    intro i hi
    obtain ⟨_, _, g0, g1⟩ := hall i hi
    obtain ⟨s, hs, _, _⟩ := DataW.trod_int Try.underlying3 g0
    obtain ⟨y, hy, _, _⟩ := DataW.trod_int Try.underlying3 g1
    simp only [List.cons.injEq, and_true] at hs hy
    exact ⟨(s, y), hs, hy⟩
  obtain ⟨q, hq⟩ := choose_lt each
  refine ⟨a, len, m, (List.range len).map q, fun i => .agg [D0 i, D1 i], hcs, hl, hm, by simp, ?_, by rw [hx]⟩
  by_cases h0 : len = 0
  · left; subst h0; rfl
  · right
    obtain ⟨b, off, spot⟩ := a
    have hc0 := (hall 0 (by omega)).1
    have hspot : spot = none := by simpa [Addr.add] using World.cell?_spot hc0
    subst hspot
    refine ⟨b, off, rfl, World.block_lt_of_cell? _ _ hc0, fun j hj => ?_⟩
    simp only [List.length_map, List.length_range] at hj
    obtain ⟨i, r, hr, rfl⟩ : ∃ i r, r < 2 ∧ j = i * 2 + r := ⟨j / 2, j % 2, by omega, by omega⟩
    have hi : i < len := by omega
    have hp : ((List.range len).map q)[i]? = some (q i) := by rw [List.getElem?_map, List.getElem?_range hi]; rfl
    obtain ⟨f0, f1⟩ := mfl_get _ i _ hp
    obtain ⟨d0, d1, _, _⟩ := hall i (by omega)
    obtain ⟨e0, e1⟩ := hq i (by omega)
    have hadd : ∀ z, (⟨b, off, none⟩ : Addr).add z = ⟨b, off + z, none⟩ := fun z => by simp [Addr.add]
    rw [hadd, e0] at d0
    rw [hadd, e1] at d1
    have hr4 : r = 0 ∨ r = 1 := by omega
    rcases hr4 with rfl | rfl
    · rw [Nat.add_zero, f0]; exact d0
    · rw [f1]; exact d1
/-- what the form's reach says of a list of marks that came in -/
theorem sized_marks {ts : List TypeId} {ds : List (DataW H)} (h : (DataW.weightsEach Try.prog ts ds).all (· ≤ reachBytes) = true) {j len cap : Nat} {D : Nat → DataW H} (ht : ts[j]? = some 27)
    (hd : ds[j]? = some (.slice ((List.range len).map D) ((List.range (cap - len)).map fun j => D (len + j)))) (hl : len ≤ cap) : cap * 16 ≤ 140737488351232 := by
  have := sized_slice h ht hd Try.underlying27
  rw [show Try.prog.bytesOf 34 = 16 from by kernel_rfl] at this
  simp only [List.length_map, List.length_range, reachBytes] at this
  have hc : len + (cap - len) = cap := by omega
  rw [hc] at this
  exact this
end
end Go.Proofs.Ytifackbilmkjlaa
