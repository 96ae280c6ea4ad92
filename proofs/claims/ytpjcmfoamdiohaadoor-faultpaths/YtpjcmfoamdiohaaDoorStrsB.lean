/- The strings of a row that came in: none is longer than the form's reach. -/
import Derived.Test.YtpjcmfoamdiohaaDoorStrsA
import Derived.SizedLaws
namespace Go.Proofs.YtpjcmfoamdiohaaDoor
open Go.ChangeShapes Go.WideShapes Go.ChangeAt Go.RowKit
theorem row_strs_in (w : World) (x : Addr) (zs : List ByteArray) (len : Nat) (hl : len ≤ zs.length)
    (hc : ∀ i, i < zs.length → w.cell? (x.add i) = some (.string (zs.getD i ByteArray.empty))) (hw : ∀ n ∈ zs, n.size ≤ maxLen) :
    ∃ l : List ByteArray, l.length = len ∧ (∀ x ∈ l, x.size ≤ maxLen) ∧ (l = [] ∨ ∃ b off, some x = some (⟨b, off, none⟩ : Addr) ∧ b < w.heap.size ∧ ∀ i, i < l.length → w.cell? ⟨b, off + i, none⟩ = some (.string (l.getD i ByteArray.empty))) ∧ ∀ x ∈ l, x ∈ zs.take len := by
  obtain ⟨l, h1, h2, h3⟩ := row_strs w x zs len hl hc hw
  refine ⟨l, h1, h2, h3, fun y hy => ?_⟩
  obtain ⟨i, hi, rfl⟩ := List.getElem_of_mem hy
  rcases h3 with h3 | ⟨b, off, hx, _, hcell⟩
  · subst h3; simp at hi
  · have e1 := hcell i hi
    have e2 := hc i (by omega)
    rw [Option.some.inj hx, show (⟨b, off, none⟩ : Addr).add i = ⟨b, off + i, none⟩ from by simp [Addr.add], e1] at e2
    have e3 : l.getD i ByteArray.empty = zs.getD i ByteArray.empty := by simpa using e2
    rw [List.getD_eq_getElem?_getD, List.getElem?_eq_getElem hi, List.getD_eq_getElem?_getD, List.getElem?_eq_getElem (by omega)] at e3
    have e4 : l[i] = zs[i]'(by omega) := e3
    rw [e4]
    have : (zs.take len)[i]'(by simp; omega) = zs[i]'(by omega) := by simp
    rw [← this]
    exact List.getElem_mem _
theorem weights_all_mem {H : Type} {P : Program} {e : TypeId} : ∀ {ds : List (DataW H)} {d : DataW H}, d ∈ ds → ∀ n ∈ d.weights P e, n ∈ DataW.weightsAll P e ds
  | d0 :: r, d, hd, n, hn => by
    simp only [DataW.weightsAll, List.mem_append]
    rcases List.mem_cons.1 hd with rfl | hd
    · exact .inl hn
    · exact .inr (weights_all_mem hd n hn)
theorem sized_strs {H : Type} {P : Program} {ts : List TypeId} {ds : List (DataW H)} (h : (DataW.weightsEach P ts ds).all (· ≤ reachBytes) = true) {j : Nat} {t e : TypeId} {zs : List ByteArray} {spare : List (DataW H)} (ht : ts[j]? = some t) (hd : ds[j]? = some (.slice (strs zs) spare)) (hu : P.underlying t = some (.slice e)) :
    ∀ x ∈ zs, x.size ≤ 140737488351232 := by
  intro x hx
  have hm : (DataW.lit (.string x.data.toList) : DataW H) ∈ strs zs := List.mem_map.2 ⟨x, hx, rfl⟩
  have := List.all_eq_true.1 h _ (DataW.weights_mem_each ht hd x.data.toList.length (by
    simp only [DataW.weights, hu, List.mem_cons, List.mem_append]
    exact .inr (.inl (weights_all_mem hm _ (by simp [DataW.weights])))))
  have h2 := of_decide_eq_true this
  simpa [reachBytes] using h2
end Go.Proofs.YtpjcmfoamdiohaaDoor
