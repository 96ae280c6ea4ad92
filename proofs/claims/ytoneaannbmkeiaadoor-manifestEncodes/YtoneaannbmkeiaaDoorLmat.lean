/- Plain mathematics of lists: a list that is written is read. -/
import Derived.Test.YtoneaannbmkeiaaDoorEncAl
import Derived.Test.YtoneaannbmkeiaaDoorDecAl
namespace Go.Proofs.YtoneaannbmkeiaaDoor
open Go.ChangeShapes Go.WideShapes Go.ChangeAt Go.RowKit
theorem decN_flat (rest : List Nat) (hm : ∀ x ∈ rest, x ≤ 18446744073709551615) (pre r acc : List Nat) :
    vdecN rest.length (pre ++ (flat rest ++ r)) pre.length acc = (acc ++ rest, pre.length + (flat rest).length, 0) := by
  induction rest generalizing pre acc with
  | nil => simp [vdecN, flat]
  | cons u rest ih =>
    have hd : dec 0 0 ((pre ++ (flat (u :: rest) ++ r)).drop pre.length) = (u, (enc u).length, 0) := by
      rw [List.drop_left, show flat (u :: rest) ++ r = enc u ++ (flat rest ++ r) from by simp [flat]]
      exact dec_back u _ (hm u (by simp))
    rw [List.length_cons, decN_succ _ _ _ _ _ _ _ hd, if_pos rfl]
    have h := ih (fun x hx => hm x (by simp [hx])) (pre ++ enc u) (acc ++ [u])
    rw [List.length_append, show pre ++ enc u ++ (flat rest ++ r) = pre ++ (flat (u :: rest) ++ r) from by simp [flat]] at h
    rw [h]
    simp [flat, Nat.add_assoc]
theorem decAll_back (l r : List Nat) (hn : l.length ≤ 18446744073709551615) (hm : ∀ x ∈ l, x ≤ 18446744073709551615) : decAll (encAll l ++ r) (l.length : Int) = (l, (encAll l).length, 0) := by
  have hd : dec 0 0 (encAll l ++ r) = (l.length, (enc l.length).length, 0) := by
    unfold encAll
    rw [List.append_assoc]
    exact dec_back _ _ hn
  unfold decAll
  rw [hd, if_neg (by simp), if_neg (by simp)]
  have h := decN_flat l hm (enc l.length) r []
  unfold encAll
  rw [List.append_assoc]
  rw [h]
  simp
theorem decAll_low (l : List Nat) (most : Int) (hn : l.length ≤ 18446744073709551615) (h : most.toNat < l.length) : decAll (encAll l) most = ([], 0, 24) := by
  have hd : dec 0 0 (encAll l) = (l.length, (enc l.length).length, 0) := dec_back _ _ hn
  unfold decAll
  rw [hd, if_neg (by simp), if_pos h]
theorem nums_cells {w : World} {x : Addr} {m : List Nat} (h : Nums w (some x) m) : ∀ j u, (B64 m)[j]? = some u → w.cell? (x.add j) = some u := by
  intro j u hj
  have hlt : j < m.length := by
    by_cases hh : j < m.length
    · exact hh
    · rw [List.getElem?_eq_none (by simp [B64]; omega)] at hj; cases hj
  rw [B64_get m j hlt] at hj
  rcases h.2 with rfl | ⟨b, off, hx, _, hc⟩
  · simp at hlt
  · cases hx
    rw [← hj, show (⟨b, off, none⟩ : Addr).add j = ⟨b, off + j, none⟩ from by simp [Addr.add]]
    exact hc j hlt
theorem B64_one (m : List Nat) : ∀ u ∈ B64 m, u.oneCell' = true := by
  intro u hu
  simp only [B64, List.mem_map] at hu
  obtain ⟨n, _, rfl⟩ := hu
  rfl
theorem B64_length (m : List Nat) : (B64 m).length = m.length * 1 := by simp [B64]
theorem encAll_length (l : List Nat) (hn : l.length ≤ 1048576) (hm : ∀ x ∈ l, x ≤ 18446744073709551615) : (encAll l).length ≤ 10485770 ∧ encAll l ≠ [] := by
  have h1 := enc_length_le l.length (by omega)
  have h2 := flat_length l hm
  unfold encAll
  refine ⟨by rw [List.length_append]; omega, fun h => ?_⟩
  have h3 := congrArg List.length h
  rw [List.length_append, List.length_nil] at h3
  omega
end Go.Proofs.YtoneaannbmkeiaaDoor
