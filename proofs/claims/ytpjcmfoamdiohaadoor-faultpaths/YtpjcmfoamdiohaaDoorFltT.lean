/- Rows of strings of the call's own. -/
import Derived.Test.YtpjcmfoamdiohaaDoorFltS
namespace Go.Proofs.YtpjcmfoamdiohaaDoor
open Go.ChangeShapes Go.WideShapes Go.ChangeAt Go.RowKit
/-- the strings l lie in block g, which is nobody else's -/
structure RowS (w : World) (base g n cap : Nat) (l : List ByteArray) : Prop where
  own : w.ownsRow base 9 1 (.slice (some ⟨g, 0, none⟩) n cap) n (SV l)
  len : l.length = n
  ge : base ≤ g
  lt : g < w.heap.size
theorem SV_get (l : List ByteArray) (i : Nat) (h : i < l.length) : (SV l)[i]? = some (.string (l.getD i ByteArray.empty)) := by
  simp [SV, h, List.getD_eq_getElem?_getD]
theorem RowS.cell {w : World} {base g n cap : Nat} {l : List ByteArray} (h : RowS w base g n cap l) (i : Nat) (hi : i < n) : w.cell? ⟨g, i, none⟩ = some (.string (l.getD i ByteArray.empty)) := by
  rw [h.own.cellAt i (by omega), SV_get l i (by rw [h.len]; exact hi)]
theorem RowS.frozen {w : World} {base g n cap : Nat} {l : List ByteArray} (h : RowS w base g n cap l) (i : Nat) : w.frozen? ⟨g, i, none⟩ = false := h.own.frozenAt i
theorem RowS.keep {w w' : World} {base g n cap : Nat} {l : List ByteArray} (h : RowS w base g n cap l) (hb : Below w.heap.size w w') : RowS w' base g n cap l :=
  ⟨own_below h.own hb, h.len, h.ge, Nat.lt_of_lt_of_le h.lt hb.size⟩
theorem SV_set (l : List ByteArray) (i : Nat) (s : ByteArray) : (SV l).set i (.string s) = SV (l.set i s) := by
  simp [SV, List.map_set]
theorem RowS.set {w : World} {base g n cap : Nat} {l : List ByteArray} (h : RowS w base g n cap l) (i : Nat) (s : ByteArray) : RowS (w.setCell ⟨g, i, none⟩ (.string s)) base g n cap (l.set i s) := by
  have h1 := (h.own.stored i (.string s)).1
  rw [SV_set] at h1
  exact ⟨h1, by rw [List.length_set]; exact h.len, h.ge, by simpa using h.lt⟩
theorem rowS_of {w : World} {base : Nat} {v : Value} {l : List ByteArray} (h : w.ownsRow base 9 1 v l.length (SV l)) (hl : l ≠ []) : ∃ g cap, v = .slice (some ⟨g, 0, none⟩) l.length cap ∧ RowS w base g l.length cap l := by
  rcases h.2 with ⟨_, h2⟩ | ⟨g, cap, cur, h3, h4, h5, h6⟩
  · exact absurd (List.length_eq_zero_iff.1 h2) hl
  · subst h3
    refine ⟨g, cap, rfl, h, rfl, h4, ?_⟩
    by_cases hh : g < w.heap.size
    · exact hh
    · rw [Array.getElem?_eq_none (by omega)] at h5; cases h5
theorem er_known {pa : Nat → Addr} {e : Int} {w : World} {ops : List ByteArray} {v : Value} (h : Er pa e w ops v) (hk : ∃ k, k < 42 ∧ numS k = e) : ∃ k b, k < 42 ∧ numS k = e ∧ v = fltV b ∧ Ch w (pa k) ops (fltV b) := by
  rcases h with ⟨k, h1, h2, h3, b, rfl⟩ | ⟨hno, _⟩
  · exact ⟨k, b, h1, h2, rfl, h3⟩
  · obtain ⟨k, h1, h2⟩ := hk
    exact absurd h2 (hno k h1)
theorem torn_known : ∃ k, k < 42 ∧ numS k = 60 := ⟨22, by omega, rfl⟩
end Go.Proofs.YtpjcmfoamdiohaaDoor
