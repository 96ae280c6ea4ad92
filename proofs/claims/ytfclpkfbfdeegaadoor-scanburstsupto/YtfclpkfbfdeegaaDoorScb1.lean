/- A turned frame, cases. -/
import Derived.Test.YtfclpkfbfdeegaaDoorScb0
import Derived.Test.YtfclpkfbfdeegaaDoorSct
import Derived.Test.YtfclpkfbfdeegaaDoorApn
namespace Go.Proofs.YtfclpkfbfdeegaaDoor.scanBursts
open Go.ChangeShapes Go.WideShapes Go.ChangeAt Go.RowKit
set_option linter.unusedVariables false
theorem mem_getD {l : List Nat} (h : ∀ i, l.getD i 0 < 256) : ∀ x ∈ l, x < 256 := by
  intro x hx
  obtain ⟨n, hn, rfl⟩ := List.mem_iff_getElem.1 hx
  have := h n
  rw [List.getD_eq_getElem?_getD, List.getElem?_eq_getElem hn] at this
  exact this
theorem cases_of (f : Fi) (t : List Nat) (at0 P : Nat) (h : Fok f.k.toNat f.s.toNat f.body) (ht : ∀ x ∈ t, x < 256) (htl : t.length = (fL f).length) (hP : P < 4294967296) (hat : at0 < 8 * (fL f).length) (hv : Crcm.val t = Crcm.val (fL f) ^^^ turned at0 P (8 * (fL f).length - at0) 32) :
    decide (t = fL f) = true ∨ (decide (t = fL f) = false ∧ (decE t = 61 ∨ decE t = 62)) := by
  by_cases he : t = fL f
  · exact .inl (decide_eq_true he)
  · exact .inr ⟨decide_eq_false he, burst_frame _ _ f.body t at0 P h.byt h.k1 h.k7 h.len h.seq ht htl hP hat hv he⟩
theorem plc_of2 {w : World} {base N c : Nat} {a : Option Addr} {xs : List It} (h : OwnP w base (.slice a N c) xs) : PlcA w a xs := scanTorn.plc_of2 h
end Go.Proofs.YtfclpkfbfdeegaaDoor.scanBursts
