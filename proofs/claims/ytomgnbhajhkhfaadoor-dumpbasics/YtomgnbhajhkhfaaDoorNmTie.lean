/- The library's table and errors, as the rows list them, lie in memory when the call begins. -/
import Derived.Test.YtomgnbhajhkhfaaDoorCards
import Derived.Test.YtomgnbhajhkhfaaDoorTie
import Derived.Test.YtomgnbhajhkhfaaDoorNm2
import Derived.Deep.DeepHandedRow
import Derived.Lib.LaidTab
import Derived.LaidLaws
import Derived.Stop.LaidErr
namespace Go.Proofs.YtomgnbhajhkhfaaDoor
open Go.ChangeShapes Go.WideShapes Go.ChangeAt Go.RowKit
theorem gPow : Tryd.prog.globalNamed "internal/strconv.uint64pow10" = some 3 := by kernel_rfl
theorem gPowType : (Tryd.prog.globals[3]?).map (·.type) = some 71 := by kernel_rfl
theorem powData : (Rows.laid_internal_strconv_uint64pow10 : DataW Unit) = Lib.tabData .u64 Lib.pow10Tab := by kernel_rfl
theorem cellsPow : Tryd.prog.cellsOf 71 = 20 := by kernel_rfl
theorem cellsU64 : Tryd.prog.cellsOf 51 = 1 := by kernel_rfl
theorem pow_of_vars {W : World} {rest : List (String × DataW Unit)} {ps : List MemPlace} (h : DataW.LaidVars Tryd.prog W (("math/bits.deBruijn32tab", Rows.laid_math_bits_deBruijn32tab) :: ("math/bits.deBruijn64tab", Rows.laid_math_bits_deBruijn64tab) :: ("internal/strconv.uint64pow10", Rows.laid_internal_strconv_uint64pow10) :: rest) ps) :
    Pow W ∧ ∃ q, DataW.LaidVars Tryd.prog W rest q ∧ ∀ x ∈ q, x ∈ ps := by
  obtain ⟨g1, t1, cs1, f1, p1, q1, _, _, _, _, h2, rfl⟩ := h
  obtain ⟨g2, t2, cs2, f2, p2, q2, _, _, _, _, h3, rfl⟩ := h2
  obtain ⟨g3, t3, cs3, f3, p3, q3, hg3, ht3, hv3, hd3, h4, rfl⟩ := h3
  obtain rfl := Option.some.inj (gPow.symm.trans hg3)
  obtain rfl := Option.some.inj (gPowType.symm.trans ht3)
  rw [powData] at hd3
  refine ⟨?_, q3, h4, fun x hx => List.mem_append_right _ (List.mem_append_right _ (List.mem_append_right _ hx))⟩
  unfold Pow Lib.TabIs
  rw [hv3, ← Lib.cells_of_tab Tryd.underlying71 Tryd.underlying51 cellsU64 cellsPow hd3]
theorem pow_of3 {W : World} (h : laidMetH Tryd.prog [("math/bits.deBruijn32tab", Rows.laid_math_bits_deBruijn32tab), ("math/bits.deBruijn64tab", Rows.laid_math_bits_deBruijn64tab), ("internal/strconv.uint64pow10", Rows.laid_internal_strconv_uint64pow10)] W) : Pow W := by
  obtain ⟨ps, hv, _⟩ := h
  exact (pow_of_vars hv).1
theorem Tryd.star : "*" ++ "errors.errorString" = "*errors.errorString" := by decide
theorem Tryd.nameErr (u : TypeId) (h : Tryd.prog.typeName? 3 u = some "*errors.errorString") : u = 66 :=
  typeName_ptr_named (nm := "errors.errorString") (by rw [Tryd.star]; kernel_rfl) (by kernel_rfl) (by decide) u (by rw [Tryd.star]; exact h)
theorem gRange : Tryd.prog.globalNamed "strconv.ErrRange" = some 2 := by kernel_rfl
theorem gRangeType : (Tryd.prog.globals[2]?).map (·.type) = some 40 := by kernel_rfl
theorem gSyntax : Tryd.prog.globalNamed "strconv.ErrSyntax" = some 1 := by kernel_rfl
theorem gSyntaxType : (Tryd.prog.globals[1]?).map (·.type) = some 40 := by kernel_rfl
set_option maxRecDepth 100000 in
theorem err_of {W : World} {name : String} {g : Nat} {txt : List UInt8} {rest : List (String × DataW Unit)} {ps : List MemPlace} (hg : Tryd.prog.globalNamed name = some g) (ht : (Tryd.prog.globals[g]?).map (·.type) = some 40)
    (h : DataW.LaidVars Tryd.prog W ((name, .iface "*errors.errorString" (.ptr (.agg [.lit (.string txt)]))) :: rest) ps)
    (hrows : ∀ b off, MemPlace.cell b off ∈ ps → (∃ c t, W.heap[b]? = some (.cells c t (0, 0))) ∧ ∀ u v, W.cell? ⟨b, off, none⟩ = some (.iface u v) → Value.okWide Tryd.prog W .any 0 u v) :
    (∃ te pe, W.cell? ⟨g, 0, none⟩ = some (.iface te pe)) ∧ ∃ q, DataW.LaidVars Tryd.prog W rest q ∧ ∀ x ∈ q, x ∈ ps := by
  obtain ⟨g0, t0, cs0, f0, p0, q0, hg0, ht0, hv0, hd0, hq, rfl⟩ := h
  obtain rfl := Option.some.inj (hg.symm.trans hg0)
  obtain rfl := Option.some.inj (ht.symm.trans ht0)
  obtain ⟨l0⟩ := cs0
  have ok0 : ∀ u v, l0 = [.iface u v] → Value.okWide Tryd.prog W .any 0 u v := fun u v e => by
    subst e
    exact (hrows g 0 (by simp [MemPlace.row])).2 u v (by simpa using World.var?_cell hg0 hv0 0)
  obtain ⟨a0, s0, rfl, hc0, hs0, hz0, rfl⟩ := errorString_of_trod Tryd.underlying40 Tryd.nameErr Tryd.underlying66 Tryd.underlying68 rfl rfl Tryd.underlying9 (by kernel_rfl) (by kernel_rfl) hd0 ok0
  exact ⟨⟨_, _, by simpa using World.var?_cell hg0 hv0 0⟩, q0, hq, fun x hx => List.mem_append_right _ hx⟩
theorem ers_of5 {W : World} (h : laidMetH Tryd.prog [("math/bits.deBruijn32tab", Rows.laid_math_bits_deBruijn32tab), ("math/bits.deBruijn64tab", Rows.laid_math_bits_deBruijn64tab), ("internal/strconv.uint64pow10", Rows.laid_internal_strconv_uint64pow10), ("strconv.ErrRange", Rows.laid_strconv_ErrRange), ("strconv.ErrSyntax", Rows.laid_strconv_ErrSyntax)] W) : Ers W := by
  rw [MakeChecks.laidMetH_plain _ _ _ (by kernel_rfl)] at h
  obtain ⟨ps, hv, hnd, hrows⟩ := h
  obtain ⟨h1, q1, hv1, m1⟩ := pow_of_vars hv
  obtain ⟨h2, q2, hv2, m2⟩ := err_of gRange gRangeType hv1 (fun b off hm => hrows b off (m1 _ hm))
  obtain ⟨h3, q3, hv3, m3⟩ := err_of gSyntax gSyntaxType hv2 (fun b off hm => hrows b off (m1 _ (m2 _ hm)))
  exact ⟨h1, h3, h2⟩
end Go.Proofs.YtomgnbhajhkhfaaDoor
