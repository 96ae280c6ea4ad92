/- Own texts, joined: Adde, Head07, TaxTie. -/
import Derived.Test.YtofealmjggpacaaDoorJ26
import Derived.Test.YtofealmjggpacaaDoorJ04
import Derived.Test.YtofealmjggpacaaDoorCards
import Derived.Test.YtofealmjggpacaaDoorTie
import Derived.Deep.DeepHandedRow
import Derived.Lib.LaidTab
namespace Go.Proofs.YtofealmjggpacaaDoor
open Go.ChangeShapes Go.WideShapes Go.ChangeAt Go.RowKit
theorem nilB_nil : nilB ⟨#[]⟩ = true := by
  unfold nilB ByteArray.toList ByteArray.toList.loop
  rfl
def addE : Ev := ⟨2, 7, 3, -2, 5, 0, 0, ⟨#[]⟩, 0, ⟨#[]⟩⟩
theorem add_ok : chk 1 addE = 0 := chk_of ⟨by decide, by decide, by decide, by decide, by decide, by decide, by decide, by decide, by decide, by decide, by decide, by decide, by decide, by decide, by decide, by decide, by decide, by decide, by decide, by decide, by decide, .inr rfl, .inr rfl, .inr nilB_nil, .inr ⟨rfl, nilB_nil⟩⟩
end Go.Proofs.YtofealmjggpacaaDoor
namespace Go.Proofs.YtofealmjggpacaaDoor
open Go.ChangeShapes Go.WideShapes Go.ChangeAt Go.RowKit
theorem EvAt.cell {w : World} {b : Nat} {e : Ev} (h : EvAt w b e) (i : Nat) (v : Value) (hv : (evA e)[i]? = some v) : w.cell? ⟨b, i, none⟩ = some v := by
  rw [cell_of_row w b i _ _ _ h]; exact hv
theorem add_up : evA (chainE 1 addE) = #[.int .i64 6, .int .i64 7, .int .i64 3, .int .i64 2, .int .i64 500, .int .i64 0, .int .i64 0, .string ⟨#[111, 108, 100]⟩, .int .i64 0, .string ⟨#[]⟩] := rfl
end Go.Proofs.YtofealmjggpacaaDoor
namespace Go.Proofs.YtofealmjggpacaaDoor
open Go.ChangeShapes Go.WideShapes Go.ChangeAt Go.RowKit
theorem gTab : Tryd.prog.globalNamed "daybook/upcast.taxes" = some 0 := by kernel_rfl
theorem gTabType : (Tryd.prog.globals[0]?).map (·.type) = some 137 := by kernel_rfl
theorem cellsTab : Tryd.prog.cellsOf 137 = 4 := by kernel_rfl
theorem cellsInt : Tryd.prog.cellsOf 3 = 1 := by kernel_rfl
theorem tax_of {W : World} (h : laidMetH Tryd.prog [("daybook/upcast.taxes", Rows.laid_daybook_upcast_taxes)] W) : Tax W := by
  have ht : Lib.TabIs Tryd.prog W "daybook/upcast.taxes" .i64 [0, 1900, 2000, 700] :=
    Lib.tabIs_of_head (rest := []) gTab gTabType Tryd.underlying137 Tryd.underlying3 cellsInt cellsTab h
  have hc := fun i (hi : i < 4) => ht.cell gTab i hi
  exact ⟨World.block_lt_of_cell? _ _ (hc 0 (by decide)), hc 0 (by decide), hc 1 (by decide), hc 2 (by decide), hc 3 (by decide)⟩
end Go.Proofs.YtofealmjggpacaaDoor
