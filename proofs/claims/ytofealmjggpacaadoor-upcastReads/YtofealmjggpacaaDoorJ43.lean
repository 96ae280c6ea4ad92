/- Own texts, joined: Tlen, Tleo, Tler, Tlz. -/
import Derived.Test.YtofealmjggpacaaDoorJ31
import Derived.Test.YtofealmjggpacaaDoorJ42
import Derived.Deep.AppendLies
import Derived.Deep.RegionHeld3
import Derived.Test.YtofealmjggpacaaDoorJ07
import Derived.Test.YtofealmjggpacaaDoorJ29
import Derived.Test.YtofealmjggpacaaDoorJ15
namespace Go.Proofs.YtofealmjggpacaaDoor
open Go.ChangeShapes Go.WideShapes Go.ChangeAt Go.RowKit
set_option linter.unusedVariables false
theorem rencode_at (x : Int) (u : Nat) (hx : x = u) (w : World) (hu : u ≤ 18446744073709551615) :
    Calls Tryd.prog 85 #[.int .u64 x] w fun e w' => ∃ v, e = .returned v ∧ Own w' w.heap.size v (enc u) ∧ Below w.heap.size w w' := by
  subst hx
  exact renc_any 9 u w hu (lt_pow10 u hu)
end Go.Proofs.YtofealmjggpacaaDoor
namespace Go.Proofs.YtofealmjggpacaaDoor
open Go.ChangeShapes Go.WideShapes Go.ChangeAt Go.RowKit
set_option linter.unusedVariables false
theorem enc_shape {u : Nat} (hu : u ≤ 18446744073709551615) {w : World} {base : Nat} {v : Value} (h : Own w base v (enc u)) : ∃ g cap, v = .slice (some ⟨g, 0, none⟩) (enc u).length cap ∧ Bytes w (some ⟨g, 0, none⟩) (enc u) := by
  obtain ⟨a, cap, rfl, _, _, hby, hsh⟩ := h.shape
  have hl := enc_length_le u hu
  rcases hsh with ⟨_, h0, _⟩ | ⟨g, rfl, _, _⟩
  · rw [h0] at hl; simp at hl
  · exact ⟨g, cap, rfl, hby⟩
end Go.Proofs.YtofealmjggpacaaDoor
namespace Go.Proofs.YtofealmjggpacaaDoor
open Go.ChangeShapes Go.WideShapes Go.ChangeAt Go.RowKit
set_option linter.unusedVariables false
theorem one_ne (F : Fld) (A : Int) (hz : flt F A = 0) (hnum : F.num ≤ 18446744073709551615) : one F ≠ [] := by
  have h := (one_len F A hnum hz).1
  intro h0
  rw [h0] at h
  simp at h
end Go.Proofs.YtofealmjggpacaaDoor
namespace Go.Proofs.YtofealmjggpacaaDoor
open Go.ChangeShapes Go.WideShapes Go.ChangeAt Go.RowKit
set_option linter.unusedVariables false
end Go.Proofs.YtofealmjggpacaaDoor
