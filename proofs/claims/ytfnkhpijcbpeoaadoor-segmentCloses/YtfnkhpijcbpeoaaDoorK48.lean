/- Own texts, joined: Sg6, CrcTie. -/
import Derived.Test.YtfnkhpijcbpeoaaDoorK34
import Derived.Test.YtfnkhpijcbpeoaaDoorK18
import Derived.Test.YtfnkhpijcbpeoaaDoorCards
import Derived.Test.YtfnkhpijcbpeoaaDoorTie
import Derived.Test.YtfnkhpijcbpeoaaDoorK02
import Derived.Deep.DeepHandedRow
import Derived.Lib.LaidTab
namespace Go.Proofs.YtfnkhpijcbpeoaaDoor
open Go.ChangeShapes Go.WideShapes Go.ChangeAt Go.RowKit
set_option linter.unusedVariables false
theorem hdrL_len (x y : Nat) : (hdrL x y).length = (nencs [x, y]).length + 20 := by unfold hdrL; exact frameL_length _ _ _
theorem pn_laid (k s : Nat) (body r : List Nat) (hb : ∀ y ∈ body, y < 256) (hk1 : 1 ≤ k) (hk7 : k ≤ 7) (hn : body.length ≤ 16384) (hs : s ≤ 1099511627776) : pn (frameL k s body ++ r) = body.length := by
  obtain ⟨a1, _, _, a4, _⟩ := dec_laid k s body r hb hk1 hk7 hn hs
  unfold decN at a4
  rw [if_pos a1] at a4
  omega
theorem ho_laid (x y : Nat) (r : List Nat) (hx1 : 1 ≤ x) (hx : x ≤ 999999) (hy1 : 1 ≤ y) (hy : y ≤ 1099511627777) : HoV (hdrL x y ++ r) = .tuple #[.int .i64 (x : Int), .int .i64 (y : Int), .int .i64 (((nencs [x, y]).length : Int) + 20), .int .i64 0] := by
  obtain ⟨q1, q2⟩ := hdr_body x y hx hy
  rw [ho_some (hdr_back x y r hx1 hx hy1 hy)]
  unfold hdrL
  rw [pn_laid 2 x (nencs [x, y]) r q1 (by omega) (by omega) (by omega) (by omega)]
theorem copy_n (l : List Nat) (n : Nat) (a : Option Addr) (cap : Nat) (w : World) (hn : l.length = n) (hb : Bytes w a l) (hl : n ≤ 140737488351232) :
    Calls Tryd.prog 8 #[.slice a n cap] w fun e w' => ∃ a2 c2, e = .returned (.slice a2 n c2) ∧ n ≤ c2 ∧ Bytes w' a2 l ∧ Below w.heap.size w w' := by
  subst hn
  refine (copy_any l a cap w hb (by omega)).mono ?_
  rintro e w' ⟨v, rfl, ho, hb⟩
  obtain ⟨a2, c2, hv, hc, _, hy, _⟩ := ho.shape
  exact ⟨a2, c2, by rw [hv], hc, hy, hb⟩
end Go.Proofs.YtfnkhpijcbpeoaaDoor
namespace Go.Proofs.YtfnkhpijcbpeoaaDoor
open Go.ChangeShapes Go.WideShapes Go.ChangeAt Go.RowKit
theorem gTab : Tryd.prog.globalNamed "daybook/crc.halves" = some 0 := by kernel_rfl
theorem gTabType : (Tryd.prog.globals[0]?).map (·.type) = some 127 := by kernel_rfl
theorem cellsTab : Tryd.prog.cellsOf 127 = 16 := by kernel_rfl
theorem cellsU32 : Tryd.prog.cellsOf 84 = 1 := by kernel_rfl
theorem tab_of {W : World} (h : laidMetH Tryd.prog [("daybook/crc.halves", Rows.laid_daybook_crc_halves)] W) : Tab W := by
  have ht : Lib.TabIs Tryd.prog W "daybook/crc.halves" .u32 [0, 498536548, 997073096, 651767980, 1994146192, 1802195444, 1303535960, 1342533948, 3988292384, 4027552580, 3604390888, 3412177804, 2607071920, 2262029012, 2685067896, 3183342108] :=
    Lib.tabIs_of_head (rest := []) gTab gTabType Tryd.underlying127 Tryd.underlying84 cellsU32 cellsTab h
  have hc := fun i (hi : i < 16) => ht.cell gTab i hi
  refine ⟨World.block_lt_of_cell? _ _ (hc 0 (by decide)), fun i hi => ?_⟩
  rw [hc i hi]
  exact congrArg (fun n : Int => some (Value.int IntKind.u32 n)) ((by decide : ∀ i : Fin 16, ([0, 498536548, 997073096, 651767980, 1994146192, 1802195444, 1303535960, 1342533948, 3988292384, 4027552580, 3604390888, 3412177804, 2607071920, 2262029012, 2685067896, 3183342108] : List Int).getD i.val 0 = ((tab i.val : Nat) : Int)) ⟨i, hi⟩)
end Go.Proofs.YtfnkhpijcbpeoaaDoor
