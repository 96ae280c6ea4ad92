/- slices' merge in place, whatever the rows' lengths. -/
import Derived.Test.YtblfmfanfpohbaaGreatNseA
import Derived.Test.YtblfmfanfpohbaaGreatNseB
namespace Go.Proofs.YtblfmfanfpohbaaGreat
open Go.ChangeShapes Go.WideShapes Go.ChangeAt Go.RowKit Go.Sort
set_option maxRecDepth 20000 in
theorem sym_any (k : Nat → Nat) (cap N : Nat) (cb : Array Value) (d0 : Array Nat) (w : World) (b : Nat) (hH : Hid (Holds eN w b 0 d0)) (hN : d0.size = N) (hN2 : N ≤ 64) (HC : Hid (CmpR w b N 83 cb k)) : ∀ L, SymOK w b N cap cb k L := by
  intro L
  induction L with
  | zero => intro a m c q d h1 h2 h3 h4; omega
  | succ L ih =>
    intro a m c q d h1 h2 h3 h4 hd hB
    by_cases e1 : m = a + 1
    · exact sym_first k a m c q cap N cb d d0 w b hH hN hd hN2 h1 h2 h3 HC hB e1
    · by_cases e2 : c = m + 1
      · exact sym_second k a m c q cap N cb d d0 w b hH hN hd hN2 h1 h2 h3 HC hB e1 e2
      · have HI : Hid (SymOK w b N cap cb k (c - a - 1)) := fun a' m' c' q' d' g1 g2 g3 g4 => ih a' m' c' q' d' g1 g2 g3 (by omega)
        by_cases e3 : (a + c) / 2 < m
        · exact sym_mainA k a m c q cap N cb d d0 w b hH hN hd hN2 h1 h2 h3 HC hB (by omega) (by omega) e3 HI
        · exact sym_mainB k a m c q cap N cb d d0 w b hH hN hd hN2 h1 h2 h3 HC hB (by omega) (by omega) (by omega) HI
end Go.Proofs.YtblfmfanfpohbaaGreat
