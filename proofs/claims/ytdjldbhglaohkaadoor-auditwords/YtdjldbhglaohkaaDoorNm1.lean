/- names.numbered, Segment, Book; daybookref15.Six, Segment, Book. -/
import Derived.Test.YtdjldbhglaohkaaDoorNm0
import Derived.Test.YtdjldbhglaohkaaDoorShelf
import Derived.Test.YtdjldbhglaohkaaDoorAid
import Derived.Test.YtdjldbhglaohkaaDoorRows
import Derived.Lib.AppendIntMem
import Derived.Laws.IdiomStrings
namespace Go.Proofs.YtdjldbhglaohkaaDoor
open Go.ChangeShapes Go.WideShapes Go.ChangeAt Go.RowKit
set_option linter.unusedVariables false
abbrev bs (l : List UInt8) : ByteArray := ⟨l.toArray⟩
/-- the library's table of powers of ten -/
def Pow (w : World) : Prop := Lib.TabIs Tryd.prog w "internal/strconv.uint64pow10" .u64 Lib.pow10Tab
theorem Pow.keep {w w' : World} (h : Pow w) (hb : Below w.heap.size w w') : Pow w' := Lib.tabBelow_of_tabIs h w' hb
theorem below_grow (w : World) (q : Nat) (os : Array Obj) : Below w.heap.size w (Sort.grow (w.drewN q) os) := by
  have h := below_drewN (Below.refl w.heap.size w) q
  refine ⟨h.os, h.tape, h.output, ?_, fun k hk => ?_⟩
  · show _ ≤ ((w.drewN q).heap ++ os).size
    rw [Array.size_append]
    have := h.size
    omega
  · show ((w.drewN q).heap ++ os)[k]? = _
    rw [Array.getElem?_append_left (by have := h.size; omega)]
    exact h.block k hk
theorem itoa_any (n : Int) (w : World) (h0 : -9223372036854775808 ≤ n) (h1 : n ≤ 9223372036854775807) (ht : Pow w) :
    Calls Tryd.prog 7 #[.int .i64 n] w fun e w' => e = .returned (.string (bs (Lib.itoa n))) ∧ Below w.heap.size w w' :=
  (Tryd.strconv_Itoa n h0 h1 w ht).mono fun e w' ⟨he, k, os, hw⟩ => ⟨he, by rw [hw]; exact below_grow _ _ _⟩
theorem ret_str {a b : ByteArray} (h : a = b) : Ending.returned (.string a) = .returned (.string b) := by rw [h]
theorem bs_append (a b : List UInt8) : bs a ++ bs b = bs (a ++ b) := by
  apply ByteArray.ext
  rw [ByteArray.data_append]
  simp
theorem bs_tail (h : List UInt8) (c : UInt8) (l : List UInt8) : bs h ++ (bs (c :: l)).extract 1 (l.length + 1) = bs (h ++ l) := by
  have e : (bs (c :: l)).extract 1 (l.length + 1) = bs l := by
    apply ByteArray.ext
    rw [ByteArray.data_extract]
    simp
  rw [e, bs_append]
theorem six_step (n j : Nat) (hn : n ≤ 999999) (hj : j < 6) : dg (n / 10 ^ j % 10) :: (six n).drop (6 - j) = (six n).drop (6 - (j + 1)) := by
  have h : j = 0 ∨ j = 1 ∨ j = 2 ∨ j = 3 ∨ j = 4 ∨ j = 5 := by omega
  rcases h with rfl | rfl | rfl | rfl | rfl | rfl
  · rw [show (10 : Nat) ^ 0 = 1 from rfl, Nat.div_one]; rfl
  · rw [show (10 : Nat) ^ 1 = 10 from rfl]; rfl
  · rw [show (10 : Nat) ^ 2 = 100 from rfl]; rfl
  · rw [show (10 : Nat) ^ 3 = 1000 from rfl]; rfl
  · rw [show (10 : Nat) ^ 4 = 10000 from rfl]; rfl
  · rw [show (10 : Nat) ^ 5 = 100000 from rfl, Nat.mod_eq_of_lt (show n / 100000 < 10 from by omega)]; rfl
end Go.Proofs.YtdjldbhglaohkaaDoor
