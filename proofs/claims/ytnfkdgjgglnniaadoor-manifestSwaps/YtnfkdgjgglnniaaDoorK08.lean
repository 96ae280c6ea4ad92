/- Own texts, joined: Copy, Same. -/
import Derived.Test.YtnfkdgjgglnniaaDoorRows
import Derived.Test.YtnfkdgjgglnniaaDoorK00
import Derived.Deep.QuietTactic
import Derived.BigQuiet
namespace Go.Proofs.YtnfkdgjgglnniaaDoor
open Go.ChangeShapes Go.WideShapes Go.ChangeAt Go.RowKit
theorem copy_step (l : List Nat) (k n : Nat) (hn : n = l.length) (h : k < l.length) :
    (B8 (l.take k) ++ List.replicate (n - k) (Value.int .u8 0)).set k (.int .u8 (l.getD k 0 : Nat)) = B8 (l.take (k + 1)) ++ List.replicate (n - (k + 1)) (Value.int .u8 0) := by
  subst hn
  have h1 : (B8 (l.take k)).length = k := by simp [B8]; omega
  rw [show l.length - k = (l.length - (k + 1)) + 1 from by omega, List.replicate_succ]
  rw [List.set_append, if_neg (by omega), h1, Nat.sub_self, List.set_cons_zero]
  rw [List.take_succ_eq_append_getElem h, B8_append, List.append_assoc]
  simp [B8, List.getD_eq_getElem?_getD, h]
theorem Tryd.info5c : (Tryd.prog.info? 5).map (fun i => (i.zero, i.size, i.bytes)) = some (some (.int .u8 0), 1, 1) := by kernel_rfl
end Go.Proofs.YtnfkdgjgglnniaaDoor
namespace Go.Proofs.YtnfkdgjgglnniaaDoor
open Go.ChangeShapes Go.WideShapes Go.ChangeAt Go.RowKit
theorem drewN_add (w : World) (a b : Nat) : (w.drewN a).drewN b = w.drewN (a + b) := by
  induction b with
  | zero => rfl
  | succ b ih => show ((w.drewN a).drewN b).drew = (w.drewN (a + b)).drew; rw [ih]
theorem same_end (l m : List Nat) (hl : l.length = m.length) (h : ∀ i, i < l.length → l.getD i 0 = m.getD i 0) : l = m := by
  apply List.ext_getElem hl
  intro i h1 h2
  have := h i h1
  simpa [List.getD_eq_getElem?_getD, List.getElem?_eq_getElem h1, List.getElem?_eq_getElem h2] using this
end Go.Proofs.YtnfkdgjgglnniaaDoor
