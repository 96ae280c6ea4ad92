/- Own texts, joined: Tles, Cpn. -/
import Derived.Test.YtbdgiecnhgiogaaK25
import Derived.Test.YtbdgiecnhgiogaaK26
import Derived.Test.YtbdgiecnhgiogaaK20
import Derived.Test.YtbdgiecnhgiogaaK19
import Derived.Test.YtbdgiecnhgiogaaK02
namespace Go.Proofs.Ytbdgiecnhgiogaa
open Go.ChangeShapes Go.WideShapes Go.ChangeAt Go.RowKit
set_option linter.unusedVariables false
set_option maxRecDepth 20000 in
set_option maxHeartbeats 400000 in
theorem rcopyE_nil (a : Option Addr) (cap : Nat) (w : World) :
    Calls Try.prog 29 #[.slice a 0 cap] w fun r w' => ∃ v M, r = .returned v ∧ M.map Prod.fst = ([] : List (Fld × Value)).map Prod.fst ∧ Rws w' w.heap.size v M ∧ Below w.heap.size w w' := by
  have HE0 : Hid (Rws (w.alloc (.cells #[] 32)) w.heap.size (.slice (some ⟨w.heap.size, 0, none⟩) 0 0) []) := ⟨⟨by simp [flat], .inr ⟨w.heap.size, 0, #[], rfl, Nat.le_refl _, heap_alloc_new w _, by simp, by simp, by simp, by simp [flat]⟩⟩, fun p hp => by cases hp⟩
  go_enter Try.func29, Try.ntmps29
  go_wp2
  refine wp_loop_rounds 1 ?_
  rw [rounds_succ]
  go_wp2
  go_ret
  exact ⟨_, [], rfl, rfl, HE0.out, (Below.refl _ _).alloc (Nat.le_refl _) _⟩
theorem rcopyE (L : List (Fld × Value)) (a : Option Addr) (n cap : Nat) (w : World) (hn : L.length = n) (hfs : FsAt w a L) (hm : n * 48 ≤ 140737488351232) (hbl : ∀ p ∈ L, p.1.bytes.length ≤ 281474976710656) :
    Calls Try.prog 29 #[.slice a n cap] w fun r w' => ∃ v M, r = .returned v ∧ M.map Prod.fst = L.map Prod.fst ∧ Rws w' w.heap.size v M ∧ Below w.heap.size w w' := by
  rcases hfs.row with rfl | ⟨b, off, rfl, _, _⟩
  · simp only [List.length_nil] at hn
    subst hn
    exact rcopyE_nil a cap w
  · exact rcopy_any L b off n cap w hn hfs hm hbl
set_option maxRecDepth 20000 in
set_option maxHeartbeats 400000 in
theorem rtenc_nil (a : Option Addr) (cap : Nat) (w : World) :
    Calls Try.prog 14 #[.slice a 0 cap] w fun r w' => ∃ v, r = .returned (.tuple #[v, .int .i64 0]) ∧ Own w' w.heap.size v [] ∧ Below w.heap.size w w' := by
  have HO0 : Hid ((w.alloc (.cells #[] 5)).ownsRow w.heap.size 5 1 (.slice (some ⟨w.heap.size, 0, none⟩) 0 0) 0 []) := own_empty w _ (Nat.le_refl _)
  go_enter Try.func14, Try.ntmps14
  go_wp2
  refine wp_loop_rounds 1 ?_
  rw [rounds_succ]
  go_wp2
  go_ret2
  exact ⟨_, rfl, ⟨by simp, HO0.out⟩, (Below.refl _ _).alloc (Nat.le_refl _) _⟩
theorem rtenc (L : List (Fld × Value)) (a : Option Addr) (n cap : Nat) (w : World) (hn : L.length = n) (hfs : FsAt w a L) (hm : n ≤ 140737488355328) :
    Calls Try.prog 14 #[.slice a n cap] w fun r w' => ∃ v, r = .returned (.tuple #[v, .int .i64 ((encs (L.map Prod.fst) 0 []).2 : Int)]) ∧ Own w' w.heap.size v (encs (L.map Prod.fst) 0 []).1 ∧ Below w.heap.size w w' := by
  rcases hfs.row with rfl | ⟨b, off, rfl, _, _⟩
  · simp only [List.length_nil] at hn
    subst hn
    exact rtenc_nil a cap w
  · exact rtenc_any L b off n cap w hn hfs hm
theorem encs_small (fs : List Fld) : (encs fs 0 []).1.length ≤ 1024 := by
  obtain ⟨r, e, h⟩ : ∃ r e, encs fs 0 [] = (r, e) := ⟨_, _, rfl⟩
  by_cases he : e = 0
  · subst he; rw [h]; exact (encs_pre _ _ _ _ h).2
  · rw [encs_err fs 0 [] (by rw [h]; exact he)]; simp
end Go.Proofs.Ytbdgiecnhgiogaa
namespace Go.Proofs.Ytbdgiecnhgiogaa
open Go.ChangeShapes Go.WideShapes Go.ChangeAt Go.RowKit
set_option linter.unusedVariables false
theorem bel_drewN {B : Nat} {a w : World} (h : Below B a w) (n : Nat) : Below B a (w.drewN n) := by
  induction n with
  | zero => exact h
  | succ n ih => exact ih.drew
theorem copy_nn (l : List Nat) (a : Option Addr) (n cap : Nat) (w : World) (hn : l.length = n) (hb : Bytes w a l) (hl : n ≤ 281474976710656) :
    Calls Try.prog 8 #[.slice a n cap] w fun e w' => ∃ a2 cap2, e = .returned (.slice a2 n cap2) ∧ n ≤ cap2 ∧ Bytes w' a2 l ∧ Own w' w.heap.size (.slice a2 n cap2) l ∧ Below w.heap.size w w' := by
  subst hn
  refine (copy_any l a cap w hb hl).mono ?_
  rintro e w' ⟨v, rfl, ho, hb'⟩
  obtain ⟨a2, cap2, rfl, h1, _, h3, _⟩ := ho.shape
  exact ⟨a2, cap2, rfl, h1, h3, ho, hb'⟩
theorem same_yes (l : List Nat) (n1 n2 : Nat) (a1 a2 : Option Addr) (c1 c2 : Nat) (w : World) (e1 : l.length = n1) (e2 : l.length = n2) (hb1 : Bytes w a1 l) (hb2 : Bytes w a2 l) (hl : n1 ≤ maxLen) :
    Calls Try.prog 15 #[.slice a1 n1 c1, .slice a2 n2 c2] w fun e w' => e = .returned (.bool true) ∧ Below w.heap.size w w' := by
  refine (same_at l l n1 n2 a1 a2 c1 c2 w e1 e2 hb1 hb2 (by rw [e1]; exact hl) (by rw [e1]; exact hl)).mono ?_
  rw [decide_eq_true rfl]
  rintro e w' ⟨rfl, m, rfl⟩
  exact ⟨rfl, bel_drewN (Below.refl _ _) m⟩
theorem same_no (l m : List Nat) (n1 n2 : Nat) (a1 a2 : Option Addr) (c1 c2 : Nat) (w : World) (hne : l ≠ m) (e1 : l.length = n1) (e2 : m.length = n2) (hb1 : Bytes w a1 l) (hb2 : Bytes w a2 m) (hl : n1 ≤ maxLen) (hm : n2 ≤ maxLen) :
    Calls Try.prog 15 #[.slice a1 n1 c1, .slice a2 n2 c2] w fun e w' => e = .returned (.bool false) ∧ Below w.heap.size w w' := by
  refine (same_at l m n1 n2 a1 a2 c1 c2 w e1 e2 hb1 hb2 (by rw [e1]; exact hl) (by rw [e2]; exact hm)).mono ?_
  rw [decide_eq_false hne]
  rintro e w' ⟨rfl, m, rfl⟩
  exact ⟨rfl, bel_drewN (Below.refl _ _) m⟩
end Go.Proofs.Ytbdgiecnhgiogaa
