/- What the reference's Valid and Same, and the law's copyOf, answer. -/
import Derived.Test.YtifackbilmkjlabMkV
import Derived.Test.YtifackbilmkjlabSame
import Derived.Laws.AppendOwnNone
namespace Go.Proofs.Ytifackbilmkjlab
open Go.ChangeShapes Go.WideShapes Go.ChangeAt Go.RowKit
set_option linter.unusedVariables false
theorem below_drewN {B : Nat} {w w' : World} (h : Below B w w') (n : Nat) : Below B w (w'.drewN n) := by
  induction n with
  | zero => exact h
  | succ n ih => exact ih.drew
set_option maxRecDepth 20000 in
set_option maxHeartbeats 2000000 in
theorem copyOf_any (L : List Mk) (n : Nat) (a : Option Addr) (cap : Nat) (w : World) (hn : L.length = n) (hm : Marks w a L) (h0 : a = none → L = []) (hl : n * 16 ≤ 140737488351232) :
    Calls Try.prog 7 #[.slice a n cap] w fun e w' => ∃ v, e = .returned v ∧ OwnM w' w.heap.size v L ∧ Below w.heap.size w w' := by
  obtain ⟨i0, hi, hz0, hz1, hz2⟩ := info_parts Try.infoMk
  have HN : Hid (L.length = n) := hn
  have ha : (a = none ∧ L = []) ∨ ∃ x, a = some x := by
    cases a with
    | none => exact .inl ⟨rfl, h0 rfl⟩
    | some x => exact .inr ⟨x, rfl⟩
  clear h0
  rcases ha with ⟨rfl, rfl⟩ | ⟨x, rfl⟩
  · obtain rfl : n = 0 := by simpa using hn.symm
    clear hn hl hm
    go_enter Try.func7, Try.ntmps7
    go_wp2_with (at_builtin; refine wpList_append_own_none rfl _ _ 30 rfl w.heap.size 35 i0 2 Try.underlying30 hi _ _ _ rfl (OwnM.lit w) rfl ?_)
    go_ret
    exact ⟨_, rfl, OwnM.lit w, (Below.refl _ _).alloc (Nat.le_refl _) _⟩
  · have HM : Hid (Marks (w.alloc (.cells #[] 35)) (some x) L) := hm.keep ((Below.refl _ _).alloc (Nat.le_refl _) _)
    have HLN : Hid ((mfl L).length = n * 2) := by show _ = _; rw [mfl_length, hn]
    clear hn hm
    go_enter Try.func7, Try.ntmps7
    go_wp2_with (at_builtin; refine wpList_append_own _ rfl _ _ 30 rfl w.heap.size 35 i0 (.agg #[.int .i64 0, .int .i64 0]) 2 16 Try.underlying30 hi hz0 hz1 hz2 rfl (by decide) _ _ _ rfl (OwnM.lit w) x n cap (mfl L) rfl HLN.out (Marks.all HM.out) (mfl_one L) (by unfold maxLen; simp; try omega) (by simp; try omega) (by simp) ?_; intro v2 w2 ho2 hg2 _; have hb2 : Below w.heap.size w w2 := ((Below.refl w.heap.size w).alloc (Nat.le_refl _) _).grown hg2 (by simp) (fun k hk => by cases hk; exact Nat.le_refl _); clear hg2)
    go_ret
    exact ⟨_, rfl, by unfold OwnM; rw [HN.out]; simpa [mfl] using ho2, hb2⟩
end Go.Proofs.Ytifackbilmkjlab
