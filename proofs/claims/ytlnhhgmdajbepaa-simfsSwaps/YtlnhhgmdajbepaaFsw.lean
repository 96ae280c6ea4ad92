/- A rename in the abstract: the old bytes or the new ones. -/
import Derived.Test.YtlnhhgmdajbepaaFsh
namespace Go.Proofs.Ytlnhhgmdajbepaa
open Go.ChangeShapes Go.WideShapes Go.ChangeAt Go.RowKit
set_option linter.unusedVariables false
abbrev nB : List UInt8 := [98]
theorem bar_a (r f st rd : Int) (fs : List Fa) : barA ⟨r, f, false, st, rd, fs⟩ [nA] = 0 := by
  show (if false = true then 3 else if [nA].all rightS = true then 0 else 50) = 0
  rw [if_neg (by simp), if_pos (by decide)]
theorem bar_b (r f st rd : Int) (fs : List Fa) : barA ⟨r, f, false, st, rd, fs⟩ [nB] = 0 := by
  show (if false = true then 3 else if [nB].all rightS = true then 0 else 50) = 0
  rw [if_neg (by simp), if_pos (by decide)]
theorem bar_ba (r f st rd : Int) (fs : List Fa) : barA ⟨r, f, false, st, rd, fs⟩ [nB, nA] = 0 := by
  show (if false = true then 3 else if [nB, nA].all rightS = true then 0 else 50) = 0
  rw [if_neg (by simp), if_pos (by decide)]
theorem bar_off (r f st rd : Int) (fs : List Fa) (Ls : List (List UInt8)) : barA ⟨r, f, true, st, rd, fs⟩ Ls = 3 := if_pos rfl
theorem get_a (x y : List Nat) (s t : Nat) : getA [⟨nA, x, s⟩, ⟨nB, y, t⟩] nA = some ⟨nA, x, s⟩ := rfl
theorem get_b (x y : List Nat) (s t : Nat) : getA [⟨nA, x, s⟩, ⟨nB, y, t⟩] nB = some ⟨nB, y, t⟩ := rfl
theorem ins_a (x y z : List Nat) (s t u : Nat) : insA ⟨nA, z, u⟩ [⟨nA, x, s⟩, ⟨nB, y, t⟩] = [⟨nA, z, u⟩, ⟨nB, y, t⟩] := by
  unfold insA
  rw [if_neg (show ¬ nA < nA by decide), if_pos rfl]
theorem ins_b (x y z : List Nat) (s t u : Nat) : insA ⟨nB, z, u⟩ [⟨nA, x, s⟩, ⟨nB, y, t⟩] = [⟨nA, x, s⟩, ⟨nB, z, u⟩] := by
  unfold insA
  rw [if_neg (show ¬ nB < nA by decide), if_neg (show ¬ nB = nA by decide)]
  unfold insA
  rw [if_neg (show ¬ nB < nB by decide), if_pos rfl]
theorem ren_ba (x y : List Nat) (s t : Nat) : insA ⟨nA, y, t⟩ (delA [⟨nA, x, s⟩, ⟨nB, y, t⟩] nB) = [⟨nA, y, t⟩] := by
  rw [show delA [⟨nA, x, s⟩, ⟨nB, y, t⟩] nB = [⟨nA, x, s⟩] from rfl]
  unfold insA
  rw [if_neg (show ¬ nA < nA by decide), if_pos rfl]
theorem cr_a : createA (newD 67108864).ab nA = (⟨67108864, 0, false, 1, 0, [⟨nA, [], 0⟩]⟩, 0) := by
  rw [show (newD 67108864).ab = ⟨67108864, 0, false, 0, 0, []⟩ from by simp [Dk.ab, roomI]]
  unfold createA
  rw [if_neg (by rw [bar_a]; simp)]
  simp [getA, stepA, Ak.put, insA, wrap64]
theorem cr_b : createA ⟨67108864, 0, false, 1, 0, [⟨nA, [], 0⟩]⟩ nB = (⟨67108864, 0, false, 2, 0, [⟨nA, [], 0⟩, ⟨nB, [], 0⟩]⟩, 0) := by
  unfold createA
  rw [if_neg (by rw [bar_b]; simp)]
  rw [show getA [⟨nA, [], 0⟩] nB = none from rfl, show insA ⟨nB, [], 0⟩ [⟨nA, [], 0⟩] = [⟨nA, [], 0⟩, ⟨nB, [], 0⟩] from rfl]
  simp [stepA, Ak.put, wrap64]
theorem ap_a (l : List Nat) (h : l.length ≤ 33554432) : appendA ⟨67108864, 0, false, 2, 0, [⟨nA, [], 0⟩, ⟨nB, [], 0⟩]⟩ nA l = (⟨67108864, 0, false, 3, 0, [⟨nA, l, 0⟩, ⟨nB, [], 0⟩]⟩, 0) := by
  unfold appendA foundA
  rw [get_a]
  simp only
  rw [if_neg (by rw [bar_a]; simp), if_neg (by show ¬ (67108864 - ((0 : Nat) : Int) < _); omega), ins_a]
  simp [stepA, Ak.put, wrap64, stepAE]
theorem sy_a (l : List Nat) : syncA ⟨67108864, 0, false, 3, 0, [⟨nA, l, 0⟩, ⟨nB, [], 0⟩]⟩ nA = (⟨67108864, 0, false, 4, 0, [⟨nA, l, l.length⟩, ⟨nB, [], 0⟩]⟩, 0) := by
  unfold syncA foundA
  rw [get_a]
  simp only
  rw [if_neg (by rw [bar_a]; simp), ins_a]
  simp [stepTo, stepA, Ak.put, wrap64]
theorem ap_b (F st : Int) (l m : List Nat) (s : Nat) (h : l.length + m.length ≤ 33554432) : appendA ⟨67108864, F, false, st, 0, [⟨nA, l, s⟩, ⟨nB, [], 0⟩]⟩ nB m = ((stepA ⟨67108864, F, false, st, 0, [⟨nA, l, s⟩, ⟨nB, [], 0⟩]⟩).put [⟨nA, l, s⟩, ⟨nB, m, 0⟩], stepAE ⟨67108864, F, false, st, 0, [⟨nA, l, s⟩, ⟨nB, [], 0⟩]⟩) := by
  have hu : usedA [⟨nA, l, s⟩, ⟨nB, [], 0⟩] = l.length := by simp [usedA]
  unfold appendA foundA
  rw [get_b]
  simp only
  rw [if_neg (by rw [bar_b]; simp), hu, if_neg (by omega), ins_b, List.nil_append]
theorem sy_b (F st : Int) (l y : List Nat) (s t : Nat) : syncA ⟨67108864, F, false, st, 0, [⟨nA, l, s⟩, ⟨nB, y, t⟩]⟩ nB = stepTo ⟨67108864, F, false, st, 0, [⟨nA, l, s⟩, ⟨nB, y, t⟩]⟩ [⟨nA, l, s⟩, ⟨nB, y, y.length⟩] := by
  unfold syncA foundA
  rw [get_b]
  simp only
  rw [if_neg (by rw [bar_b]; simp), ins_b]
theorem sy_off (F st : Int) (l y : List Nat) (s t : Nat) : syncA ⟨67108864, F, true, st, 0, [⟨nA, l, s⟩, ⟨nB, y, t⟩]⟩ nB = (⟨67108864, F, true, st, 0, [⟨nA, l, s⟩, ⟨nB, y, t⟩]⟩, 3) := by
  unfold syncA foundA
  rw [get_b]
  simp only
  rw [bar_off, if_pos (by simp)]
theorem re_b (F st : Int) (l y : List Nat) (s t : Nat) : renameA ⟨67108864, F, false, st, 0, [⟨nA, l, s⟩, ⟨nB, y, t⟩]⟩ nB nA = stepTo ⟨67108864, F, false, st, 0, [⟨nA, l, s⟩, ⟨nB, y, t⟩]⟩ [⟨nA, y, t⟩] := by
  unfold renameA foundA
  rw [if_neg (by rw [bar_ba]; simp), get_b]
  simp only
  rw [if_neg (by rw [bar_b]; simp), ren_ba]
theorem re_off (F st : Int) (fs : List Fa) : renameA ⟨67108864, F, true, st, 0, fs⟩ nB nA = (⟨67108864, F, true, st, 0, fs⟩, 3) := by
  unfold renameA
  rw [bar_off, if_pos (by simp)]
theorem lost_safe (nm : List UInt8) (x : List Nat) (k : Int) : lostA ⟨nm, x, x.length⟩ k = ⟨nm, x, x.length⟩ := by
  have e : keepN ⟨nm, x, x.length⟩ k = x.length := by
    show x.length + (if k < 0 then 0 else min k.toNat (x.length - x.length)) = _
    split <;> simp
  unfold lostA
  rw [e]
  simp
theorem lose_head (nm : List UInt8) (x : List Nat) (R : List Fa) (ks : List Int) : loseA (⟨nm, x, x.length⟩ :: R) ks = ⟨nm, x, x.length⟩ :: loseA R ks.tail := by
  cases ks with
  | nil => simp only [loseA, lost_safe, List.tail_nil]
  | cons k r => simp only [loseA, lost_safe, List.tail_cons]
theorem lose_one (f : Fa) (ks : List Int) : ∃ y s, loseA [f] ks = [⟨f.name, y, s⟩] := by
  cases ks with
  | nil => exact ⟨_, _, rfl⟩
  | cons k r => exact ⟨_, _, by cases r <;> rfl⟩
theorem loseA_nil (ks : List Int) : loseA [] ks = [] := by cases ks <;> rfl
abbrev S4 (n : Int) (l : List Nat) : Ak := fuseA ⟨67108864, 0, false, 4, 0, [⟨nA, l, l.length⟩, ⟨nB, [], 0⟩]⟩ n
abbrev S6 (n : Int) (l m : List Nat) : Ak := (syncA (appendA (S4 n l) nB m).1 nB).1
theorem swap_end (n : Int) (l m : List Nat) (ks : List Int) (h : l.length + m.length ≤ 33554432) :
    (restartA (renameA (S6 n l m) nB nA).1 ks).off = false ∧ (((renameA (S6 n l m) nB nA).2 = 0 ∧ (restartA (renameA (S6 n l m) nB nA).1 ks).fs = [⟨nA, m, m.length⟩]) ∨ ((renameA (S6 n l m) nB nA).2 ≠ 0 ∧ ∃ y s, (restartA (renameA (S6 n l m) nB nA).1 ks).fs = [⟨nA, l, l.length⟩, ⟨nB, y, s⟩])) := by
  refine ⟨rfl, ?_⟩
  obtain ⟨F, hF⟩ : ∃ F : Int, (if n < 0 then 0 else n) = F := ⟨_, rfl⟩
  have e4 : S4 n l = ⟨67108864, F, false, 4, 0, [⟨nA, l, l.length⟩, ⟨nB, [], 0⟩]⟩ := by rw [← hF]; rfl
  have bad : ∀ (A : Ak) (y : List Nat) (s : Nat), A.fs = [⟨nA, l, l.length⟩, ⟨nB, y, s⟩] → ∃ y s, (restartA A ks).fs = [⟨nA, l, l.length⟩, ⟨nB, y, s⟩] := by
    intro A y s hA
    obtain ⟨y2, s2, h2⟩ := lose_one ⟨nB, y, s⟩ ks.tail
    refine ⟨y2, s2, ?_⟩
    show loseA A.fs ks = _
    rw [hA, lose_head, h2]
  unfold S6
  rw [e4, ap_b F 4 l m _ h]
  by_cases h1 : F = 1
  · have e5 : (stepA ⟨67108864, F, false, 4, 0, [⟨nA, l, l.length⟩, ⟨nB, [], 0⟩]⟩).put [⟨nA, l, l.length⟩, ⟨nB, m, 0⟩] = ⟨67108864, 0, true, 4, 0, [⟨nA, l, l.length⟩, ⟨nB, m, 0⟩]⟩ := by unfold stepA; rw [if_pos h1]
    simp only [e5]
    rw [sy_off, re_off]
    exact .inr ⟨by simp, bad _ m 0 rfl⟩
  · obtain ⟨F2, hF2⟩ : ∃ F2 : Int, (if 1 ≤ F then F - 1 else 0) = F2 := ⟨_, rfl⟩
    have e5 : (stepA ⟨67108864, F, false, 4, 0, [⟨nA, l, l.length⟩, ⟨nB, [], 0⟩]⟩).put [⟨nA, l, l.length⟩, ⟨nB, m, 0⟩] = ⟨67108864, F2, false, 5, 0, [⟨nA, l, l.length⟩, ⟨nB, m, 0⟩]⟩ := by
      unfold stepA
      rw [if_neg h1, ← hF2]
      show Ak.mk 67108864 (if 1 ≤ F then F - 1 else 0) false (wrap64 (4 + 1)) 0 _ = _
      rw [show wrap64 (4 + 1) = 5 from by unfold wrap64; omega]
    simp only [e5]
    rw [sy_b]
    unfold stepTo
    by_cases h2 : F2 = 1
    · have e6 : stepA ⟨67108864, F2, false, 5, 0, [⟨nA, l, l.length⟩, ⟨nB, m, 0⟩]⟩ = ⟨67108864, 0, true, 5, 0, [⟨nA, l, l.length⟩, ⟨nB, m, 0⟩]⟩ := by unfold stepA; rw [if_pos h2]
      simp only [if_pos h2, e6]
      rw [re_off]
      exact .inr ⟨by simp, bad _ m 0 rfl⟩
    · obtain ⟨F3, hF3⟩ : ∃ F3 : Int, (if 1 ≤ F2 then F2 - 1 else 0) = F3 := ⟨_, rfl⟩
      have e6 : (stepA ⟨67108864, F2, false, 5, 0, [⟨nA, l, l.length⟩, ⟨nB, m, 0⟩]⟩).put [⟨nA, l, l.length⟩, ⟨nB, m, m.length⟩] = ⟨67108864, F3, false, 6, 0, [⟨nA, l, l.length⟩, ⟨nB, m, m.length⟩]⟩ := by
        unfold stepA
        rw [if_neg h2, ← hF3]
        show Ak.mk 67108864 (if 1 ≤ F2 then F2 - 1 else 0) false (wrap64 (5 + 1)) 0 _ = _
        rw [show wrap64 (5 + 1) = 6 from by unfold wrap64; omega]
      simp only [if_neg h2, e6]
      rw [re_b]
      unfold stepTo
      by_cases h3 : F3 = 1
      · have e7 : stepA ⟨67108864, F3, false, 6, 0, [⟨nA, l, l.length⟩, ⟨nB, m, m.length⟩]⟩ = ⟨67108864, 0, true, 6, 0, [⟨nA, l, l.length⟩, ⟨nB, m, m.length⟩]⟩ := by unfold stepA; rw [if_pos h3]
        simp only [if_pos h3, e7]
        exact .inr ⟨by simp, bad _ m m.length rfl⟩
      · simp only [if_neg h3]
        refine .inl ⟨trivial, ?_⟩
        show loseA [⟨nA, m, m.length⟩] ks = _
        rw [lose_head, loseA_nil]
/-- what the first of the files has -/
theorem size_head {A : Ak} {x : List Nat} {s : Nat} {R : List Fa} (ho : A.off = false) (hf : A.fs = ⟨nA, x, s⟩ :: R) : sizeA A nA = (x.length, 0) ∧ readA A nA 0 (x.length : Int) = ({ A with read := wrap64 (A.read + x.length) }, x, 0) := by
  obtain ⟨r, f, off, st, rd, fs⟩ := A
  simp only at ho hf
  subst ho hf
  have hg : getA (⟨nA, x, s⟩ :: R) nA = some ⟨nA, x, s⟩ := by rw [getA_cons, if_pos rfl]
  refine ⟨?_, ?_⟩
  · unfold sizeA foundA
    rw [hg]
    simp only
    rw [if_neg (by rw [bar_a]; simp)]
  · unfold readA foundA
    rw [hg]
    simp only
    rw [if_neg (by rw [bar_a]; simp), if_neg (show ¬ ((0 : Int) < 0 ∨ (x.length : Int) < 0 ∨ (x.length : Int) < 0 ∨ (x.length : Int) - 0 < x.length) by omega)]
    simp
end Go.Proofs.Ytlnhhgmdajbepaa
