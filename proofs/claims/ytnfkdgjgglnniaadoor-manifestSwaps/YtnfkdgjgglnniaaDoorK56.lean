/- Own texts, joined: Fsw, Msw, Msf. -/
import Derived.Test.YtnfkdgjgglnniaaDoorK54
import Derived.Test.YtnfkdgjgglnniaaDoorK55
namespace Go.Proofs.YtnfkdgjgglnniaaDoor
open Go.ChangeShapes Go.WideShapes Go.ChangeAt Go.RowKit
set_option linter.unusedVariables false
abbrev nB : List UInt8 := [98]
theorem bar_a (r f st rd : Int) (fs : List Fa) : barA ⟨r, f, false, st, rd, fs⟩ [nA] = 0 := by
  show (if false = true then 3 else if [nA].all rightS = true then 0 else 50) = 0
  rw [if_neg (by simp), if_pos (by decide)]
theorem bar_b (r f st rd : Int) (fs : List Fa) : barA ⟨r, f, false, st, rd, fs⟩ [nB] = 0 := by
  show (if false = true then 3 else if [nB].all rightS = true then 0 else 50) = 0
  rw [if_neg (by simp), if_pos (by decide)]
theorem bar_ba (r f st rd : Int) (fs : List Fa) : barA ⟨r, f, false, st, rd, fs⟩ [nB, nA] = 0 := by
  show (if false = true then 3 else if [nB, nA].all rightS = true then 0 else 50) = 0
  rw [if_neg (by simp), if_pos (by decide)]
theorem bar_off (r f st rd : Int) (fs : List Fa) (Ls : List (List UInt8)) : barA ⟨r, f, true, st, rd, fs⟩ Ls = 3 := if_pos rfl
theorem get_a (x y : List Nat) (s t : Nat) : getA [⟨nA, x, s⟩, ⟨nB, y, t⟩] nA = some ⟨nA, x, s⟩ := rfl
theorem get_b (x y : List Nat) (s t : Nat) : getA [⟨nA, x, s⟩, ⟨nB, y, t⟩] nB = some ⟨nB, y, t⟩ := rfl
theorem ins_a (x y z : List Nat) (s t u : Nat) : insA ⟨nA, z, u⟩ [⟨nA, x, s⟩, ⟨nB, y, t⟩] = [⟨nA, z, u⟩, ⟨nB, y, t⟩] := by
  unfold insA
  rw [if_neg (show ¬ nA < nA by decide), if_pos rfl]
theorem ins_b (x y z : List Nat) (s t u : Nat) : insA ⟨nB, z, u⟩ [⟨nA, x, s⟩, ⟨nB, y, t⟩] = [⟨nA, x, s⟩, ⟨nB, z, u⟩] := by
  unfold insA
  rw [if_neg (show ¬ nB < nA by decide), if_neg (show ¬ nB = nA by decide)]
  unfold insA
  rw [if_neg (show ¬ nB < nB by decide), if_pos rfl]
theorem ren_ba (x y : List Nat) (s t : Nat) : insA ⟨nA, y, t⟩ (delA [⟨nA, x, s⟩, ⟨nB, y, t⟩] nB) = [⟨nA, y, t⟩] := by
  rw [show delA [⟨nA, x, s⟩, ⟨nB, y, t⟩] nB = [⟨nA, x, s⟩] from rfl]
  unfold insA
  rw [if_neg (show ¬ nA < nA by decide), if_pos rfl]
theorem cr_a : createA (newD 67108864).ab nA = (⟨67108864, 0, false, 1, 0, [⟨nA, [], 0⟩]⟩, 0) := by
  rw [show (newD 67108864).ab = ⟨67108864, 0, false, 0, 0, []⟩ from by simp [Dk.ab, roomI]]
  unfold createA
  rw [if_neg (by rw [bar_a]; simp)]
  simp [getA, stepA, Ak.put, insA, wrap64]
theorem cr_b : createA ⟨67108864, 0, false, 1, 0, [⟨nA, [], 0⟩]⟩ nB = (⟨67108864, 0, false, 2, 0, [⟨nA, [], 0⟩, ⟨nB, [], 0⟩]⟩, 0) := by
  unfold createA
  rw [if_neg (by rw [bar_b]; simp)]
  rw [show getA [⟨nA, [], 0⟩] nB = none from rfl, show insA ⟨nB, [], 0⟩ [⟨nA, [], 0⟩] = [⟨nA, [], 0⟩, ⟨nB, [], 0⟩] from rfl]
  simp [stepA, Ak.put, wrap64]
theorem ap_a (l : List Nat) (h : l.length ≤ 33554432) : appendA ⟨67108864, 0, false, 2, 0, [⟨nA, [], 0⟩, ⟨nB, [], 0⟩]⟩ nA l = (⟨67108864, 0, false, 3, 0, [⟨nA, l, 0⟩, ⟨nB, [], 0⟩]⟩, 0) := by
  unfold appendA foundA
  rw [get_a]
  simp only
  rw [if_neg (by rw [bar_a]; simp), if_neg (by show ¬ (67108864 - ((0 : Nat) : Int) < _); omega), ins_a]
  simp [stepA, Ak.put, wrap64, stepAE]
theorem sy_a (l : List Nat) : syncA ⟨67108864, 0, false, 3, 0, [⟨nA, l, 0⟩, ⟨nB, [], 0⟩]⟩ nA = (⟨67108864, 0, false, 4, 0, [⟨nA, l, l.length⟩, ⟨nB, [], 0⟩]⟩, 0) := by
  unfold syncA foundA
  rw [get_a]
  simp only
  rw [if_neg (by rw [bar_a]; simp), ins_a]
  simp [stepTo, stepA, Ak.put, wrap64]
theorem ap_b (F st : Int) (l m : List Nat) (s : Nat) (h : l.length + m.length ≤ 33554432) : appendA ⟨67108864, F, false, st, 0, [⟨nA, l, s⟩, ⟨nB, [], 0⟩]⟩ nB m = ((stepA ⟨67108864, F, false, st, 0, [⟨nA, l, s⟩, ⟨nB, [], 0⟩]⟩).put [⟨nA, l, s⟩, ⟨nB, m, 0⟩], stepAE ⟨67108864, F, false, st, 0, [⟨nA, l, s⟩, ⟨nB, [], 0⟩]⟩) := by
  have hu : usedA [⟨nA, l, s⟩, ⟨nB, [], 0⟩] = l.length := by simp [usedA]
  unfold appendA foundA
  rw [get_b]
  simp only
  rw [if_neg (by rw [bar_b]; simp), hu, if_neg (by omega), ins_b, List.nil_append]
theorem sy_b (F st : Int) (l y : List Nat) (s t : Nat) : syncA ⟨67108864, F, false, st, 0, [⟨nA, l, s⟩, ⟨nB, y, t⟩]⟩ nB = stepTo ⟨67108864, F, false, st, 0, [⟨nA, l, s⟩, ⟨nB, y, t⟩]⟩ [⟨nA, l, s⟩, ⟨nB, y, y.length⟩] := by
  unfold syncA foundA
  rw [get_b]
  simp only
  rw [if_neg (by rw [bar_b]; simp), ins_b]
theorem sy_off (F st : Int) (l y : List Nat) (s t : Nat) : syncA ⟨67108864, F, true, st, 0, [⟨nA, l, s⟩, ⟨nB, y, t⟩]⟩ nB = (⟨67108864, F, true, st, 0, [⟨nA, l, s⟩, ⟨nB, y, t⟩]⟩, 3) := by
  unfold syncA foundA
  rw [get_b]
  simp only
  rw [bar_off, if_pos (by simp)]
theorem re_b (F st : Int) (l y : List Nat) (s t : Nat) : renameA ⟨67108864, F, false, st, 0, [⟨nA, l, s⟩, ⟨nB, y, t⟩]⟩ nB nA = stepTo ⟨67108864, F, false, st, 0, [⟨nA, l, s⟩, ⟨nB, y, t⟩]⟩ [⟨nA, y, t⟩] := by
  unfold renameA foundA
  rw [if_neg (by rw [bar_ba]; simp), get_b]
  simp only
  rw [if_neg (by rw [bar_b]; simp), ren_ba]
theorem re_off (F st : Int) (fs : List Fa) : renameA ⟨67108864, F, true, st, 0, fs⟩ nB nA = (⟨67108864, F, true, st, 0, fs⟩, 3) := by
  unfold renameA
  rw [bar_off, if_pos (by simp)]
theorem lost_safe (nm : List UInt8) (x : List Nat) (k : Int) : lostA ⟨nm, x, x.length⟩ k = ⟨nm, x, x.length⟩ := by
  have e : keepN ⟨nm, x, x.length⟩ k = x.length := by
    show x.length + (if k < 0 then 0 else min k.toNat (x.length - x.length)) = _
    split <;> simp
  unfold lostA
  rw [e]
  simp
theorem lose_head (nm : List UInt8) (x : List Nat) (R : List Fa) (ks : List Int) : loseA (⟨nm, x, x.length⟩ :: R) ks = ⟨nm, x, x.length⟩ :: loseA R ks.tail := by
  cases ks with
  | nil => simp only [loseA, lost_safe, List.tail_nil]
  | cons k r => simp only [loseA, lost_safe, List.tail_cons]
theorem lose_one (f : Fa) (ks : List Int) : ∃ y s, loseA [f] ks = [⟨f.name, y, s⟩] := by
  cases ks with
  | nil => exact ⟨_, _, rfl⟩
  | cons k r => exact ⟨_, _, by cases r <;> rfl⟩
theorem loseA_nil (ks : List Int) : loseA [] ks = [] := by cases ks <;> rfl
abbrev S4 (n : Int) (l : List Nat) : Ak := fuseA ⟨67108864, 0, false, 4, 0, [⟨nA, l, l.length⟩, ⟨nB, [], 0⟩]⟩ n
abbrev S6 (n : Int) (l m : List Nat) : Ak := (syncA (appendA (S4 n l) nB m).1 nB).1
theorem swap_end (n : Int) (l m : List Nat) (ks : List Int) (h : l.length + m.length ≤ 33554432) :
    (restartA (renameA (S6 n l m) nB nA).1 ks).off = false ∧ (((renameA (S6 n l m) nB nA).2 = 0 ∧ (restartA (renameA (S6 n l m) nB nA).1 ks).fs = [⟨nA, m, m.length⟩]) ∨ ((renameA (S6 n l m) nB nA).2 ≠ 0 ∧ ∃ y s, (restartA (renameA (S6 n l m) nB nA).1 ks).fs = [⟨nA, l, l.length⟩, ⟨nB, y, s⟩])) := by
  refine ⟨rfl, ?_⟩
  obtain ⟨F, hF⟩ : ∃ F : Int, (if n < 0 then 0 else n) = F := ⟨_, rfl⟩
  have e4 : S4 n l = ⟨67108864, F, false, 4, 0, [⟨nA, l, l.length⟩, ⟨nB, [], 0⟩]⟩ := by rw [← hF]; rfl
  have bad : ∀ (A : Ak) (y : List Nat) (s : Nat), A.fs = [⟨nA, l, l.length⟩, ⟨nB, y, s⟩] → ∃ y s, (restartA A ks).fs = [⟨nA, l, l.length⟩, ⟨nB, y, s⟩] := by
    intro A y s hA
    obtain ⟨y2, s2, h2⟩ := lose_one ⟨nB, y, s⟩ ks.tail
    refine ⟨y2, s2, ?_⟩
    show loseA A.fs ks = _
    rw [hA, lose_head, h2]
  unfold S6
  rw [e4, ap_b F 4 l m _ h]
  by_cases h1 : F = 1
  · have e5 : (stepA ⟨67108864, F, false, 4, 0, [⟨nA, l, l.length⟩, ⟨nB, [], 0⟩]⟩).put [⟨nA, l, l.length⟩, ⟨nB, m, 0⟩] = ⟨67108864, 0, true, 4, 0, [⟨nA, l, l.length⟩, ⟨nB, m, 0⟩]⟩ := by unfold stepA; rw [if_pos h1]
    simp only [e5]
    rw [sy_off, re_off]
    exact .inr ⟨by simp, bad _ m 0 rfl⟩
  · obtain ⟨F2, hF2⟩ : ∃ F2 : Int, (if 1 ≤ F then F - 1 else 0) = F2 := ⟨_, rfl⟩
    have e5 : (stepA ⟨67108864, F, false, 4, 0, [⟨nA, l, l.length⟩, ⟨nB, [], 0⟩]⟩).put [⟨nA, l, l.length⟩, ⟨nB, m, 0⟩] = ⟨67108864, F2, false, 5, 0, [⟨nA, l, l.length⟩, ⟨nB, m, 0⟩]⟩ := by
      unfold stepA
      rw [if_neg h1, ← hF2]
      show Ak.mk 67108864 (if 1 ≤ F then F - 1 else 0) false (wrap64 (4 + 1)) 0 _ = _
      rw [show wrap64 (4 + 1) = 5 from by unfold wrap64; omega]
    simp only [e5]
    rw [sy_b]
    unfold stepTo
    by_cases h2 : F2 = 1
    · have e6 : stepA ⟨67108864, F2, false, 5, 0, [⟨nA, l, l.length⟩, ⟨nB, m, 0⟩]⟩ = ⟨67108864, 0, true, 5, 0, [⟨nA, l, l.length⟩, ⟨nB, m, 0⟩]⟩ := by unfold stepA; rw [if_pos h2]
      simp only [if_pos h2, e6]
      rw [re_off]
      exact .inr ⟨by simp, bad _ m 0 rfl⟩
    · obtain ⟨F3, hF3⟩ : ∃ F3 : Int, (if 1 ≤ F2 then F2 - 1 else 0) = F3 := ⟨_, rfl⟩
      have e6 : (stepA ⟨67108864, F2, false, 5, 0, [⟨nA, l, l.length⟩, ⟨nB, m, 0⟩]⟩).put [⟨nA, l, l.length⟩, ⟨nB, m, m.length⟩] = ⟨67108864, F3, false, 6, 0, [⟨nA, l, l.length⟩, ⟨nB, m, m.length⟩]⟩ := by
        unfold stepA
        rw [if_neg h2, ← hF3]
        show Ak.mk 67108864 (if 1 ≤ F2 then F2 - 1 else 0) false (wrap64 (5 + 1)) 0 _ = _
        rw [show wrap64 (5 + 1) = 6 from by unfold wrap64; omega]
      simp only [if_neg h2, e6]
      rw [re_b]
      unfold stepTo
      by_cases h3 : F3 = 1
      · have e7 : stepA ⟨67108864, F3, false, 6, 0, [⟨nA, l, l.length⟩, ⟨nB, m, m.length⟩]⟩ = ⟨67108864, 0, true, 6, 0, [⟨nA, l, l.length⟩, ⟨nB, m, m.length⟩]⟩ := by unfold stepA; rw [if_pos h3]
        simp only [if_pos h3, e7]
        exact .inr ⟨by simp, bad _ m m.length rfl⟩
      · simp only [if_neg h3]
        refine .inl ⟨trivial, ?_⟩
        show loseA [⟨nA, m, m.length⟩] ks = _
        rw [lose_head, loseA_nil]
/-- what the first of the files has -/
theorem size_head {A : Ak} {x : List Nat} {s : Nat} {R : List Fa} (ho : A.off = false) (hf : A.fs = ⟨nA, x, s⟩ :: R) : sizeA A nA = (x.length, 0) ∧ readA A nA 0 (x.length : Int) = ({ A with read := wrap64 (A.read + x.length) }, x, 0) := by
  obtain ⟨r, f, off, st, rd, fs⟩ := A
  simp only at ho hf
  subst ho hf
  have hg : getA (⟨nA, x, s⟩ :: R) nA = some ⟨nA, x, s⟩ := by rw [getA_cons, if_pos rfl]
  refine ⟨?_, ?_⟩
  · unfold sizeA foundA
    rw [hg]
    simp only
    rw [if_neg (by rw [bar_a]; simp)]
  · unfold readA foundA
    rw [hg]
    simp only
    rw [if_neg (by rw [bar_a]; simp), if_neg (show ¬ ((0 : Int) < 0 ∨ (x.length : Int) < 0 ∨ (x.length : Int) < 0 ∨ (x.length : Int) - 0 < x.length) by omega)]
    simp
end Go.Proofs.YtnfkdgjgglnniaaDoor
namespace Go.Proofs.YtnfkdgjgglnniaaDoor
open Go.ChangeShapes Go.WideShapes Go.ChangeAt Go.RowKit
set_option linter.unusedVariables false
abbrev nM : List UInt8 := [109, 97, 110, 105, 102, 101, 115, 116]
abbrev nT : List UInt8 := [109, 97, 110, 105, 102, 101, 115, 116, 46, 116, 109, 112]
/-- the next call, where the last one went well -/
def thenA (r : Ak × Nat) (f : Ak → Ak × Nat) : Ak × Nat := if r.2 = 0 then f r.1 else r
/-- what Save makes of a disk -/
def saveA (A : Ak) (l : List Nat) : Ak × Nat :=
  thenA (thenA (thenA (createA A nT) (fun A => appendA A nT l)) (fun A => syncA A nT)) (fun A => renameA A nT nM)
theorem thenA_ok {r : Ak × Nat} {f : Ak → Ak × Nat} (h : AkOk r.1) (hf : ∀ A, AkOk A → AkOk (f A).1) : AkOk (thenA r f).1 := by
  unfold thenA
  split
  · exact hf _ h
  · exact h
theorem saveA_ok {A : Ak} (h : AkOk A) (l : List Nat) : AkOk (saveA A l).1 :=
  thenA_ok (thenA_ok (thenA_ok (createA_ok h nT) (fun A h => appendA_ok h nT l)) (fun A h => syncA_ok h nT)) (fun A h => renameA_ok h nT nM)
theorem bar_m (r f st rd : Int) (fs : List Fa) : barA ⟨r, f, false, st, rd, fs⟩ [nM] = 0 := by
  show (if false = true then 3 else if [nM].all rightS = true then 0 else 50) = 0
  rw [if_neg (by simp), if_pos (by decide)]
theorem bar_t (r f st rd : Int) (fs : List Fa) : barA ⟨r, f, false, st, rd, fs⟩ [nT] = 0 := by
  show (if false = true then 3 else if [nT].all rightS = true then 0 else 50) = 0
  rw [if_neg (by simp), if_pos (by decide)]
theorem bar_tm (r f st rd : Int) (fs : List Fa) : barA ⟨r, f, false, st, rd, fs⟩ [nT, nM] = 0 := by
  show (if false = true then 3 else if [nT, nM].all rightS = true then 0 else 50) = 0
  rw [if_neg (by simp), if_pos (by decide)]
/-- what lies there ahead of a Save -/
def Bm (B : List Fa) : Prop := B = [] ∨ ∃ l, B = [⟨nM, l, l.length⟩]
theorem Bm.none {B : List Fa} (h : Bm B) : getA B nT = none := by
  rcases h with rfl | ⟨l, rfl⟩
  · rfl
  · exact getA_none.2 (fun f hf => by rw [List.mem_singleton.1 hf]; exact (by decide : nM ≠ nT))
theorem Bm.few {B : List Fa} (h : Bm B) : B.length ≤ 1 := by
  rcases h with rfl | ⟨l, rfl⟩ <;> simp
theorem Bm.ins {B : List Fa} (h : Bm B) (y : List Nat) (s : Nat) : insA ⟨nT, y, s⟩ B = B ++ [⟨nT, y, s⟩] := by
  rcases h with rfl | ⟨l, rfl⟩
  · rfl
  · unfold insA
    rw [if_neg (show ¬ nT < nM by decide), if_neg (show ¬ nT = nM by decide)]
    rfl
theorem Bm.ins2 {B : List Fa} (h : Bm B) (x y : List Nat) (s u : Nat) : insA ⟨nT, y, s⟩ (B ++ [⟨nT, x, u⟩]) = B ++ [⟨nT, y, s⟩] := by
  have e : insA ⟨nT, y, s⟩ [⟨nT, x, u⟩] = [⟨nT, y, s⟩] := by
    unfold insA
    rw [if_neg (show ¬ nT < nT by decide), if_pos rfl]
  rcases h with rfl | ⟨l, rfl⟩
  · exact e
  · rw [List.singleton_append]
    unfold insA
    rw [if_neg (show ¬ nT < nM by decide), if_neg (show ¬ nT = nM by decide), e]
    rfl
theorem Bm.get {B : List Fa} (h : Bm B) (x : List Nat) (u : Nat) : getA (B ++ [⟨nT, x, u⟩]) nT = some ⟨nT, x, u⟩ := by
  rcases h with rfl | ⟨l, rfl⟩
  · rfl
  · rw [List.singleton_append, getA_cons, if_neg (show ¬ nM = nT by decide)]
    rfl
theorem Bm.del {B : List Fa} (h : Bm B) (x : List Nat) (u : Nat) : insA ⟨nM, x, u⟩ (delA (B ++ [⟨nT, x, u⟩]) nT) = [⟨nM, x, u⟩] := by
  rcases h with rfl | ⟨l, rfl⟩
  · rfl
  · rw [show delA ([⟨nM, l, l.length⟩] ++ [⟨nT, x, u⟩]) nT = [⟨nM, l, l.length⟩] from rfl]
    unfold insA
    rw [if_neg (show ¬ nM < nM by decide), if_pos rfl]
theorem Bm.used {B : List Fa} (x : List Nat) (u : Nat) : usedA (B ++ [⟨nT, x, u⟩]) = usedA B + x.length := by simp [usedA]
theorem to_one (R st rd : Int) (B X : List Fa) : stepTo ⟨R, 1, false, st, rd, B⟩ X = (⟨R, 0, true, st, rd, B⟩, 3) := by
  unfold stepTo stepA
  rw [if_pos rfl, if_pos rfl]
theorem to_more (R F st rd : Int) (B X : List Fa) (h : F ≠ 1) : stepTo ⟨R, F, false, st, rd, B⟩ X = (⟨R, if 1 ≤ F then F - 1 else 0, false, wrap64 (st + 1), rd, X⟩, 0) := by
  unfold stepTo stepA
  rw [if_neg h, if_neg h]
theorem sv_create {B : List Fa} (h : Bm B) (R F st rd : Int) : createA ⟨R, F, false, st, rd, B⟩ nT = stepTo ⟨R, F, false, st, rd, B⟩ (B ++ [⟨nT, [], 0⟩]) := by
  unfold createA
  rw [if_neg (by rw [bar_t]; simp)]
  simp only
  rw [h.none, if_neg (by simp), if_neg (by have := h.few; omega), h.ins]
  rfl
theorem sv_append {B : List Fa} (h : Bm B) (F st rd : Int) (m : List Nat) (hu : usedA B + m.length ≤ 1048576) : appendA ⟨1048576, F, false, st, rd, B ++ [⟨nT, [], 0⟩]⟩ nT m = ((stepA ⟨1048576, F, false, st, rd, B ++ [⟨nT, [], 0⟩]⟩).put (B ++ [⟨nT, m, 0⟩]), stepAE ⟨1048576, F, false, st, rd, B ++ [⟨nT, [], 0⟩]⟩) := by
  unfold appendA foundA
  simp only
  rw [h.get]
  simp only
  rw [if_neg (by rw [bar_t]; simp), Bm.used, if_neg (by simp only [List.length_nil]; omega), h.ins2, List.nil_append]
theorem sv_sync {B : List Fa} (h : Bm B) (R F st rd : Int) (m : List Nat) : syncA ⟨R, F, false, st, rd, B ++ [⟨nT, m, 0⟩]⟩ nT = stepTo ⟨R, F, false, st, rd, B ++ [⟨nT, m, 0⟩]⟩ (B ++ [⟨nT, m, m.length⟩]) := by
  unfold syncA foundA
  simp only
  rw [h.get]
  simp only
  rw [if_neg (by rw [bar_t]; simp), h.ins2]
theorem sv_rename {B : List Fa} (h : Bm B) (R F st rd : Int) (m : List Nat) : renameA ⟨R, F, false, st, rd, B ++ [⟨nT, m, m.length⟩]⟩ nT nM = stepTo ⟨R, F, false, st, rd, B ++ [⟨nT, m, m.length⟩]⟩ [⟨nM, m, m.length⟩] := by
  unfold renameA foundA
  rw [if_neg (by rw [bar_tm]; simp)]
  simp only
  rw [h.get]
  simp only
  rw [if_neg (by rw [bar_t]; simp), h.del]
theorem wrap_st (st : Int) (h : 0 ≤ st ∧ st ≤ 100) : wrap64 (st + 1) = st + 1 := by unfold wrap64; omega
/-- what a Save leaves -/
theorem sv_core {B : List Fa} (h : Bm B) (F st rd : Int) (m : List Nat) (hu : usedA B + m.length ≤ 1048576) (hF : 0 ≤ F) (hs : 0 ≤ st ∧ st ≤ 90) :
    ((saveA ⟨1048576, F, false, st, rd, B⟩ m).2 ≠ 0 ∧ F ≠ 0 ∧ ∃ T, (saveA ⟨1048576, F, false, st, rd, B⟩ m).1.fs = B ++ T) ∨ ∃ F2, (F = 0 → F2 = 0) ∧ saveA ⟨1048576, F, false, st, rd, B⟩ m = (⟨1048576, F2, false, st + 4, rd, [⟨nM, m, m.length⟩]⟩, 0) := by
  unfold saveA
  rw [sv_create h]
  by_cases h1 : F = 1
  · subst h1
    rw [to_one]
    simp only [thenA]
    exact .inl ⟨by simp, by simp, [], by simp⟩
  rw [to_more _ _ _ _ _ _ h1, wrap_st st (by omega)]
  obtain ⟨F1, hF1⟩ : ∃ F1 : Int, (if 1 ≤ F then F - 1 else 0) = F1 := ⟨_, rfl⟩
  rw [hF1]
  have g1 : F = 0 → F1 = 0 := by intro e; subst e; rw [← hF1]; rfl
  simp only [thenA, if_true]
  rw [sv_append h F1 _ rd m hu]
  by_cases h2 : F1 = 1
  · subst h2
    have e5 : (stepA ⟨1048576, 1, false, st + 1, rd, B ++ [⟨nT, [], 0⟩]⟩).put (B ++ [⟨nT, m, 0⟩]) = ⟨1048576, 0, true, st + 1, rd, B ++ [⟨nT, m, 0⟩]⟩ := by unfold stepA; rw [if_pos rfl]
    have e6 : stepAE ⟨1048576, 1, false, st + 1, rd, B ++ [⟨nT, [], 0⟩]⟩ = 3 := by unfold stepAE; rw [if_pos rfl]
    rw [e5, e6]
    exact .inl ⟨by simp, fun e => by have := g1 e; omega, [⟨nT, m, 0⟩], by simp⟩
  obtain ⟨F2, hF2⟩ : ∃ F2 : Int, (if 1 ≤ F1 then F1 - 1 else 0) = F2 := ⟨_, rfl⟩
  have g2 : F = 0 → F2 = 0 := by intro e; rw [← hF2, g1 e]; rfl
  have e5 : (stepA ⟨1048576, F1, false, st + 1, rd, B ++ [⟨nT, [], 0⟩]⟩).put (B ++ [⟨nT, m, 0⟩]) = ⟨1048576, F2, false, st + 1 + 1, rd, B ++ [⟨nT, m, 0⟩]⟩ := by
    unfold stepA
    rw [if_neg h2, ← hF2]
    show Ak.mk 1048576 (if 1 ≤ F1 then F1 - 1 else 0) false (wrap64 (st + 1 + 1)) rd _ = _
    rw [wrap_st (st + 1) (by omega)]
  have e6 : stepAE ⟨1048576, F1, false, st + 1, rd, B ++ [⟨nT, [], 0⟩]⟩ = 0 := by unfold stepAE; rw [if_neg h2]
  rw [e5, e6]
  simp only [if_true]
  rw [sv_sync h]
  by_cases h3 : F2 = 1
  · subst h3
    rw [to_one]
    exact .inl ⟨by simp, fun e => by have := g2 e; omega, [⟨nT, m, 0⟩], by simp⟩
  rw [to_more _ _ _ _ _ _ h3, wrap_st (st + 1 + 1) (by omega)]
  obtain ⟨F3, hF3⟩ : ∃ F3 : Int, (if 1 ≤ F2 then F2 - 1 else 0) = F3 := ⟨_, rfl⟩
  have g3 : F = 0 → F3 = 0 := by intro e; rw [← hF3, g2 e]; rfl
  rw [hF3]
  simp only [if_true]
  rw [sv_rename h]
  by_cases h4 : F3 = 1
  · subst h4
    rw [to_one]
    exact .inl ⟨by simp, fun e => by have := g3 e; omega, [⟨nT, m, m.length⟩], by simp⟩
  rw [to_more _ _ _ _ _ _ h4, wrap_st (st + 1 + 1 + 1) (by omega)]
  refine .inr ⟨_, ?_, by rw [show st + 1 + 1 + 1 + 1 = st + 4 from by omega]⟩
  intro e
  rw [g3 e]
  rfl
/-- a disk with one manifest -/
abbrev Sv (st : Int) (l : List Nat) : Ak := ⟨1048576, 0, false, st, 0, [⟨nM, l, l.length⟩]⟩
theorem sv_first (l : List Nat) (h : l.length ≤ 1048576) : saveA (newD 1048576).ab l = (Sv 4 l, 0) := by
  rw [show (newD 1048576).ab = ⟨1048576, 0, false, 0, 0, []⟩ from by simp [Dk.ab, roomI]]
  rcases sv_core (.inl rfl) 0 0 0 l (by simpa [usedA] using h) (by decide) (by decide) with ⟨_, h1, _⟩ | ⟨F2, h1, h2⟩
  · exact absurd rfl h1
  · rw [h2, h1 rfl]
    rfl
theorem sv_second (st : Int) (l m : List Nat) (h : l.length + m.length ≤ 1048576) (hs : 0 ≤ st ∧ st ≤ 90) : saveA (Sv st l) m = (Sv (st + 4) m, 0) := by
  rcases sv_core (B := [⟨nM, l, l.length⟩]) (.inr ⟨l, rfl⟩) 0 st 0 m (by simpa [usedA] using h) (by decide) hs with ⟨_, h1, _⟩ | ⟨F2, h1, h2⟩
  · exact absurd rfl h1
  · rw [h2, h1 rfl]
theorem lose_tail (nm : List UInt8) (x : List Nat) (R : List Fa) (ks : List Int) : ∃ T, loseA (⟨nm, x, x.length⟩ :: R) ks = ⟨nm, x, x.length⟩ :: T := ⟨_, lose_head nm x R ks⟩
/-- behind a loss of power -/
theorem sv_end (n st : Int) (l m : List Nat) (ks : List Int) (h : l.length + m.length ≤ 1048576) (hs : 0 ≤ st ∧ st ≤ 90) :
    ((saveA (fuseA (Sv st l) n) m).2 = 0 ∧ (restartA (saveA (fuseA (Sv st l) n) m).1 ks).off = false ∧ ∃ T, (restartA (saveA (fuseA (Sv st l) n) m).1 ks).fs = ⟨nM, m, m.length⟩ :: T) ∨ ((saveA (fuseA (Sv st l) n) m).2 ≠ 0 ∧ (restartA (saveA (fuseA (Sv st l) n) m).1 ks).off = false ∧ ∃ T, (restartA (saveA (fuseA (Sv st l) n) m).1 ks).fs = ⟨nM, l, l.length⟩ :: T) := by
  obtain ⟨F, hF⟩ : ∃ F : Int, (if n < 0 then 0 else n) = F := ⟨_, rfl⟩
  have hF0 : 0 ≤ F := by rw [← hF]; split <;> omega
  have e4 : fuseA (Sv st l) n = ⟨1048576, F, false, st, 0, [⟨nM, l, l.length⟩]⟩ := by rw [← hF]; rfl
  rw [e4]
  rcases sv_core (B := [⟨nM, l, l.length⟩]) (.inr ⟨l, rfl⟩) F st 0 m (by simpa [usedA] using h) hF0 hs with ⟨h1, _, T, h2⟩ | ⟨F2, _, h2⟩
  · refine .inr ⟨h1, rfl, ?_⟩
    show ∃ T, loseA (saveA ⟨1048576, F, false, st, 0, [⟨nM, l, l.length⟩]⟩ m).1.fs ks = _
    rw [h2]
    exact lose_tail nM l T ks
  · rw [h2]
    exact .inl ⟨rfl, rfl, lose_tail nM m [] ks⟩
theorem keep_end (n st : Int) (l : List Nat) (ks : List Int) : (restartA (fuseA (Sv st l) n) ks).off = false ∧ ∃ T, (restartA (fuseA (Sv st l) n) ks).fs = ⟨nM, l, l.length⟩ :: T := ⟨rfl, lose_tail nM l [] ks⟩
/-- what the manifest's file has -/
theorem size_man {A : Ak} {x : List Nat} {s : Nat} {R : List Fa} (ho : A.off = false) (hf : A.fs = ⟨nM, x, s⟩ :: R) : sizeA A nM = (x.length, 0) ∧ readA A nM 0 (x.length : Int) = ({ A with read := wrap64 (A.read + x.length) }, x, 0) := by
  obtain ⟨r, f, off, st, rd, fs⟩ := A
  simp only at ho hf
  subst ho hf
  have hg : getA (⟨nM, x, s⟩ :: R) nM = some ⟨nM, x, s⟩ := by rw [getA_cons, if_pos rfl]
  refine ⟨?_, ?_⟩
  · unfold sizeA foundA
    rw [hg]
    simp only
    rw [if_neg (by rw [bar_m]; simp)]
  · unfold readA foundA
    rw [hg]
    simp only
    rw [if_neg (by rw [bar_m]; simp), if_neg (show ¬ ((0 : Int) < 0 ∨ (x.length : Int) < 0 ∨ (x.length : Int) < 0 ∨ (x.length : Int) - 0 < x.length) by omega)]
    simp
end Go.Proofs.YtnfkdgjgglnniaaDoor
namespace Go.Proofs.YtnfkdgjgglnniaaDoor
open Go.ChangeShapes Go.WideShapes Go.ChangeAt Go.RowKit
set_option linter.unusedVariables false
section
variable {x : World} {base q b : Nat} {A : Ak} {F : Nat → Prop} (h : DF x base q b A F) (ok : AkOk A)
include h ok
theorem create_M (nm : List UInt8) (hl : nm.length ≤ 281474976710656) : Calls Tryd.prog 18 #[.pointer (some ⟨q, 0, none⟩), .string (bs nm)] x fun r x' => r = .returned (.int .i64 ((createA A nm).2 : Nat)) ∧ DF x' base q b (createA A nm).1 F ∧ (∀ k, F k → x'.heap[k]? = x.heap[k]?) ∧ Below base x x' := by
  obtain ⟨D, hd, rfl, hF⟩ := h
  exact (create_any x base q b D hd ok.dk nm hl).mono (fun r x' hr => ⟨hr.1, hr.2.f hd hF (Below.refl _ _)⟩)
theorem append_M (nm : List UInt8) (hl : nm.length ≤ 281474976710656) (B : Option Addr) (n C : Nat) (l : List Nat) (hln : l.length = n) (hB : Bytes x B l) (hnc : n ≤ C) (hA : B = none → C = 0) (hn : (n : Int) ≤ 281474976710656) : Calls Tryd.prog 20 #[.pointer (some ⟨q, 0, none⟩), .string (bs nm), .slice B n C] x fun r x' => r = .returned (.int .i64 ((appendA A nm l).2 : Nat)) ∧ DF x' base q b (appendA A nm l).1 F ∧ (∀ k, F k → x'.heap[k]? = x.heap[k]?) ∧ Below base x x' := by
  obtain ⟨D, hd, rfl, hF⟩ := h
  exact (append_any x base q b D hd ok.dk nm hl B n C l hln hB hnc hA hn).mono (fun r x' hr => ⟨hr.1, hr.2.f hd hF (Below.refl _ _)⟩)
theorem sync_M (nm : List UInt8) (hl : nm.length ≤ 281474976710656) : Calls Tryd.prog 22 #[.pointer (some ⟨q, 0, none⟩), .string (bs nm)] x fun r x' => r = .returned (.int .i64 ((syncA A nm).2 : Nat)) ∧ DF x' base q b (syncA A nm).1 F ∧ (∀ k, F k → x'.heap[k]? = x.heap[k]?) ∧ Below base x x' := by
  obtain ⟨D, hd, rfl, hF⟩ := h
  exact (sync_any x base q b D hd ok.dk nm hl).mono (fun r x' hr => ⟨hr.1, hr.2.f hd hF (Below.refl _ _)⟩)
theorem rename_M (nm to : List UInt8) (hl : nm.length ≤ 281474976710656) (hl2 : to.length ≤ 281474976710656) : Calls Tryd.prog 24 #[.pointer (some ⟨q, 0, none⟩), .string (bs nm), .string (bs to)] x fun r x' => r = .returned (.int .i64 ((renameA A nm to).2 : Nat)) ∧ DF x' base q b (renameA A nm to).1 F ∧ (∀ k, F k → x'.heap[k]? = x.heap[k]?) ∧ Below base x x' := by
  obtain ⟨D, hd, rfl, hF⟩ := h
  exact (rename_any x base q b D hd ok.dk nm to hl hl2).mono (fun r x' hr => ⟨hr.1, hr.2.f hd hF (Below.refl _ _)⟩)
theorem fuse_M (n : Int) : Calls Tryd.prog 10 #[.pointer (some ⟨q, 0, none⟩), .int .i64 n] x fun r x' => r = .returned (.tuple #[]) ∧ DF x' base q b (fuseA A n) F ∧ (∀ k, F k → x'.heap[k]? = x.heap[k]?) ∧ Below base x x' := by
  obtain ⟨D, hd, rfl, hF⟩ := h
  exact (fuse_any x base q b D hd n).mono (fun r x' hr => ⟨hr.1, hr.2.f hd hF (Below.refl _ _)⟩)
theorem size_M (nm : List UInt8) (hl : nm.length ≤ 281474976710656) : Calls Tryd.prog 30 #[.pointer (some ⟨q, 0, none⟩), .string (bs nm)] x fun r x' => r = .returned (.tuple #[.int .i64 ((sizeA A nm).1 : Nat), .int .i64 ((sizeA A nm).2 : Nat)]) ∧ Below x.heap.size x x' := by
  obtain ⟨D, hd, rfl, hF⟩ := h
  exact dsize_any x base q b D hd ok.dk nm hl
theorem read_M (nm : List UInt8) (hl : nm.length ≤ 281474976710656) (i n : Int) (hi1 : -9223372036854775808 ≤ i) (hi2 : i ≤ 9223372036854775807) (hn1 : -9223372036854775808 ≤ n) (hn2 : n ≤ 9223372036854775807) : Calls Tryd.prog 31 #[.pointer (some ⟨q, 0, none⟩), .string (bs nm), .int .i64 i, .int .i64 n] x fun r x' => ∃ v, r = .returned (.tuple #[v, .int .i64 ((readA A nm i n).2.2 : Nat)]) ∧ Own x' x.heap.size v (readA A nm i n).2.1 ∧ DF x' base q b (readA A nm i n).1 F ∧ (∀ k, F k → x'.heap[k]? = x.heap[k]?) ∧ Below base x x' := by
  obtain ⟨D, hd, rfl, hF⟩ := h
  exact (read_any x base q b D hd ok.dk nm hl i n hi1 hi2 hn1 hn2).mono (fun r x' ⟨v, e, ho, ht⟩ => ⟨v, e, ho, ht.f hd hF (Below.refl _ _)⟩)
theorem restart_M (K : Option Addr) (nk C : Nat) (ks : List Int) (hkn : ks.length = nk) (hks : Ints x K ks) (hty : ∀ g off, K = some ⟨g, off, none⟩ → ks ≠ [] → ∃ c m, x.heap[g]? = some (.cells c 3 m)) (hkl : (nk : Int) ≤ 281474976710656) : Calls Tryd.prog 11 #[.pointer (some ⟨q, 0, none⟩), .slice K nk C] x fun r x' => r = .returned (.tuple #[]) ∧ DF x' base q b (restartA A ks) F ∧ (∀ k, F k → x'.heap[k]? = x.heap[k]?) ∧ Below base x x' := by
  obtain ⟨D, hd, rfl, hF⟩ := h
  refine (restart_any x base q b D hd ok.dk K nk C ks hkn hks (fun g off e hne hob => ?_) hkl).mono (fun r x' hr => ⟨hr.1, hr.2.f hd hF (Below.refl _ _)⟩)
  obtain ⟨c, m, hg⟩ := hty g off e hne
  rcases hob with h1 | h1 | ⟨f, hf, h1⟩
  · subst h1
    have := hd.blk
    rw [hg] at this
    injection this with h2
    injection h2 with _ h3
    cases h3
  · subst h1
    obtain ⟨M, hm, _⟩ := hd.map
    obtain ⟨es, cc, hb⟩ := owns_blkS hm
    rw [hg] at hb
    cases hb
  · obtain ⟨cc, hb⟩ := (hd.dat f hf).typ h1
    rw [hg] at hb
    injection hb with h2
    injection h2 with _ h3
    cases h3
end
end Go.Proofs.YtnfkdgjgglnniaaDoor
