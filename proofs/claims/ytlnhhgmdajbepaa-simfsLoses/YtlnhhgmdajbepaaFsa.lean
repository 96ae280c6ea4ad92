/- A disk in the abstract, without memory: what each call makes of it. -/
import Derived.Test.YtlnhhgmdajbepaaFs9
namespace Go.Proofs.Ytlnhhgmdajbepaa
open Go.ChangeShapes Go.WideShapes Go.ChangeAt Go.RowKit
set_option linter.unusedVariables false
/-- a file, without memory -/
structure Fa where
  name : List UInt8
  l : List Nat
  s : Nat
def Fi.ab (f : Fi) : Fa := ⟨f.name, f.l, f.s⟩
/-- a disk, without memory -/
structure Ak where
  room : Int
  fuse : Int
  off : Bool
  steps : Int
  read : Int
  fs : List Fa
def Dk.ab (D : Dk) : Ak := ⟨D.room, D.fuse, D.off, D.steps, D.read, D.fs.map Fi.ab⟩
def getA (L : List Fa) (t : List UInt8) : Option Fa := L.find? (fun f => f.name == t)
def delA (L : List Fa) (t : List UInt8) : List Fa := L.filter (fun f => !(f.name == t))
def insA (f : Fa) : List Fa → List Fa
  | [] => [f]
  | g :: r => if f.name < g.name then f :: g :: r else if f.name = g.name then f :: r else g :: insA f r
abbrev SortA (L : List Fa) : Prop := L.Pairwise (fun f g => f.name < g.name)
def usedA (L : List Fa) : Nat := (L.map (fun f => f.l.length)).sum
theorem getA_cons (g : Fa) (r : List Fa) (t : List UInt8) : getA (g :: r) t = if g.name = t then some g else getA r t := by
  unfold getA
  rw [List.find?_cons]
  by_cases h : g.name = t
  · have h1 : (g.name == t) = true := by simpa using h
    rw [h1, if_pos h]
  · have h1 : (g.name == t) = false := by simpa using h
    rw [h1, if_neg h]
theorem get_ab (t : List UInt8) : ∀ L : List Fi, getA (L.map Fi.ab) t = (getN L t).map Fi.ab
  | [] => rfl
  | g :: r => by
    rw [List.map_cons, getA_cons, getN_cons, get_ab t r]
    show (if g.name = t then _ else _) = _
    split <;> rfl
theorem ins_ab (f : Fi) : ∀ L : List Fi, (insN f L).map Fi.ab = insA f.ab (L.map Fi.ab)
  | [] => rfl
  | g :: r => by
    rw [List.map_cons]
    unfold insN insA
    show List.map Fi.ab (if f.name < g.name then _ else if f.name = g.name then _ else _) = if f.name < g.name then _ else if f.name = g.name then _ else _
    split
    · rfl
    · split
      · rfl
      · rw [List.map_cons, ins_ab f r]
theorem del_ab (t : List UInt8) : ∀ L : List Fi, (delN L t).map Fi.ab = delA (L.map Fi.ab) t
  | [] => rfl
  | g :: r => by
    have ih := del_ab t r
    unfold delN delA at ih ⊢
    rw [List.map_cons, List.filter_cons, List.filter_cons]
    show List.map Fi.ab (if (!(g.name == t)) = true then _ else _) = if (!(g.name == t)) = true then _ else _
    split
    · rw [List.map_cons, ih]
    · exact ih
theorem used_ab (L : List Fi) : usedA (L.map Fi.ab) = usedN L := by
  unfold usedA usedN
  rw [List.map_map]
  rfl
theorem sort_ab (L : List Fi) : SortA (L.map Fi.ab) ↔ SortN L := by
  unfold SortA SortN
  rw [List.pairwise_map]
  exact Iff.rfl
def barA (A : Ak) (Ls : List (List UInt8)) : Nat := if A.off = true then 3 else if Ls.all rightS = true then 0 else 50
def findA (A : Ak) (nm : List UInt8) : Nat := if barA A [nm] ≠ 0 then barA A [nm] else if (getA A.fs nm).isSome = true then 0 else 51
theorem bar_ab (D : Dk) (Ls : List (List UInt8)) : barA D.ab Ls = barE D Ls := rfl
theorem find_ab (D : Dk) (nm : List UInt8) : findA D.ab nm = findE D nm := by
  unfold findA findE
  rw [bar_ab]
  show (if _ then _ else if (getA (D.fs.map Fi.ab) nm).isSome = true then 0 else 51) = _
  rw [get_ab, Option.isSome_map]
def stepA (A : Ak) : Ak := if A.fuse = 1 then { A with off := true, fuse := 0 } else { A with off := false, fuse := (if 1 ≤ A.fuse then A.fuse - 1 else 0), steps := wrap64 (A.steps + 1) }
def stepAE (A : Ak) : Nat := if A.fuse = 1 then 3 else 0
theorem step_ab (D : Dk) : stepA D.ab = (stepD D).ab := by
  unfold stepA stepD
  show (if D.fuse = 1 then _ else _) = _
  split <;> rfl
theorem stepE_ab (D : Dk) : stepAE D.ab = stepE D := rfl
/-- a disk with other files -/
abbrev Ak.put (A : Ak) (L : List Fa) : Ak := { A with fs := L }
/-- a call that gives one name of a file that must be there; X: what it makes of the files, behind a step -/
def createA (A : Ak) (nm : List UInt8) : Ak × Nat :=
  if barA A [nm] ≠ 0 then (A, barA A [nm]) else if (getA A.fs nm).isSome = true then (A, 52) else if 700 ≤ A.fs.length then (A, 53) else if A.fuse = 1 then (stepA A, 3) else ((stepA A).put (insA ⟨nm, [], 0⟩ A.fs), 0)
def stepTo (A : Ak) (L : List Fa) : Ak × Nat := if A.fuse = 1 then (stepA A, 3) else ((stepA A).put L, 0)
/-- 'find', and then what X says of the file that is there -/
def foundA {R : Type} (A : Ak) (nm : List UInt8) (bad : Nat → R) (X : Fa → R) : R :=
  match getA A.fs nm with
  | some f => if barA A [nm] ≠ 0 then bad (barA A [nm]) else X f
  | none => bad (findA A nm)
def appendA (A : Ak) (nm : List UInt8) (l : List Nat) : Ak × Nat :=
  foundA A nm (fun e => (A, e)) fun f => if A.room - (usedA A.fs : Nat) < (l.length : Int) then (A, 54) else ((stepA A).put (insA ⟨f.name, f.l ++ l, f.s⟩ A.fs), stepAE A)
def syncA (A : Ak) (nm : List UInt8) : Ak × Nat :=
  foundA A nm (fun e => (A, e)) fun f => stepTo A (insA ⟨f.name, f.l, f.l.length⟩ A.fs)
def renameA (A : Ak) (nm to : List UInt8) : Ak × Nat :=
  if barA A [nm, to] ≠ 0 then (A, barA A [nm, to]) else foundA A nm (fun e => (A, e)) fun f => stepTo A (insA ⟨to, f.l, f.s⟩ (delA A.fs nm))
def removeA (A : Ak) (nm : List UInt8) : Ak × Nat :=
  foundA A nm (fun e => (A, e)) fun f => stepTo A (delA A.fs nm)
def cutA (A : Ak) (nm : List UInt8) (n : Int) : Ak × Nat :=
  foundA A nm (fun e => (A, e)) fun f => if n < 0 ∨ (f.l.length : Int) < n then (A, 1) else stepTo A (insA ⟨f.name, f.l.take n.toNat, min f.s n.toNat⟩ A.fs)
def readA (A : Ak) (nm : List UInt8) (i n : Int) : Ak × List Nat × Nat :=
  foundA A nm (fun e => (A, [], e)) fun f => if i < 0 ∨ n < 0 ∨ (f.l.length : Int) < i ∨ (f.l.length : Int) - i < n then (A, [], 1) else ({ A with read := wrap64 (A.read + n) }, (f.l.drop i.toNat).take n.toNat, 0)
def sizeA (A : Ak) (nm : List UInt8) : Nat × Nat := foundA A nm (fun e => (0, e)) fun f => (f.l.length, 0)
def fuseA (A : Ak) (n : Int) : Ak := { A with fuse := if n < 0 then 0 else n }
/-- how many of a file's bytes outlive a loss of power -/
def keepN (f : Fa) (k : Int) : Nat := f.s + (if k < 0 then 0 else min k.toNat (f.l.length - f.s))
def lostA (f : Fa) (k : Int) : Fa := ⟨f.name, f.l.take (keepN f k), keepN f k⟩
def loseA : List Fa → List Int → List Fa
  | [], _ => []
  | f :: r, [] => lostA f 0 :: loseA r []
  | f :: r, k :: ks => lostA f k :: loseA r ks
def restartA (A : Ak) (ks : List Int) : Ak := { A with off := false, fuse := 0, fs := loseA A.fs ks }
/-- what a disk's numbers keep to -/
structure AkOk (A : Ak) : Prop where
  room : 0 ≤ A.room ∧ A.room ≤ 67108864
  used : (usedA A.fs : Int) ≤ A.room
  fuse : 0 ≤ A.fuse ∧ A.fuse ≤ 9223372036854775807
  steps : -9223372036854775808 ≤ A.steps ∧ A.steps ≤ 9223372036854775807
  read : -9223372036854775808 ≤ A.read ∧ A.read ≤ 9223372036854775807
  few : A.fs.length ≤ 700
  name : ∀ f ∈ A.fs, f.name.length ≤ 24
  safe : ∀ f ∈ A.fs, f.s ≤ f.l.length
  sort : SortA A.fs
theorem AkOk.dk {D : Dk} (h : AkOk D.ab) : DkOk D :=
  ⟨h.room, by have := h.used; rw [show usedA D.ab.fs = usedN D.fs from used_ab D.fs] at this; exact this, h.fuse, h.steps, h.read, by have := h.few; rw [show D.ab.fs.length = D.fs.length from List.length_map _] at this; exact this,
    fun f hf => h.name f.ab (List.mem_map_of_mem hf), fun f hf => h.safe f.ab (List.mem_map_of_mem hf)⟩
theorem getA_mem {L : List Fa} {t : List UInt8} {f : Fa} (h : getA L t = some f) : f ∈ L ∧ f.name = t := by
  unfold getA at h
  exact ⟨List.mem_of_find?_eq_some h, by simpa using List.find?_some h⟩
theorem getA_none {L : List Fa} {t : List UInt8} : getA L t = none ↔ ∀ f ∈ L, f.name ≠ t := by
  unfold getA
  rw [List.find?_eq_none]
  simp
theorem mem_insA {f g : Fa} : ∀ {L : List Fa}, g ∈ insA f L → g = f ∨ g ∈ L
  | [], h => by unfold insA at h; exact .inl (List.mem_singleton.1 h)
  | x :: r, h => by
    unfold insA at h
    split at h
    · rcases List.mem_cons.1 h with h1 | h1
      · exact .inl h1
      · exact .inr h1
    · split at h
      · rcases List.mem_cons.1 h with h1 | h1
        · exact .inl h1
        · exact .inr (List.mem_cons_of_mem _ h1)
      · rcases List.mem_cons.1 h with h1 | h1
        · exact .inr (by rw [h1]; exact List.mem_cons_self ..)
        · rcases mem_insA h1 with h2 | h2
          · exact .inl h2
          · exact .inr (List.mem_cons_of_mem _ h2)
theorem insA_sorted (f : Fa) : ∀ {L : List Fa}, SortA L → SortA (insA f L)
  | [], _ => by unfold insA; exact List.pairwise_singleton _ _
  | g :: r, h => by
    obtain ⟨h1, h2⟩ := List.pairwise_cons.1 h
    unfold insA
    by_cases e1 : f.name < g.name
    · rw [if_pos e1]
      exact List.pairwise_cons.2 ⟨fun x hx => by rcases List.mem_cons.1 hx with h3 | h3; rw [h3]; exact e1; exact lt_tr e1 (h1 x h3), h⟩
    · rw [if_neg e1]
      by_cases e2 : f.name = g.name
      · rw [if_pos e2]
        exact List.pairwise_cons.2 ⟨fun x hx => by rw [e2]; exact h1 x hx, h2⟩
      · rw [if_neg e2]
        refine List.pairwise_cons.2 ⟨fun x hx => ?_, insA_sorted f h2⟩
        rcases mem_insA hx with h3 | h3
        · rw [h3]; exact lt_tot e1 e2
        · exact h1 x h3
theorem usedA_cons (f : Fa) (r : List Fa) : usedA (f :: r) = f.l.length + usedA r := by unfold usedA; simp
/-- the room that a file under that name has now -/
def oldA (L : List Fa) (t : List UInt8) : Nat := match getA L t with | some f => f.l.length | none => 0
theorem oldA_none {L : List Fa} {t : List UInt8} (h : getA L t = none) : oldA L t = 0 := by unfold oldA; rw [h]
theorem oldA_some {L : List Fa} {t : List UInt8} {f : Fa} (h : getA L t = some f) : oldA L t = f.l.length := by unfold oldA; rw [h]
theorem getA_low {f : Fa} {L : List Fa} (h : ∀ g ∈ L, f.name < g.name) : getA L f.name = none :=
  getA_none.2 (fun g hg e => by have := h g hg; rw [e] at this; exact lt_irr _ this)
theorem usedA_ins (f : Fa) : ∀ {L : List Fa}, SortA L → usedA (insA f L) + oldA L f.name = usedA L + f.l.length
  | [], _ => by unfold insA; rw [oldA_none rfl, usedA_cons]; unfold usedA; simp
  | g :: r, h => by
    obtain ⟨h1, h2⟩ := List.pairwise_cons.1 h
    unfold insA
    by_cases e1 : f.name < g.name
    · have hn : getA (g :: r) f.name = none := getA_low (fun x hx => by rcases List.mem_cons.1 hx with h3 | h3; rw [h3]; exact e1; exact lt_tr e1 (h1 x h3))
      rw [if_pos e1, oldA_none hn, usedA_cons]; omega
    · rw [if_neg e1]
      by_cases e2 : f.name = g.name
      · have hg : getA (g :: r) f.name = some g := by rw [getA_cons, if_pos e2.symm]
        rw [if_pos e2, oldA_some hg, usedA_cons, usedA_cons]; omega
      · have hg : oldA (g :: r) f.name = oldA r f.name := by unfold oldA; rw [getA_cons, if_neg (fun e => e2 e.symm)]
        have ih := usedA_ins f h2
        rw [if_neg e2, hg, usedA_cons, usedA_cons]; omega
theorem usedA_del (t : List UInt8) : ∀ {L : List Fa}, SortA L → usedA (delA L t) + oldA L t = usedA L
  | [], _ => rfl
  | g :: r, h => by
    obtain ⟨h1, h2⟩ := List.pairwise_cons.1 h
    have ih := usedA_del t h2
    by_cases e : g.name = t
    · have hg : getA (g :: r) t = some g := by rw [getA_cons, if_pos e]
      have hn : getA r t = none := by rw [← e]; exact getA_low h1
      have hd : delA (g :: r) t = delA r t := by unfold delA; rw [List.filter_cons, if_neg (by simp [e])]
      rw [oldA_none hn] at ih
      rw [oldA_some hg, hd, usedA_cons]; omega
    · have hg : oldA (g :: r) t = oldA r t := by unfold oldA; rw [getA_cons, if_neg e]
      have hd : delA (g :: r) t = g :: delA r t := by unfold delA; rw [List.filter_cons, if_pos (by simp [e])]
      rw [hg, hd, usedA_cons, usedA_cons]; omega
theorem lenA_ins (f : Fa) : ∀ {L : List Fa}, (insA f L).length ≤ L.length + 1
  | [] => by unfold insA; simp
  | g :: r => by
    have := lenA_ins f (L := r)
    unfold insA
    split
    · simp
    · split
      · simp
      · simp; omega
theorem lenA_ins_old {f : Fa} : ∀ {L : List Fa}, SortA L → (getA L f.name).isSome = true → (insA f L).length = L.length
  | [], _, h => by cases h
  | g :: r, hs, h => by
    obtain ⟨h1, h2⟩ := List.pairwise_cons.1 hs
    unfold insA
    by_cases e1 : f.name < g.name
    · have hn : getA (g :: r) f.name = none := getA_low (fun x hx => by rcases List.mem_cons.1 hx with h3 | h3; rw [h3]; exact e1; exact lt_tr e1 (h1 x h3))
      rw [hn] at h; cases h
    · rw [if_neg e1]
      by_cases e2 : f.name = g.name
      · rw [if_pos e2]; rfl
      · rw [getA_cons, if_neg (fun e => e2 e.symm)] at h
        rw [if_neg e2, List.length_cons, List.length_cons, lenA_ins_old h2 h]
theorem lenA_del_old {t : List UInt8} : ∀ {L : List Fa}, (getA L t).isSome = true → (delA L t).length + 1 ≤ L.length
  | [], h => by cases h
  | g :: r, h => by
    by_cases e : g.name = t
    · have hd : delA (g :: r) t = delA r t := by unfold delA; rw [List.filter_cons, if_neg (by simp [e])]
      have : (delA r t).length ≤ r.length := by unfold delA; exact List.length_filter_le ..
      rw [hd, List.length_cons]; omega
    · have hd : delA (g :: r) t = g :: delA r t := by unfold delA; rw [List.filter_cons, if_pos (by simp [e])]
      rw [getA_cons, if_neg e] at h
      have := lenA_del_old h
      rw [hd, List.length_cons, List.length_cons]; omega
theorem delA_sorted {t : List UInt8} {L : List Fa} (h : SortA L) : SortA (delA L t) := h.sublist List.filter_sublist
theorem delA_mem {t : List UInt8} {L : List Fa} {g : Fa} (h : g ∈ delA L t) : g ∈ L ∧ g.name ≠ t := by
  unfold delA at h
  have := List.mem_filter.1 h
  exact ⟨this.1, by simpa using this.2⟩
theorem oldA_get_le (L : List Fa) (t : List UInt8) : oldA L t ≤ usedA L := by
  induction L with
  | nil => exact Nat.zero_le _
  | cons g r ih =>
    rw [usedA_cons]
    by_cases e : g.name = t
    · rw [oldA_some (by rw [getA_cons, if_pos e])]; omega
    · have hg : oldA (g :: r) t = oldA r t := by unfold oldA; rw [getA_cons, if_neg e]
      rw [hg]; omega
theorem wrap_rg (x : Int) : -9223372036854775808 ≤ wrap64 x ∧ wrap64 x ≤ 9223372036854775807 := by unfold wrap64; omega
theorem stepA_ok {A : Ak} (h : AkOk A) : AkOk (stepA A) := by
  have hf := h.fuse
  have hw := wrap_rg (A.steps + 1)
  unfold stepA
  split
  · exact ⟨h.room, h.used, ⟨by simp, by simp⟩, h.steps, h.read, h.few, h.name, h.safe, h.sort⟩
  · exact ⟨h.room, h.used, ⟨by simp only; split <;> omega, by simp only; split <;> omega⟩, hw, h.read, h.few, h.name, h.safe, h.sort⟩
theorem stepA_fs (A : Ak) : (stepA A).fs = A.fs := by unfold stepA; split <;> rfl
theorem stepA_room (A : Ak) : (stepA A).room = A.room := by unfold stepA; split <;> rfl
theorem AkOk.put {A : Ak} (h : AkOk A) {L : List Fa} (hu : (usedA L : Int) ≤ A.room) (hf : L.length ≤ 700) (hn : ∀ f ∈ L, f.name.length ≤ 24) (hs : ∀ f ∈ L, f.s ≤ f.l.length) (ho : SortA L) : AkOk (A.put L) := ⟨h.room, hu, h.fuse, h.steps, h.read, hf, hn, hs, ho⟩
theorem AkOk.ins {A : Ak} (h : AkOk A) {f : Fa} (hn : f.name.length ≤ 24) (hs : f.s ≤ f.l.length) (hu : (usedA A.fs : Int) + f.l.length ≤ A.room + oldA A.fs f.name) (hl : (insA f A.fs).length ≤ 700) : AkOk (A.put (insA f A.fs)) := by
  refine h.put ?_ hl (fun g hg => ?_) (fun g hg => ?_) (insA_sorted f h.sort)
  · have := usedA_ins f h.sort; omega
  · rcases mem_insA hg with h1 | h1
    · rw [h1]; exact hn
    · exact h.name g h1
  · rcases mem_insA hg with h1 | h1
    · rw [h1]; exact hs
    · exact h.safe g h1
theorem AkOk.step_ins {A : Ak} (h : AkOk A) {f : Fa} (hn : f.name.length ≤ 24) (hs : f.s ≤ f.l.length) (hu : (usedA A.fs : Int) + f.l.length ≤ A.room + oldA A.fs f.name) (hl : (insA f A.fs).length ≤ 700) : AkOk ((stepA A).put (insA f A.fs)) := by
  have h1 := (stepA_ok h).ins (f := f) hn hs (by rw [stepA_fs, stepA_room]; exact hu) (by rw [stepA_fs]; exact hl)
  rw [stepA_fs] at h1
  exact h1
theorem AkOk.del {A : Ak} (h : AkOk A) (t : List UInt8) : AkOk (A.put (delA A.fs t)) := by
  refine h.put ?_ ?_ (fun g hg => h.name g (delA_mem hg).1) (fun g hg => h.safe g (delA_mem hg).1) (delA_sorted h.sort)
  · have := usedA_del t h.sort; have := h.used; omega
  · have : (delA A.fs t).length ≤ A.fs.length := by unfold delA; exact List.length_filter_le ..
    have := h.few; omega
theorem AkOk.step_del {A : Ak} (h : AkOk A) (t : List UInt8) : AkOk ((stepA A).put (delA A.fs t)) := by
  have h1 := (stepA_ok h).del t
  rw [stepA_fs] at h1
  exact h1
theorem right_len {nm : List UInt8} (h : rightS nm = true) : nm.length ≤ 24 := by
  unfold rightS at h
  exact (of_decide_eq_true h).2.1
theorem bar_right {A : Ak} {Ls : List (List UInt8)} (h : barA A Ls = 0) : A.off = false ∧ ∀ x ∈ Ls, rightS x = true := by
  unfold barA at h
  split at h
  · cases h
  · rename_i h1
    split at h
    · rename_i h2
      exact ⟨by simpa using h1, List.all_eq_true.1 h2⟩
    · cases h
end Go.Proofs.Ytlnhhgmdajbepaa
