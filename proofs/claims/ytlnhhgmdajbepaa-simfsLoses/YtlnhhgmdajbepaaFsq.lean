/- simfs: what a loss of power leaves, row for row. -/
import Derived.Test.YtlnhhgmdajbepaaOpc
import Derived.Test.YtlnhhgmdajbepaaFsv
namespace Go.Proofs.Ytlnhhgmdajbepaa
open Go.ChangeShapes Go.WideShapes Go.ChangeAt Go.RowKit
set_option linter.unusedVariables false
def kAt (ks : List Int) (i : Nat) : Int := (ks[i]?).getD 0
theorem lose_at : ∀ (L : List Fa) (ks : List Int) (i : Nat) (f : Fa), L[i]? = some f → (loseA L ks)[i]? = some (lostA f (kAt ks i))
  | [], ks, i, f, h => by simp at h
  | g :: r, [], 0, f, h => by simp at h; subst h; rfl
  | g :: r, k :: ks, 0, f, h => by simp at h; subst h; rfl
  | g :: r, [], i + 1, f, h => by
    have := lose_at r [] i f (by simpa using h)
    show (lostA g 0 :: loseA r [])[i + 1]? = _
    rw [List.getElem?_cons_succ, this]
    rfl
  | g :: r, k :: ks, i + 1, f, h => by
    have := lose_at r ks i f (by simpa using h)
    show (lostA g k :: loseA r ks)[i + 1]? = _
    rw [List.getElem?_cons_succ, this]
    unfold kAt
    rw [List.getElem?_cons_succ]
theorem lose_n : ∀ (L : List Fa) (ks : List Int), (loseA L ks).length = L.length
  | [], _ => rfl
  | g :: r, [] => by show (loseA r []).length + 1 = _; rw [lose_n r []]; rfl
  | g :: r, k :: ks => by show (loseA r ks).length + 1 = _; rw [lose_n r ks]; rfl
theorem keep_le {f : Fa} (h : f.s ≤ f.l.length) (k : Int) : f.s ≤ keepN f k ∧ keepN f k ≤ f.l.length := by
  unfold keepN
  split <;> omega
theorem lost_lost {f : Fa} (h : f.s ≤ f.l.length) (k : Int) : lostA (lostA f k) 0 = lostA f k := by
  have h1 := (keep_le h k).2
  have h2 : keepN (lostA f k) 0 = keepN f k := by
    show keepN f k + (if (0 : Int) < 0 then 0 else min (0 : Int).toNat _) = keepN f k
    rw [if_neg (by omega)]
    simp
  unfold lostA at h2 ⊢
  rw [h2]
  simp only
  rw [List.take_take, Nat.min_self]
theorem lose_lose : ∀ (L : List Fa) (ks : List Int), (∀ f ∈ L, f.s ≤ f.l.length) → loseA (loseA L ks) [] = loseA L ks
  | [], _, _ => rfl
  | g :: r, [], h => by
    show lostA (lostA g 0) 0 :: loseA (loseA r []) [] = lostA g 0 :: loseA r []
    rw [lost_lost (h g List.mem_cons_self), lose_lose r [] (fun f hf => h f (List.mem_cons_of_mem _ hf))]
  | g :: r, k :: ks, h => by
    show lostA (lostA g k) 0 :: loseA (loseA r ks) [] = lostA g k :: loseA r ks
    rw [lost_lost (h g List.mem_cons_self), lose_lose r ks (fun f hf => h f (List.mem_cons_of_mem _ hf))]
theorem rest_idem {A : Ak} (h : AkOk A) (ks : List Int) : (restartA (restartA A ks) []).fs = (restartA A ks).fs := lose_lose A.fs ks h.safe
theorem mem_used {A : Ak} (h : AkOk A) {f : Fa} (hf : f ∈ A.fs) : f.l.length ≤ 67108864 := by
  have hu : f.l.length ≤ usedA A.fs := by
    obtain ⟨s1, s2, he⟩ := List.append_of_mem hf
    rw [he, used_app, usedA_cons]; omega
  have h1 := h.used
  have h2 := h.room
  omega
end Go.Proofs.Ytlnhhgmdajbepaa
