/- simfs: what was synced, in the abstract; calls beside foreign blocks. -/
import Derived.Test.YtlnhhgmdajbepaaPcz
import Derived.Test.YtlnhhgmdajbepaaApb
namespace Go.Proofs.Ytlnhhgmdajbepaa
open Go.ChangeShapes Go.WideShapes Go.ChangeAt Go.RowKit
set_option linter.unusedVariables false
abbrev nL : List UInt8 := [108, 111, 103]
/-- the file holds W first, and W is safe -/
structure Sf (A : Ak) (W : List Nat) : Prop where
  off : A.off = false
  fuse : A.fuse = 0
  fs : ∃ y s, A.fs = [⟨nL, W ++ y, s⟩] ∧ W.length ≤ s
theorem bar_l (r f st rd : Int) (fs : List Fa) : barA ⟨r, f, false, st, rd, fs⟩ [nL] = 0 := by
  show (if false = true then 3 else if [nL].all rightS = true then 0 else 50) = 0
  rw [if_neg (by simp), if_pos (by decide)]
theorem get_l (x : List Nat) (s : Nat) : getA [⟨nL, x, s⟩] nL = some ⟨nL, x, s⟩ := rfl
theorem ins_l (x z : List Nat) (s u : Nat) : insA ⟨nL, z, u⟩ [⟨nL, x, s⟩] = [⟨nL, z, u⟩] := by
  unfold insA
  rw [if_neg (show ¬ nL < nL by decide), if_pos rfl]
theorem Sf.app {A : Ak} {W : List Nat} (h : Sf A W) (l : List Nat) : Sf (appendA A nL l).1 W := by
  obtain ⟨r, f, off, st, rd, fs⟩ := A
  obtain ⟨h1, h2, y, s, h3, h4⟩ := h
  simp only at h1 h2 h3
  subst h1 h2 h3
  unfold appendA foundA
  rw [get_l]
  simp only
  rw [if_neg (by rw [bar_l]; simp)]
  split
  · exact ⟨rfl, rfl, y, s, rfl, h4⟩
  · rw [ins_l]
    refine ⟨?_, ?_, y ++ l, s, by rw [← List.append_assoc], h4⟩
    · show (stepA _).off = false; unfold stepA; rw [if_neg (by simp)]
    · show (stepA _).fuse = 0; unfold stepA; rw [if_neg (by simp)]; rfl
theorem Sf.rest {A : Ak} {W : List Nat} (h : Sf A W) (ks : List Int) : Sf (restartA A ks) W := by
  obtain ⟨y, s, h3, h4⟩ := h.fs
  have key : ∀ k, ∃ y2 s2, lostA ⟨nL, W ++ y, s⟩ k = ⟨nL, W ++ y2, s2⟩ ∧ W.length ≤ s2 := by
    intro k
    have hk : W.length ≤ keepN ⟨nL, W ++ y, s⟩ k := by
      show W.length ≤ s + _
      omega
    refine ⟨y.take (keepN ⟨nL, W ++ y, s⟩ k - W.length), keepN ⟨nL, W ++ y, s⟩ k, ?_, hk⟩
    unfold lostA
    rw [List.take_append, List.take_of_length_le hk]
  refine ⟨rfl, rfl, ?_⟩
  show ∃ y s, loseA A.fs ks = _ ∧ _
  rw [h3]
  cases ks with
  | nil => obtain ⟨y2, s2, e, h5⟩ := key 0; exact ⟨y2, s2, by show lostA _ 0 :: loseA [] [] = _; rw [e]; rfl, h5⟩
  | cons k r => obtain ⟨y2, s2, e, h5⟩ := key k; exact ⟨y2, s2, by show lostA _ k :: loseA [] r = _; rw [e]; cases r <;> rfl, h5⟩
theorem Sf.read {A : Ak} {W : List Nat} (h : Sf A W) : readA A nL 0 (W.length : Int) = ({ A with read := wrap64 (A.read + W.length) }, W, 0) ∧ Sf { A with read := wrap64 (A.read + W.length) } W := by
  refine ⟨?_, h.off, h.fuse, h.fs⟩
  obtain ⟨r, f, off, st, rd, fs⟩ := A
  obtain ⟨h1, h2, y, s, h3, h4⟩ := h
  simp only at h1 h2 h3
  subst h1 h2 h3
  unfold readA foundA
  rw [get_l]
  simp only
  rw [if_neg (by rw [bar_l]; simp), if_neg (by rw [List.length_append]; omega)]
  simp
theorem cr_l : createA (newD 67108864).ab nL = (⟨67108864, 0, false, 1, 0, [⟨nL, [], 0⟩]⟩, 0) := by
  rw [show (newD 67108864).ab = ⟨67108864, 0, false, 0, 0, []⟩ from by simp [Dk.ab, roomI]]
  unfold createA
  rw [if_neg (by rw [bar_l]; simp)]
  simp [getA, stepA, Ak.put, insA, wrap64]
theorem ap_7 : appendA ⟨67108864, 0, false, 1, 0, [⟨nL, [], 0⟩]⟩ nL [7] = (⟨67108864, 0, false, 2, 0, [⟨nL, [7], 0⟩]⟩, 0) := by
  unfold appendA foundA
  rw [get_l]
  simp only
  rw [if_neg (by rw [bar_l]; simp), if_neg (by show ¬ (67108864 - ((0 : Nat) : Int) < ((1 : Nat) : Int)); omega), ins_l]
  simp [stepA, Ak.put, wrap64, stepAE]
theorem ap_fit (l : List Nat) (h : l.length ≤ 67108863) : appendA ⟨67108864, 0, false, 2, 0, [⟨nL, [7], 0⟩]⟩ nL l = (⟨67108864, 0, false, 3, 0, [⟨nL, 7 :: l, 0⟩]⟩, 0) := by
  unfold appendA foundA
  rw [get_l]
  simp only
  rw [if_neg (by rw [bar_l]; simp), if_neg (by show ¬ (67108864 - ((1 : Nat) : Int) < _); omega), ins_l]
  simp [stepA, Ak.put, wrap64, stepAE]
theorem ap_full (l : List Nat) (h : 67108863 < l.length) : appendA ⟨67108864, 0, false, 2, 0, [⟨nL, [7], 0⟩]⟩ nL l = (⟨67108864, 0, false, 2, 0, [⟨nL, [7], 0⟩]⟩, 54) := by
  unfold appendA foundA
  rw [get_l]
  simp only
  rw [if_neg (by rw [bar_l]; simp), if_pos (by show (67108864 - ((1 : Nat) : Int) < _); omega)]
theorem sy_l (x : List Nat) : syncA ⟨67108864, 0, false, 3, 0, [⟨nL, x, 0⟩]⟩ nL = (⟨67108864, 0, false, 4, 0, [⟨nL, x, x.length⟩]⟩, 0) := by
  unfold syncA foundA
  rw [get_l]
  simp only
  rw [if_neg (by rw [bar_l]; simp), ins_l]
  simp [stepTo, stepA, Ak.put, wrap64]
section
variable {x : World} {base q b : Nat} {A : Ak} {F : Nat → Prop} (h : DF x base q b A F) (ok : AkOk A)
include h ok
theorem append_F (nm : List UInt8) (hl : nm.length ≤ 281474976710656) (B : Option Addr) (n C : Nat) (l : List Nat) (hln : l.length = n) (hB : Bytes x B l) (hnc : n ≤ C) (hA : B = none → C = 0) (hn : (n : Int) ≤ 281474976710656) : Calls Try.prog 28 #[.pointer (some ⟨q, 0, none⟩), .string (bs nm), .slice B n C] x fun r x' => r = .returned (.int .i64 ((appendA A nm l).2 : Nat)) ∧ DF x' base q b (appendA A nm l).1 F ∧ (∀ k, F k → x'.heap[k]? = x.heap[k]?) ∧ Below base x x' := by
  obtain ⟨D, hd, rfl, hF⟩ := h
  exact (append_any x base q b D hd ok.dk nm hl B n C l hln hB hnc hA hn).mono (fun r x' hr => ⟨hr.1, hr.2.f hd hF (Below.refl _ _)⟩)
theorem restart_F (K : Option Addr) (nk C : Nat) (ks : List Int) (hkn : ks.length = nk) (hks : Ints x K ks) (hty : ∀ g off, K = some ⟨g, off, none⟩ → ks ≠ [] → ∃ c m, x.heap[g]? = some (.cells c 3 m)) (hkl : (nk : Int) ≤ 281474976710656) : Calls Try.prog 32 #[.pointer (some ⟨q, 0, none⟩), .slice K nk C] x fun r x' => r = .returned (.tuple #[]) ∧ DF x' base q b (restartA A ks) F ∧ (∀ k, F k → x'.heap[k]? = x.heap[k]?) ∧ Below base x x' := by
  obtain ⟨D, hd, rfl, hF⟩ := h
  exact (restart_any x base q b D hd ok.dk K nk C ks hkn hks (not_ob hd hty) hkl).mono (fun r x' hr => ⟨hr.1, hr.2.f hd hF (Below.refl _ _)⟩)
theorem read_F (nm : List UInt8) (hl : nm.length ≤ 281474976710656) (i n : Int) (hi1 : -9223372036854775808 ≤ i) (hi2 : i ≤ 9223372036854775807) (hn1 : -9223372036854775808 ≤ n) (hn2 : n ≤ 9223372036854775807) : Calls Try.prog 33 #[.pointer (some ⟨q, 0, none⟩), .string (bs nm), .int .i64 i, .int .i64 n] x fun r x' => ∃ v, r = .returned (.tuple #[v, .int .i64 ((readA A nm i n).2.2 : Nat)]) ∧ Own x' x.heap.size v (readA A nm i n).2.1 ∧ DF x' base q b (readA A nm i n).1 F ∧ (∀ k, F k → x'.heap[k]? = x.heap[k]?) ∧ Below base x x' := by
  obtain ⟨D, hd, rfl, hF⟩ := h
  exact (read_any x base q b D hd ok.dk nm hl i n hi1 hi2 hn1 hn2).mono (fun r x' ⟨v, e, ho, ht⟩ => ⟨v, e, ho, ht.f hd hF (Below.refl _ _)⟩)
end
theorem bytes_lit1 (x : World) : Bytes (x.alloc (.cells #[.int .u8 7] 5)) (some ⟨x.heap.size, 0, none⟩) [7] := bytes_lit x [7] (fun i => by cases i <;> simp)
theorem own_lit1 (x : World) : (x.alloc (.cells #[.int .u8 7] 5)).ownsRow x.heap.size 5 1 (.slice (some ⟨x.heap.size, 0, none⟩) 1 1) 1 (B8 [7]) := ⟨rfl, .inr ⟨_, 1, _, rfl, Nat.le_refl _, heap_alloc_new x _, Nat.le_refl _, by decide, rfl, rfl⟩⟩
end Go.Proofs.Ytlnhhgmdajbepaa
