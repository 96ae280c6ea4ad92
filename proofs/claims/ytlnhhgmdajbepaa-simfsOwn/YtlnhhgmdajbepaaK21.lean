/- Own texts, joined: Fsv, Fsq, Rfa, Fst. -/
import Derived.Test.YtlnhhgmdajbepaaK20
import Derived.Test.YtlnhhgmdajbepaaK01
import Derived.Test.YtlnhhgmdajbepaaK02
namespace Go.Proofs.Ytlnhhgmdajbepaa
open Go.ChangeShapes Go.WideShapes Go.ChangeAt Go.RowKit
set_option linter.unusedVariables false
abbrev nL : List UInt8 := [108, 111, 103]
/-- the file holds W first, and W is safe -/
structure Sf (A : Ak) (W : List Nat) : Prop where
  off : A.off = false
  fuse : A.fuse = 0
  fs : ∃ y s, A.fs = [⟨nL, W ++ y, s⟩] ∧ W.length ≤ s
theorem bar_l (r f st rd : Int) (fs : List Fa) : barA ⟨r, f, false, st, rd, fs⟩ [nL] = 0 := by
  show (if false = true then 3 else if [nL].all rightS = true then 0 else 50) = 0
  rw [if_neg (by simp), if_pos (by decide)]
theorem get_l (x : List Nat) (s : Nat) : getA [⟨nL, x, s⟩] nL = some ⟨nL, x, s⟩ := rfl
theorem ins_l (x z : List Nat) (s u : Nat) : insA ⟨nL, z, u⟩ [⟨nL, x, s⟩] = [⟨nL, z, u⟩] := by
  unfold insA
  rw [if_neg (show ¬ nL < nL by decide), if_pos rfl]
theorem Sf.app {A : Ak} {W : List Nat} (h : Sf A W) (l : List Nat) : Sf (appendA A nL l).1 W := by
  obtain ⟨r, f, off, st, rd, fs⟩ := A
  obtain ⟨h1, h2, y, s, h3, h4⟩ := h
  simp only at h1 h2 h3
  subst h1 h2 h3
  unfold appendA foundA
  rw [get_l]
  simp only
  rw [if_neg (by rw [bar_l]; simp)]
  split
  · exact ⟨rfl, rfl, y, s, rfl, h4⟩
  · rw [ins_l]
    refine ⟨?_, ?_, y ++ l, s, by rw [← List.append_assoc], h4⟩
    · show (stepA _).off = false; unfold stepA; rw [if_neg (by simp)]
    · show (stepA _).fuse = 0; unfold stepA; rw [if_neg (by simp)]; rfl
theorem Sf.rest {A : Ak} {W : List Nat} (h : Sf A W) (ks : List Int) : Sf (restartA A ks) W := by
  obtain ⟨y, s, h3, h4⟩ := h.fs
  have key : ∀ k, ∃ y2 s2, lostA ⟨nL, W ++ y, s⟩ k = ⟨nL, W ++ y2, s2⟩ ∧ W.length ≤ s2 := by
    intro k
    have hk : W.length ≤ keepN ⟨nL, W ++ y, s⟩ k := by
      show W.length ≤ s + _
      omega
    refine ⟨y.take (keepN ⟨nL, W ++ y, s⟩ k - W.length), keepN ⟨nL, W ++ y, s⟩ k, ?_, hk⟩
    unfold lostA
    rw [List.take_append, List.take_of_length_le hk]
  refine ⟨rfl, rfl, ?_⟩
  show ∃ y s, loseA A.fs ks = _ ∧ _
  rw [h3]
  cases ks with
  | nil => obtain ⟨y2, s2, e, h5⟩ := key 0; exact ⟨y2, s2, by show lostA _ 0 :: loseA [] [] = _; rw [e]; rfl, h5⟩
  | cons k r => obtain ⟨y2, s2, e, h5⟩ := key k; exact ⟨y2, s2, by show lostA _ k :: loseA [] r = _; rw [e]; cases r <;> rfl, h5⟩
theorem Sf.read {A : Ak} {W : List Nat} (h : Sf A W) : readA A nL 0 (W.length : Int) = ({ A with read := wrap64 (A.read + W.length) }, W, 0) ∧ Sf { A with read := wrap64 (A.read + W.length) } W := by
  refine ⟨?_, h.off, h.fuse, h.fs⟩
  obtain ⟨r, f, off, st, rd, fs⟩ := A
  obtain ⟨h1, h2, y, s, h3, h4⟩ := h
  simp only at h1 h2 h3
  subst h1 h2 h3
  unfold readA foundA
  rw [get_l]
  simp only
  rw [if_neg (by rw [bar_l]; simp), if_neg (by rw [List.length_append]; omega)]
  simp
theorem cr_l : createA (newD 67108864).ab nL = (⟨67108864, 0, false, 1, 0, [⟨nL, [], 0⟩]⟩, 0) := by
  rw [show (newD 67108864).ab = ⟨67108864, 0, false, 0, 0, []⟩ from by simp [Dk.ab, roomI]]
  unfold createA
  rw [if_neg (by rw [bar_l]; simp)]
  simp [getA, stepA, Ak.put, insA, wrap64]
theorem ap_7 : appendA ⟨67108864, 0, false, 1, 0, [⟨nL, [], 0⟩]⟩ nL [7] = (⟨67108864, 0, false, 2, 0, [⟨nL, [7], 0⟩]⟩, 0) := by
  unfold appendA foundA
  rw [get_l]
  simp only
  rw [if_neg (by rw [bar_l]; simp), if_neg (by show ¬ (67108864 - ((0 : Nat) : Int) < ((1 : Nat) : Int)); omega), ins_l]
  simp [stepA, Ak.put, wrap64, stepAE]
theorem ap_fit (l : List Nat) (h : l.length ≤ 67108863) : appendA ⟨67108864, 0, false, 2, 0, [⟨nL, [7], 0⟩]⟩ nL l = (⟨67108864, 0, false, 3, 0, [⟨nL, 7 :: l, 0⟩]⟩, 0) := by
  unfold appendA foundA
  rw [get_l]
  simp only
  rw [if_neg (by rw [bar_l]; simp), if_neg (by show ¬ (67108864 - ((1 : Nat) : Int) < _); omega), ins_l]
  simp [stepA, Ak.put, wrap64, stepAE]
theorem ap_full (l : List Nat) (h : 67108863 < l.length) : appendA ⟨67108864, 0, false, 2, 0, [⟨nL, [7], 0⟩]⟩ nL l = (⟨67108864, 0, false, 2, 0, [⟨nL, [7], 0⟩]⟩, 54) := by
  unfold appendA foundA
  rw [get_l]
  simp only
  rw [if_neg (by rw [bar_l]; simp), if_pos (by show (67108864 - ((1 : Nat) : Int) < _); omega)]
theorem sy_l (x : List Nat) : syncA ⟨67108864, 0, false, 3, 0, [⟨nL, x, 0⟩]⟩ nL = (⟨67108864, 0, false, 4, 0, [⟨nL, x, x.length⟩]⟩, 0) := by
  unfold syncA foundA
  rw [get_l]
  simp only
  rw [if_neg (by rw [bar_l]; simp), ins_l]
  simp [stepTo, stepA, Ak.put, wrap64]
section
variable {x : World} {base q b : Nat} {A : Ak} {F : Nat → Prop} (h : DF x base q b A F) (ok : AkOk A)
include h ok
theorem append_F (nm : List UInt8) (hl : nm.length ≤ 281474976710656) (B : Option Addr) (n C : Nat) (l : List Nat) (hln : l.length = n) (hB : Bytes x B l) (hnc : n ≤ C) (hA : B = none → C = 0) (hn : (n : Int) ≤ 281474976710656) : Calls Try.prog 28 #[.pointer (some ⟨q, 0, none⟩), .string (bs nm), .slice B n C] x fun r x' => r = .returned (.int .i64 ((appendA A nm l).2 : Nat)) ∧ DF x' base q b (appendA A nm l).1 F ∧ (∀ k, F k → x'.heap[k]? = x.heap[k]?) ∧ Below base x x' := by
  obtain ⟨D, hd, rfl, hF⟩ := h
  exact (append_any x base q b D hd ok.dk nm hl B n C l hln hB hnc hA hn).mono (fun r x' hr => ⟨hr.1, hr.2.f hd hF (Below.refl _ _)⟩)
theorem restart_F (K : Option Addr) (nk C : Nat) (ks : List Int) (hkn : ks.length = nk) (hks : Ints x K ks) (hty : ∀ g off, K = some ⟨g, off, none⟩ → ks ≠ [] → ∃ c m, x.heap[g]? = some (.cells c 3 m)) (hkl : (nk : Int) ≤ 281474976710656) : Calls Try.prog 32 #[.pointer (some ⟨q, 0, none⟩), .slice K nk C] x fun r x' => r = .returned (.tuple #[]) ∧ DF x' base q b (restartA A ks) F ∧ (∀ k, F k → x'.heap[k]? = x.heap[k]?) ∧ Below base x x' := by
  obtain ⟨D, hd, rfl, hF⟩ := h
  exact (restart_any x base q b D hd ok.dk K nk C ks hkn hks (not_ob hd hty) hkl).mono (fun r x' hr => ⟨hr.1, hr.2.f hd hF (Below.refl _ _)⟩)
theorem read_F (nm : List UInt8) (hl : nm.length ≤ 281474976710656) (i n : Int) (hi1 : -9223372036854775808 ≤ i) (hi2 : i ≤ 9223372036854775807) (hn1 : -9223372036854775808 ≤ n) (hn2 : n ≤ 9223372036854775807) : Calls Try.prog 33 #[.pointer (some ⟨q, 0, none⟩), .string (bs nm), .int .i64 i, .int .i64 n] x fun r x' => ∃ v, r = .returned (.tuple #[v, .int .i64 ((readA A nm i n).2.2 : Nat)]) ∧ Own x' x.heap.size v (readA A nm i n).2.1 ∧ DF x' base q b (readA A nm i n).1 F ∧ (∀ k, F k → x'.heap[k]? = x.heap[k]?) ∧ Below base x x' := by
  obtain ⟨D, hd, rfl, hF⟩ := h
  exact (read_any x base q b D hd ok.dk nm hl i n hi1 hi2 hn1 hn2).mono (fun r x' ⟨v, e, ho, ht⟩ => ⟨v, e, ho, ht.f hd hF (Below.refl _ _)⟩)
end
theorem bytes_lit1 (x : World) : Bytes (x.alloc (.cells #[.int .u8 7] 5)) (some ⟨x.heap.size, 0, none⟩) [7] := bytes_lit x [7] (fun i => by cases i <;> simp)
theorem own_lit1 (x : World) : (x.alloc (.cells #[.int .u8 7] 5)).ownsRow x.heap.size 5 1 (.slice (some ⟨x.heap.size, 0, none⟩) 1 1) 1 (B8 [7]) := ⟨rfl, .inr ⟨_, 1, _, rfl, Nat.le_refl _, heap_alloc_new x _, Nat.le_refl _, by decide, rfl, rfl⟩⟩
end Go.Proofs.Ytlnhhgmdajbepaa
namespace Go.Proofs.Ytlnhhgmdajbepaa
open Go.ChangeShapes Go.WideShapes Go.ChangeAt Go.RowKit
set_option linter.unusedVariables false
def kAt (ks : List Int) (i : Nat) : Int := (ks[i]?).getD 0
theorem lose_at : ∀ (L : List Fa) (ks : List Int) (i : Nat) (f : Fa), L[i]? = some f → (loseA L ks)[i]? = some (lostA f (kAt ks i))
  | [], ks, i, f, h => by simp at h
  | g :: r, [], 0, f, h => by simp at h; subst h; rfl
  | g :: r, k :: ks, 0, f, h => by simp at h; subst h; rfl
  | g :: r, [], i + 1, f, h => by
    have := lose_at r [] i f (by simpa using h)
    show (lostA g 0 :: loseA r [])[i + 1]? = _
    rw [List.getElem?_cons_succ, this]
    rfl
  | g :: r, k :: ks, i + 1, f, h => by
    have := lose_at r ks i f (by simpa using h)
    show (lostA g k :: loseA r ks)[i + 1]? = _
    rw [List.getElem?_cons_succ, this]
    unfold kAt
    rw [List.getElem?_cons_succ]
theorem lose_n : ∀ (L : List Fa) (ks : List Int), (loseA L ks).length = L.length
  | [], _ => rfl
  | g :: r, [] => by show (loseA r []).length + 1 = _; rw [lose_n r []]; rfl
  | g :: r, k :: ks => by show (loseA r ks).length + 1 = _; rw [lose_n r ks]; rfl
theorem keep_le {f : Fa} (h : f.s ≤ f.l.length) (k : Int) : f.s ≤ keepN f k ∧ keepN f k ≤ f.l.length := by
  unfold keepN
  split <;> omega
theorem lost_lost {f : Fa} (h : f.s ≤ f.l.length) (k : Int) : lostA (lostA f k) 0 = lostA f k := by
  have h1 := (keep_le h k).2
  have h2 : keepN (lostA f k) 0 = keepN f k := by
    show keepN f k + (if (0 : Int) < 0 then 0 else min (0 : Int).toNat _) = keepN f k
    rw [if_neg (by omega)]
    simp
  unfold lostA at h2 ⊢
  rw [h2]
  simp only
  rw [List.take_take, Nat.min_self]
theorem lose_lose : ∀ (L : List Fa) (ks : List Int), (∀ f ∈ L, f.s ≤ f.l.length) → loseA (loseA L ks) [] = loseA L ks
  | [], _, _ => rfl
  | g :: r, [], h => by
    show lostA (lostA g 0) 0 :: loseA (loseA r []) [] = lostA g 0 :: loseA r []
    rw [lost_lost (h g List.mem_cons_self), lose_lose r [] (fun f hf => h f (List.mem_cons_of_mem _ hf))]
  | g :: r, k :: ks, h => by
    show lostA (lostA g k) 0 :: loseA (loseA r ks) [] = lostA g k :: loseA r ks
    rw [lost_lost (h g List.mem_cons_self), lose_lose r ks (fun f hf => h f (List.mem_cons_of_mem _ hf))]
theorem rest_idem {A : Ak} (h : AkOk A) (ks : List Int) : (restartA (restartA A ks) []).fs = (restartA A ks).fs := lose_lose A.fs ks h.safe
theorem mem_used {A : Ak} (h : AkOk A) {f : Fa} (hf : f ∈ A.fs) : f.l.length ≤ 67108864 := by
  have hu : f.l.length ≤ usedA A.fs := by
    obtain ⟨s1, s2, he⟩ := List.append_of_mem hf
    rw [he, used_app, usedA_cons]; omega
  have h1 := h.used
  have h2 := h.room
  omega
end Go.Proofs.Ytlnhhgmdajbepaa
namespace Go.Proofs.Ytlnhhgmdajbepaa
open Go.ChangeShapes Go.WideShapes Go.ChangeAt Go.RowKit
set_option linter.unusedVariables false
/-- Put's loop: d: the file is in already -/
def putL (f : Fa) : Bool → List Fa → List Fa
  | d, [] => if d = true then [] else [f]
  | d, g :: r => if d = false ∧ f.name < g.name then f :: g :: putL f true r else g :: putL f d r
theorem putL_true (f : Fa) : ∀ L : List Fa, putL f true L = L
  | [] => rfl
  | g :: r => by
    unfold putL
    rw [if_neg (fun h => by cases h.1), putL_true f r]
theorem putL_ins (f : Fa) : ∀ {L : List Fa}, getA L f.name = none → putL f false L = insA f L
  | [], _ => rfl
  | g :: r, h => by
    have h1 := getA_none.1 h
    have hr : getA r f.name = none := getA_none.2 (fun x hx => h1 x (List.mem_cons_of_mem _ hx))
    unfold putL insA
    by_cases e1 : f.name < g.name
    · rw [if_pos ⟨rfl, e1⟩, if_pos e1, putL_true]
    · rw [if_neg (fun h => e1 h.2), if_neg e1, if_neg (fun e => h1 g List.mem_cons_self e.symm), putL_ins f hr]
theorem putL_len (f : Fa) : ∀ (L : List Fa) (d : Bool), (putL f d L).length = L.length + (if d = true then 0 else 1)
  | [], true => rfl
  | [], false => rfl
  | g :: r, d => by
    unfold putL
    split
    · rename_i h
      rw [List.length_cons, List.length_cons, putL_len f r true, h.1, if_pos rfl, if_neg (by simp)]; rfl
    · rw [List.length_cons, List.length_cons, putL_len f r d]; omega
theorem delA_none {L : List Fa} {t : List UInt8} : getA (delA L t) t = none := getA_none.2 (fun f hf => (delA_mem hf).2)
theorem delA_getA {L : List Fa} {t u : List UInt8} (h : getA L u = none) : getA (delA L t) u = none := getA_none.2 (fun f hf => getA_none.1 h f (delA_mem hf).1)
theorem delA_id {L : List Fa} {t : List UInt8} (h : getA L t = none) : delA L t = L := by
  unfold delA
  rw [List.filter_eq_self]
  intro f hf
  have := getA_none.1 h f hf
  simpa using this
theorem insA_del (f : Fa) : ∀ {L : List Fa}, SortA L → insA f (delA L f.name) = insA f L
  | [], _ => rfl
  | g :: r, h => by
    obtain ⟨h1, h2⟩ := List.pairwise_cons.1 h
    by_cases e : g.name = f.name
    · have hd : delA (g :: r) f.name = delA r f.name := by unfold delA; rw [List.filter_cons, if_neg (by simp [e])]
      have hn : getA r f.name = none := by rw [← e]; exact getA_low h1
      rw [hd, delA_id hn]
      conv => rhs; unfold insA
      rw [if_neg (fun hh => by rw [e] at hh; exact lt_irr _ hh), if_pos e.symm]
      cases r with
      | nil => rfl
      | cons x r' =>
        unfold insA
        rw [if_pos (by rw [← e]; exact h1 x List.mem_cons_self)]
    · have hd : delA (g :: r) f.name = g :: delA r f.name := by unfold delA; rw [List.filter_cons, if_pos (by simp [e])]
      rw [hd]
      unfold insA
      by_cases e1 : f.name < g.name
      · rw [if_pos e1, if_pos e1]
        have hn : getA r f.name = none := getA_low (fun x hx => lt_tr e1 (h1 x hx))
        rw [delA_id hn]
      · rw [if_neg e1, if_neg e1, if_neg (fun hh => e hh.symm), if_neg (fun hh => e hh.symm), insA_del f h2]
/-- a file under its name, put anew in its place -/
theorem put_back (f : Fa) {L : List Fa} (h : SortA L) : putL f false (delA L f.name) = insA f L := by
  rw [putL_ins f delA_none, insA_del f h]
/-- a file under another name -/
theorem put_moved (f : Fa) (t : List UInt8) {L : List Fa} (h : SortA L) : putL f false (delA (delA L t) f.name) = insA f (delA L t) := by
  rw [putL_ins f delA_none, insA_del f (delA_sorted h)]
theorem usedA_take : ∀ (L : List Fa) (k : Nat) (f : Fa), L[k]? = some f → usedA (L.take (k + 1)) = usedA (L.take k) + f.l.length
  | [], k, f, h => by simp at h
  | g :: r, 0, f, h => by simp at h; subst h; rw [List.take_succ_cons, usedA_cons]; simp [usedA]
  | g :: r, k + 1, f, h => by
    have := usedA_take r k f (by simpa using h)
    rw [List.take_succ_cons, usedA_cons, List.take_succ_cons, usedA_cons, this]; omega
theorem usedA_take_le (L : List Fa) (k : Nat) : usedA (L.take k) ≤ usedA L := by
  have h : usedA (L.take k ++ L.drop k) = usedA (L.take k) + usedA (L.drop k) := by unfold usedA; rw [List.map_append, List.sum_append]
  rw [List.take_append_drop] at h
  omega
/-- delA, file by file -/
theorem delA_step (L : List Fa) (t : List UInt8) (k : Nat) (f : Fa) (h : L[k]? = some f) : delA (L.drop k) t = if f.name = t then delA (L.drop (k + 1)) t else f :: delA (L.drop (k + 1)) t := by
  obtain ⟨hl, he⟩ := List.getElem?_eq_some_iff.1 h
  rw [List.drop_eq_getElem_cons hl, he]
  by_cases e : f.name = t
  · rw [if_pos e]; unfold delA; rw [List.filter_cons, if_neg (by simp [e])]
  · rw [if_neg e]; unfold delA; rw [List.filter_cons, if_pos (by simp [e])]
theorem putL_step (g : Fa) (L : List Fa) (d : Bool) (k : Nat) (f : Fa) (h : L[k]? = some f) : putL g d (L.drop k) = if d = false ∧ g.name < f.name then g :: f :: putL g true (L.drop (k + 1)) else f :: putL g d (L.drop (k + 1)) := by
  obtain ⟨hl, he⟩ := List.getElem?_eq_some_iff.1 h
  rw [List.drop_eq_getElem_cons hl, he]
  rfl
end Go.Proofs.Ytlnhhgmdajbepaa
namespace Go.Proofs.Ytlnhhgmdajbepaa
open Go.ChangeShapes Go.WideShapes Go.ChangeAt Go.RowKit
set_option linter.unusedVariables false
set_option maxRecDepth 20000 in
set_option maxHeartbeats 1000000 in
theorem rright_any (l : List UInt8) (w : World) (hl : l.length ≤ 281474976710656) : Calls Try.prog 27 #[.string (bs l)] w fun e w' => e = .returned (.bool (rightS l)) ∧ w = w' := by
  have hlI : (l.length : Int) ≤ 281474976710656 := by omega
  by_cases h1 : l.length < 1
  · have HO : Hid (rightS l = false) := by show _ = _; unfold rightS; rw [decide_eq_false_iff_not]; omega
    have i1 : (l.length : Int) < 1 := by omega
    go_enter Try.func27, Try.ntmps27
    go_wp2
    go_ret
    exact ⟨by rw [HO.out]; rfl, rfl⟩
  by_cases h2 : 24 < l.length
  · have HO : Hid (rightS l = false) := by show _ = _; unfold rightS; rw [decide_eq_false_iff_not]; omega
    have i1 : ¬ (l.length : Int) < 1 := by omega
    have i2 : (24 : Int) < (l.length : Int) := by omega
    go_enter Try.func27, Try.ntmps27
    go_wp2
    go_ret
    exact ⟨by rw [HO.out]; rfl, rfl⟩
  have i1 : ¬ (l.length : Int) < 1 := by omega
  have i2 : ¬ (24 : Int) < (l.length : Int) := by omega
  go_enter Try.func27, Try.ntmps27
  go_wp2
  go_loop [3] (fun vi => ∃ k : Nat, k ≤ l.length ∧ vi = .int .i64 k ∧ ∀ j (hj : j < l.length), j < k → okc (l[j]).toNat = true) (fun vi => l.length - (intOf vi).toNat)
  case atStart => exact ⟨0, Nat.zero_le _, rfl, fun j hj h => by omega⟩
  case round =>
    obtain ⟨k, hk, rfl, hall⟩ := hrel
    have HALL : Hid (∀ j (hj : j < l.length), j < k → okc (l[j]).toNat = true) := hall
    clear hall
    by_cases hkl : k < l.length
    · have hkI : (k : Int) < (l.length : Int) := by omega
      obtain ⟨c, hc⟩ : ∃ c, (l[k]'hkl).toNat = c := ⟨_, rfl⟩
      have hc256 : c < 256 := by rw [← hc]; exact UInt8.toNat_lt _
      have hcI : (((bs l)[k]'hkl).toNat : Int) = (c : Int) := by rw [← hc]; rfl
      have HC : Hid ((l[k]'hkl).toNat = c) := hc
      clear hc
      by_cases ho : okc c = true
      · have HN : Hid (∀ j (hj : j < l.length), j < k + 1 → okc (l[j]).toNat = true) := fun j hj h => by
          by_cases hjk : j < k
          · exact HALL.out j hj hjk
          · obtain rfl : j = k := by omega
            rw [HC.out]; exact ho
        have hp : (97 ≤ c ∧ c ≤ 122) ∨ (48 ≤ c ∧ c ≤ 57) ∨ c = 45 ∨ c = 46 := by simpa [okc] using ho
        clear ho hc256
        go_wp2
        all_goals first
          | exact ⟨⟨k + 1, by omega, by go_num, HN.out⟩, by simp [intOf]; omega⟩
          | (exfalso; simp at *; omega)
      · have HO : Hid (rightS l = false) := by
          show _ = _
          unfold rightS
          rw [decide_eq_false_iff_not]
          rintro ⟨_, _, h⟩
          have := h _ (List.getElem_mem hkl)
          rw [HC.out] at this
          exact ho this
        have hp : ¬ ((97 ≤ c ∧ c ≤ 122) ∨ (48 ≤ c ∧ c ≤ 57) ∨ c = 45 ∨ c = 46) := by simpa [okc] using ho
        clear ho hc256
        go_wp2
        all_goals first
          | (go_ret; exact ⟨by rw [HO.out]; rfl, rfl⟩)
          | (exfalso; simp at *; omega)
    · have HO : Hid (rightS l = true) := by
        show _ = _
        unfold rightS
        rw [decide_eq_true_eq]
        refine ⟨by omega, by omega, fun c hc => ?_⟩
        obtain ⟨j, hj, rfl⟩ := List.getElem_of_mem hc
        exact HALL.out j hj (by omega)
      go_wp2
      go_ret
      exact ⟨by rw [HO.out]; rfl, rfl⟩
end Go.Proofs.Ytlnhhgmdajbepaa
