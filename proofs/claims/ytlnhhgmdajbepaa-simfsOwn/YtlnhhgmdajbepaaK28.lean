/- Own texts, joined: Rda, Rci. -/
import Derived.Test.YtlnhhgmdajbepaaK26
import Derived.Test.YtlnhhgmdajbepaaK27
import Derived.Test.YtlnhhgmdajbepaaK24
namespace Go.Proofs.Ytlnhhgmdajbepaa
open Go.ChangeShapes Go.WideShapes Go.ChangeAt Go.RowKit
set_option linter.unusedVariables false
set_option linter.unusedSimpArgs false
/-- the error that bars a step or a read -/
def bar10 (A : Ak) (o : Oa) : Nat :=
  if A.off = true then 3
  else if rightS o.nm = false then 50
  else if o.k = 3 ∧ rightS o.to = false then 50
  else match getA A.fs o.nm with
    | none => if o.k = 0 then (if 700 ≤ A.fs.length then 53 else 0) else 51
    | some f =>
      if o.k = 0 then 52
      else if o.k = 1 ∧ A.room - (usedA A.fs : Nat) < (o.lb.length : Int) then 54
      else if o.k = 5 ∧ (o.n < 0 ∨ (f.l.length : Int) < o.n) then 1
      else if o.k = 6 ∧ (o.n < 0 ∨ o.m < 0 ∨ (f.l.length : Int) < o.n ∨ (f.l.length : Int) - o.n < o.m) then 1
      else 0
theorem fileA_le {A : Ak} (ok : AkOk A) {nm : List UInt8} {f : Fa} (hg : getA A.fs nm = some f) : f.l.length ≤ 67108864 := by
  have h1 := oldA_get_le A.fs nm
  rw [oldA_some hg] at h1
  have h2 := ok.used
  have h3 := ok.room.2
  omega
theorem rbar_any (w : World) (A : Ak) (ok : AkOk A) (X : List (Fa × Value)) (a : Option Addr) (n c : Nat) (hn : X.length = n) (hX : FlsA w a X) (hA : X.map Prod.fst = A.fs) (o : Oa) (ho : OpIn w o) (hk : 0 ≤ o.k ∧ o.k ≤ 7) :
    Calls Try.prog 46 #[rdV (.slice a n c) A.rn, opV o] w fun r w' => r = .returned (.int .i64 (bar10 A o : Nat)) ∧ Below w.heap.size w w' := by
  have hnl : n ≤ 1000 := by have h1 := ok.few; rw [← hA, List.length_map, hn] at h1; omega
  have hlen : A.fs.length = n := by rw [← hA, List.length_map, hn]
  unfold bar10
  by_cases e1 : A.off = true
  · rw [if_pos e1]
    exact rbar_off w X a n c A.rn hn hX hnl o ho e1
  rw [if_neg e1]
  have f1 : A.rn.off = false := by simpa [Ak.rn] using e1
  cases e2 : rightS o.nm with
  | false =>
    rw [if_pos rfl]
    exact rbar_name w X a n c A.rn hn hX hnl o ho f1 e2
  | true =>
    rw [if_neg (by simp)]
    by_cases e3 : o.k = 3 ∧ rightS o.to = false
    · rw [if_pos e3]
      exact rbar_to w X a n c A.rn hn hX hnl o ho f1 e2 e3.1 e3.2
    rw [if_neg e3]
    cases hg : getA A.fs o.nm with
    | none =>
      have hg2 : getA (X.map Prod.fst) o.nm = none := by rw [hA]; exact hg
      by_cases e4 : o.k = 0
      · show Calls _ _ _ _ fun r w' => r = .returned (.int .i64 ((if o.k = 0 then (if 700 ≤ A.fs.length then 53 else 0) else 51 : Nat) : Int)) ∧ _
        rw [if_pos e4]
        by_cases e5 : 700 ≤ A.fs.length
        · rw [if_pos e5]
          exact rbar_0full w X a n c A.rn hn hX hnl o ho f1 e2 e4 hg2 (by omega)
        · rw [if_neg e5]
          exact rbar_0ok w X a n c A.rn hn hX hnl o ho f1 e2 e4 hg2 (by omega)
      · show Calls _ _ _ _ fun r w' => r = .returned (.int .i64 ((if o.k = 0 then (if 700 ≤ A.fs.length then 53 else 0) else 51 : Nat) : Int)) ∧ _
        rw [if_neg e4]
        rcases (by omega : o.k = 1 ∨ o.k = 2 ∨ o.k = 3 ∨ o.k = 4 ∨ o.k = 5 ∨ o.k = 6 ∨ o.k = 7) with k | k | k | k | k | k | k
        · exact rbar_1gone w X a n c A.rn hn hX hnl o ho f1 e2 k hg2
        · exact rbar_2gone w X a n c A.rn hn hX hnl o ho f1 e2 k hg2
        · exact rbar_3gone w X a n c A.rn hn hX hnl o ho f1 e2 k hg2 (by cases h : rightS o.to with | true => rfl | false => exact absurd ⟨k, h⟩ e3)
        · exact rbar_4gone w X a n c A.rn hn hX hnl o ho f1 e2 k hg2
        · exact rbar_5gone w X a n c A.rn hn hX hnl o ho f1 e2 k hg2
        · exact rbar_6gone w X a n c A.rn hn hX hnl o ho f1 e2 k hg2
        · exact rbar_7gone w X a n c A.rn hn hX hnl o ho f1 e2 k hg2
    | some f =>
      have hg2 : getA (X.map Prod.fst) o.nm = some f := by rw [hA]; exact hg
      have hm := fileA_le ok hg
      show Calls _ _ _ _ fun r w' => r = .returned (.int .i64 ((if o.k = 0 then 52 else if o.k = 1 ∧ A.room - (usedA A.fs : Nat) < (o.lb.length : Int) then 54 else if o.k = 5 ∧ (o.n < 0 ∨ (f.l.length : Int) < o.n) then 1 else if o.k = 6 ∧ (o.n < 0 ∨ o.m < 0 ∨ (f.l.length : Int) < o.n ∨ (f.l.length : Int) - o.n < o.m) then 1 else 0 : Nat) : Int)) ∧ _
      have hu : usedA (X.map Prod.fst) ≤ 67108864 ∧ (usedA (X.map Prod.fst) : Int) ≤ A.rn.room ∧ A.rn.room ≤ 67108864 := by
        rw [hA]; have h2 := ok.used; have h3 := ok.room.2; exact ⟨by omega, h2, h3⟩
      rcases (by omega : o.k = 0 ∨ o.k = 1 ∨ o.k = 2 ∨ o.k = 3 ∨ o.k = 4 ∨ o.k = 5 ∨ o.k = 6 ∨ o.k = 7) with k | k | k | k | k | k | k | k
      · rw [if_pos k]
        exact rbar_0there w X a n c A.rn hn hX hnl o ho f1 e2 k f hg2 _ rfl
      · rw [if_neg (by omega)]
        by_cases e6 : A.room - (usedA A.fs : Nat) < (o.lb.length : Int)
        · rw [if_pos ⟨k, e6⟩]
          exact rbar_1full w X a n c A.rn hn hX hnl o ho f1 e2 k f hg2 _ rfl hm hu (by rw [hA]; exact e6)
        · rw [if_neg (fun h => e6 h.2), if_neg (by omega), if_neg (by omega)]
          exact rbar_1ok w X a n c A.rn hn hX hnl o ho f1 e2 k f hg2 _ rfl hm hu (by rw [hA]; exact e6)
      · rw [if_neg (by omega), if_neg (by omega), if_neg (by omega), if_neg (by omega)]
        exact rbar_2ok w X a n c A.rn hn hX hnl o ho f1 e2 k f hg2 _ rfl hm
      · rw [if_neg (by omega), if_neg (by omega), if_neg (by omega), if_neg (by omega)]
        exact rbar_3ok w X a n c A.rn hn hX hnl o ho f1 e2 k f hg2 _ rfl hm (by cases h : rightS o.to with | true => rfl | false => exact absurd ⟨k, h⟩ e3)
      · rw [if_neg (by omega), if_neg (by omega), if_neg (by omega), if_neg (by omega)]
        exact rbar_4ok w X a n c A.rn hn hX hnl o ho f1 e2 k f hg2 _ rfl hm
      · rw [if_neg (by omega), if_neg (by omega)]
        by_cases e6 : o.n < 0
        · rw [if_pos ⟨k, .inl e6⟩]
          exact rbar_5low w X a n c A.rn hn hX hnl o ho f1 e2 k f hg2 _ rfl hm e6
        · by_cases e7 : (f.l.length : Int) < o.n
          · rw [if_pos ⟨k, .inr e7⟩]
            exact rbar_5high w X a n c A.rn hn hX hnl o ho f1 e2 k f hg2 _ rfl hm e6 e7
          · rw [if_neg (fun h => h.2.elim e6 e7), if_neg (by omega)]
            exact rbar_5ok w X a n c A.rn hn hX hnl o ho f1 e2 k f hg2 _ rfl hm e6 e7
      · rw [if_neg (by omega), if_neg (by omega), if_neg (by omega)]
        by_cases e6 : o.n < 0
        · rw [if_pos ⟨k, .inl e6⟩]
          exact rbar_6low w X a n c A.rn hn hX hnl o ho f1 e2 k f hg2 _ rfl hm e6
        by_cases e7 : o.m < 0
        · rw [if_pos ⟨k, .inr (.inl e7)⟩]
          exact rbar_6low2 w X a n c A.rn hn hX hnl o ho f1 e2 k f hg2 _ rfl hm e6 e7
        by_cases e8 : (f.l.length : Int) < o.n
        · rw [if_pos ⟨k, .inr (.inr (.inl e8))⟩]
          exact rbar_6high w X a n c A.rn hn hX hnl o ho f1 e2 k f hg2 _ rfl hm e6 e7 e8
        by_cases e9 : (f.l.length : Int) - o.n < o.m
        · rw [if_pos ⟨k, .inr (.inr (.inr e9))⟩]
          exact rbar_6high2 w X a n c A.rn hn hX hnl o ho f1 e2 k f hg2 _ rfl hm e6 e7 e8 e9
        rw [if_neg (by omega)]
        exact rbar_6ok w X a n c A.rn hn hX hnl o ho f1 e2 k f hg2 _ rfl hm e6 e7 e8 e9
      · rw [if_neg (by omega), if_neg (by omega), if_neg (by omega), if_neg (by omega)]
        exact rbar_7ok w X a n c A.rn hn hX hnl o ho f1 e2 k f hg2 _ rfl hm
/-- the error of a call on a file -/
theorem fbar1 {A : Ak} {nm : List UInt8} : barA A [nm] = if A.off = true then 3 else if rightS nm = true then 0 else 50 := by
  unfold barA
  simp
theorem fbar2 {A : Ak} {nm tn : List UInt8} : barA A [nm, tn] = if A.off = true then 3 else if rightS nm = true ∧ rightS tn = true then 0 else 50 := by
  unfold barA
  simp
theorem do_barred {A : Ak} {o : Oa} (hk : 0 ≤ o.k ∧ o.k ≤ 7) (hb : bar10 A o ≠ 0) : doA A o = (A, [], 0, bar10 A o) := by
  revert hb
  unfold bar10
  rcases (by omega : o.k = 0 ∨ o.k = 1 ∨ o.k = 2 ∨ o.k = 3 ∨ o.k = 4 ∨ o.k = 5 ∨ o.k = 6 ∨ o.k = 7) with k | k | k | k | k | k | k | k <;>
    (cases e1 : A.off <;> cases e2 : rightS o.nm <;> cases e3 : rightS o.to <;> cases hg : getA A.fs o.nm <;> simp [doA, k, createA, appendA, syncA, renameA, removeA, cutA, readA, sizeA, foundA, findA, fbar1, fbar2, e1, e2, e3, hg] <;> intros <;> simp_all <;> (split <;> first | (exfalso; omega) | simp_all))
/-- a read that nothing bars -/
theorem do_read {A : Ak} {o : Oa} (k : o.k = 6) (hb : bar10 A o = 0) : ∃ f, getA A.fs o.nm = some f ∧ 0 ≤ o.n ∧ 0 ≤ o.m ∧ o.n + o.m ≤ (f.l.length : Int) ∧ A.off = false ∧ doA A o = ({ A with read := wrap64 (A.read + o.m) }, (f.l.drop o.n.toNat).take o.m.toNat, 0, 0) := by
  revert hb
  unfold bar10
  cases e1 : A.off <;> cases e2 : rightS o.nm <;> cases hg : getA A.fs o.nm <;> simp [k]
  rename_i f
  intro h1 h2 h3 h4
  have h : ¬ (o.n < 0 ∨ o.m < 0 ∨ (f.l.length : Int) < o.n ∨ (f.l.length : Int) - o.n < o.m) := by omega
  refine ⟨by omega, by omega, by omega, ?_⟩
  simp [doA, k, readA, foundA, fbar1, e1, e2, hg, h]
theorem do_size {A : Ak} {o : Oa} (k : o.k = 7) (hb : bar10 A o = 0) : ∃ f, getA A.fs o.nm = some f ∧ A.off = false ∧ doA A o = (A, [], ((f.l.length : Nat) : Int), 0) := by
  revert hb
  unfold bar10
  cases e1 : A.off <;> cases e2 : rightS o.nm <;> cases hg : getA A.fs o.nm <;> simp [k]
  simp [doA, k, sizeA, foundA, fbar1, e1, e2, hg]
/-- a step that nothing bars -/
theorem do_step {A : Ak} (ok : AkOk A) {o : Oa} (hk : 0 ≤ o.k ∧ o.k ≤ 5) (hb : bar10 A o = 0) : ∃ f, (o.k ≠ 0 → getA A.fs o.nm = some f) ∧ (o.k = 1 → (o.lb.length : Int) ≤ 67108864) ∧ (o.k = 5 → 0 ≤ o.n ∧ o.n ≤ (f.l.length : Int)) ∧ A.off = false ∧
    doA A o = if A.fuse = 1 then (if o.k = 1 then (stepA A).put (chA A.fs f o) else stepA A, [], 0, 3) else ((stepA A).put (chA A.fs f o), [], 0, 0) := by
  revert hb
  unfold bar10
  have hr := ok.room
  have hu := ok.used
  rcases (by omega : o.k = 0 ∨ o.k = 1 ∨ o.k = 2 ∨ o.k = 3 ∨ o.k = 4 ∨ o.k = 5) with k | k | k | k | k | k
  · cases e1 : A.off <;> cases e2 : rightS o.nm <;> cases hg : getA A.fs o.nm <;> simp [k]
    intro h7
    have h := putL_ins ⟨o.nm, [], 0⟩ (L := A.fs) hg
    refine ⟨⟨[], [], 0⟩, ?_⟩
    have h7' : ¬ 700 ≤ A.fs.length := by omega
    simp [doA, k, createA, fbar1, e1, e2, hg, chA, h, h7']
    split <;> rfl
  · cases e1 : A.off <;> cases e2 : rightS o.nm <;> cases hg : getA A.fs o.nm <;> simp [k]
    rename_i f
    intro h7
    have hn := (getA_mem hg).2
    have h := put_back ⟨f.name, f.l ++ o.lb, f.s⟩ ok.sort
    simp only [hn] at h
    have h7' : ¬ A.room - (usedA A.fs : Nat) < (o.lb.length : Int) := by omega
    refine ⟨by omega, ?_⟩
    simp [doA, k, appendA, foundA, fbar1, e1, e2, hg, chA, h7', hn, h, stepAE]
    split <;> rfl
  · cases e1 : A.off <;> cases e2 : rightS o.nm <;> cases hg : getA A.fs o.nm <;> simp [k]
    rename_i f
    have hn := (getA_mem hg).2
    have h := put_back ⟨f.name, f.l, f.l.length⟩ ok.sort
    simp only [hn] at h
    simp [doA, k, syncA, foundA, fbar1, e1, e2, hg, chA, hn, h, stepTo]
    split <;> rfl
  · cases e1 : A.off <;> cases e2 : rightS o.nm <;> cases e3 : rightS o.to <;> cases hg : getA A.fs o.nm <;> simp [k]
    rename_i f
    have h := put_moved ⟨o.to, f.l, f.s⟩ o.nm ok.sort
    simp only at h
    simp [doA, k, renameA, foundA, fbar1, fbar2, e1, e2, e3, hg, chA, h, stepTo]
    split <;> rfl
  · cases e1 : A.off <;> cases e2 : rightS o.nm <;> cases hg : getA A.fs o.nm <;> simp [k]
    simp [doA, k, removeA, foundA, fbar1, e1, e2, hg, chA, stepTo]
    split <;> rfl
  · cases e1 : A.off <;> cases e2 : rightS o.nm <;> cases hg : getA A.fs o.nm <;> simp [k]
    rename_i f
    intro h6 h7
    have hn := (getA_mem hg).2
    have h := put_back ⟨f.name, f.l.take o.n.toNat, min f.s o.n.toNat⟩ ok.sort
    simp only [hn] at h
    have h7' : ¬ (o.n < 0 ∨ (f.l.length : Int) < o.n) := by omega
    refine ⟨⟨by omega, by omega⟩, ?_⟩
    simp [doA, k, cutA, foundA, fbar1, e1, e2, hg, chA, hn, h, stepTo, h7']
    split <;> rfl
end Go.Proofs.Ytlnhhgmdajbepaa
namespace Go.Proofs.Ytlnhhgmdajbepaa
open Go.ChangeShapes Go.WideShapes Go.ChangeAt Go.RowKit
set_option linter.unusedVariables false
set_option linter.unusedSimpArgs false
theorem Ch3.poke {w x : World} {v : Value} {q : Rn} {o : Oa} (h : Ch3 w x v q o) {k : Nat} (hk : w.heap.size + 1 + 1 < k) (j : Nat) (u : Value) : Ch3 w (x.setCell ⟨k, j, none⟩ u) v q o :=
  ⟨(heap_setCell_other x ⟨k, j, none⟩ _ _ (show w.heap.size ≠ k by omega)).trans h.rd, (heap_setCell_other x ⟨k, j, none⟩ _ _ (show w.heap.size + 1 ≠ k by omega)).trans h.op, (heap_setCell_other x ⟨k, j, none⟩ _ _ (show w.heap.size + 1 + 1 ≠ k by omega)).trans h.rz, h.low.setCell (show w.heap.size ≤ k by omega) _⟩
/-- besides: the file in its box, the files without it -/
structure Ch6 (w x : World) (v : Value) (q : Rn) (o : Oa) (kf : Nat) (nm : List UInt8) (v2 : Value) (s : Int) (a6 : Option Addr) (Y6 : List (Fa × Value)) : Prop where
  c : Ch3 w x v q o
  fl : FlAt x kf nm v2 s
  hi : w.heap.size + 1 + 1 < kf
  row : RowL (kf + 1) x a6 Y6
theorem Ch6.keep {w x y : World} {v : Value} {q : Rn} {o : Oa} {kf : Nat} {nm : List UInt8} {v2 : Value} {s : Int} {a6 : Option Addr} {Y6 : List (Fa × Value)} (h : Ch6 w x v q o kf nm v2 s a6 Y6) (hb : Below x.heap.size x y) : Ch6 w y v q o kf nm v2 s a6 Y6 :=
  ⟨h.c.keep hb, h.fl.keep hb, h.hi, h.row.turn (fun k _ hk => hb.block k hk)⟩
theorem Ch6.set0 {w x : World} {v : Value} {q : Rn} {o : Oa} {kf : Nat} {nm : List UInt8} {v2 : Value} {s : Int} {a6 : Option Addr} {Y6 : List (Fa × Value)} (h : Ch6 w x v q o kf nm v2 s a6 Y6) (nm2 : List UInt8) : Ch6 w (x.setCell ⟨kf, 0, none⟩ (.string (bs nm2))) v q o kf nm2 v2 s a6 Y6 :=
  ⟨h.c.poke h.hi _ _, h.fl.set0 nm2, h.hi, h.row.turn (fun k hk _ => heap_setCell_other x ⟨kf, 0, none⟩ k _ (show k ≠ kf by omega))⟩
theorem Ch6.set1 {w x : World} {v : Value} {q : Rn} {o : Oa} {kf : Nat} {nm : List UInt8} {v2 : Value} {s : Int} {a6 : Option Addr} {Y6 : List (Fa × Value)} (h : Ch6 w x v q o kf nm v2 s a6 Y6) (v3 : Value) : Ch6 w (x.setCell ⟨kf, 1, none⟩ v3) v q o kf nm v3 s a6 Y6 :=
  ⟨h.c.poke h.hi _ _, h.fl.set1 v3, h.hi, h.row.turn (fun k hk _ => heap_setCell_other x ⟨kf, 1, none⟩ k _ (show k ≠ kf by omega))⟩
theorem Ch6.set2 {w x : World} {v : Value} {q : Rn} {o : Oa} {kf : Nat} {nm : List UInt8} {v2 : Value} {s : Int} {a6 : Option Addr} {Y6 : List (Fa × Value)} (h : Ch6 w x v q o kf nm v2 s a6 Y6) (z : Int) : Ch6 w (x.setCell ⟨kf, 2, none⟩ (.int .i64 z)) v q o kf nm v2 z a6 Y6 :=
  ⟨h.c.poke h.hi _ _, h.fl.set2 z, h.hi, h.row.turn (fun k hk _ => heap_setCell_other x ⟨kf, 2, none⟩ k _ (show k ≠ kf by omega))⟩
theorem Ch6.fls {w x : World} {v : Value} {q : Rn} {o : Oa} {kf : Nat} {nm : List UInt8} {v2 : Value} {s : Int} {a6 : Option Addr} {Y6 : List (Fa × Value)} (h : Ch6 w x v q o kf nm v2 s a6 Y6) {a : Option Addr} {X : List (Fa × Value)} (hX : FlsA w a X) (hm : ∀ e ∈ Y6, e ∈ X) : FlsA x a6 Y6 := h.row.fls (fun e he => (hX.fv (hm e he)).keep h.c.low)
theorem Own.turn {b base : Nat} {x y : World} {v : Value} {l : List Nat} (h : Own x base v l) (hb : b ≤ base) (hs : ∀ k, b ≤ k → k < x.heap.size → y.heap[k]? = x.heap[k]?) : Own y base v l := by
  refine ⟨h.1, h.2.1, ?_⟩
  rcases h.2.2 with h1 | ⟨g, cap, cur, h1, h2, h3, h4⟩
  · exact .inl h1
  · exact .inr ⟨g, cap, cur, h1, h2, (hs g (Nat.le_trans hb h2) (lt_of_heap h3)).trans h3, h4⟩
theorem Own.fv {x : World} {base : Nat} {v : Value} {f : Fa} (h : Own x base v f.l) (hl : f.l.length ≤ maxLen) : FvIn x (f, v) := by
  obtain ⟨A, C, e, h1, h2, h3⟩ := h.ready
  exact ⟨A, C, e, h1, hl, h2, h3⟩
theorem step_append_b {P : Program} (w : World) {ops : Array Oper} {o : Oper} {a : Act} {K : Act → World → Prop} {Q : Exit → Act → World → Prop} {E : Prop} (hgd : o.guard = none) (s x : Operand) (t : TypeId)
    (ho : o.op = .call { callee := .builtin .append, args := #[s, x], argTypes := #[t, t] })
    (base : Nat) (i : TypeInfo) (ht : P.underlying t = some (.slice 5)) (hi : P.info? 5 = some i) (hz : i.zero = some (.int .u8 0)) (hsize : i.size = 1) (hby : i.bytes = 1)
    (v : Value) (n : Nat) (xs : List Value) (hs : a.eval s = v) (hown : w.ownsRow base 5 1 v n xs) (xa : Option Addr) (m c : Nat) (l : List Nat) (hx : a.eval x = .slice xa m c) (hl : l.length = m) (hb : Bytes w xa l) (hc : xa = none → c = 0)
    (h63 : n + m ≤ 140737488355328) (hbase : base ≤ w.heap.size)
    (h : ∀ v' w', w'.ownsRow base 5 1 v' (n + m) (xs ++ B8 l) → w.grownBy w' v.ownBlock → K (a.put o.dst v') w') :
    if Region.wanted o (yielded ops a.tmps) = true then Oper.wp P o a w K Q else E := by
  have hw : Region.wanted o (yielded ops a.tmps) = true := by simp [Region.wanted, hgd]
  rw [if_pos hw]
  cases xa with
  | none =>
    have hl0 : l = [] := by
      rcases hb.2 with h | ⟨b, off, h, _⟩
      · exact h
      · cases h
    subst hl0
    have hm0 : m = 0 := by simpa using hl.symm
    subst hm0
    have hc0 := hc rfl
    subst hc0
    have hrun := run_append_owned_none (P := P) (w := w) base t o.type 5 i 1 ht hi v n xs hown
    unfold Oper.wp
    simp [execOp, ho, resolve, invoke, builtin, hs, hx, hrun, Result.andThen]
    exact h v w (by simpa [B8] using hown) ⟨rfl, rfl, rfl, Nat.le_refl _, fun _ _ _ => rfl⟩
  | some ad =>
    rcases hb.2 with hl0 | ⟨b, off, he, hlt, hcell⟩
    · subst hl0
      have hm0 : m = 0 := by simpa using hl.symm
      subst hm0
      exact wp_append_own w s x t ho base 5 i (.int .u8 0) 1 1 ht hi hz hsize hby rfl (by decide) v n xs hs hown ad 0 c [] hx rfl (fun j u hj => by simp at hj) (fun u hu => by cases hu) (by unfold maxLen; omega) (by omega) hbase (fun v' w' h1 h2 _ => h v' w' (by simpa [B8] using h1) h2)
    · cases he
      exact wp_append_own w s x t ho base 5 i (.int .u8 0) 1 1 ht hi hz hsize hby rfl (by decide) v n xs hs hown ⟨b, off, none⟩ m c (B8 l) hx (by rw [B8_length, hl, Nat.mul_one]) (bytes_cells hb) (B8_one _) (by unfold maxLen; omega) (by omega) hbase (fun v' w' h1 h2 _ => h v' w' h1 h2)
end Go.Proofs.Ytlnhhgmdajbepaa
