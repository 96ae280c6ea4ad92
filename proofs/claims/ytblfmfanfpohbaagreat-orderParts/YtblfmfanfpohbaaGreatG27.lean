/- Own texts, joined: Od3, Od4, Od5, Od6, Od7, Od8. -/
import Derived.Test.YtblfmfanfpohbaaGreatG07
import Derived.Deep.QuietTactic
import Derived.BigQuiet
namespace Go.Proofs.YtblfmfanfpohbaaGreat
open Go.ChangeShapes Go.WideShapes Go.ChangeAt Go.RowKit
set_option linter.unusedVariables false
def cmpI (a b : Int) : Int := if a < b then -1 else if b < a then 1 else 0
set_option maxRecDepth 20000 in
theorem isNaN_any (x : Int) (w : World) : Calls Tryz.prog 117 #[.int .i64 x] w fun e w' => e = .returned (.bool false) ∧ w = w' := by
  go_enter Tryz.func117, Tryz.ntmps117
  go_wp2
  go_ret
  exact ⟨ret_bool (by simp), rfl⟩
set_option maxRecDepth 20000 in
theorem compare_any (a b : Int) (w : World) : Calls Tryz.prog 107 #[.int .i64 a, .int .i64 b] w fun e w' => e = .returned (.int .i64 (cmpI a b)) ∧ w = w' := by
  by_cases h1 : a < b
  · rw [show cmpI a b = -1 from if_pos h1]
    go_enter Tryz.func107, Tryz.ntmps107
    go_wp2_with (go_at_call 117; refine (isNaN_any _ _).mono ?_; rintro _ _ ⟨rfl, rfl⟩)
    go_ret
    exact ⟨rfl, rfl⟩
  · by_cases h2 : b < a
    · rw [show cmpI a b = 1 from (if_neg h1).trans (if_pos h2)]
      go_enter Tryz.func107, Tryz.ntmps107
      go_wp2_with (go_at_call 117; refine (isNaN_any _ _).mono ?_; rintro _ _ ⟨rfl, rfl⟩)
      go_ret
      exact ⟨rfl, rfl⟩
    · rw [show cmpI a b = 0 from (if_neg h1).trans (if_neg h2)]
      go_enter Tryz.func107, Tryz.ntmps107
      go_wp2_with (go_at_call 117; refine (isNaN_any _ _).mono ?_; rintro _ _ ⟨rfl, rfl⟩)
      go_ret
      exact ⟨rfl, rfl⟩
set_option maxRecDepth 20000 in
theorem find1_any (i p q s x C : Int) (w : World) (hC : cmpI i x = C) : Calls Tryz.prog 106 #[.agg #[.int .i64 i, .int .i64 p, .int .i64 q, .int .i64 s], .int .i64 x] w fun e w' => e = .returned (.int .i64 C) ∧ Below w.heap.size w w' := by
  have HC : Hid (cmpI i x = C) := hC
  clear hC
  go_enter Tryz.func106, Tryz.ntmps106
  go_wp2_with (go_at_call 107; refine (compare_any _ _ _).mono ?_; rw [HC.out]; rintro _ _ ⟨rfl, rfl⟩)
  go_ret
  exact ⟨rfl, (Below.refl _ _).alloc (Nat.le_refl _) _⟩
/-- how the search ends -/
theorem lbI_eq {L : List Ln} {x : Int} {r : Nat} (hr : r ≤ L.length) (h1 : ∀ t p, t < r → L[t]? = some p → p.item < x) (h2 : ∀ p, L[r]? = some p → ¬ p.item < x) : lbI L x = r := by
  induction L generalizing r with
  | nil => simp at hr; subst hr; rfl
  | cons l m ih =>
    cases r with
    | zero => exact if_neg (h2 l rfl)
    | succ r =>
      have h0 : l.item < x := h1 0 l (by omega) rfl
      rw [show lbI (l :: m) x = lbI m x + 1 from if_pos h0]
      rw [ih (by simpa using hr) (fun t p ht hp => h1 (t + 1) p (by omega) (by simpa using hp)) (fun p hp => h2 p (by simpa using hp))]
set_option maxRecDepth 20000 in
set_option maxHeartbeats 4000000 in
theorem bsf_any (L : List Ln) (a : Option Addr) (n cap : Nat) (x : Int) (w : World) (hn : L.length = n) (hl : Lns w a L) (hm : n ≤ 16) (hr : linesFrom (-1) L = true) :
    Calls Tryz.prog 105 #[.slice a n cap, .int .i64 x, .func (Fn.func 106) #[] #[]] w fun e w' => e = .returned (.tuple #[.int .i64 (lbI L x : Nat), .bool (lnAt L x).isSome]) ∧ Below w.heap.size w w' := by
  have HN : Hid (L.length = n) := hn
  have HL : Hid (Lns w a L) := hl
  have HR : Hid (linesFrom (-1) L = true) := hr
  obtain ⟨LB, hLB⟩ : ∃ LB, lbI L x = LB := ⟨_, rfl⟩
  obtain ⟨FD, hFD⟩ : ∃ FD, (lnAt L x).isSome = FD := ⟨_, rfl⟩
  have HLB0 : Hid (lbI L x = LB) := hLB
  have HFD0 : Hid ((lnAt L x).isSome = FD) := hFD
  rw [hLB, hFD]
  clear hn hl hr hLB hFD
  go_enter Tryz.func105, Tryz.ntmps105
  go_wp2
  go_loopw [9, 10] (fun vi vj wr => ∃ (lo hi : Nat), vi = .int .i64 lo ∧ vj = .int .i64 hi ∧ lo ≤ hi ∧ hi ≤ n ∧ Hid ((∀ t p, t < lo → L[t]? = some p → p.item < x) ∧ (∀ t p, hi ≤ t → L[t]? = some p → x ≤ p.item) ∧ Below w.heap.size w wr)) (fun vi vj _ => (intOf vj).toNat - (intOf vi).toNat)
  case atStart => exact ⟨0, n, rfl, rfl, Nat.zero_le _, Nat.le_refl _, fun t p ht => absurd ht (Nat.not_lt_zero _), fun t p h1 h2 => by have := ln_lt h2; rw [HN.out] at this; omega, Below.refl _ _⟩
  case round =>
    obtain ⟨lo, hi, rfl, rfl, hlh, hin, HI⟩ := hrel
    by_cases hlt : lo < hi
    · obtain ⟨p, hp⟩ := ln_get (L := L) (k := (lo + hi) / 2) (by rw [HN.out]; omega)
      obtain ⟨b, off, rfl, hlb, q0, q1, q2, q3⟩ := (HL.out.keep HI.out.2.2).cells ((lo + hi) / 2) p hp
      obtain ⟨C, hC⟩ : ∃ C, cmpI p.item x = C := ⟨_, rfl⟩
      have HC : Hid (cmpI p.item x = C) := hC
      have HP : Hid (L[(lo + hi) / 2]? = some p) := hp
      clear hp hC
      by_cases hneg : C < 0
      · have HS : Hid (p.item < x) := by
          show p.item < x
          have := HC.out; unfold cmpI at this; split at this
          · assumption
          · split at this <;> omega
        go_wp2_with (go_at_call 106; refine (find1_any _ _ _ _ x C _ HC.out).mono ?_; rintro e w2 ⟨rfl, hb2⟩; have HB2 : Hid (Below w.heap.size w w2) := below_next HI.out.2.2 hb2; clear hb2)
        go_roundw
        case rel =>
          refine ⟨(lo + hi) / 2 + 1, hi, by rw [show ((lo : Int) + (hi : Int)) / 2 + 1 = (((lo + hi) / 2 + 1 : Nat) : Int) by omega], rfl, by omega, hin, fun t p2 ht hp2 => ?_, HI.out.2.1, HB2.out⟩
          by_cases h : t < (lo + hi) / 2
          · have h3 : p2.item < p.item := by
              have hf := HR.out
              have key : ∀ (M : List Ln) (last : Int) (x y : Nat) (a b : Ln), linesFrom last M = true → x < y → M[x]? = some a → M[y]? = some b → a.item < b.item := by
                intro M
                induction M with
                | nil => intro last x y a b _ _ ha _; simp at ha
                | cons m r ih =>
                  intro last x y a b hM hxy ha hb
                  simp only [linesFrom, Bool.and_eq_true] at hM
                  cases y with
                  | zero => omega
                  | succ y =>
                    cases x with
                    | zero => simp at ha; subst ha; exact linesFrom_lt r m.item y b hM.2 (by simpa using hb)
                    | succ x => exact ih m.item x y a b hM.2 (by omega) (by simpa using ha) (by simpa using hb)
              exact key L (-1) t ((lo + hi) / 2) p2 p hf h hp2 HP.out
            have := HS.out; omega
          · obtain rfl : t = (lo + hi) / 2 := by omega
            rw [HP.out] at hp2; cases hp2; exact HS.out
        case measure => simp [intOf]; omega
      · have HS : Hid (x ≤ p.item) := by
          show x ≤ p.item
          have := HC.out; unfold cmpI at this; split at this
          · omega
          · omega
        go_wp2_with (go_at_call 106; refine (find1_any _ _ _ _ x C _ HC.out).mono ?_; rintro e w2 ⟨rfl, hb2⟩; have HB2 : Hid (Below w.heap.size w w2) := below_next HI.out.2.2 hb2; clear hb2)
        go_roundw
        case rel =>
          refine ⟨lo, (lo + hi) / 2, rfl, by rw [show ((lo : Int) + (hi : Int)) / 2 = (((lo + hi) / 2 : Nat) : Int) by omega], by omega, by omega, HI.out.1, fun t p2 ht hp2 => ?_, HB2.out⟩
          by_cases h : t = (lo + hi) / 2
          · subst h; rw [HP.out] at hp2; cases hp2; exact HS.out
          · have h3 : p.item < p2.item := by
              have key : ∀ (M : List Ln) (last : Int) (x y : Nat) (a b : Ln), linesFrom last M = true → x < y → M[x]? = some a → M[y]? = some b → a.item < b.item := by
                intro M
                induction M with
                | nil => intro last x y a b _ _ ha _; simp at ha
                | cons m r ih =>
                  intro last x y a b hM hxy ha hb
                  simp only [linesFrom, Bool.and_eq_true] at hM
                  cases y with
                  | zero => omega
                  | succ y =>
                    cases x with
                    | zero => simp at ha; subst ha; exact linesFrom_lt r m.item y b hM.2 (by simpa using hb)
                    | succ x => exact ih m.item x y a b hM.2 (by omega) (by simpa using ha) (by simpa using hb)
              exact key L (-1) ((lo + hi) / 2) t p p2 HR.out (by omega) HP.out hp2
            have := HS.out; omega
        case measure => simp [intOf]; omega
    · obtain rfl : hi = lo := by omega
      have hlb : lbI L x = hi := lbI_eq (by rw [HN.out]; exact hin) HI.out.1 (fun p hp => by have := HI.out.2.1 hi p (Nat.le_refl _) hp; omega)
      have HLB : Hid (lbI L x = hi) := hlb
      by_cases hlt2 : hi < n
      · obtain ⟨p, hp⟩ := ln_get (L := L) (k := hi) (by rw [HN.out]; omega)
        obtain ⟨b, off, rfl, hlb2, q0, q1, q2, q3⟩ := (HL.out.keep HI.out.2.2).cells hi p hp
        obtain ⟨C, hC⟩ : ∃ C, cmpI p.item x = C := ⟨_, rfl⟩
        have HC : Hid (cmpI p.item x = C) := hC
        have hge : ¬ p.item < x := by have := HI.out.2.1 hi p (Nat.le_refl _) hp; omega
        have HF : Hid ((lnAt L x).isSome = (C == 0)) := by
          show _ = _
          unfold lnAt
          rw [hlb, hp]
          simp only
          unfold cmpI at hC
          rw [if_neg hge] at hC
          split
          · rename_i h; rw [if_neg (by omega)] at hC; subst hC; rfl
          · rename_i h; rw [if_pos (by omega)] at hC; subst hC; rfl
        obtain rfl : LB = hi := HLB0.out.symm.trans hlb
        have HG : Hid (FD = (C == 0)) := HFD0.out.symm.trans HF.out
        clear hlb hp hC hge HF HLB
        go_wp2_with (go_at_call 106; refine (find1_any _ _ _ _ x C _ HC.out).mono ?_; rintro e w2 ⟨rfl, hb2⟩; have HB2 : Hid (Below w.heap.size w w2) := below_next HI.out.2.2 hb2; clear hb2)
        go_ret2
        exact ⟨by rw [HG.out]; rfl, HB2.out⟩
      · have HF : Hid ((lnAt L x).isSome = false) := by
          show _ = _
          unfold lnAt
          rw [hlb, List.getElem?_eq_none (by rw [HN.out]; omega)]
          rfl
        obtain rfl : LB = hi := HLB0.out.symm.trans hlb
        have HG : Hid (FD = false) := HFD0.out.symm.trans HF.out
        clear hlb HF HLB
        go_wp2
        go_ret2
        exact ⟨by rw [HG.out]; rfl, HI.out.2.2⟩
set_option maxRecDepth 20000 in
theorem find_any (L : List Ln) (a : Option Addr) (n cap : Nat) (x : Int) (w : World) (hn : L.length = n) (hl : Lns w a L) (hm : n ≤ 16) (hr : linesFrom (-1) L = true) :
    Calls Tryz.prog 91 #[.slice a n cap, .int .i64 x] w fun e w' => e = .returned (.tuple #[.int .i64 (lbI L x : Nat), .bool (lnAt L x).isSome]) ∧ Below w.heap.size w w' := by
  have HN : Hid (L.length = n) := hn
  have HL : Hid (Lns w a L) := hl
  have HR : Hid (linesFrom (-1) L = true) := hr
  clear hn hl hr
  go_enter Tryz.func91, Tryz.ntmps91
  go_wp2_with (go_at_call 105; refine (bsf_any L a n cap x _ HN.out HL.out hm HR.out).mono ?_; rintro e w2 ⟨rfl, hb2⟩)
  go_ret2
  exact ⟨rfl, hb2⟩
end Go.Proofs.YtblfmfanfpohbaaGreat
namespace Go.Proofs.YtblfmfanfpohbaaGreat
open Go.ChangeShapes Go.WideShapes Go.ChangeAt Go.RowKit
set_option linter.unusedVariables false
/-- the numbers l lie in block b -/
def IntRow (w : World) (b : Nat) (l : List Int) : Prop := b < w.heap.size ∧ ∀ j y, l[j]? = some y → w.cell? ⟨b, j, none⟩ = some (.int .i64 y)
theorem IntRow.keep {w x : World} {b : Nat} {l : List Int} (h : IntRow w b l) (hb : Below w.heap.size w x) : IntRow x b l := ⟨Nat.lt_of_lt_of_le h.1 hb.size, fun j y hy => (hb.cell (p := ⟨b, j, none⟩) h.1).trans (h.2 j y hy)⟩
set_option maxRecDepth 20000 in
set_option maxHeartbeats 1000000 in
theorem index_any (l : List Int) (b n cap : Nat) (x : Int) (w : World) (hn : l.length = n) (hr : IntRow w b l) (hm : n ≤ 16) :
    Calls Tryz.prog 104 #[.slice (some ⟨b, 0, none⟩) n cap, .int .i64 x] w fun e w' => (∃ r : Int, e = .returned (.int .i64 r) ∧ decide (0 ≤ r) = l.any (fun y => x == y)) ∧ w = w' := by
  have HN : Hid (l.length = n) := hn
  have HR : Hid (IntRow w b l) := hr
  clear hn hr
  go_enter Tryz.func104, Tryz.ntmps104
  go_wp2
  go_loop [8] (fun vi => ∃ k : Nat, k ≤ n ∧ vi = .int .i64 k ∧ Hid (l.any (fun y => x == y) = (l.drop k).any (fun y => x == y))) (fun vi => n - (intOf vi).toNat)
  case atStart => exact ⟨0, Nat.zero_le _, rfl, rfl⟩
  case round =>
    obtain ⟨k, hk, rfl, HI⟩ := hrel
    by_cases hkn : k < n
    · obtain ⟨y, hy⟩ := ln_get (L := l) (k := k) (by rw [HN.out]; exact hkn)
      have c := HR.out.2 k y hy
      have hd : (l.drop k).any (fun y => x == y) = (x == y || (l.drop (k + 1)).any (fun y => x == y)) := by rw [ln_drop l k y hy]; rfl
      have HD : Hid (l.any (fun y => x == y) = (x == y || (l.drop (k + 1)).any (fun y => x == y))) := HI.out.trans hd
      clear hy hd
      cases hxy : (x == y) with
      | true =>
        go_wp2
        go_ret
        exact ⟨⟨k, rfl, by rw [HD.out, hxy]; simp⟩, rfl⟩
      | false =>
        go_wp2
        go_round
        case rel => exact ⟨k + 1, by omega, by go_num, by rw [HD.out, hxy]; rfl⟩
        case measure => simp [intOf]; omega
    · have HT : Hid (l.any (fun y => x == y) = false) := by show _ = _; rw [HI.out, List.drop_eq_nil_of_le (by rw [HN.out]; omega)]; rfl
      go_wp2
      go_ret
      exact ⟨⟨-1, rfl, by rw [HT.out]; rfl⟩, rfl⟩
set_option maxRecDepth 20000 in
theorem contains_any (l : List Int) (b n cap : Nat) (x : Int) (w : World) (hn : l.length = n) (hr : IntRow w b l) (hm : n ≤ 16) :
    Calls Tryz.prog 89 #[.slice (some ⟨b, 0, none⟩) n cap, .int .i64 x] w fun e w' => e = .returned (.bool (l.any (fun y => x == y))) ∧ w = w' := by
  have HN : Hid (l.length = n) := hn
  have HR : Hid (IntRow w b l) := hr
  clear hn hr
  go_enter Tryz.func89, Tryz.ntmps89
  go_wp2_with (go_at_call 104; refine (index_any l b n cap x _ HN.out HR.out hm).mono ?_; rintro _ _ ⟨⟨r, rfl, hr⟩, rfl⟩; have HRR : Hid (decide (0 ≤ r) = l.any (fun y => x == y)) := hr; clear hr)
  go_ret
  exact ⟨ret_bool HRR.out, rfl⟩
/-- all blocks of w from lo on are as they were -/
def Same (lo : Nat) (w x : World) : Prop := w.heap.size ≤ x.heap.size ∧ ∀ k, lo ≤ k → k < w.heap.size → x.heap[k]? = w.heap[k]?
theorem same_of {lo : Nat} {w x : World} (h : Below w.heap.size w x) : Same lo w x := ⟨h.size, fun k _ hk => h.block k hk⟩
theorem Same.refl (lo : Nat) (w : World) : Same lo w w := ⟨Nat.le_refl _, fun _ _ _ => rfl⟩
theorem Same.trans {lo : Nat} {w x y : World} (h : Same lo w x) (k : Same lo x y) : Same lo w y := ⟨Nat.le_trans h.1 k.1, fun i h1 h2 => (k.2 i h1 (Nat.lt_of_lt_of_le h2 h.1)).trans (h.2 i h1 h2)⟩
theorem Same.next {lo : Nat} {w x y : World} (h : Same lo w x) (k : Below x.heap.size x y) : Same lo w y := h.trans (same_of k)
theorem Same.cell {lo : Nat} {w x : World} (h : Same lo w x) {b : Nat} (j : Nat) (h1 : lo ≤ b) (h2 : b < w.heap.size) : x.cell? ⟨b, j, none⟩ = w.cell? ⟨b, j, none⟩ := World.cell?_of_block (a := ⟨b, j, none⟩) (h.2 b h1 h2)
theorem IntRow.same {lo : Nat} {w x : World} {b : Nat} {l : List Int} (h : IntRow w b l) (hb : Same lo w x) (h1 : lo ≤ b) : IntRow x b l := ⟨Nat.lt_of_lt_of_le h.1 hb.1, fun j y hy => (hb.cell j h1 h.1).trans (h.2 j y hy)⟩
/-- the function value v tells f of a state, in whatever world comes -/
def SuitsOk (lo : Nat) (w : World) (v : Value) (f : St → Bool) : Prop :=
  ∃ (g : Nat) (cb : Array Value), v = .func (Fn.func g) #[] cb ∧ (∀ (a : Array Value) (x : World), (callFunc g a).run Tryz.prog x = .ok (.enter g a) x) ∧
    ∀ (x : World) (s : St) (a : Option Addr) (n cap : Nat), Same lo w x → s.lines.length = n → Lns x a s.lines → n ≤ maxLen →
      Calls Tryz.prog g (#[.agg (stA s (.slice a n cap))] ++ cb) x fun r x' => r = .returned (.bool (f s)) ∧ Below x.heap.size x x'
theorem SuitsOk.keep {lo : Nat} {w x : World} {v : Value} {f : St → Bool} (h : SuitsOk lo w v f) (hb : Same lo w x) : SuitsOk lo x v f := by
  obtain ⟨g, cb, h1, h2, h3⟩ := h
  exact ⟨g, cb, h1, h2, fun y s a n cap hy => h3 y s a n cap (hb.trans hy)⟩
set_option maxRecDepth 20000 in
set_option maxHeartbeats 1000000 in
theorem at1_any (l : List Int) (bx bs m : Nat) (s : St) (a : Option Addr) (n cap : Nat) (w : World) (hm : l.length = m) (hm16 : m ≤ 16) (hbx : bx < w.heap.size) (hc : w.cell? ⟨bx, 0, none⟩ = some (.slice (some ⟨bs, 0, none⟩) m m)) (hr : IntRow w bs l) :
    Calls Tryz.prog 88 #[.agg (stA s (.slice a n cap)), .pointer (some ⟨bx, 0, none⟩)] w fun r w' => r = .returned (.bool (l.any (fun y => s.status == y))) ∧ Below w.heap.size w w' := by
  have HM : Hid (l.length = m) := hm
  have hb1 : Below w.heap.size w (w.alloc (.cells (stA s (.slice a n cap)) 25)) := (Below.refl _ _).alloc (Nat.le_refl _) _
  have HR : Hid (IntRow (w.alloc (.cells (stA s (.slice a n cap)) 25)) bs l) := hr.keep hb1
  have HB : Hid (Below w.heap.size w (w.alloc (.cells (stA s (.slice a n cap)) 25))) := hb1
  clear hm hr hb1
  unfold stA at HR HB ⊢
  go_enter Tryz.func88, Tryz.ntmps88
  go_wp2_with (go_at_call 89; refine (contains_any l bs m m s.status _ HM.out HR.out hm16).mono ?_; rintro _ _ ⟨rfl, rfl⟩)
  go_ret
  exact ⟨rfl, HB.out⟩
theorem cf_at1 (a : Array Value) (w : World) : (callFunc 88 a).run Tryz.prog w = .ok (.enter 88 a) w := by kernel_rfl
theorem cf_both1 (a : Array Value) (w : World) : (callFunc 90 a).run Tryz.prog w = .ok (.enter 90 a) w := by kernel_rfl
theorem cf_unpaid (a : Array Value) (w : World) : (callFunc 51 a).run Tryz.prog w = .ok (.enter 51 a) w := by kernel_rfl
theorem cf_unshipped (a : Array Value) (w : World) : (callFunc 60 a).run Tryz.prog w = .ok (.enter 60 a) w := by kernel_rfl
set_option maxRecDepth 20000 in
theorem unpaid_any (s : St) (a : Option Addr) (n cap : Nat) (w : World) : Calls Tryz.prog 51 #[.agg (stA s (.slice a n cap))] w fun r w' => r = .returned (.bool (s.paid == 0)) ∧ Below w.heap.size w w' := by
  unfold stA
  go_enter Tryz.func51, Tryz.ntmps51
  go_wp2
  go_ret
  exact ⟨rfl, (Below.refl _ _).alloc (Nat.le_refl _) _⟩
theorem unpaid_suits (lo : Nat) (w : World) : SuitsOk lo w (.func (Fn.func 51) #[] #[]) (fun s => s.paid == 0) :=
  ⟨_, _, rfl, cf_unpaid, fun x s a n cap _ _ _ _ => unpaid_any s a n cap x⟩
theorem unshipped_suits (lo : Nat) (w : World) : SuitsOk lo w (.func (Fn.func 60) #[] #[]) (fun s => unshB s.lines) :=
  ⟨_, _, rfl, cf_unshipped, fun x s a n cap _ hn hl hm => unshipped_any s a n cap x hn hl hm⟩
set_option maxRecDepth 20000 in
theorem at_any (lo : Nat) (l : List Int) (bs m : Nat) (w : World) (hm : l.length = m) (hm16 : m ≤ 16) (hr : IntRow w bs l) (hlo : lo ≤ bs) :
    Calls Tryz.prog 47 #[.slice (some ⟨bs, 0, none⟩) m m] w fun r w' => ∃ v, r = .returned v ∧ SuitsOk lo w' v (fun s => l.any (fun y => s.status == y)) ∧ Below w.heap.size w w' := by
  have HM : Hid (l.length = m) := hm
  have HR : Hid (IntRow w bs l) := hr
  clear hm hr
  go_enter Tryz.func47, Tryz.ntmps47
  go_wp2
  go_ret
  have hb1 : Below w.heap.size w (w.alloc (.cells #[.slice (some ⟨bs, 0, none⟩) m m] 107)) := (Below.refl _ _).alloc (Nat.le_refl _) _
  refine ⟨_, rfl, ⟨_, _, rfl, cf_at1, fun x s a n cap hx hn hl hmx => ?_⟩, hb1⟩
  have hlt : w.heap.size < (w.alloc (.cells #[.slice (some ⟨bs, 0, none⟩) m m] 107)).heap.size := by simp
  exact at1_any l w.heap.size bs m s a n cap x HM.out hm16 (Nat.lt_of_lt_of_le hlt hx.1) ((hx.cell 0 (Nat.le_trans hlo (Nat.le_of_lt HR.out.1)) hlt).trans (by rw [cell_of_row _ w.heap.size 0 _ _ (0, 0) (heap_alloc_new w _)]; rfl)) ((HR.out.keep hb1).same hx hlo)
end Go.Proofs.YtblfmfanfpohbaaGreat
namespace Go.Proofs.YtblfmfanfpohbaaGreat
open Go.ChangeShapes Go.WideShapes Go.ChangeAt Go.RowKit
set_option linter.unusedVariables false
set_option maxRecDepth 20000 in
set_option maxHeartbeats 1000000 in
theorem both1_any (lo : Nat) (w : World) (va vb : Value) (f g : St → Bool) (ha : SuitsOk lo w va f) (hb : SuitsOk lo w vb g) (ba bb : Nat) (x : World) (hx : Same lo w x) (ca : x.cell? ⟨ba, 0, none⟩ = some va) (cb : x.cell? ⟨bb, 0, none⟩ = some vb) (hba : ba < x.heap.size) (hbb : bb < x.heap.size)
    (s : St) (a : Option Addr) (n cap : Nat) (hn : s.lines.length = n) (hl : Lns x a s.lines) (hm : n ≤ maxLen) :
    Calls Tryz.prog 90 #[.agg (stA s (.slice a n cap)), .pointer (some ⟨ba, 0, none⟩), .pointer (some ⟨bb, 0, none⟩)] x fun r x' => r = .returned (.bool (f s && g s)) ∧ Below x.heap.size x x' := by
  obtain ⟨ga, cba, rfl, ea, Ca⟩ := ha
  obtain ⟨gb, cbb, rfl, eb, Cb⟩ := hb
  have HC0 : Hid (StC x x.heap.size s a n cap (x.alloc (.cells (stA s (.slice a n cap)) 25))) := StC.new x s a n cap hl
  have CA : Hid (∀ (y : World), Same lo w y → Lns y a s.lines → Calls Tryz.prog ga (#[.agg (stA s (.slice a n cap))] ++ cba) y fun r x' => r = .returned (.bool (f s)) ∧ Below y.heap.size y x') := fun y hy hly => Ca y s a n cap hy hn hly hm
  have CB : Hid (∀ (y : World), Same lo w y → Lns y a s.lines → Calls Tryz.prog gb (#[.agg (stA s (.slice a n cap))] ++ cbb) y fun r x' => r = .returned (.bool (g s)) ∧ Below y.heap.size y x') := fun y hy hly => Cb y s a n cap hy hn hly hm
  have HX : Hid (Same lo w x) := hx
  have HCB : Hid (x.cell? ⟨bb, 0, none⟩ = some (.func (Fn.func gb) #[] cbb) ∧ bb < x.heap.size) := ⟨cb, hbb⟩
  obtain ⟨F, hF⟩ : ∃ F, f s = F := ⟨_, rfl⟩
  obtain ⟨G, hG⟩ : ∃ G, g s = G := ⟨_, rfl⟩
  rw [hF] at CA ⊢
  rw [hG] at CB ⊢
  clear Ca Cb hn hl hx hF hG hbb cb
  cases F
  all_goals
    go_enter Tryz.func90, Tryz.ntmps90
    go_wp2_with (first
      | ((with_reducible refine guard_load 25 ?_); refine wpList_load_st rfl _ rfl HC0.out.1 rfl ?_)
      | ((with_reducible refine guard_loadg 25 ?_); refine wpList_load_stg rfl _ rfl HC1.out.1 rfl ?_)
      | ((with_reducible refine (CA.out _ ?_ ?_).mono ?_); (exact HX.out.next HC0.out.2.2); (exact HC0.out.2.1); rintro _ x1 ⟨rfl, hb1⟩; have HC1 : Hid (StC x x.heap.size s a n cap x1) := StC.keep HC0.out hb1; have cb1 : x1.cell? ⟨bb, 0, none⟩ = some (.func (Fn.func gb) #[] cbb) := (HC1.out.2.2.cell (p := ⟨bb, 0, none⟩) HCB.out.2).trans HCB.out.1; clear hb1)
      | ((with_reducible refine (CB.out _ ?_ ?_).mono ?_); (exact HX.out.next HC1.out.2.2); (exact HC1.out.2.1); rintro _ x2 ⟨rfl, hb2⟩; have HC2 : Hid (StC x x.heap.size s a n cap x2) := StC.keep HC1.out hb2; clear hb2))
    go_ret
    first | exact ⟨rfl, HC2.out.2.2⟩ | exact ⟨rfl, HC1.out.2.2⟩
set_option maxRecDepth 20000 in
theorem both_any (lo : Nat) (w : World) (va vb : Value) (f g : St → Bool) (ha : SuitsOk lo w va f) (hb : SuitsOk lo w vb g) (hlo : lo ≤ w.heap.size) :
    Calls Tryz.prog 50 #[va, vb] w fun r w' => ∃ v, r = .returned v ∧ SuitsOk lo w' v (fun s => f s && g s) ∧ Below w.heap.size w w' := by
  have HA : Hid (SuitsOk lo w va f) := ha
  have HB : Hid (SuitsOk lo w vb g) := hb
  obtain ⟨ga, cba, rfl, ea, _⟩ := ha
  obtain ⟨gb, cbb, rfl, eb, _⟩ := hb
  clear ea eb
  go_enter Tryz.func50, Tryz.ntmps50
  go_wp2
  go_ret
  have hb1 : ∀ O1 O2, Below w.heap.size w ((w.alloc O1).alloc O2) := fun O1 O2 => ((Below.refl _ _).alloc (Nat.le_refl _) _).alloc (by simp) _
  refine ⟨_, rfl, ⟨_, _, rfl, cf_both1, fun x s a n cap hx hn hl hmx => ?_⟩, hb1 _ _⟩
  have hs := hx.1
  simp at hs
  refine both1_any lo w _ _ f g HA.out HB.out w.heap.size (w.heap.size + 1) x ((same_of (hb1 _ _)).trans hx) ?_ ?_ (by omega) (by omega) s a n cap hn hl hmx
  · rw [hx.cell 0 hlo (by first | (simp; done) | (simp; omega))]
    simp
  · rw [hx.cell 0 (Nat.le_succ_of_le hlo) (by first | (simp; done) | (simp; omega))]
    simp
end Go.Proofs.YtblfmfanfpohbaaGreat
namespace Go.Proofs.YtblfmfanfpohbaaGreat
open Go.ChangeShapes Go.WideShapes Go.ChangeAt Go.RowKit
set_option linter.unusedVariables false
set_option linter.unusedSimpArgs false
/-- the function value v tells f of a valid state and a right event of the kind k, in whatever world comes -/
def RefOk (lo : Nat) (w : World) (v : Value) (k : Int) : Prop :=
  ∃ (g : Nat) (cb : Array Value), v = .func (Fn.func g) #[] cb ∧ (∀ (a : Array Value) (x : World), (callFunc g a).run Tryz.prog x = .ok (.enter g a) x) ∧
    ∀ (x : World) (s : St) (e : Ev) (a : Option Addr) (n cap : Nat), Same lo w x → s.lines.length = n → Lns x a s.lines → vldB s = true → chk 5 e = 0 → e.kind = k →
      Calls Tryz.prog g (#[.agg (stA s (.slice a n cap)), .agg (evA e)] ++ cb) x fun r x' => r = .returned (.int .i64 (refR s e)) ∧ Below x.heap.size x x'
theorem RefOk.keep {lo : Nat} {w x : World} {v : Value} {k : Int} (h : RefOk lo w v k) (hb : Same lo w x) : RefOk lo x v k := by
  obtain ⟨g, cb, h1, h2, h3⟩ := h
  exact ⟨g, cb, h1, h2, fun y s e a n cap hy => h3 y s e a n cap (hb.trans hy)⟩
theorem cf_never (a : Array Value) (w : World) : (callFunc 48 a).run Tryz.prog w = .ok (.enter 48 a) w := by kernel_rfl
theorem cf_refuseAdd (a : Array Value) (w : World) : (callFunc 52 a).run Tryz.prog w = .ok (.enter 52 a) w := by kernel_rfl
theorem cf_money1 (a : Array Value) (w : World) : (callFunc 93 a).run Tryz.prog w = .ok (.enter 93 a) w := by kernel_rfl
theorem cf_taking1 (a : Array Value) (w : World) : (callFunc 94 a).run Tryz.prog w = .ok (.enter 94 a) w := by kernel_rfl
set_option maxRecDepth 20000 in
theorem never_any (s : St) (e : Ev) (v : Value) (w : World) : Calls Tryz.prog 48 #[.agg (stA s v), .agg (evA e)] w fun r w' => r = .returned (.int .i64 0) ∧ Below w.heap.size w w' := by
  have HB : ∀ O1 O2, Hid (Below w.heap.size w ((w.alloc O1).alloc O2)) := fun O1 O2 => ((Below.refl _ _).alloc (Nat.le_refl _) _).alloc (by simp) _
  go_enter Tryz.func48, Tryz.ntmps48
  go_wp2
  go_ret
  exact ⟨rfl, (HB _ _).out⟩
theorem never_ref (lo : Nat) (w : World) (k : Int) (h2 : k ≠ 2) (h3 : k ≠ 3) (h4 : k ≠ 4) (h6 : k ≠ 6) (h7 : k ≠ 7) : RefOk lo w (.func (Fn.func 48) #[] #[]) k := by
  refine ⟨_, _, rfl, cf_never, fun x s e a n cap _ _ _ _ _ hk => ?_⟩
  have h0 : refR s e = 0 := by
    unfold refR
    rw [if_neg (by omega), if_neg (by omega), if_neg (by omega), if_neg (by omega), if_neg (by omega)]
  rw [h0]
  exact never_any s e _ x
/-- a state in block b, an event in the next, beside what lay there -/
structure SE (w : World) (s : St) (e : Ev) (a : Option Addr) (n cap : Nat) (x : World) : Prop where
  st : StAt x w.heap.size s (.slice a n cap)
  ev : EvAt x (w.heap.size + 1) e
  ln : Lns x a s.lines
  bel : Below w.heap.size w x
theorem SE.keep {w x y : World} {s : St} {e : Ev} {a : Option Addr} {n cap : Nat} (h : SE w s e a n cap x) (hb : Below x.heap.size x y) : SE w s e a n cap y :=
  ⟨h.st.after hb, h.ev.after hb, h.ln.keep hb, h.bel.trans (hb.mono h.bel.size)⟩
theorem SE.new (w : World) (s : St) (e : Ev) (a : Option Addr) (n cap : Nat) (h : Lns w a s.lines) : SE w s e a n cap ((w.alloc (.cells (stA s (.slice a n cap)) 25)).alloc (.cells (evA e) 38)) := by
  have b1 : Below w.heap.size w ((w.alloc (.cells (stA s (.slice a n cap)) 25)).alloc (.cells (evA e) 38)) := ((Below.refl _ _).alloc (Nat.le_refl _) _).alloc (by simp) _
  refine ⟨(StAt.new w s _).after ((Below.refl _ _).alloc (Nat.le_refl _) _), ?_, h.keep b1, b1⟩
  have := evAt_new (w.alloc (.cells (stA s (.slice a n cap)) 25)) e
  simpa using this
theorem se_new (w : World) (s : St) (e : Ev) (a : Option Addr) (n cap : Nat) (h : Lns w a s.lines) : ∃ W, (w.alloc (.cells (stA s (.slice a n cap)) 25)).alloc (.cells (evA e) 38) = W ∧ SE w s e a n cap W := ⟨_, rfl, SE.new w s e a n cap h⟩
theorem SE.drew {w x : World} {s : St} {e : Ev} {a : Option Addr} {n cap : Nat} (h : SE w s e a n cap x) : SE w s e a n cap x.drew := h.keep (Below.refl _ _).drew
theorem EvAt.cell {w : World} {b : Nat} {e : Ev} (h : EvAt w b e) (i : Nat) (x : Value) (hx : (evA e)[i]? = some x) : w.cell? ⟨b, i, none⟩ = some x := by
  rw [cell_of_row w b i (evA e) 38 (0, 0) h]; exact hx
/-- what is left of money -/
def LeftOk (w : World) (v : Value) (f : St → Int) : Prop :=
  ∃ (g : Nat), v = .func (Fn.func g) #[] #[] ∧ (∀ (a : Array Value) (x : World), (callFunc g a).run Tryz.prog x = .ok (.enter g a) x) ∧
    ∀ (x : World) (s : St) (a : Option Addr) (n cap : Nat), s.lines.length = n → Lns x a s.lines → vldB s = true →
      Calls Tryz.prog g #[.agg (stA s (.slice a n cap))] x fun r x' => r = .returned (.int .i64 (f s)) ∧ Below x.heap.size x x'
theorem cf_unpaidRest (a : Array Value) (w : World) : (callFunc 55 a).run Tryz.prog w = .ok (.enter 55 a) w := by kernel_rfl
theorem cf_keptRest (a : Array Value) (w : World) : (callFunc 64 a).run Tryz.prog w = .ok (.enter 64 a) w := by kernel_rfl
theorem cf_unshippedRest (a : Array Value) (w : World) : (callFunc 58 a).run Tryz.prog w = .ok (.enter 58 a) w := by kernel_rfl
theorem cf_ordered (a : Array Value) (w : World) : (callFunc 62 a).run Tryz.prog w = .ok (.enter 62 a) w := by kernel_rfl
theorem vld_due {s : St} (h : vldB s = true) : linesB s.lines = true ∧ 0 ≤ s.tax ∧ s.tax ≤ 5000 ∧ 0 ≤ s.paid ∧ s.paid ≤ dueS s ∧ 0 ≤ s.refunded ∧ s.refunded ≤ s.paid ∧ dueS s ≤ 240000000000000 := by
  simp only [vldB, bndS, Bool.and_eq_true, wit_true] at h
  have ht : 0 ≤ s.tax ∧ s.tax ≤ 5000 := by omega
  have := due_bound h.2.1 ht.1 ht.2
  exact ⟨h.2.1, ht.1, ht.2, by omega, by omega, by omega, by omega, by omega⟩
set_option maxRecDepth 20000 in
set_option maxHeartbeats 1000000 in
theorem keptRest_any (s : St) (a : Option Addr) (n cap : Nat) (w : World) (hv : vldB s = true) : Calls Tryz.prog 64 #[.agg (stA s (.slice a n cap))] w fun r w' => r = .returned (.int .i64 (s.paid - s.refunded)) ∧ Below w.heap.size w w' := by
  obtain ⟨_, _, _, p1, p2, f1, f2, d2⟩ := vld_due hv
  have hp : s.paid ≤ 240000000000000 := by omega
  clear hv p2 d2
  unfold stA
  go_enter Tryz.func64, Tryz.ntmps64
  go_wp2
  go_ret
  exact ⟨rfl, (Below.refl _ _).alloc (Nat.le_refl _) _⟩
set_option maxRecDepth 20000 in
set_option maxHeartbeats 4000000 in
theorem unpaidRest_any (s : St) (a : Option Addr) (n cap : Nat) (w : World) (hn : s.lines.length = n) (hl : Lns w a s.lines) (hv : vldB s = true) : Calls Tryz.prog 55 #[.agg (stA s (.slice a n cap))] w fun r w' => r = .returned (.int .i64 (dueS s - s.paid)) ∧ Below w.heap.size w w' := by
  obtain ⟨l1, t1, t2, p1, p2, f1, f2, d2⟩ := vld_due hv
  have HE := (StC.new w s a n cap hl).drew
  obtain ⟨E, hE⟩ : ∃ E, StC w w.heap.size s a n cap = E := ⟨_, rfl⟩
  have R : Hid (∀ w2, E w2 → w2.cell? ⟨w.heap.size, 6, none⟩ = some (.int .i64 s.paid)) := fun w2 h => by rw [← hE] at h; exact h.1.cell 6 _ rfl
  have RS : Hid (∀ w2, E w2 → StAt w2 w.heap.size s (.slice a n cap)) := fun w2 h => by rw [← hE] at h; exact h.1
  have HBel : Hid (∀ w2, E w2 → Below w.heap.size w w2) := fun w2 h => by rw [← hE] at h; exact h.2.2
  have HLn : Hid (∀ w2, E w2 → Lns w2 a s.lines) := fun w2 h => by rw [← hE] at h; exact h.2.1
  have HK : Hid (∀ w1 w2, E w1 → Below w1.heap.size w1 w2 → E w2) := fun w1 w2 h h2 => by rw [← hE] at h ⊢; exact h.keep h2
  have CD : Hid (∀ w2, E w2 → Calls Tryz.prog 19 #[.agg (stA s (.slice a n cap))] w2 fun e w' => e = .returned (.int .i64 (dueS s)) ∧ E w') := fun w2 h => (due_any s a n cap w2 hn (HLn.out w2 h) l1 t1 t2).mono fun e w' ⟨h1, h2⟩ => ⟨h1, HK.out _ _ h h2⟩
  obtain ⟨D, hD⟩ : ∃ D, dueS s = D := ⟨_, rfl⟩
  rw [hD] at CD p2 d2 ⊢
  rw [hE] at HE
  have HEE : Hid (E (World.drew _)) := HE
  clear hn hl hv hD hE HE l1 f1 f2
  go_enter Tryz.func55, Tryz.ntmps55
  go_wp2
  refine wp_region_quiet (C := E) (by kernel_rfl) (by kernel_rfl) HEE.out ?_
  simp only [List.toList_toArray]
  repeat (any_goals (first
    | go_big_quiet_skip
    | (go_big_quiet_want
       first
       | (refine quiet_val (v := .agg (stA s (.slice a n cap))) (fun w2 hw2 => exec_load_st (.tmp 1) rfl rfl (RS.out w2 hw2)) ?_
          go_big_quiet_on
          simp only [Act.put, List.setIfInBounds_toArray, List.set_cons_zero, List.set_cons_succ])
       | (refine quiet_val (v := ?_) (fun w2 hw2 => ?_) ?_
          rotate_left
          · (first | (go_simp; with_reducible rfl) | (have q1 := R.out w2 hw2; go_simp; with_reducible rfl))
          go_big_quiet_on
          simp only [Act.put, List.setIfInBounds_toArray, List.set_cons_zero, List.set_cons_succ])
       | (refine quiet_call (v := ?_) (f := ?_) (args := ?_) (fun w2 hw2 => ?_) (fun w2 hw2 => ?_) ?_
          rotate_left 3
          · (go_simp; refine ⟨?_, ?_⟩ <;> with_reducible rfl)
          · (skip; exact CD.out _ hw2)
          (go_big_quiet_on; simp only [Act.put, List.setIfInBounds_toArray, List.set_cons_zero, List.set_cons_succ])))))
  all_goals
    refine wpQuiet_nil ?_
    intro w3 hw3
    go_wp2
    go_ret
    exact ⟨ret_int (by first | rfl | exact wrap64_in (by omega) (by omega) | (rw [IntKind.wrap_i64]; omega)), HBel.out _ hw3⟩
theorem kept_left (w : World) : LeftOk w (.func (Fn.func 64) #[] #[]) (fun s => s.paid - s.refunded) := ⟨_, rfl, cf_keptRest, fun x s a n cap _ _ hv => keptRest_any s a n cap x hv⟩
theorem unpaid_left (w : World) : LeftOk w (.func (Fn.func 55) #[] #[]) (fun s => dueS s - s.paid) := ⟨_, rfl, cf_unpaidRest, fun x s a n cap hn hl hv => unpaidRest_any s a n cap x hn hl hv⟩
end Go.Proofs.YtblfmfanfpohbaaGreat
namespace Go.Proofs.YtblfmfanfpohbaaGreat
open Go.ChangeShapes Go.WideShapes Go.ChangeAt Go.RowKit
set_option linter.unusedVariables false
set_option linter.unusedSimpArgs false
set_option maxRecDepth 20000 in
set_option maxHeartbeats 4000000 in
theorem money1_any (w : World) (v : Value) (f : St → Int) (hf : LeftOk w v f) (bm : Nat) (x : World) (hc : x.cell? ⟨bm, 0, none⟩ = some v) (hbm : bm < x.heap.size)
    (s : St) (e : Ev) (a : Option Addr) (n cap : Nat) (hn : s.lines.length = n) (hl : Lns x a s.lines) (hv : vldB s = true) :
    Calls Tryz.prog 93 #[.agg (stA s (.slice a n cap)), .agg (evA e), .pointer (some ⟨bm, 0, none⟩)] x fun r x' => r = .returned (.int .i64 (refMoney (f s) e)) ∧ Below x.heap.size x x' := by
  obtain ⟨g, rfl, eg, C⟩ := hf
  obtain ⟨W, hW, HS⟩ := se_new x s e a n cap hl
  have HS1 : Hid (SE x s e a n cap W) := HS
  by_cases hp : e.price = 0
  · have hp' : (e.price == 0) = true := by simpa using hp
    rw [show refMoney (f s) e = 6 from if_pos hp]
    have c4 := HS.ev.cell 4 (.int .i64 e.price) rfl
    clear HS C hn hl hv hp
    go_enter Tryz.func93, Tryz.ntmps93
    go_wp2
    go_ret
    exact ⟨rfl, HS1.out.bel⟩
  · have hp' : (e.price == 0) = false := by simpa using hp
    have HE := HS.drew
    obtain ⟨E, hE⟩ : ∃ E, SE x s e a n cap = E := ⟨_, rfl⟩
    have R : Hid (∀ w2, E w2 → w2.cell? ⟨x.heap.size + 1, 4, none⟩ = some (.int .i64 e.price) ∧ w2.cell? ⟨bm, 0, none⟩ = some (.func (Fn.func g) #[] #[])) := fun w2 h => by rw [← hE] at h; exact ⟨h.ev.cell 4 _ rfl, (h.bel.cell (p := ⟨bm, 0, none⟩) hbm).trans hc⟩
    have RS : Hid (∀ w2, E w2 → StAt w2 x.heap.size s (.slice a n cap)) := fun w2 h => by rw [← hE] at h; exact h.st
    have HBel : Hid (∀ w2, E w2 → Below x.heap.size x w2) := fun w2 h => by rw [← hE] at h; exact h.bel
    have CD : Hid (∀ w2, E w2 → Calls Tryz.prog g #[.agg (stA s (.slice a n cap))] w2 fun e w' => e = .returned (.int .i64 (f s)) ∧ E w') := fun w2 h => by
      rw [← hE] at h ⊢
      exact (C w2 s a n cap hn h.ln hv).mono fun e w' ⟨h1, h2⟩ => ⟨h1, h.keep h2⟩
    obtain ⟨D, hD⟩ : ∃ D, f s = D := ⟨_, rfl⟩
    rw [hD] at CD ⊢
    rw [hE] at HE
    have HEE : Hid (E (World.drew _)) := HE
    have c4 := HS.ev.cell 4 (.int .i64 e.price) rfl
    rw [show refMoney D e = if D < e.price then 10 else 0 from if_neg hp]
    clear HS C hn hl hv hD hE HE hp hc hbm
    by_cases hlt : D < e.price
    all_goals
      first | rw [if_pos hlt] | rw [if_neg hlt]
      go_enter Tryz.func93, Tryz.ntmps93
      go_wp2
      refine wp_region_quiet (C := E) (by kernel_rfl) (by kernel_rfl) HEE.out ?_
      simp only [List.toList_toArray]
      repeat (any_goals (first
        | go_big_quiet_skip
        | (go_big_quiet_want
           first
           | (refine quiet_val (v := .agg (stA s (.slice a n cap))) (fun w2 hw2 => exec_load_st (.tmp 3) rfl rfl (RS.out w2 hw2)) ?_
              go_big_quiet_on
              simp only [Act.put, List.setIfInBounds_toArray, List.set_cons_zero, List.set_cons_succ])
           | (refine quiet_val (v := ?_) (fun w2 hw2 => ?_) ?_
              rotate_left
              · (first | (go_simp; with_reducible rfl) | (obtain ⟨q1, q2⟩ := R.out w2 hw2; go_simp; with_reducible rfl))
              go_big_quiet_on
              simp only [Act.put, List.setIfInBounds_toArray, List.set_cons_zero, List.set_cons_succ])
           | (refine quiet_call (v := ?_) (f := ?_) (args := ?_) (fun w2 hw2 => ?_) (fun w2 hw2 => ?_) ?_
              rotate_left 3
              · (go_simp; refine ⟨?_, ?_⟩ <;> with_reducible rfl)
              · (skip; exact CD.out _ hw2)
              (go_big_quiet_on; simp only [Act.put, List.setIfInBounds_toArray, List.set_cons_zero, List.set_cons_succ])))))
      all_goals
        refine wpQuiet_nil ?_
        intro w3 hw3
        go_wp2
        go_ret
        exact ⟨rfl, HBel.out _ hw3⟩
set_option maxRecDepth 20000 in
theorem money_any (lo : Nat) (w : World) (v : Value) (f : St → Int) (k : Int) (hlo : lo ≤ w.heap.size) (hf : LeftOk w v f) (hk : ∀ (s : St) (e : Ev), e.kind = k → refR s e = refMoney (f s) e) :
    Calls Tryz.prog 54 #[v] w fun r w' => ∃ u, r = .returned u ∧ RefOk lo w' u k ∧ Below w.heap.size w w' := by
  have HF : Hid (LeftOk w v f) := hf
  have HK : Hid (∀ (s : St) (e : Ev), e.kind = k → refR s e = refMoney (f s) e) := hk
  obtain ⟨g, rfl, eg, _⟩ := hf
  clear eg hk
  go_enter Tryz.func54, Tryz.ntmps54
  go_wp2
  go_ret
  have hb1 : ∀ O1, Below w.heap.size w (w.alloc O1) := fun O1 => (Below.refl _ _).alloc (Nat.le_refl _) _
  refine ⟨_, rfl, ⟨_, _, rfl, cf_money1, fun x s e a n cap hx hn hl hv hc hke => ?_⟩, hb1 _⟩
  have hs := hx.1
  simp at hs
  rw [HK.out s e hke]
  refine money1_any w _ f HF.out w.heap.size x ?_ (by omega) s e a n cap hn hl hv
  rw [hx.cell 0 hlo (by simp)]
  simp
def okL (p : Ln) : Prop := 0 ≤ p.qty ∧ p.qty ≤ 100000 ∧ 0 ≤ p.shipped ∧ p.shipped ≤ 100000
/-- what is left of a line -/
def LineOk (v : Value) (f : Ln → Int) : Prop :=
  ∃ (g : Nat), v = .func (Fn.func g) #[] #[] ∧ (∀ (a : Array Value) (x : World), (callFunc g a).run Tryz.prog x = .ok (.enter g a) x) ∧
    ∀ (x : World) (p : Ln), okL p → Calls Tryz.prog g #[.agg #[.int .i64 p.item, .int .i64 p.price, .int .i64 p.qty, .int .i64 p.shipped]] x fun r x' => r = .returned (.int .i64 (f p)) ∧ Below x.heap.size x x'
set_option maxRecDepth 20000 in
theorem ordered_line : LineOk (.func (Fn.func 62) #[] #[]) (fun p => p.qty) := by
  refine ⟨_, rfl, cf_ordered, fun x p hp => ?_⟩
  clear hp
  go_enter Tryz.func62, Tryz.ntmps62
  go_wp2
  go_ret
  exact ⟨rfl, (Below.refl _ _).alloc (Nat.le_refl _) _⟩
set_option maxRecDepth 20000 in
theorem unshippedRest_line : LineOk (.func (Fn.func 58) #[] #[]) (fun p => p.qty - p.shipped) := by
  refine ⟨_, rfl, cf_unshippedRest, fun x p hp => ?_⟩
  obtain ⟨h1, h2, h3, h4⟩ := hp
  go_enter Tryz.func58, Tryz.ntmps58
  go_wp2
  go_ret
  exact ⟨rfl, (Below.refl _ _).alloc (Nat.le_refl _) _⟩
set_option maxRecDepth 20000 in
set_option maxHeartbeats 4000000 in
theorem taking1_any (v : Value) (f : Ln → Int) (hf : LineOk v f) (bm : Nat) (x : World) (hc : x.cell? ⟨bm, 0, none⟩ = some v) (hbm : bm < x.heap.size)
    (s : St) (e : Ev) (a : Option Addr) (n cap : Nat) (hn : s.lines.length = n) (hl : Lns x a s.lines) (hv : vldB s = true) :
    Calls Tryz.prog 94 #[.agg (stA s (.slice a n cap)), .agg (evA e), .pointer (some ⟨bm, 0, none⟩)] x fun r x' => r = .returned (.int .i64 (refTake f s e)) ∧ Below x.heap.size x x' := by
  obtain ⟨g, rfl, eg, C⟩ := hf
  have hL := (vld_due hv).1
  obtain ⟨h16, hrise⟩ := linesB_from hL
  obtain ⟨W, hW, HS⟩ := se_new x s e a n cap hl
  have HS1 : Hid (SE x s e a n cap W) := HS
  have HN : Hid (s.lines.length = n) := hn
  have hn16 : n ≤ 16 := by omega
  have HRI : Hid (linesFrom (-1) s.lines = true) := hrise
  have c5 := HS.st.cell 5 (.slice a n cap) rfl
  have d2 := HS.ev.cell 2 (.int .i64 e.item) rfl
  have d3 := HS.ev.cell 3 (.int .i64 e.qty) rfl
  obtain ⟨LB, hLB⟩ : ∃ LB, lbI s.lines e.item = LB := ⟨_, rfl⟩
  obtain ⟨O, hO⟩ : ∃ O, lnAt s.lines e.item = O := ⟨_, rfl⟩
  have HF : Hid (lbI s.lines e.item = LB ∧ lnAt s.lines e.item = O) := ⟨hLB, hO⟩
  by_cases hq : e.qty = 0
  · have hq' : (e.qty == 0) = true := by simpa using hq
    rw [show refTake f s e = 6 from if_pos hq]
    clear HS C hn hl hv hq hrise hL h16 hLB hO
    go_enter Tryz.func94, Tryz.ntmps94
    go_wp2_with (go_at_call 91; refine (find_any s.lines a n cap e.item _ HN.out HS1.out.ln hn16 HRI.out).mono ?_; rw [HF.out.1, HF.out.2]; rintro _ x2 ⟨rfl, hb2⟩; have HS2 : Hid (SE x s e a n cap x2) := SE.keep HS1.out hb2; have d3' := HS2.out.ev.cell 3 (.int .i64 e.qty) rfl; clear hb2)
    go_ret
    exact ⟨rfl, HS2.out.bel⟩
  · have hq' : (e.qty == 0) = false := by simpa using hq
    cases O with
    | none =>
      rw [show refTake f s e = 7 from by unfold refTake; rw [if_neg hq, hO]]
      clear HS C hn hl hv hq hrise hL h16 hLB hO
      go_enter Tryz.func94, Tryz.ntmps94
      go_wp2_with (go_at_call 91; refine (find_any s.lines a n cap e.item _ HN.out HS1.out.ln hn16 HRI.out).mono ?_; rw [HF.out.1, HF.out.2]; rintro _ x2 ⟨rfl, hb2⟩; have HS2 : Hid (SE x s e a n cap x2) := SE.keep HS1.out hb2; have d3' := HS2.out.ev.cell 3 (.int .i64 e.qty) rfl; clear hb2)
      go_ret
      exact ⟨rfl, HS2.out.bel⟩
    | some p =>
      obtain ⟨g1, g2⟩ := lnAt_some hO
      rw [hLB] at g1
      have fp := (linesB_facts hL).2 _ _ g1
      have hLn : LB < n := by have := ln_lt g1; omega
      have hCp := fun y => C y p ⟨by omega, by omega, by omega, by omega⟩
      obtain ⟨b, off, rfl, hlb, _⟩ := hl.cells LB p g1
      rw [show refTake f s e = if f p < e.qty then 10 else 0 from by unfold refTake; rw [if_neg hq, hO]]
      obtain ⟨E, hE⟩ : ∃ E, SE x s e (some ⟨b, off, none⟩) n cap = E := ⟨_, rfl⟩
      have R : Hid (∀ w2, E w2 → w2.cell? ⟨x.heap.size + 1, 3, none⟩ = some (.int .i64 e.qty) ∧ w2.cell? ⟨bm, 0, none⟩ = some (.func (Fn.func g) #[] #[]) ∧ w2.cell? ⟨x.heap.size, 5, none⟩ = some (.slice (some ⟨b, off, none⟩) n cap) ∧ w2.cell? ⟨b, off + LB * 4, none⟩ = some (.int .i64 p.item) ∧ w2.cell? ⟨b, off + LB * 4 + 1, none⟩ = some (.int .i64 p.price) ∧ w2.cell? ⟨b, off + LB * 4 + 2, none⟩ = some (.int .i64 p.qty) ∧ w2.cell? ⟨b, off + LB * 4 + 3, none⟩ = some (.int .i64 p.shipped)) := fun w2 h => by
        rw [← hE] at h
        obtain ⟨b2, off2, hbo, _, k0, k1, k2, k3⟩ := h.ln.cells LB p g1
        cases hbo
        exact ⟨h.ev.cell 3 _ rfl, (h.bel.cell (p := ⟨bm, 0, none⟩) hbm).trans hc, h.st.cell 5 _ rfl, k0, k1, k2, k3⟩
      have HBel : Hid (∀ w2, E w2 → Below x.heap.size x w2) := fun w2 h => by rw [← hE] at h; exact h.bel
      have HKE : Hid (∀ w2, SE x s e (some ⟨b, off, none⟩) n cap w2 → E w2.drew) := fun w2 h => by rw [← hE]; exact h.drew
      have CD : Hid (∀ w2, E w2 → Calls Tryz.prog g #[.agg #[.int .i64 p.item, .int .i64 p.price, .int .i64 p.qty, .int .i64 p.shipped]] w2 fun e w' => e = .returned (.int .i64 (f p)) ∧ E w') := fun w2 h => by
        rw [← hE] at h ⊢
        exact (hCp w2).mono fun e w' ⟨h1, h2⟩ => ⟨h1, h.keep h2⟩
      obtain ⟨D, hD⟩ : ∃ D, f p = D := ⟨_, rfl⟩
      rw [hD] at CD ⊢
      clear HS C hCp hn hl hv hD hE hq hc hbm hrise hL h16 hLB hO g1 g2 fp hlb
      by_cases hlt : D < e.qty
      all_goals
        first | rw [if_pos hlt] | rw [if_neg hlt]
        go_enter Tryz.func94, Tryz.ntmps94
        go_wp2_with (go_at_call 91; refine (find_any s.lines _ n cap e.item _ HN.out HS1.out.ln hn16 HRI.out).mono ?_; rw [HF.out.1, HF.out.2]; rintro _ x2 ⟨rfl, hb2⟩; have HS2 : Hid (SE x s e (some ⟨b, off, none⟩) n cap x2) := SE.keep HS1.out hb2; have d3' := HS2.out.ev.cell 3 (.int .i64 e.qty) rfl; clear hb2)
        refine wp_region_quiet (C := E) (by kernel_rfl) (by kernel_rfl) (HKE.out _ HS2.out) ?_
        simp only [List.toList_toArray]
        repeat (any_goals (first
          | go_big_quiet_skip
          | (go_big_quiet_want
             first
             | (refine quiet_val (v := ?_) (fun w2 hw2 => ?_) ?_
                rotate_left
                · (first | (go_simp; with_reducible rfl) | (obtain ⟨q1, q2, q3, q4, q5, q6, q7⟩ := R.out w2 hw2; go_simp; with_reducible rfl))
                go_big_quiet_on
                simp only [Act.put, List.setIfInBounds_toArray, List.set_cons_zero, List.set_cons_succ])
             | (refine quiet_call (v := ?_) (f := ?_) (args := ?_) (fun w2 hw2 => ?_) (fun w2 hw2 => ?_) ?_
                rotate_left 3
                · (go_simp; refine ⟨?_, ?_⟩ <;> with_reducible rfl)
                · (skip; exact CD.out _ hw2)
                (go_big_quiet_on; simp only [Act.put, List.setIfInBounds_toArray, List.set_cons_zero, List.set_cons_succ])))))
        all_goals
          refine wpQuiet_nil ?_
          intro w3 hw3
          go_wp2
          go_ret
          exact ⟨rfl, HBel.out _ hw3⟩
set_option maxRecDepth 20000 in
theorem taking_any (lo : Nat) (w : World) (v : Value) (f : Ln → Int) (k : Int) (hlo : lo ≤ w.heap.size) (hf : LineOk v f) (hk : ∀ (s : St) (e : Ev), e.kind = k → refR s e = refTake f s e) :
    Calls Tryz.prog 57 #[v] w fun r w' => ∃ u, r = .returned u ∧ RefOk lo w' u k ∧ Below w.heap.size w w' := by
  have HF : Hid (LineOk v f) := hf
  have HK : Hid (∀ (s : St) (e : Ev), e.kind = k → refR s e = refTake f s e) := hk
  obtain ⟨g, rfl, eg, _⟩ := hf
  clear eg hk
  go_enter Tryz.func57, Tryz.ntmps57
  go_wp2
  go_ret
  have hb1 : ∀ O1, Below w.heap.size w (w.alloc O1) := fun O1 => (Below.refl _ _).alloc (Nat.le_refl _) _
  refine ⟨_, rfl, ⟨_, _, rfl, cf_taking1, fun x s e a n cap hx hn hl hv hc hke => ?_⟩, hb1 _⟩
  have hs := hx.1
  simp at hs
  rw [HK.out s e hke]
  refine taking1_any _ f HF.out w.heap.size x ?_ (by omega) s e a n cap hn hl hv
  rw [hx.cell 0 hlo (by simp)]
  simp
end Go.Proofs.YtblfmfanfpohbaaGreat
namespace Go.Proofs.YtblfmfanfpohbaaGreat
open Go.ChangeShapes Go.WideShapes Go.ChangeAt Go.RowKit
set_option linter.unusedVariables false
set_option linter.unusedSimpArgs false
/-- a line in a block of its own -/
def LnBk (w : World) (b : Nat) (p : Ln) : Prop := w.heap[b]? = some (.cells (lnA p) 44)
theorem LnBk.lt {w : World} {b : Nat} {p : Ln} (h : LnBk w b p) : b < w.heap.size := lt_of_heap h
theorem LnBk.after {w w' : World} {b : Nat} {p : Ln} (h : LnBk w b p) (hb : Below w.heap.size w w') : LnBk w' b p := (hb.block b h.lt).trans h
theorem LnBk.cell {w : World} {b : Nat} {p : Ln} (h : LnBk w b p) (i : Nat) (x : Value) (hx : (lnA p)[i]? = some x) : w.cell? ⟨b, i, none⟩ = some x := by
  rw [cell_of_row w b i (lnA p) 44 (0, 0) h]; exact hx
theorem LnBk.froz {w : World} {b : Nat} {p : Ln} (h : LnBk w b p) (i : Nat) : w.frozen? ⟨b, i, none⟩ = false := by
  unfold LnBk at h
  simp [World.frozen?, h]
set_option maxRecDepth 20000 in
set_option maxHeartbeats 4000000 in
theorem refuseAdd_any (s : St) (e : Ev) (a : Option Addr) (n cap : Nat) (x : World) (hn : s.lines.length = n) (hl : Lns x a s.lines) (hv : vldB s = true) (hr : Right 5 e) :
    Calls Tryz.prog 52 #[.agg (stA s (.slice a n cap)), .agg (evA e)] x fun r x' => r = .returned (.int .i64 (refAdd s e)) ∧ Below x.heap.size x x' := by
  have hL := (vld_due hv).1
  obtain ⟨h16, hrise⟩ := linesB_from hL
  have qq : 0 ≤ e.qty ∧ e.qty ≤ 10000 := ⟨by have := hr.qty0; simpa [loQ] using this, hr.qty1⟩
  obtain ⟨q0, q1⟩ := qq
  obtain ⟨W, hW, HS⟩ := se_new x s e a n cap hl
  have HN : Hid (s.lines.length = n) := hn
  have hn16 : n ≤ 16 := by omega
  have HRI : Hid (linesFrom (-1) s.lines = true) := hrise
  obtain ⟨W1, hW1⟩ : ∃ W1, W.alloc (.cells #[.int .i64 0, .int .i64 0, .int .i64 0, .int .i64 0] 44) = W1 := ⟨_, rfl⟩
  have hbW : Below W.heap.size W W1 := by rw [← hW1]; exact (Below.refl _ _).alloc (Nat.le_refl _) _
  have HSW := HS.keep hbW
  have HS1 : Hid (SE x s e a n cap W1) := HSW
  have hWs : W.heap.size = x.heap.size + 2 := by rw [← hW]; simp
  have HL1 : Hid (LnBk W1 (x.heap.size + 2) ⟨0, 0, 0, 0⟩) := by
    show LnBk _ _ _
    unfold LnBk
    rw [← hW1, ← hWs]
    exact heap_alloc_new W _
  have c5 := HSW.st.cell 5 (.slice a n cap) rfl
  have d2 := HSW.ev.cell 2 (.int .i64 e.item) rfl
  obtain ⟨LB, hLB⟩ : ∃ LB, lbI s.lines e.item = LB := ⟨_, rfl⟩
  obtain ⟨O, hO⟩ : ∃ O, lnAt s.lines e.item = O := ⟨_, rfl⟩
  have HF : Hid (lbI s.lines e.item = LB ∧ lnAt s.lines e.item = O) := ⟨hLB, hO⟩
  cases O with
  | none =>
    have hRes : refAdd s e = if e.qty = 0 then 6 else if s.lines.length = 16 then 9 else 0 := by unfold refAdd; rw [hO]
    rw [hn] at hRes
    rw [hRes]
    clear hRes HS HSW hn hl hv hr hrise hL h16 hLB hO hbW
    by_cases hq : e.qty = 0
    · rw [if_pos hq]
      have hq' : (e.qty == 0) = true := by simpa using hq
      clear hq
      go_enter Tryz.func52, Tryz.ntmps52
      go_wp2_with (go_at_call 91; refine (find_any s.lines a n cap e.item _ HN.out HS1.out.ln hn16 HRI.out).mono ?_; rw [HF.out.1, HF.out.2]; rintro _ x2 ⟨rfl, hb2⟩; have HS2 : Hid (SE x s e a n cap x2) := SE.keep HS1.out hb2; have d3 := HS2.out.ev.cell 3 (.int .i64 e.qty) rfl; clear hb2)
      go_ret
      exact ⟨rfl, HS2.out.bel⟩
    · rw [if_neg hq]
      have hq' : (e.qty == 0) = false := by simpa using hq
      by_cases h16 : n = 16
      · rw [if_pos h16]
        have hn' : ((n : Int) == 16) = true := by simp; omega
        clear h16
        go_enter Tryz.func52, Tryz.ntmps52
        go_wp2_with (go_at_call 91; refine (find_any s.lines a n cap e.item _ HN.out HS1.out.ln hn16 HRI.out).mono ?_; rw [HF.out.1, HF.out.2]; rintro _ x2 ⟨rfl, hb2⟩; have HS2 : Hid (SE x s e a n cap x2) := SE.keep HS1.out hb2; have d3 := HS2.out.ev.cell 3 (.int .i64 e.qty) rfl; have c5' := HS2.out.st.cell 5 (.slice a n cap) rfl; clear hb2)
        go_ret
        exact ⟨rfl, HS2.out.bel⟩
      · rw [if_neg h16]
        have hn' : ((n : Int) == 16) = false := by simp; omega
        clear h16
        go_enter Tryz.func52, Tryz.ntmps52
        go_wp2_with (go_at_call 91; refine (find_any s.lines a n cap e.item _ HN.out HS1.out.ln hn16 HRI.out).mono ?_; rw [HF.out.1, HF.out.2]; rintro _ x2 ⟨rfl, hb2⟩; have HS2 : Hid (SE x s e a n cap x2) := SE.keep HS1.out hb2; have d3 := HS2.out.ev.cell 3 (.int .i64 e.qty) rfl; have c5' := HS2.out.st.cell 5 (.slice a n cap) rfl; have l2 := (HL1.out.after hb2).cell 2 (.int .i64 0) rfl; clear hb2)
        go_ret
        exact ⟨rfl, HS2.out.bel⟩
  | some p =>
    obtain ⟨g1, g2⟩ := lnAt_some hO
    rw [hLB] at g1
    have fp := (linesB_facts hL).2 _ _ g1
    have hLn : LB < n := by have := ln_lt g1; omega
    obtain ⟨b, off, rfl, hlb, _⟩ := hl.cells LB p g1
    have fp1 : 1 ≤ p.qty := by omega
    have fp2 : p.qty ≤ 100000 := by omega
    have RL : Hid (∀ y, Below x.heap.size x y → y.cell? ⟨b, off + LB * 4, none⟩ = some (.int .i64 p.item) ∧ y.cell? ⟨b, off + LB * 4 + 1, none⟩ = some (.int .i64 p.price) ∧ y.cell? ⟨b, off + LB * 4 + 2, none⟩ = some (.int .i64 p.qty) ∧ y.cell? ⟨b, off + LB * 4 + 3, none⟩ = some (.int .i64 p.shipped)) := fun y hy => by
      obtain ⟨b2, off2, hbo, _, k0, k1, k2, k3⟩ := (hl.keep hy).cells LB p g1
      cases hbo
      exact ⟨k0, k1, k2, k3⟩
    have hRes : refAdd s e = if e.qty = 0 then 6 else if p.price ≠ e.price then 8 else if 100000 < p.qty + e.qty then 10 else 0 := by unfold refAdd; rw [hO]
    rw [hRes]
    have HBX : Hid (∀ y (v0 v1 v2 v3 : Value), Below x.heap.size x y → Below x.heap.size x ((((y.setCell ⟨x.heap.size + 2, 0, none⟩ v0).setCell ⟨x.heap.size + 2, 1, none⟩ v1).setCell ⟨x.heap.size + 2, 2, none⟩ v2).setCell ⟨x.heap.size + 2, 3, none⟩ v3)) := fun y v0 v1 v2 v3 hy =>
      (((hy.setCell (p := ⟨x.heap.size + 2, 0, none⟩) (by show x.heap.size ≤ x.heap.size + 2; omega) v0).setCell (p := ⟨x.heap.size + 2, 1, none⟩) (by show x.heap.size ≤ x.heap.size + 2; omega) v1).setCell (p := ⟨x.heap.size + 2, 2, none⟩) (by show x.heap.size ≤ x.heap.size + 2; omega) v2).setCell (p := ⟨x.heap.size + 2, 3, none⟩) (by show x.heap.size ≤ x.heap.size + 2; omega) v3
    clear hRes HS HSW hn hl hv hr hrise hL h16 hLB hO hbW g1 g2 fp hlb
    by_cases hq : e.qty = 0
    · rw [if_pos hq]
      have hq' : (e.qty == 0) = true := by simpa using hq
      clear hq
      go_enter Tryz.func52, Tryz.ntmps52
      go_wp2_with (go_at_call 91; refine (find_any s.lines _ n cap e.item _ HN.out HS1.out.ln hn16 HRI.out).mono ?_; rw [HF.out.1, HF.out.2]; rintro _ x2 ⟨rfl, hb2⟩; have HS2 : Hid (SE x s e (some ⟨b, off, none⟩) n cap x2) := SE.keep HS1.out hb2; have d3 := HS2.out.ev.cell 3 (.int .i64 e.qty) rfl; have c5' := HS2.out.st.cell 5 (.slice (some ⟨b, off, none⟩) n cap) rfl; obtain ⟨k0, k1, k2, k3⟩ := RL.out x2 HS2.out.bel; have l0 := (HL1.out.after hb2).cell 0 (.int .i64 0) rfl; have l1 := (HL1.out.after hb2).cell 1 (.int .i64 0) rfl; have l2 := (HL1.out.after hb2).cell 2 (.int .i64 0) rfl; have l3 := (HL1.out.after hb2).cell 3 (.int .i64 0) rfl; have z0 := (HL1.out.after hb2).froz 0; have z1 := (HL1.out.after hb2).froz 1; have z2 := (HL1.out.after hb2).froz 2; have z3 := (HL1.out.after hb2).froz 3; clear hb2)
      go_ret
      exact ⟨rfl, HBX.out _ _ _ _ _ HS2.out.bel⟩
    · rw [if_neg hq]
      have hq' : (e.qty == 0) = false := by simpa using hq
      cases hpp : (p.price != e.price) with
      | true =>
        rw [if_pos (by simpa using hpp)]
        clear hq
        go_enter Tryz.func52, Tryz.ntmps52
        go_wp2_with (go_at_call 91; refine (find_any s.lines _ n cap e.item _ HN.out HS1.out.ln hn16 HRI.out).mono ?_; rw [HF.out.1, HF.out.2]; rintro _ x2 ⟨rfl, hb2⟩; have HS2 : Hid (SE x s e (some ⟨b, off, none⟩) n cap x2) := SE.keep HS1.out hb2; have d3 := HS2.out.ev.cell 3 (.int .i64 e.qty) rfl; have d4 := HS2.out.ev.cell 4 (.int .i64 e.price) rfl; have c5' := HS2.out.st.cell 5 (.slice (some ⟨b, off, none⟩) n cap) rfl; obtain ⟨k0, k1, k2, k3⟩ := RL.out x2 HS2.out.bel; have l0 := (HL1.out.after hb2).cell 0 (.int .i64 0) rfl; have l1 := (HL1.out.after hb2).cell 1 (.int .i64 0) rfl; have l2 := (HL1.out.after hb2).cell 2 (.int .i64 0) rfl; have l3 := (HL1.out.after hb2).cell 3 (.int .i64 0) rfl; have z0 := (HL1.out.after hb2).froz 0; have z1 := (HL1.out.after hb2).froz 1; have z2 := (HL1.out.after hb2).froz 2; have z3 := (HL1.out.after hb2).froz 3; clear hb2)
        go_ret
        exact ⟨rfl, HBX.out _ _ _ _ _ HS2.out.bel⟩
      | false =>
        rw [if_neg (by simpa using hpp)]
        clear hq
        by_cases hlt : 100000 < p.qty + e.qty
        all_goals
          first | rw [if_pos hlt] | rw [if_neg hlt]
          go_enter Tryz.func52, Tryz.ntmps52
          go_wp2_with (go_at_call 91; refine (find_any s.lines _ n cap e.item _ HN.out HS1.out.ln hn16 HRI.out).mono ?_; rw [HF.out.1, HF.out.2]; rintro _ x2 ⟨rfl, hb2⟩; have HS2 : Hid (SE x s e (some ⟨b, off, none⟩) n cap x2) := SE.keep HS1.out hb2; have d3 := HS2.out.ev.cell 3 (.int .i64 e.qty) rfl; have d4 := HS2.out.ev.cell 4 (.int .i64 e.price) rfl; have c5' := HS2.out.st.cell 5 (.slice (some ⟨b, off, none⟩) n cap) rfl; obtain ⟨k0, k1, k2, k3⟩ := RL.out x2 HS2.out.bel; have l0 := (HL1.out.after hb2).cell 0 (.int .i64 0) rfl; have l1 := (HL1.out.after hb2).cell 1 (.int .i64 0) rfl; have l2 := (HL1.out.after hb2).cell 2 (.int .i64 0) rfl; have l3 := (HL1.out.after hb2).cell 3 (.int .i64 0) rfl; have z0 := (HL1.out.after hb2).froz 0; have z1 := (HL1.out.after hb2).froz 1; have z2 := (HL1.out.after hb2).froz 2; have z3 := (HL1.out.after hb2).froz 3; clear hb2)
          go_ret
          exact ⟨rfl, HBX.out _ _ _ _ _ HS2.out.bel⟩
theorem refuseAdd_ref (lo : Nat) (w : World) : RefOk lo w (.func (Fn.func 52) #[] #[]) 2 := by
  refine ⟨_, _, rfl, cf_refuseAdd, fun x s e a n cap _ hn hl hv hc hk => ?_⟩
  have h0 : refR s e = refAdd s e := by unfold refR; rw [if_pos hk]
  rw [h0]
  exact refuseAdd_any s e a n cap x hn hl hv (right_of hc)
end Go.Proofs.YtblfmfanfpohbaaGreat
