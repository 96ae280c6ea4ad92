/- Own texts, joined: Od3, Od4. -/
import Derived.Test.YtmjppeljpifjpaaGreatK16
import Derived.Deep.QuietTactic
import Derived.BigQuiet
namespace Go.Proofs.YtmjppeljpifjpaaGreat
open Go.ChangeShapes Go.WideShapes Go.ChangeAt Go.RowKit
set_option linter.unusedVariables false
def cmpI (a b : Int) : Int := if a < b then -1 else if b < a then 1 else 0
set_option maxRecDepth 20000 in
theorem isNaN_any (x : Int) (w : World) : Calls Tryz.prog 135 #[.int .i64 x] w fun e w' => e = .returned (.bool false) ∧ w = w' := by
  go_enter Tryz.func135, Tryz.ntmps135
  go_wp2
  go_ret
  exact ⟨ret_bool (by simp), rfl⟩
set_option maxRecDepth 20000 in
theorem compare_any (a b : Int) (w : World) : Calls Tryz.prog 125 #[.int .i64 a, .int .i64 b] w fun e w' => e = .returned (.int .i64 (cmpI a b)) ∧ w = w' := by
  by_cases h1 : a < b
  · rw [show cmpI a b = -1 from if_pos h1]
    go_enter Tryz.func125, Tryz.ntmps125
    go_wp2_with (go_at_call 135; refine (isNaN_any _ _).mono ?_; rintro _ _ ⟨rfl, rfl⟩)
    go_ret
    exact ⟨rfl, rfl⟩
  · by_cases h2 : b < a
    · rw [show cmpI a b = 1 from (if_neg h1).trans (if_pos h2)]
      go_enter Tryz.func125, Tryz.ntmps125
      go_wp2_with (go_at_call 135; refine (isNaN_any _ _).mono ?_; rintro _ _ ⟨rfl, rfl⟩)
      go_ret
      exact ⟨rfl, rfl⟩
    · rw [show cmpI a b = 0 from (if_neg h1).trans (if_neg h2)]
      go_enter Tryz.func125, Tryz.ntmps125
      go_wp2_with (go_at_call 135; refine (isNaN_any _ _).mono ?_; rintro _ _ ⟨rfl, rfl⟩)
      go_ret
      exact ⟨rfl, rfl⟩
set_option maxRecDepth 20000 in
theorem find1_any (i p q s x C : Int) (w : World) (hC : cmpI i x = C) : Calls Tryz.prog 124 #[.agg #[.int .i64 i, .int .i64 p, .int .i64 q, .int .i64 s], .int .i64 x] w fun e w' => e = .returned (.int .i64 C) ∧ Below w.heap.size w w' := by
  have HC : Hid (cmpI i x = C) := hC
  clear hC
  go_enter Tryz.func124, Tryz.ntmps124
  go_wp2_with (go_at_call 125; refine (compare_any _ _ _).mono ?_; rw [HC.out]; rintro _ _ ⟨rfl, rfl⟩)
  go_ret
  exact ⟨rfl, (Below.refl _ _).alloc (Nat.le_refl _) _⟩
/-- how the search ends -/
theorem lbI_eq {L : List Ln} {x : Int} {r : Nat} (hr : r ≤ L.length) (h1 : ∀ t p, t < r → L[t]? = some p → p.item < x) (h2 : ∀ p, L[r]? = some p → ¬ p.item < x) : lbI L x = r := by
  induction L generalizing r with
  | nil => simp at hr; subst hr; rfl
  | cons l m ih =>
    cases r with
    | zero => exact if_neg (h2 l rfl)
    | succ r =>
      have h0 : l.item < x := h1 0 l (by omega) rfl
      rw [show lbI (l :: m) x = lbI m x + 1 from if_pos h0]
      rw [ih (by simpa using hr) (fun t p ht hp => h1 (t + 1) p (by omega) (by simpa using hp)) (fun p hp => h2 p (by simpa using hp))]
set_option maxRecDepth 20000 in
set_option maxHeartbeats 4000000 in
theorem bsf_any (L : List Ln) (a : Option Addr) (n cap : Nat) (x : Int) (w : World) (hn : L.length = n) (hl : Lns w a L) (hm : n ≤ 16) (hr : linesFrom (-1) L = true) :
    Calls Tryz.prog 123 #[.slice a n cap, .int .i64 x, .func (Fn.func 124) #[] #[]] w fun e w' => e = .returned (.tuple #[.int .i64 (lbI L x : Nat), .bool (lnAt L x).isSome]) ∧ Below w.heap.size w w' := by
  have HN : Hid (L.length = n) := hn
  have HL : Hid (Lns w a L) := hl
  have HR : Hid (linesFrom (-1) L = true) := hr
  obtain ⟨LB, hLB⟩ : ∃ LB, lbI L x = LB := ⟨_, rfl⟩
  obtain ⟨FD, hFD⟩ : ∃ FD, (lnAt L x).isSome = FD := ⟨_, rfl⟩
  have HLB0 : Hid (lbI L x = LB) := hLB
  have HFD0 : Hid ((lnAt L x).isSome = FD) := hFD
  rw [hLB, hFD]
  clear hn hl hr hLB hFD
  go_enter Tryz.func123, Tryz.ntmps123
  go_wp2
  go_loopw [9, 10] (fun vi vj wr => ∃ (lo hi : Nat), vi = .int .i64 lo ∧ vj = .int .i64 hi ∧ lo ≤ hi ∧ hi ≤ n ∧ Hid ((∀ t p, t < lo → L[t]? = some p → p.item < x) ∧ (∀ t p, hi ≤ t → L[t]? = some p → x ≤ p.item) ∧ Below w.heap.size w wr)) (fun vi vj _ => (intOf vj).toNat - (intOf vi).toNat)
  case atStart => exact ⟨0, n, rfl, rfl, Nat.zero_le _, Nat.le_refl _, fun t p ht => absurd ht (Nat.not_lt_zero _), fun t p h1 h2 => by have := ln_lt h2; rw [HN.out] at this; omega, Below.refl _ _⟩
  case round =>
    obtain ⟨lo, hi, rfl, rfl, hlh, hin, HI⟩ := hrel
    by_cases hlt : lo < hi
    · obtain ⟨p, hp⟩ := ln_get (L := L) (k := (lo + hi) / 2) (by rw [HN.out]; omega)
      obtain ⟨b, off, rfl, hlb, q0, q1, q2, q3⟩ := (HL.out.keep HI.out.2.2).cells ((lo + hi) / 2) p hp
      obtain ⟨C, hC⟩ : ∃ C, cmpI p.item x = C := ⟨_, rfl⟩
      have HC : Hid (cmpI p.item x = C) := hC
      have HP : Hid (L[(lo + hi) / 2]? = some p) := hp
      clear hp hC
      by_cases hneg : C < 0
      · have HS : Hid (p.item < x) := by
          show p.item < x
          have := HC.out; unfold cmpI at this; split at this
          · assumption
          · split at this <;> omega
        go_wp2_with (go_at_call 124; refine (find1_any _ _ _ _ x C _ HC.out).mono ?_; rintro e w2 ⟨rfl, hb2⟩; have HB2 : Hid (Below w.heap.size w w2) := below_next HI.out.2.2 hb2; clear hb2)
        go_roundw
        case rel =>
          refine ⟨(lo + hi) / 2 + 1, hi, by rw [show ((lo : Int) + (hi : Int)) / 2 + 1 = (((lo + hi) / 2 + 1 : Nat) : Int) by omega], rfl, by omega, hin, fun t p2 ht hp2 => ?_, HI.out.2.1, HB2.out⟩
          by_cases h : t < (lo + hi) / 2
          · have h3 : p2.item < p.item := by
              have hf := HR.out
              have key : ∀ (M : List Ln) (last : Int) (x y : Nat) (a b : Ln), linesFrom last M = true → x < y → M[x]? = some a → M[y]? = some b → a.item < b.item := by
                intro M
                induction M with
                | nil => intro last x y a b _ _ ha _; simp at ha
                | cons m r ih =>
                  intro last x y a b hM hxy ha hb
                  simp only [linesFrom, Bool.and_eq_true] at hM
                  cases y with
                  | zero => omega
                  | succ y =>
                    cases x with
                    | zero => simp at ha; subst ha; exact linesFrom_lt r m.item y b hM.2 (by simpa using hb)
                    | succ x => exact ih m.item x y a b hM.2 (by omega) (by simpa using ha) (by simpa using hb)
              exact key L (-1) t ((lo + hi) / 2) p2 p hf h hp2 HP.out
            have := HS.out; omega
          · obtain rfl : t = (lo + hi) / 2 := by omega
            rw [HP.out] at hp2; cases hp2; exact HS.out
        case measure => simp [intOf]; omega
      · have HS : Hid (x ≤ p.item) := by
          show x ≤ p.item
          have := HC.out; unfold cmpI at this; split at this
          · omega
          · omega
        go_wp2_with (go_at_call 124; refine (find1_any _ _ _ _ x C _ HC.out).mono ?_; rintro e w2 ⟨rfl, hb2⟩; have HB2 : Hid (Below w.heap.size w w2) := below_next HI.out.2.2 hb2; clear hb2)
        go_roundw
        case rel =>
          refine ⟨lo, (lo + hi) / 2, rfl, by rw [show ((lo : Int) + (hi : Int)) / 2 = (((lo + hi) / 2 : Nat) : Int) by omega], by omega, by omega, HI.out.1, fun t p2 ht hp2 => ?_, HB2.out⟩
          by_cases h : t = (lo + hi) / 2
          · subst h; rw [HP.out] at hp2; cases hp2; exact HS.out
          · have h3 : p.item < p2.item := by
              have key : ∀ (M : List Ln) (last : Int) (x y : Nat) (a b : Ln), linesFrom last M = true → x < y → M[x]? = some a → M[y]? = some b → a.item < b.item := by
                intro M
                induction M with
                | nil => intro last x y a b _ _ ha _; simp at ha
                | cons m r ih =>
                  intro last x y a b hM hxy ha hb
                  simp only [linesFrom, Bool.and_eq_true] at hM
                  cases y with
                  | zero => omega
                  | succ y =>
                    cases x with
                    | zero => simp at ha; subst ha; exact linesFrom_lt r m.item y b hM.2 (by simpa using hb)
                    | succ x => exact ih m.item x y a b hM.2 (by omega) (by simpa using ha) (by simpa using hb)
              exact key L (-1) ((lo + hi) / 2) t p p2 HR.out (by omega) HP.out hp2
            have := HS.out; omega
        case measure => simp [intOf]; omega
    · obtain rfl : hi = lo := by omega
      have hlb : lbI L x = hi := lbI_eq (by rw [HN.out]; exact hin) HI.out.1 (fun p hp => by have := HI.out.2.1 hi p (Nat.le_refl _) hp; omega)
      have HLB : Hid (lbI L x = hi) := hlb
      by_cases hlt2 : hi < n
      · obtain ⟨p, hp⟩ := ln_get (L := L) (k := hi) (by rw [HN.out]; omega)
        obtain ⟨b, off, rfl, hlb2, q0, q1, q2, q3⟩ := (HL.out.keep HI.out.2.2).cells hi p hp
        obtain ⟨C, hC⟩ : ∃ C, cmpI p.item x = C := ⟨_, rfl⟩
        have HC : Hid (cmpI p.item x = C) := hC
        have hge : ¬ p.item < x := by have := HI.out.2.1 hi p (Nat.le_refl _) hp; omega
        have HF : Hid ((lnAt L x).isSome = (C == 0)) := by
          show _ = _
          unfold lnAt
          rw [hlb, hp]
          simp only
          unfold cmpI at hC
          rw [if_neg hge] at hC
          split
          · rename_i h; rw [if_neg (by omega)] at hC; subst hC; rfl
          · rename_i h; rw [if_pos (by omega)] at hC; subst hC; rfl
        obtain rfl : LB = hi := HLB0.out.symm.trans hlb
        have HG : Hid (FD = (C == 0)) := HFD0.out.symm.trans HF.out
        clear hlb hp hC hge HF HLB
        go_wp2_with (go_at_call 124; refine (find1_any _ _ _ _ x C _ HC.out).mono ?_; rintro e w2 ⟨rfl, hb2⟩; have HB2 : Hid (Below w.heap.size w w2) := below_next HI.out.2.2 hb2; clear hb2)
        go_ret2
        exact ⟨by rw [HG.out]; rfl, HB2.out⟩
      · have HF : Hid ((lnAt L x).isSome = false) := by
          show _ = _
          unfold lnAt
          rw [hlb, List.getElem?_eq_none (by rw [HN.out]; omega)]
          rfl
        obtain rfl : LB = hi := HLB0.out.symm.trans hlb
        have HG : Hid (FD = false) := HFD0.out.symm.trans HF.out
        clear hlb HF HLB
        go_wp2
        go_ret2
        exact ⟨by rw [HG.out]; rfl, HI.out.2.2⟩
set_option maxRecDepth 20000 in
theorem find_any (L : List Ln) (a : Option Addr) (n cap : Nat) (x : Int) (w : World) (hn : L.length = n) (hl : Lns w a L) (hm : n ≤ 16) (hr : linesFrom (-1) L = true) :
    Calls Tryz.prog 108 #[.slice a n cap, .int .i64 x] w fun e w' => e = .returned (.tuple #[.int .i64 (lbI L x : Nat), .bool (lnAt L x).isSome]) ∧ Below w.heap.size w w' := by
  have HN : Hid (L.length = n) := hn
  have HL : Hid (Lns w a L) := hl
  have HR : Hid (linesFrom (-1) L = true) := hr
  clear hn hl hr
  go_enter Tryz.func108, Tryz.ntmps108
  go_wp2_with (go_at_call 123; refine (bsf_any L a n cap x _ HN.out HL.out hm HR.out).mono ?_; rintro e w2 ⟨rfl, hb2⟩)
  go_ret2
  exact ⟨rfl, hb2⟩
end Go.Proofs.YtmjppeljpifjpaaGreat
namespace Go.Proofs.YtmjppeljpifjpaaGreat
open Go.ChangeShapes Go.WideShapes Go.ChangeAt Go.RowKit
set_option linter.unusedVariables false
/-- the numbers l lie in block b -/
def IntRow (w : World) (b : Nat) (l : List Int) : Prop := b < w.heap.size ∧ ∀ j y, l[j]? = some y → w.cell? ⟨b, j, none⟩ = some (.int .i64 y)
theorem IntRow.keep {w x : World} {b : Nat} {l : List Int} (h : IntRow w b l) (hb : Below w.heap.size w x) : IntRow x b l := ⟨Nat.lt_of_lt_of_le h.1 hb.size, fun j y hy => (hb.cell (p := ⟨b, j, none⟩) h.1).trans (h.2 j y hy)⟩
set_option maxRecDepth 20000 in
set_option maxHeartbeats 1000000 in
theorem index_any (l : List Int) (b n cap : Nat) (x : Int) (w : World) (hn : l.length = n) (hr : IntRow w b l) (hm : n ≤ 16) :
    Calls Tryz.prog 122 #[.slice (some ⟨b, 0, none⟩) n cap, .int .i64 x] w fun e w' => (∃ r : Int, e = .returned (.int .i64 r) ∧ decide (0 ≤ r) = l.any (fun y => x == y)) ∧ w = w' := by
  have HN : Hid (l.length = n) := hn
  have HR : Hid (IntRow w b l) := hr
  clear hn hr
  go_enter Tryz.func122, Tryz.ntmps122
  go_wp2
  go_loop [8] (fun vi => ∃ k : Nat, k ≤ n ∧ vi = .int .i64 k ∧ Hid (l.any (fun y => x == y) = (l.drop k).any (fun y => x == y))) (fun vi => n - (intOf vi).toNat)
  case atStart => exact ⟨0, Nat.zero_le _, rfl, rfl⟩
  case round =>
    obtain ⟨k, hk, rfl, HI⟩ := hrel
    by_cases hkn : k < n
    · obtain ⟨y, hy⟩ := ln_get (L := l) (k := k) (by rw [HN.out]; exact hkn)
      have c := HR.out.2 k y hy
      have hd : (l.drop k).any (fun y => x == y) = (x == y || (l.drop (k + 1)).any (fun y => x == y)) := by rw [ln_drop l k y hy]; rfl
      have HD : Hid (l.any (fun y => x == y) = (x == y || (l.drop (k + 1)).any (fun y => x == y))) := HI.out.trans hd
      clear hy hd
      cases hxy : (x == y) with
      | true =>
        go_wp2
        go_ret
        exact ⟨⟨k, rfl, by rw [HD.out, hxy]; simp⟩, rfl⟩
      | false =>
        go_wp2
        go_round
        case rel => exact ⟨k + 1, by omega, by go_num, by rw [HD.out, hxy]; rfl⟩
        case measure => simp [intOf]; omega
    · have HT : Hid (l.any (fun y => x == y) = false) := by show _ = _; rw [HI.out, List.drop_eq_nil_of_le (by rw [HN.out]; omega)]; rfl
      go_wp2
      go_ret
      exact ⟨⟨-1, rfl, by rw [HT.out]; rfl⟩, rfl⟩
set_option maxRecDepth 20000 in
theorem contains_any (l : List Int) (b n cap : Nat) (x : Int) (w : World) (hn : l.length = n) (hr : IntRow w b l) (hm : n ≤ 16) :
    Calls Tryz.prog 106 #[.slice (some ⟨b, 0, none⟩) n cap, .int .i64 x] w fun e w' => e = .returned (.bool (l.any (fun y => x == y))) ∧ w = w' := by
  have HN : Hid (l.length = n) := hn
  have HR : Hid (IntRow w b l) := hr
  clear hn hr
  go_enter Tryz.func106, Tryz.ntmps106
  go_wp2_with (go_at_call 122; refine (index_any l b n cap x _ HN.out HR.out hm).mono ?_; rintro _ _ ⟨⟨r, rfl, hr⟩, rfl⟩; have HRR : Hid (decide (0 ≤ r) = l.any (fun y => x == y)) := hr; clear hr)
  go_ret
  exact ⟨ret_bool HRR.out, rfl⟩
/-- all blocks of w from lo on are as they were -/
def Same (lo : Nat) (w x : World) : Prop := w.heap.size ≤ x.heap.size ∧ ∀ k, lo ≤ k → k < w.heap.size → x.heap[k]? = w.heap[k]?
theorem same_of {lo : Nat} {w x : World} (h : Below w.heap.size w x) : Same lo w x := ⟨h.size, fun k _ hk => h.block k hk⟩
theorem Same.refl (lo : Nat) (w : World) : Same lo w w := ⟨Nat.le_refl _, fun _ _ _ => rfl⟩
theorem Same.trans {lo : Nat} {w x y : World} (h : Same lo w x) (k : Same lo x y) : Same lo w y := ⟨Nat.le_trans h.1 k.1, fun i h1 h2 => (k.2 i h1 (Nat.lt_of_lt_of_le h2 h.1)).trans (h.2 i h1 h2)⟩
theorem Same.next {lo : Nat} {w x y : World} (h : Same lo w x) (k : Below x.heap.size x y) : Same lo w y := h.trans (same_of k)
theorem Same.cell {lo : Nat} {w x : World} (h : Same lo w x) {b : Nat} (j : Nat) (h1 : lo ≤ b) (h2 : b < w.heap.size) : x.cell? ⟨b, j, none⟩ = w.cell? ⟨b, j, none⟩ := World.cell?_of_block (a := ⟨b, j, none⟩) (h.2 b h1 h2)
theorem IntRow.same {lo : Nat} {w x : World} {b : Nat} {l : List Int} (h : IntRow w b l) (hb : Same lo w x) (h1 : lo ≤ b) : IntRow x b l := ⟨Nat.lt_of_lt_of_le h.1 hb.1, fun j y hy => (hb.cell j h1 h.1).trans (h.2 j y hy)⟩
/-- the function value v tells f of a state, in whatever world comes -/
def SuitsOk (lo : Nat) (w : World) (v : Value) (f : St → Bool) : Prop :=
  ∃ (g : Nat) (cb : Array Value), v = .func (Fn.func g) #[] cb ∧ (∀ (a : Array Value) (x : World), (callFunc g a).run Tryz.prog x = .ok (.enter g a) x) ∧
    ∀ (x : World) (s : St) (a : Option Addr) (n cap : Nat), Same lo w x → s.lines.length = n → Lns x a s.lines → n ≤ maxLen →
      Calls Tryz.prog g (#[.agg (stA s (.slice a n cap))] ++ cb) x fun r x' => r = .returned (.bool (f s)) ∧ Below x.heap.size x x'
theorem SuitsOk.keep {lo : Nat} {w x : World} {v : Value} {f : St → Bool} (h : SuitsOk lo w v f) (hb : Same lo w x) : SuitsOk lo x v f := by
  obtain ⟨g, cb, h1, h2, h3⟩ := h
  exact ⟨g, cb, h1, h2, fun y s a n cap hy => h3 y s a n cap (hb.trans hy)⟩
set_option maxRecDepth 20000 in
set_option maxHeartbeats 1000000 in
theorem at1_any (l : List Int) (bx bs m : Nat) (s : St) (a : Option Addr) (n cap : Nat) (w : World) (hm : l.length = m) (hm16 : m ≤ 16) (hbx : bx < w.heap.size) (hc : w.cell? ⟨bx, 0, none⟩ = some (.slice (some ⟨bs, 0, none⟩) m m)) (hr : IntRow w bs l) :
    Calls Tryz.prog 105 #[.agg (stA s (.slice a n cap)), .pointer (some ⟨bx, 0, none⟩)] w fun r w' => r = .returned (.bool (l.any (fun y => s.status == y))) ∧ Below w.heap.size w w' := by
  have HM : Hid (l.length = m) := hm
  have hb1 : Below w.heap.size w (w.alloc (.cells (stA s (.slice a n cap)) 25)) := (Below.refl _ _).alloc (Nat.le_refl _) _
  have HR : Hid (IntRow (w.alloc (.cells (stA s (.slice a n cap)) 25)) bs l) := hr.keep hb1
  have HB : Hid (Below w.heap.size w (w.alloc (.cells (stA s (.slice a n cap)) 25))) := hb1
  clear hm hr hb1
  unfold stA at HR HB ⊢
  go_enter Tryz.func105, Tryz.ntmps105
  go_wp2_with (go_at_call 106; refine (contains_any l bs m m s.status _ HM.out HR.out hm16).mono ?_; rintro _ _ ⟨rfl, rfl⟩)
  go_ret
  exact ⟨rfl, HB.out⟩
theorem cf_at1 (a : Array Value) (w : World) : (callFunc 105 a).run Tryz.prog w = .ok (.enter 105 a) w := by kernel_rfl
theorem cf_both1 (a : Array Value) (w : World) : (callFunc 107 a).run Tryz.prog w = .ok (.enter 107 a) w := by kernel_rfl
theorem cf_unpaid (a : Array Value) (w : World) : (callFunc 73 a).run Tryz.prog w = .ok (.enter 73 a) w := by kernel_rfl
theorem cf_unshipped (a : Array Value) (w : World) : (callFunc 62 a).run Tryz.prog w = .ok (.enter 62 a) w := by kernel_rfl
set_option maxRecDepth 20000 in
theorem unpaid_any (s : St) (a : Option Addr) (n cap : Nat) (w : World) : Calls Tryz.prog 73 #[.agg (stA s (.slice a n cap))] w fun r w' => r = .returned (.bool (s.paid == 0)) ∧ Below w.heap.size w w' := by
  unfold stA
  go_enter Tryz.func73, Tryz.ntmps73
  go_wp2
  go_ret
  exact ⟨rfl, (Below.refl _ _).alloc (Nat.le_refl _) _⟩
theorem unpaid_suits (lo : Nat) (w : World) : SuitsOk lo w (.func (Fn.func 73) #[] #[]) (fun s => s.paid == 0) :=
  ⟨_, _, rfl, cf_unpaid, fun x s a n cap _ _ _ _ => unpaid_any s a n cap x⟩
theorem unshipped_suits (lo : Nat) (w : World) : SuitsOk lo w (.func (Fn.func 62) #[] #[]) (fun s => unshB s.lines) :=
  ⟨_, _, rfl, cf_unshipped, fun x s a n cap _ hn hl hm => unshipped_any s a n cap x hn hl hm⟩
set_option maxRecDepth 20000 in
theorem at_any (lo : Nat) (l : List Int) (bs m : Nat) (w : World) (hm : l.length = m) (hm16 : m ≤ 16) (hr : IntRow w bs l) (hlo : lo ≤ bs) :
    Calls Tryz.prog 69 #[.slice (some ⟨bs, 0, none⟩) m m] w fun r w' => ∃ v, r = .returned v ∧ SuitsOk lo w' v (fun s => l.any (fun y => s.status == y)) ∧ Below w.heap.size w w' := by
  have HM : Hid (l.length = m) := hm
  have HR : Hid (IntRow w bs l) := hr
  clear hm hr
  go_enter Tryz.func69, Tryz.ntmps69
  go_wp2
  go_ret
  have hb1 : Below w.heap.size w (w.alloc (.cells #[.slice (some ⟨bs, 0, none⟩) m m] 119)) := (Below.refl _ _).alloc (Nat.le_refl _) _
  refine ⟨_, rfl, ⟨_, _, rfl, cf_at1, fun x s a n cap hx hn hl hmx => ?_⟩, hb1⟩
  have hlt : w.heap.size < (w.alloc (.cells #[.slice (some ⟨bs, 0, none⟩) m m] 119)).heap.size := by simp
  exact at1_any l w.heap.size bs m s a n cap x HM.out hm16 (Nat.lt_of_lt_of_le hlt hx.1) ((hx.cell 0 (Nat.le_trans hlo (Nat.le_of_lt HR.out.1)) hlt).trans (by rw [cell_of_row _ w.heap.size 0 _ _ (0, 0) (heap_alloc_new w _)]; rfl)) ((HR.out.keep hb1).same hx hlo)
end Go.Proofs.YtmjppeljpifjpaaGreat
