/- Own texts, joined: Sg16, Turn, Frb, Scb0. -/
import Derived.Test.YtaegmeilhdbnnabDoorJ17
import Derived.Test.YtaegmeilhdbnnabDoorJ06
import Derived.Test.YtaegmeilhdbnnabDoorJ00
import Derived.Test.YtaegmeilhdbnnabDoorJ01
import Derived.Test.YtaegmeilhdbnnabDoorJ16
namespace Go.Proofs.YtaegmeilhdbnnabDoor
open Go.ChangeShapes Go.WideShapes Go.ChangeAt Go.RowKit
set_option linter.unusedVariables false
/-- what Footer answers -/
def ftE (l : List Nat) (st : Int) : Nat := if stB st = false then 1 else if hdr l = none then 71 else if 0 < sgF l then 72 else if sgG l < l.length then 60 else if sgE l = [] then 93 else 0
def ftV (l : List Nat) (st : Int) : List Nat := if ftE l st = 0 then sealL (hoX l) (hoY l) (sgE l) st.toNat else []
theorem ft_bad (l : List Nat) (st e : Nat) (h : ftE l (st : Int) = e) (he : e ≠ 0) : ftE l (st : Int) = e ∧ ftV l (st : Int) = [] := ⟨h, by unfold ftV; rw [if_neg (by omega)]⟩
set_option maxRecDepth 20000 in
set_option maxHeartbeats 4000000 in
theorem footer14_any (l : List Nat) (m : Nat) (a : Option Addr) (cap : Nat) (stI : Int) (w : World) (hm : l.length = m) (hb : Bytes w a l) (hcap : m ≤ cap) (hl : m ≤ 16777216) (ht : Tab w) :
    Calls Tryd.prog 8 #[.slice a m cap, .int .i64 stI] w fun e w' => ∃ v, e = .returned (.tuple #[v, .int .i64 (ftE l stI : Nat)]) ∧ Own w' w.heap.size v (ftV l stI) ∧ Below w.heap.size w w' := by
  have HB : Hid (Bytes w a l ∧ l.length = m ∧ Tab w) := ⟨hb, hm, ht⟩
  have hmem := hb.mem
  clear hb hm ht
  by_cases hS : stB stI = true
  · have HS : Hid (stB stI = true) := hS
    obtain ⟨st, rfl⟩ : ∃ st : Nat, stI = (st : Int) := ⟨stI.toNat, by have h := of_decide_eq_true hS; omega⟩
    have hst := of_decide_eq_true hS
    have hst1 : 1 ≤ st := by omega
    have hst64 : st ≤ 64 := by omega
    have hstI : (st : Int) ≤ 64 := by omega
    have hst1I : (1 : Int) ≤ (st : Int) := by omega
    clear hst
    cases hh : hdr l with
    | none =>
      have HE : Hid (ftE l (st : Int) = 71 ∧ ftV l (st : Int) = []) := ft_bad l st 71 (by unfold ftE; rw [if_neg (by rw [hS]; simp), if_pos (by rw [hh])]) (by omega)
      have HF : Hid (∀ base e w', ScanP l base e w' → e = .returned (.tuple #[SgV 0 0 0 false 0 (.slice none 0 0) 0, .slice none 0 0, .int .i64 71])) := by
        rintro base e w' (⟨_, h⟩ | ⟨h, _⟩)
        · exact h
        · rw [hh] at h; cases h
      clear hh hS
      go_enter Tryd.func8, Tryd.ntmps8
      go_wp2_with (first
        | (go_at_call 17; refine (isStride_any _ w).mono ?_; rw [HS.out]; rintro e w0 ⟨rfl, rfl⟩)
        | (go_at_call 12; refine (scan14_any l m a cap w HB.out.2.1 HB.out.1 hcap (by omega) HB.out.2.2).mono ?_; rintro r w1 ⟨hs1, hb1⟩; obtain rfl := HF.out _ _ _ hs1; have HB1 : Hid (Below w.heap.size w (w1.alloc (.cells (SgA 0 0 0 false 0 (.slice none 0 0) 0) 39))) := hb1.alloc hb1.size _; clear hs1 hb1)
        | fail)
      go_ret2
      exact ⟨.slice none 0 0, by rw [HE.out.1]; rfl, by rw [HE.out.2]; exact ownNil _ _, HB1.out⟩
    | some q =>
      obtain ⟨X, Y⟩ := q
      obtain ⟨_, _, _, hX1, hX2, hY1, hY2, _, hpn⟩ := hdr_some l hmem X Y hh
      have hoX' : hoX l = X := by unfold hoX; rw [hh]; rfl
      have hoY' : hoY l = Y := by unfold hoY; rw [hh]; rfl
      obtain ⟨EV, hEV⟩ : ∃ E, sgE l = E := ⟨_, rfl⟩
      obtain ⟨G, hG⟩ : ∃ G, sgG l = G := ⟨_, rfl⟩
      obtain ⟨n, hn⟩ : ∃ n, EV.length = n := ⟨_, rfl⟩
      obtain ⟨F, hF⟩ : ∃ F, sgF l = F := ⟨_, rfl⟩
      obtain ⟨N, hN⟩ : ∃ N, sgN l = N := ⟨_, rfl⟩
      obtain ⟨k, hk⟩ : ∃ k, (sgM l).length = k := ⟨_, rfl⟩
      have hok : EvOk Y EV := by rw [← hEV]; unfold sgE; rw [hoY']; exact (runL_ok l (pn l + 20) Y hY1 hpn (by rw [HB.out.2.1]; exact hl)).1
      have hGm : G ≤ m := by rw [← hG, ← HB.out.2.1]; unfold sgG sgE; exact (runEnd l (pn l + 20) (hoY l) hpn).2
      have hn5 : n ≤ 512 := by rw [← hn]; exact hok.len
      have hN0 : F = 0 → N = 0 := fun h => by rw [← hN]; unfold sgN ftN; rw [if_pos]; rw [← h, ← hF]; rfl
      have hNb : N ≤ 16404 := by
        rw [← hN]
        unfold sgN ftN
        split
        · omega
        · rename_i hc
          have h00 := ftS_pos (l.drop (sgG l)) (hoX l) (hoY l) (sgE l) (by omega)
          have := (decB_facts (fun z hz => hmem z (List.mem_of_mem_drop hz)) h00).2
          omega
      have hF64 : F ≤ 64 := by rw [← hF]; exact ftS_le _ _ _ _
      have HFF : Hid (∀ (b : Bool), decide (0 < F) = b → ∀ base e w', ScanP l base e w' → ∃ (xs : List It) (a1 a2 : Option Addr) (c1 c2 : Nat), e = .returned (.tuple #[SgV (X : Int) (Y : Int) (n : Int) b (F : Int) (.slice a2 k c2) ((G : Int) + (N : Int)), .slice a1 n c1, .int .i64 0]) ∧ xs.map It.fm = EV ∧ xs.length = n ∧ PlcA w' a1 xs) := by
        rintro b hb base e w' (⟨h, _⟩ | ⟨_, xs, v, mv, h1, h2, h3, h4⟩)
        · rw [hh] at h; cases h
        · obtain ⟨a1, c1, hv, hp⟩ := h3.plc
          obtain ⟨a2, c2, hv2, _⟩ := h4.shape
          have hx : xs.length = n := by rw [← hn, ← hEV, ← h1, List.length_map]
          rw [hx] at hv
          rw [hk] at hv2
          subst hv hv2
          refine ⟨xs, a1, a2, c1, c2, ?_, by rw [h1, hEV], hx, hp⟩
          rw [h2, hEV, hn, hoX', hoY', hF, hG, hN, hb]
      have HEO : Hid (EvOk Y EV ∧ EV.length = n ∧ (EV.map evP).length = n) := ⟨hok, hn, by rw [List.length_map]; exact hn⟩
      have hXI : (X : Int) ≤ 999999 := by omega
      have hYI : (Y : Int) ≤ 1099511627777 := by omega
      have hGI : (G : Int) ≤ 16777216 := by omega
      have hn5I : (n : Int) ≤ 512 := by omega
      have hlm := HB.out.2.1
      by_cases hF0 : F = 0
      · have hN00 := hN0 hF0
        have HF : Hid (∀ base e w', ScanP l base e w' → ∃ (xs : List It) (a1 a2 : Option Addr) (c1 c2 : Nat), e = .returned (.tuple #[SgV (X : Int) (Y : Int) (n : Int) false 0 (.slice a2 k c2) (G : Int), .slice a1 n c1, .int .i64 0]) ∧ xs.map It.fm = EV ∧ xs.length = n ∧ PlcA w' a1 xs) := fun base e w' h => by
          have h2 := HFF.out false (decide_eq_false (by omega)) base e w' h
          rw [hF0, hN00] at h2
          simp only [Int.add_zero, Int.natCast_zero] at h2
          exact h2
        by_cases hGe : G = m
        · by_cases hn0 : n = 0
          · have HE : Hid (ftE l (st : Int) = 93 ∧ ftV l (st : Int) = []) := ft_bad l st 93 (by unfold ftE; rw [if_neg (by rw [hS]; simp), if_neg (by rw [hh]; simp), if_neg (by omega), if_neg (by omega), if_pos (by rw [hEV]; exact List.length_eq_zero_iff.1 (by omega))]) (by omega)
            have hg1 : ¬ (G : Int) < (m : Int) := by omega
            have hg2 : ((G : Int) != (m : Int)) = false := by simp; omega
            have hnn : ((n : Int) == 0) = true := by simp; omega
            clear hh hS hoX' hoY' hEV hG hn hF hN hk hok hN0 hGe hn0 hlm hNb hF0 hN00 hF64
            go_enter Tryd.func8, Tryd.ntmps8
            go_wp2_with (first
              | (go_at_call 17; refine (isStride_any _ w).mono ?_; rw [HS.out]; rintro e w0 ⟨rfl, rfl⟩)
              | (go_at_call 12; refine (scan14_any l m a cap w HB.out.2.1 HB.out.1 hcap (by omega) HB.out.2.2).mono ?_; rintro r w1 ⟨hs1, hb1⟩; obtain ⟨xs, a1, a2, c1, c2, rfl, hx1, hl1, hp1⟩ := HF.out _ _ _ hs1; have HB1 : Hid (Below w.heap.size w (w1.alloc (.cells (SgA (X : Int) (Y : Int) (n : Int) false 0 (.slice a2 k c2) (G : Int)) 39)) ∧ Below w1.heap.size w1 (w1.alloc (.cells (SgA (X : Int) (Y : Int) (n : Int) false 0 (.slice a2 k c2) (G : Int)) 39)) ∧ xs.map It.fm = EV ∧ xs.length = n ∧ PlcA (w1.alloc (.cells (SgA (X : Int) (Y : Int) (n : Int) false 0 (.slice a2 k c2) (G : Int)) 39)) a1 xs ∧ SegAt (w1.alloc (.cells (SgA (X : Int) (Y : Int) (n : Int) false 0 (.slice a2 k c2) (G : Int)) 39)) w1.heap.size (X : Int) (Y : Int) (n : Int) false 0 (.slice a2 k c2) (G : Int)) := ⟨hb1.alloc hb1.size _, (Below.refl _ _).alloc (Nat.le_refl _) _, hx1, hl1, hp1.keep ((Below.refl _ _).alloc (Nat.le_refl _) _), SegAt.new w1 (X : Int) (Y : Int) (n : Int) false 0 (.slice a2 k c2) (G : Int)⟩; clear hs1 hb1 hx1 hl1 hp1)
              | fail)
            go_ret2
            exact ⟨.slice none 0 0, by rw [HE.out.1]; rfl, by rw [HE.out.2]; exact ownNil _ _, HB1.out.1⟩
          · have HE : Hid (ftE l (st : Int) = 0 ∧ ftV l (st : Int) = sealL X Y EV st) := by
              have h : ftE l (st : Int) = 0 := by unfold ftE; rw [if_neg (by rw [hS]; simp), if_neg (by rw [hh]; simp), if_neg (by omega), if_neg (by omega), if_neg (by rw [hEV]; intro h; rw [h] at hn; simp at hn; omega)]
              exact ⟨h, by unfold ftV; rw [if_pos h, hoX', hoY', hEV]; rfl⟩
            have hg1 : ¬ (G : Int) < (m : Int) := by omega
            have hg2 : ((G : Int) != (m : Int)) = false := by simp; omega
            have hnn : ((n : Int) == 0) = false := by simp; omega
            have hnp : 0 < n := by omega
            clear hh hS hoX' hoY' hEV hG hn hF hN hk hok hN0 hGe hn0 hlm hNb hF0 hN00 hF64
            go_enter Tryd.func8, Tryd.ntmps8
            go_wp2_with (first
              | (go_at_call 17; refine (isStride_any _ w).mono ?_; rw [HS.out]; rintro e w0 ⟨rfl, rfl⟩)
              | (go_at_call 12; refine (scan14_any l m a cap w HB.out.2.1 HB.out.1 hcap (by omega) HB.out.2.2).mono ?_; rintro r w1 ⟨hs1, hb1⟩; obtain ⟨xs, a1, a2, c1, c2, rfl, hx1, hl1, hp1⟩ := HF.out _ _ _ hs1; have HB1 : Hid (Below w.heap.size w (w1.alloc (.cells (SgA (X : Int) (Y : Int) (n : Int) false 0 (.slice a2 k c2) (G : Int)) 39)) ∧ Below w1.heap.size w1 (w1.alloc (.cells (SgA (X : Int) (Y : Int) (n : Int) false 0 (.slice a2 k c2) (G : Int)) 39)) ∧ xs.map It.fm = EV ∧ xs.length = n ∧ PlcA (w1.alloc (.cells (SgA (X : Int) (Y : Int) (n : Int) false 0 (.slice a2 k c2) (G : Int)) 39)) a1 xs ∧ SegAt (w1.alloc (.cells (SgA (X : Int) (Y : Int) (n : Int) false 0 (.slice a2 k c2) (G : Int)) 39)) w1.heap.size (X : Int) (Y : Int) (n : Int) false 0 (.slice a2 k c2) (G : Int)) := ⟨hb1.alloc hb1.size _, (Below.refl _ _).alloc (Nat.le_refl _) _, hx1, hl1, hp1.keep ((Below.refl _ _).alloc (Nat.le_refl _) _), SegAt.new w1 (X : Int) (Y : Int) (n : Int) false 0 (.slice a2 k c2) (G : Int)⟩; clear hs1 hb1 hx1 hl1 hp1)
              | (go_at_call 18; refine (seal_any X Y EV xs st n a1 c1 _ HB1.out.2.2.1 HB1.out.2.2.2.1 hnp HB1.out.2.2.2.2.1 HEO.out.1 hY2 hX2 hst64 (HB.out.2.2.keep HB1.out.1)).mono ?_; rintro r w3 ⟨v3, rfl, ho3, hb3⟩; have HO3 : Hid (Own w3 w.heap.size v3 (sealL X Y EV st) ∧ Below w.heap.size w w3) := ⟨⟨ho3.1, World.ownsRow.mono (base' := w.heap.size) ho3.2 HB1.out.1.size⟩, below_next HB1.out.1 hb3⟩; clear ho3 hb3)
              | fail)
            go_ret2
            exact ⟨v3, by rw [HE.out.1]; rfl, by rw [HE.out.2]; exact HO3.out.1, HO3.out.2⟩
        · have HE : Hid (ftE l (st : Int) = 60 ∧ ftV l (st : Int) = []) := ft_bad l st 60 (by unfold ftE; rw [if_neg (by rw [hS]; simp), if_neg (by rw [hh]; simp), if_neg (by omega), if_pos (by omega)]) (by omega)
          have hg1 : (G : Int) < (m : Int) := by omega
          have hg2 : ((G : Int) != (m : Int)) = true := by simp; omega
          clear hh hS hoX' hoY' hEV hG hn hF hN hk hok hN0 hGe hlm hNb hF0 hN00 hF64
          go_enter Tryd.func8, Tryd.ntmps8
          go_wp2_with (first
            | (go_at_call 17; refine (isStride_any _ w).mono ?_; rw [HS.out]; rintro e w0 ⟨rfl, rfl⟩)
            | (go_at_call 12; refine (scan14_any l m a cap w HB.out.2.1 HB.out.1 hcap (by omega) HB.out.2.2).mono ?_; rintro r w1 ⟨hs1, hb1⟩; obtain ⟨xs, a1, a2, c1, c2, rfl, hx1, hl1, hp1⟩ := HF.out _ _ _ hs1; have HB1 : Hid (Below w.heap.size w (w1.alloc (.cells (SgA (X : Int) (Y : Int) (n : Int) false 0 (.slice a2 k c2) (G : Int)) 39)) ∧ Below w1.heap.size w1 (w1.alloc (.cells (SgA (X : Int) (Y : Int) (n : Int) false 0 (.slice a2 k c2) (G : Int)) 39)) ∧ xs.map It.fm = EV ∧ xs.length = n ∧ PlcA (w1.alloc (.cells (SgA (X : Int) (Y : Int) (n : Int) false 0 (.slice a2 k c2) (G : Int)) 39)) a1 xs ∧ SegAt (w1.alloc (.cells (SgA (X : Int) (Y : Int) (n : Int) false 0 (.slice a2 k c2) (G : Int)) 39)) w1.heap.size (X : Int) (Y : Int) (n : Int) false 0 (.slice a2 k c2) (G : Int)) := ⟨hb1.alloc hb1.size _, (Below.refl _ _).alloc (Nat.le_refl _) _, hx1, hl1, hp1.keep ((Below.refl _ _).alloc (Nat.le_refl _) _), SegAt.new w1 (X : Int) (Y : Int) (n : Int) false 0 (.slice a2 k c2) (G : Int)⟩; clear hs1 hb1 hx1 hl1 hp1)
            | fail)
          go_ret2
          exact ⟨.slice none 0 0, by rw [HE.out.1]; rfl, by rw [HE.out.2]; exact ownNil _ _, HB1.out.1⟩
      · have HE : Hid (ftE l (st : Int) = 72 ∧ ftV l (st : Int) = []) := ft_bad l st 72 (by unfold ftE; rw [if_neg (by rw [hS]; simp), if_neg (by rw [hh]; simp), if_pos (by omega)]) (by omega)
        have HF : Hid (_) := HFF.out true (decide_eq_true (by omega))
        clear hh hS hoX' hoY' hEV hG hn hF hN hk hok hN0 hF0 hlm
        go_enter Tryd.func8, Tryd.ntmps8
        go_wp2_with (first
          | (go_at_call 17; refine (isStride_any _ w).mono ?_; rw [HS.out]; rintro e w0 ⟨rfl, rfl⟩)
          | (go_at_call 12; refine (scan14_any l m a cap w HB.out.2.1 HB.out.1 hcap (by omega) HB.out.2.2).mono ?_; rintro r w1 ⟨hs1, hb1⟩; obtain ⟨xs, a1, a2, c1, c2, rfl, hx1, hl1, hp1⟩ := HF.out _ _ _ hs1; have HB1 : Hid (Below w.heap.size w (w1.alloc (.cells (SgA (X : Int) (Y : Int) (n : Int) true (F : Int) (.slice a2 k c2) ((G : Int) + (N : Int))) 39)) ∧ Below w1.heap.size w1 (w1.alloc (.cells (SgA (X : Int) (Y : Int) (n : Int) true (F : Int) (.slice a2 k c2) ((G : Int) + (N : Int))) 39)) ∧ xs.map It.fm = EV ∧ xs.length = n ∧ PlcA (w1.alloc (.cells (SgA (X : Int) (Y : Int) (n : Int) true (F : Int) (.slice a2 k c2) ((G : Int) + (N : Int))) 39)) a1 xs ∧ SegAt (w1.alloc (.cells (SgA (X : Int) (Y : Int) (n : Int) true (F : Int) (.slice a2 k c2) ((G : Int) + (N : Int))) 39)) w1.heap.size (X : Int) (Y : Int) (n : Int) true (F : Int) (.slice a2 k c2) ((G : Int) + (N : Int))) := ⟨hb1.alloc hb1.size _, (Below.refl _ _).alloc (Nat.le_refl _) _, hx1, hl1, hp1.keep ((Below.refl _ _).alloc (Nat.le_refl _) _), SegAt.new w1 (X : Int) (Y : Int) (n : Int) true (F : Int) (.slice a2 k c2) ((G : Int) + (N : Int))⟩; clear hs1 hb1 hx1 hl1 hp1)
          | fail)
        go_ret2
        exact ⟨.slice none 0 0, by rw [HE.out.1]; rfl, by rw [HE.out.2]; exact ownNil _ _, HB1.out.1⟩
  · have hS0 : stB stI = false := by simpa using hS
    have HE : Hid (ftE l stI = 1 ∧ ftV l stI = []) := by
      have h : ftE l stI = 1 := by unfold ftE; rw [if_pos hS0]
      exact ⟨h, by unfold ftV; rw [if_neg (by omega)]⟩
    have HS : Hid (stB stI = false) := hS0
    clear hS hS0
    go_enter Tryd.func8, Tryd.ntmps8
    go_wp2_with (first
      | (go_at_call 17; refine (isStride_any _ w).mono ?_; rw [HS.out]; rintro e w0 ⟨rfl, rfl⟩)
      | fail)
    go_ret2
    exact ⟨.slice none 0 0, by rw [HE.out.1]; rfl, by rw [HE.out.2]; exact ownNil _ _, Below.refl _ _⟩
end Go.Proofs.YtaegmeilhdbnnabDoor
namespace Go.Proofs.YtaegmeilhdbnnabDoor
open Go.ChangeShapes Go.WideShapes Go.ChangeAt Go.RowKit
theorem two_pow_mul_xor (n a b : Nat) : 2 ^ n * (a ^^^ b) = 2 ^ n * a ^^^ 2 ^ n * b := by
  apply Nat.eq_of_testBit_eq
  intro i
  rw [Nat.testBit_xor, Nat.testBit_two_pow_mul, Nat.testBit_two_pow_mul, Nat.testBit_two_pow_mul, Nat.testBit_xor]
  cases (decide (i ≥ n)) <;> simp
theorem val_set (l : List Nat) (k j : Nat) (h : k < l.length) (hj : j < 8) (hl : ∀ x ∈ l, x < 256) : Crcm.val (l.set k (l.getD k 0 ^^^ 2 ^ j)) = Crcm.val l ^^^ 2 ^ (8 * k + j) := by
  induction l generalizing k with
  | nil => simp at h
  | cons c r ih =>
    have hc : c < 2 ^ 8 := hl c (by simp)
    have hr : ∀ x ∈ r, x < 256 := fun x hx => hl x (by simp [hx])
    cases k with
    | zero =>
      have hp : (2 : Nat) ^ j < 2 ^ 8 := Nat.pow_lt_pow_right (by omega) hj
      show (c ^^^ 2 ^ j) + 2 ^ 8 * Crcm.val r = (c + 2 ^ 8 * Crcm.val r) ^^^ 2 ^ (8 * 0 + j)
      rw [Crcm.add_eq_xor 8 _ _ (Nat.xor_lt_two_pow hc hp), Crcm.add_eq_xor 8 _ _ hc, Nat.mul_zero, Nat.zero_add, Nat.xor_assoc, Nat.xor_assoc, Nat.xor_comm (2 ^ j)]
    | succ k =>
      have ih' := ih k (by simpa using h) hr
      show c + 2 ^ 8 * Crcm.val (r.set k (r.getD k 0 ^^^ 2 ^ j)) = (c + 2 ^ 8 * Crcm.val r) ^^^ 2 ^ (8 * (k + 1) + j)
      rw [ih', Crcm.add_eq_xor 8 _ _ hc, Crcm.add_eq_xor 8 _ _ hc, Nat.xor_assoc]
      rw [show 8 * (k + 1) + j = 8 + (8 * k + j) from by omega, Nat.pow_add 2 8 (8 * k + j), two_pow_mul_xor]
theorem B8_set (t : List Nat) (k v : Nat) : B8 (t.set k v) = (B8 t).set k (.int .u8 (v : Nat)) := by simp [B8, List.map_set]
theorem pow_lt_256 (j : Nat) (h : j < 8) : 2 ^ j < 256 := Nat.pow_lt_pow_right (n := 8) (by omega) h
theorem mod_step (P i : Nat) : P % 2 ^ (i + 1) = (P % 2 ^ i) ^^^ 2 ^ i * (P / 2 ^ i % 2) := by
  have h : P % 2 ^ (i + 1) = P % 2 ^ i + 2 ^ i * (P / 2 ^ i % 2) := by rw [Nat.pow_succ, Nat.mod_mul]
  rw [h, Crcm.add_eq_xor i _ _ (Nat.mod_lt _ (Nat.two_pow_pos i))]
/-- what the register of turned bits is behind i rounds -/
def turned (at0 P m i : Nat) : Nat := 2 ^ at0 * (P % 2 ^ (min i m))
theorem turned_on (at0 P m i : Nat) (h : i < m) (hb : P / 2 ^ i % 2 = 1) : turned at0 P m (i + 1) = turned at0 P m i ^^^ 2 ^ (at0 + i) := by
  unfold turned
  rw [Nat.min_eq_left (by omega), Nat.min_eq_left (by omega), mod_step, hb, Nat.mul_one, two_pow_mul_xor, Nat.pow_add]
theorem turned_off (at0 P m i : Nat) (h : m ≤ i ∨ P / 2 ^ i % 2 = 0) : turned at0 P m (i + 1) = turned at0 P m i := by
  unfold turned
  by_cases hm : m ≤ i
  · rw [Nat.min_eq_right (by omega), Nat.min_eq_right hm]
  · have h0 : P / 2 ^ i % 2 = 0 := by omega
    rw [Nat.min_eq_left (by omega), Nat.min_eq_left (by omega), mod_step, h0, Nat.mul_zero, Nat.xor_zero]
set_option maxRecDepth 100000 in
set_option maxHeartbeats 2000000 in
theorem turn_any (l : List Nat) (at0 P : Nat) (n : Nat) (b off cap : Nat) (w : World) (hn : l.length = n) (hb : Bytes w (some ⟨b, off, none⟩) l) (hne : l ≠ []) (hl : l.length ≤ 281474976710656) (hat : at0 < 8 * l.length) (hP : P < 4294967296) :
    Calls Tryd.prog 9 #[.slice (some ⟨b, off, none⟩) n cap, .int .i64 at0, .int .u32 P] w fun e w' => ∃ v t, e = .returned v ∧ t.length = l.length ∧ Own w' w.heap.size v t ∧ Crcm.val t = Crcm.val l ^^^ turned at0 P (8 * l.length - at0) 32 ∧ Below w.heap.size w w' := by
  subst hn
  obtain ⟨i0, hi, hz0, hz1, hz2⟩ := info_parts Tryd.info5c
  have hl3 : l.length ≤ maxLen := by unfold maxLen; omega
  have HBY : Hid (∀ i, l.getD i 0 < 256) := hb.1
  obtain ⟨b', off', hx, hlt, hcell⟩ := hb.nonempty hne
  cases hx
  have HCELL : Hid (∀ i, i < l.length → w.cell? ⟨b, off + i, none⟩ = some (.int .u8 (l.getD i 0 : Nat))) := hcell
  have hmem : ∀ x ∈ l, x < 256 := hb.mem
  have HMEM : Hid (∀ x ∈ l, x < 256) := hmem
  clear hcell hb hne hmem
  go_enter Tryd.func9, Tryd.ntmps9
  go_wp2_with (at_make; refine wpList_make_full _ rfl _ _ 26 rfl w.heap.size 5 i0 (.int .u8 0) 1 Tryd.underlying26 hi hz0 hz1 _ _ _ _ l.length rfl rfl rfl rfl (by rw [hz2]; omega) hl3 (Nat.le_refl _) ?_)
  intro w1 ho hg
  have hb1 : Below w.heap.size w w1 := (Below.refl _ _).grown hg (Nat.le_refl _) (fun k hk => by cases hk)
  clear hg
  have ho1 : w1.ownsRow w.heap.size 5 1 (.slice (some ⟨w.heap.size, 0, none⟩) l.length l.length) l.length (B8 (l.take 0) ++ List.replicate (l.length - 0) (Value.int .u8 0)) := by
    have h := ho
    rw [toList_madeCells_one] at h
    simpa [B8] using h
  clear ho
  go_wp2
  go_loopw [8, 16] (fun vi i wr => ∃ k : Nat, k ≤ l.length ∧ i = .int .i64 k ∧ wr.ownsRow w.heap.size 5 1 (.slice (some ⟨w.heap.size, 0, none⟩) l.length l.length) l.length (B8 (l.take k) ++ List.replicate (l.length - k) (Value.int .u8 0)) ∧ Below w.heap.size w wr) (fun _ i _ => l.length - (intOf i).toNat)
  case atStart => exact ⟨0, Nat.zero_le _, rfl, ho1, hb1⟩
  case round =>
    obtain ⟨k, hk, rfl, ho, hbe⟩ := hrel
    by_cases hkl : k < l.length
    · have e1 := HCELL.out k hkl
      rw [← hbe.cell (p := ⟨b, off + k, none⟩) hlt] at e1
      have hst := ho.stored k (.int .u8 (l.getD k 0 : Nat))
      rw [copy_step l k _ rfl hkl] at hst
      have e2 := ho.cellAt k (by omega)
      have e3 := ho.frozenAt k
      obtain ⟨z, hz⟩ : ∃ z, wr.cell? ⟨w.heap.size, k, none⟩ = some z := by
        rw [e2]
        exact ⟨_, List.getElem?_eq_getElem (by rw [List.length_append, List.length_replicate]; simp [B8]; omega)⟩
      have hb2 := hbe.grown hst.2 (by have := hbe.size; omega) (fun j hj => by cases hj; exact Nat.le_refl _)
      have HS : Hid (_ ∧ _) := ⟨hst.1, hb2⟩
      clear e2 hst hb2 ho hbe ho1 hb1
      obtain ⟨x, hx⟩ : ∃ x, x = l.getD k 0 := ⟨_, rfl⟩
      rw [← hx] at e1 HS
      clear hx hat hP
      go_wp2
      go_roundw
      case rel => exact ⟨k + 1, by omega, by go_num, HS.out.1, HS.out.2⟩
      case measure => simp [intOf]; omega
    · have hkl2 : k = l.length := by omega
      have hofull : wr.ownsRow w.heap.size 5 1 (.slice (some ⟨w.heap.size, 0, none⟩) l.length l.length) l.length (B8 l) := by
        have h := ho
        rw [hkl2, List.take_of_length_le (Nat.le_refl _), Nat.sub_self, List.replicate_zero, List.append_nil] at h
        exact h
      have HAT : Hid (at0 < 8 * l.length) := hat
      have HPL : Hid (P < 4294967296) := hP
      clear ho ho1 hb1 hkl2 HCELL hat hP
      go_wp2
      go_loopw [9, 10] (fun vi vk wr => ∃ (i : Nat) (t : List Nat), i ≤ 32 ∧ vi = .int .i64 i ∧ t.length = l.length ∧ (∀ x ∈ t, x < 256) ∧ wr.ownsRow w.heap.size 5 1 (.slice (some ⟨w.heap.size, 0, none⟩) l.length l.length) l.length (B8 t) ∧ Crcm.val t = Crcm.val l ^^^ turned at0 P (8 * l.length - at0) i ∧ Below w.heap.size w wr) (fun vi _ _ => 32 - (intOf vi).toNat)
      case atStart =>
        refine ⟨0, l, by omega, rfl, rfl, HMEM.out, hofull, ?_, hbe⟩
        unfold turned
        rw [Nat.zero_min, Nat.pow_zero, Nat.mod_one, Nat.mul_zero, Nat.xor_zero]
      case round =>
        obtain ⟨i, t, hi32, rfl, htl, htm, hot, hval, hbt⟩ := hrel
        clear hofull hbe
        by_cases hi : i < 32
        · have hatI : (at0 : Int) < 8 * (l.length : Int) := by have := HAT.out; omega
          have hlI : (l.length : Int) ≤ 281474976710656 := by omega
          clear hl hl3
          obtain ⟨K, J, hKJ, hJ8⟩ : ∃ K J, at0 + i = 8 * K + J ∧ J < 8 := ⟨(at0 + i) / 8, (at0 + i) % 8, by omega, by omega⟩
          have hK : ((at0 : Int) + (i : Int)) / 8 = (K : Int) := by omega
          have hJ : ((at0 : Int) + (i : Int)) % 8 = (J : Int) := by omega
          have HKJ : Hid (at0 + i = 8 * K + J) := hKJ
          have hbit : bits .and .u32 ((P : Int) / 2 ^ i) 1 = ((P / 2 ^ i % 2 : Nat) : Int) := by
            have h := u32_and_nat (P / 2 ^ i) 1 (Nat.lt_of_le_of_lt (Nat.div_le_self _ _) HPL.out) (by omega)
            rw [nat_mask1] at h
            rw [show ((P / 2 ^ i : Nat) : Int) = (P : Int) / 2 ^ i from by simp] at h
            exact h
          obtain ⟨bt, hbt2⟩ : ∃ bt, bt = P / 2 ^ i % 2 := ⟨_, rfl⟩
          rw [← hbt2] at hbit
          have HBT : Hid (bt = P / 2 ^ i % 2) := hbt2
          clear hKJ hbt2
          have H1 : Hid (_ = _) := hval
          have H3 : Hid (_ = _) := htl
          have H4 : Hid (∀ x ∈ t, x < 256) := htm
          by_cases hon : bt = 1 ∧ K < l.length
          · obtain ⟨rfl, hKl⟩ := hon
            have hKI : (K : Int) < (l.length : Int) := by omega
            have e2 := hot.cellAt K (by omega)
            rw [B8_get t K (by omega)] at e2
            have e3 := hot.frozenAt K
            have hc256 : t.getD K 0 < 256 := getD_lt htm K
            have hst := hot.stored K (.int .u8 (t.getD K 0 ^^^ 2 ^ J : Nat))
            have hb2 := hbt.grown hst.2 (by have := hbt.size; omega) (fun j hj => by cases hj; exact Nat.le_refl _)
            have hv2 := val_set t K J (by omega) hJ8 htm
            have HS : Hid (_ ∧ _) := ⟨hst.1, hb2⟩
            have HV : Hid (_ = _) := hv2
            obtain ⟨c, hcE⟩ : ∃ c, c = t.getD K 0 := ⟨_, rfl⟩
            have HCE : Hid (c = t.getD K 0) := hcE
            rw [← hcE] at e2 hc256
            have hxor : bits .xor .u8 (c : Int) (2 ^ J % 256) = ((c ^^^ 2 ^ J : Nat) : Int) := by
              have h := u8_xor_nat c (2 ^ J) hc256 (pow_lt_256 J hJ8)
              have hp := pow_lt_256 J hJ8
              have hq : ((2 ^ J : Nat) : Int) = (2 : Int) ^ J := by simp
              rw [← hq, show ((2 ^ J : Nat) : Int) % 256 = ((2 ^ J : Nat) : Int) from Int.emod_eq_of_lt (Int.natCast_nonneg _) (Int.ofNat_lt.2 hp)]
              exact h
            clear hval hot htl htm hst hb2 hv2 hcE hbt
            go_wp2
            go_region
            all_goals go_wp2
            go_roundw
            case rel =>
              refine ⟨i + 1, t.set K (t.getD K 0 ^^^ 2 ^ J), by omega, by go_num, by rw [List.length_set]; exact H3.out, ?_, ?_, ?_, ?_⟩
              · intro x hx
                rcases List.mem_or_eq_of_mem_set hx with h | h
                · exact H4.out x h
                · rw [h, ← HCE.out]
                  exact Nat.xor_lt_two_pow (n := 8) hc256 (pow_lt_256 J hJ8)
              · have h := HS.out.1
                rw [← HCE.out] at h ⊢
                rw [B8_set]
                exact h
              · rw [HV.out, H1.out, turned_on at0 P _ i (by have h1 := HKJ.out; have h2 := HAT.out; omega) HBT.out.symm, Nat.xor_assoc, HKJ.out]
              · have h := HS.out.2
                rw [← HCE.out] at h
                exact h.drew
            case measure => simp [intOf]; omega
          · have hoff : 8 * l.length - at0 ≤ i ∨ P / 2 ^ i % 2 = 0 := by
              have h1 := HBT.out
              have h2 := HKJ.out
              have h3 := HAT.out
              omega
            have HE : Hid (Crcm.val t = Crcm.val l ^^^ turned at0 P (8 * l.length - at0) (i + 1)) := by
              show _ = _
              rw [turned_off at0 P _ i hoff]; exact hval
            have H2 : Hid (_ ∧ _) := ⟨hot, hbt⟩
            clear hval hot htl htm hbt hoff
            by_cases hb1 : bt = 1
            · subst hb1
              have hKI : ¬ (K : Int) < (l.length : Int) := by omega
              clear hon
              go_wp2
              go_roundw
              case rel => exact ⟨i + 1, t, by omega, by go_num, H3.out, H4.out, H2.out.1, HE.out, H2.out.2⟩
              case measure => simp [intOf]; omega
            · have hbb : ((bt : Int) == 1) = false := by simp; omega
              clear hon
              go_wp2
              go_roundw
              case rel => exact ⟨i + 1, t, by omega, by go_num, H3.out, H4.out, H2.out.1, HE.out, H2.out.2⟩
              case measure => simp [intOf]; omega
        · have hi33 : i = 32 := by omega
          subst hi33
          have HO : Hid (_) := hot
          clear hl hl3
          go_wp2
          go_ret
          exact ⟨_, t, rfl, htl, ⟨getD_lt htm, by rw [htl]; exact HO.out⟩, hval, hbt⟩
end Go.Proofs.YtaegmeilhdbnnabDoor
namespace Go.Proofs.YtaegmeilhdbnnabDoor
set_option linter.unusedVariables false
theorem closed_reg (l : List Nat) (hl : ∀ x ∈ l, x < 256) (h4 : 4 ≤ l.length) : closedB l = decide (Crcm.upd Crcm.ones l = Crcm.shN 32 Crcm.ones) := by
  unfold closedB
  have h := Crcm.closed_iff (l.take (l.length - 4)) (l.drop (l.length - 4)) (fun x hx => hl x (List.mem_of_mem_take hx)) (fun x hx => hl x (List.mem_of_mem_drop hx)) (by rw [List.length_drop]; omega)
  rw [List.take_append_drop] at h
  rw [decide_eq_decide]
  exact ⟨fun hh => h.1 hh.2, fun hh => ⟨h4, h.2 hh⟩⟩
theorem told (l t : List Nat) (at0 P : Nat) (hl : ∀ x ∈ l, x < 256) (ht : ∀ x ∈ t, x < 256) (hn : t.length = l.length) (h4 : 4 ≤ l.length) (hP : P < 2 ^ 32) (hat : at0 < 8 * l.length) (hc : closedB l = true)
    (hv : Crcm.val t = Crcm.val l ^^^ turned at0 P (8 * l.length - at0) 32) : closedB t = decide (t = l) := by
  rw [closed_reg l hl h4] at hc
  rw [closed_reg t ht (by omega), decide_eq_decide]
  have hcl : Crcm.upd Crcm.ones l = Crcm.shN 32 Crcm.ones := of_decide_eq_true hc
  have hE : turned at0 P (8 * l.length - at0) 32 = 2 ^ at0 * (P % 2 ^ (8 * l.length - at0)) := by
    unfold turned
    by_cases hm : 8 * l.length - at0 ≤ 32
    · rw [Nat.min_eq_right hm]
    · rw [Nat.min_eq_left (by omega), Nat.mod_eq_of_lt hP, Nat.mod_eq_of_lt (Nat.lt_of_lt_of_le hP (Nat.pow_le_pow_right (by omega) (by omega)))]
  constructor
  · intro h
    rw [← hcl, Crcm.upd_val _ t ht, Crcm.upd_val _ l hl, hn, hv, hE] at h
    have h0 := Crcm.burst l.length at0 P hP hat Crcm.ones (Crcm.val l) h
    rw [hE, h0, Nat.mul_zero, Nat.xor_zero] at hv
    exact Crcm.val_inj t l ht hl hn hv
  · intro h
    rw [h]
    exact hcl
theorem val_low (l m : List Nat) (hl : ∀ x ∈ l, x < 256) : Crcm.val (l ++ m) % 2 ^ (8 * l.length) = Crcm.val l := by
  rw [Crcm.val_append, Nat.add_mul_mod_self_left, Nat.mod_eq_of_lt (Crcm.val_lt l hl)]
theorem val_high (l m : List Nat) (hl : ∀ x ∈ l, x < 256) : Crcm.val (l ++ m) / 2 ^ (8 * l.length) = Crcm.val m := by
  rw [Crcm.val_append, Nat.add_mul_div_left _ _ (Nat.two_pow_pos _), Nat.div_eq_of_lt (Crcm.val_lt l hl), Nat.zero_add]
theorem pow_split (a b c : Nat) (h : a = b + c) : 2 ^ a = 2 ^ b * 2 ^ c := by rw [h, Nat.pow_add]
theorem pow_part (a n m P : Nat) (h : a ≤ n) : 2 ^ a * (P % 2 ^ m) % 2 ^ n = 2 ^ a * (P % 2 ^ (min m (n - a))) := by
  rw [show 2 ^ n = 2 ^ a * 2 ^ (n - a) from pow_split _ _ _ (by omega), Nat.mul_mod_mul_left]
  refine congrArg (fun z => 2 ^ a * z) ?_
  by_cases hm : m ≤ n - a
  · rw [Nat.min_eq_left hm, Nat.mod_eq_of_lt (Nat.lt_of_lt_of_le (Nat.mod_lt _ (Nat.two_pow_pos _)) (Nat.pow_le_pow_right (by omega) hm))]
  · rw [Nat.min_eq_right (by omega), Nat.mod_mod_of_dvd _ (Nat.pow_dvd_pow 2 (by omega))]
theorem burst_frame (k s : Nat) (body t : List Nat) (at0 P : Nat) (hb : ∀ y ∈ body, y < 256) (hk1 : 1 ≤ k) (hk7 : k ≤ 7) (hn : body.length ≤ 16384) (hs : s ≤ 1099511627776) (ht : ∀ x ∈ t, x < 256) (htl : t.length = (frameL k s body).length)
    (hP : P < 4294967296) (hat : at0 < 8 * (frameL k s body).length) (hv : Crcm.val t = Crcm.val (frameL k s body) ^^^ turned at0 P (8 * (frameL k s body).length - at0) 32) (hne : t ≠ frameL k s body) : decE t = 61 ∨ decE t = 62 := by
  have hL := frameL_length k s body
  have hH := headL_length k body.length s
  have hHl := headL_lt k body.length s (by omega)
  have hBl := foot_lt body hb
  have hBn : (body ++ Crcm.four (Crcm.sum body)).length = body.length + 4 := by rw [List.length_append, four_length]
  have hP2 : P < 2 ^ 32 := hP
  obtain ⟨t1, h1⟩ : ∃ t1, t1 = t.take 16 := ⟨_, rfl⟩
  obtain ⟨t2, h2⟩ : ∃ t2, t2 = t.drop 16 := ⟨_, rfl⟩
  have hT : t = t1 ++ t2 := by rw [h1, h2, List.take_append_drop]
  have h1n : t1.length = 16 := by rw [h1, List.length_take]; omega
  have h2n : t2.length = body.length + 4 := by rw [h2, List.length_drop]; omega
  have h1l : ∀ x ∈ t1, x < 256 := fun x hx => ht x (by rw [hT]; exact List.mem_append_left _ hx)
  have h2l : ∀ x ∈ t2, x < 256 := fun x hx => ht x (by rw [hT]; exact List.mem_append_right _ hx)
  have v1 := val_low t1 t2 h1l
  have v2 := val_high t1 t2 h1l
  have u1 := val_low (headL k body.length s) (body ++ Crcm.four (Crcm.sum body)) hHl
  have u2 := val_high (headL k body.length s) (body ++ Crcm.four (Crcm.sum body)) hHl
  rw [← hT, h1n] at v1 v2
  rw [hH] at u1 u2
  have hF : headL k body.length s ++ (body ++ Crcm.four (Crcm.sum body)) = frameL k s body := rfl
  rw [hF] at u1 u2
  have hcH : closedB (headL k body.length s) = true := closed_whole _ (head12_lt k body.length s (by omega))
  have hcB : closedB (body ++ Crcm.four (Crcm.sum body)) = true := closed_whole _ hb
  rw [hL] at hat hv
  have e1 : Crcm.val t1 = Crcm.val (headL k body.length s) ^^^ (turned at0 P (8 * (body.length + 20) - at0) 32 % 2 ^ (8 * 16)) := by rw [← v1, hv, Nat.xor_mod_two_pow, u1]
  have e2 : Crcm.val t2 = Crcm.val (body ++ Crcm.four (Crcm.sum body)) ^^^ (turned at0 P (8 * (body.length + 20) - at0) 32 / 2 ^ (8 * 16)) := by rw [← v2, hv, Nat.xor_div_two_pow, u2]
  by_cases hh : t1 = headL k body.length s
  · have hB : t2 ≠ body ++ Crcm.four (Crcm.sum body) := by
      intro hx
      apply hne
      rw [hT, hh, hx]
      rfl
    have hz : turned at0 P (8 * (body.length + 20) - at0) 32 % 2 ^ (8 * 16) = 0 := by
      rw [hh] at e1
      exact (Crcm.xor_inj (Crcm.val (headL k body.length s)) 0 (turned at0 P (8 * (body.length + 20) - at0) 32 % 2 ^ (8 * 16)) ((Nat.xor_zero _).trans e1)).symm
    have hcl : closedB t2 = decide (t2 = body ++ Crcm.four (Crcm.sum body)) := by
      by_cases ha : 128 ≤ at0
      · refine told _ t2 (at0 - 128) P hBl h2l (by rw [h2n, hBn]) (by rw [hBn]; omega) hP2 (by rw [hBn]; omega) hcB ?_
        rw [e2, hBn]
        refine congrArg (fun z => Crcm.val (body ++ Crcm.four (Crcm.sum body)) ^^^ z) ?_
        unfold turned
        rw [show 2 ^ at0 = 2 ^ (8 * 16) * 2 ^ (at0 - 128) from pow_split _ _ _ (by omega), Nat.mul_assoc, Nat.mul_div_cancel_left _ (Nat.two_pow_pos _), show 8 * (body.length + 4) - (at0 - 128) = 8 * (body.length + 20) - at0 from by omega]
      · have hd : turned at0 P (8 * (body.length + 20) - at0) 32 = 2 ^ (8 * 16) * (turned at0 P (8 * (body.length + 20) - at0) 32 / 2 ^ (8 * 16)) := by
          have := Nat.div_add_mod (turned at0 P (8 * (body.length + 20) - at0) 32) (2 ^ (8 * 16))
          rw [hz, Nat.add_zero] at this
          exact this.symm
        obtain ⟨Q, hQ⟩ : ∃ Q, turned at0 P (8 * (body.length + 20) - at0) 32 / 2 ^ (8 * 16) = Q := ⟨_, rfl⟩
        rw [hQ] at hd e2
        have hq1 : P % 2 ^ (min 32 (8 * (body.length + 20) - at0)) = 2 ^ (128 - at0) * Q := by
          unfold turned at hd
          rw [show 2 ^ (8 * 16) = 2 ^ at0 * 2 ^ (128 - at0) from pow_split _ _ _ (by omega), Nat.mul_assoc] at hd
          exact Nat.eq_of_mul_eq_mul_left (Nat.two_pow_pos _) hd
        have hq2 : Q < 2 ^ 32 := by
          have hp1 : P % 2 ^ (min 32 (8 * (body.length + 20) - at0)) ≤ P := Nat.mod_le _ _
          have hp2 : Q ≤ 2 ^ (128 - at0) * Q := Nat.le_mul_of_pos_left _ (Nat.two_pow_pos _)
          rw [hq1] at hp1
          exact Nat.lt_of_le_of_lt (Nat.le_trans hp2 hp1) hP2
        refine told _ t2 0 Q hBl h2l (by rw [h2n, hBn]) (by rw [hBn]; omega) hq2 (by rw [hBn]; omega) hcB ?_
        rw [e2, hBn]
        refine congrArg (fun z => Crcm.val (body ++ Crcm.four (Crcm.sum body)) ^^^ z) ?_
        unfold turned
        rw [Nat.min_eq_left (by omega), Nat.pow_zero, Nat.one_mul, Nat.mod_eq_of_lt hq2]
    have hf2 : closedB t2 = false := by rw [hcl]; simpa using hB
    right
    have hT2 : t = headL k body.length s ++ t2 := by rw [hT, hh]
    obtain ⟨p1, p2, p3, p4, p5⟩ := head_parts k body.length s t2 (by omega) (by omega)
    have p0 := peek_laid k body.length s t2 hk1 hk7 hn hs
    rw [← hT2] at p0 p2
    unfold decE
    rw [p0, p2, if_neg (by omega), if_neg (by omega), if_pos]
    rw [List.take_of_length_le (by omega), ← h2]
    exact hf2
  · have ha : at0 < 128 := by
      apply Decidable.byContradiction
      intro ha
      apply hh
      have hz : turned at0 P (8 * (body.length + 20) - at0) 32 % 2 ^ (8 * 16) = 0 := by
        unfold turned
        rw [show 2 ^ at0 = 2 ^ (8 * 16) * 2 ^ (at0 - 128) from pow_split _ _ _ (by omega), Nat.mul_assoc, Nat.mul_mod_right]
      rw [hz, Nat.xor_zero] at e1
      exact Crcm.val_inj t1 _ h1l hHl (by rw [h1n, hH]) e1
    have hcl : closedB t1 = decide (t1 = headL k body.length s) := by
      refine told _ t1 at0 P hHl h1l (by rw [h1n, hH]) (by rw [hH]; omega) hP2 (by rw [hH]; omega) hcH ?_
      rw [e1, hH]
      refine congrArg (fun z => Crcm.val (headL k body.length s) ^^^ z) ?_
      unfold turned
      rw [pow_part at0 (8 * 16) _ P (by omega), Nat.min_assoc, Nat.min_eq_right (show 8 * 16 - at0 ≤ 8 * (body.length + 20) - at0 from by omega)]
    have hf1 : closedB (t.take 16) = false := by rw [← h1, hcl]; simpa using hh
    have h16 : ¬ t.length < 16 := by omega
    have hp : peekE t = 61 ∨ peekE t = 62 := by
      unfold peekE
      rw [if_neg h16]
      by_cases hm : t.getD 0 0 ≠ 165
      · rw [if_pos hm]; exact .inl rfl
      · rw [if_neg hm, if_pos hf1]; exact .inr rfl
    unfold decE
    rcases hp with h | h
    · left; rw [h, if_pos (by omega)]
    · right; rw [h, if_pos (by omega)]
end Go.Proofs.YtaegmeilhdbnnabDoor
namespace Go.Proofs.YtaegmeilhdbnnabDoor
open Go.ChangeShapes Go.WideShapes Go.ChangeAt Go.RowKit Go.Shelf
set_option linter.unusedVariables false
theorem getD_app (t r : List Nat) (i : Nat) (h : i < t.length) : (t ++ r).getD i 0 = t.getD i 0 := by
  rw [List.getD_eq_getElem?_getD, List.getElem?_append_left h, ← List.getD_eq_getElem?_getD]
theorem take_app (t r : List Nat) (i : Nat) (h : i ≤ t.length) : (t ++ r).take i = t.take i := by
  rw [List.take_append, show i - t.length = 0 from by omega, List.take_zero, List.append_nil]
theorem peek_more (t r : List Nat) (h : 16 ≤ t.length) : peekE (t ++ r) = peekE t ∧ pn (t ++ r) = pn t := by
  have e0 := getD_app t r 0 (by omega)
  have e1 : pk (t ++ r) = pk t := getD_app t r 1 (by omega)
  have e2 : pn (t ++ r) = pn t := by unfold pn; rw [getD_app t r 2 (by omega), getD_app t r 3 (by omega)]
  have e3 : ps (t ++ r) = ps t := by
    unfold ps
    rw [List.drop_append, show 4 - t.length = 0 from by omega, List.drop_zero, take_app _ _ _ (by rw [List.length_drop]; omega)]
  have e4 := take_app t r 16 h
  have e5 : ¬ (t ++ r).length < 16 := by rw [List.length_append]; omega
  have e6 : ¬ t.length < 16 := by omega
  refine ⟨?_, e2⟩
  unfold peekE
  rw [e0, e1, e2, e3, e4, if_neg e5, if_neg e6]
theorem dec_more (t r : List Nat) (h : decE t = 61 ∨ decE t = 62) : decE (t ++ r) = decE t := by
  have h16 : 16 ≤ t.length := by
    apply Decidable.byContradiction
    intro hc
    have hp : peekE t = 60 := by unfold peekE; rw [if_pos (by omega)]
    unfold decE at h
    rw [hp, if_pos (by omega)] at h
    omega
  obtain ⟨e1, e2⟩ := peek_more t r h16
  unfold decE at h ⊢
  rw [e1, e2]
  by_cases hp : peekE t = 0
  · have hn0 : ¬ peekE t ≠ 0 := by omega
    rw [if_neg hn0] at h
    rw [if_neg hn0, if_neg hn0]
    by_cases hl : t.length < pn t + 20
    · rw [if_pos hl] at h; omega
    · rw [if_neg hl, if_neg (by rw [List.length_append]; omega), take_app t r _ (by omega)]
  · rw [if_pos hp, if_pos hp]
/-- what scan.All finds in laid frames of which the k-th is turned into one that is none -/
theorem scan_turned (L : List Fi) (h : ∀ f ∈ L, Fok f.k.toNat f.s.toNat f.body) (t r : List Nat) (ht : decE t = 61 ∨ decE t = 62) :
    scanL (layF L ++ (t ++ r)) = plF 0 L ∧ endZ 0 (scanL (layF L ++ (t ++ r))) = (layF L).length ∧ allE (layF L ++ (t ++ r)) = decE t := by
  have hd := dec_more t r ht
  have h0 : scanL (t ++ r) = [] := scanAt_end _ 0 (by rw [List.drop_zero, hd]; rintro ⟨_, h2⟩; omega)
  have s1 := scan_plF (t ++ r) L h
  obtain ⟨_, s2, s3⟩ := scan_lay (t ++ r) L h
  rw [h0] at s1 s2
  refine ⟨by rw [s1]; simp, by rw [s2]; simp [endZ], ?_⟩
  rw [s3]
  unfold allE
  rw [h0]
  show (if 0 = (t ++ r).length then 0 else decE ((t ++ r).drop 0)) = _
  rw [List.drop_zero, hd, if_neg]
  intro hz
  have : t = [] := by
    have : (t ++ r).length = 0 := hz.symm
    rw [List.length_append] at this
    exact List.length_eq_zero_iff.1 (by omega)
  subst this
  revert ht
  decide
theorem lay_split (L : List Fi) (k : Nat) (f : Fi) (hf : L[k]? = some f) : layF L = layF (L.take k) ++ (fL f ++ layF (L.drop (k + 1))) ∧ (layF (L.take (k + 1))).length = (layF (L.take k)).length + (fL f).length := by
  have hk := get_lt hf
  have e1 : L = L.take k ++ f :: L.drop (k + 1) := by
    have h := (List.take_append_drop k L).symm
    rw [List.drop_eq_getElem_cons hk, (List.getElem?_eq_some_iff.1 hf).2] at h
    exact h
  have e2 : L.take (k + 1) = L.take k ++ [f] := by rw [List.take_add_one, hf]; rfl
  refine ⟨?_, by rw [e2, layF_append, List.length_append]; simp [layF]⟩
  conv => lhs; rw [e1]
  rw [layF_append]
  rfl
end Go.Proofs.YtaegmeilhdbnnabDoor
