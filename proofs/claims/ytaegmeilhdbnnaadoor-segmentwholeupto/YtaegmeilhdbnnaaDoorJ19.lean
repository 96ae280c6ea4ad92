/- Own texts, joined: Sg16, Sg17, Two, Turn. -/
import Derived.Test.YtaegmeilhdbnnaaDoorJ15
import Derived.Test.YtaegmeilhdbnnaaDoorJ17
import Derived.Test.YtaegmeilhdbnnaaDoorJ00
import Derived.ArgAppend
import Derived.Test.YtaegmeilhdbnnaaDoorJ06
namespace Go.Proofs.YtaegmeilhdbnnaaDoor
open Go.ChangeShapes Go.WideShapes Go.ChangeAt Go.RowKit
set_option linter.unusedVariables false
/-- what Footer answers -/
def ftE (l : List Nat) (st : Int) : Nat := if stB st = false then 1 else if hdr l = none then 71 else if 0 < sgF l then 72 else if sgG l < l.length then 60 else if sgE l = [] then 93 else 0
def ftV (l : List Nat) (st : Int) : List Nat := if ftE l st = 0 then sealL (hoX l) (hoY l) (sgE l) st.toNat else []
theorem ft_bad (l : List Nat) (st e : Nat) (h : ftE l (st : Int) = e) (he : e ≠ 0) : ftE l (st : Int) = e ∧ ftV l (st : Int) = [] := ⟨h, by unfold ftV; rw [if_neg (by omega)]⟩
set_option maxRecDepth 20000 in
set_option maxHeartbeats 4000000 in
theorem footer14_any (l : List Nat) (m : Nat) (a : Option Addr) (cap : Nat) (stI : Int) (w : World) (hm : l.length = m) (hb : Bytes w a l) (hcap : m ≤ cap) (hl : m ≤ 16777216) (ht : Tab w) :
    Calls Tryd.prog 21 #[.slice a m cap, .int .i64 stI] w fun e w' => ∃ v, e = .returned (.tuple #[v, .int .i64 (ftE l stI : Nat)]) ∧ Own w' w.heap.size v (ftV l stI) ∧ Below w.heap.size w w' := by
  have HB : Hid (Bytes w a l ∧ l.length = m ∧ Tab w) := ⟨hb, hm, ht⟩
  have hmem := hb.mem
  clear hb hm ht
  by_cases hS : stB stI = true
  · have HS : Hid (stB stI = true) := hS
    obtain ⟨st, rfl⟩ : ∃ st : Nat, stI = (st : Int) := ⟨stI.toNat, by have h := of_decide_eq_true hS; omega⟩
    have hst := of_decide_eq_true hS
    have hst1 : 1 ≤ st := by omega
    have hst64 : st ≤ 64 := by omega
    have hstI : (st : Int) ≤ 64 := by omega
    have hst1I : (1 : Int) ≤ (st : Int) := by omega
    clear hst
    cases hh : hdr l with
    | none =>
      have HE : Hid (ftE l (st : Int) = 71 ∧ ftV l (st : Int) = []) := ft_bad l st 71 (by unfold ftE; rw [if_neg (by rw [hS]; simp), if_pos (by rw [hh])]) (by omega)
      have HF : Hid (∀ base e w', ScanP l base e w' → e = .returned (.tuple #[SgV 0 0 0 false 0 (.slice none 0 0) 0, .slice none 0 0, .int .i64 71])) := by
        rintro base e w' (⟨_, h⟩ | ⟨h, _⟩)
        · exact h
        · rw [hh] at h; cases h
      clear hh hS
      go_enter Tryd.func21, Tryd.ntmps21
      go_wp2_with (first
        | (go_at_call 45; refine (isStride_any _ w).mono ?_; rw [HS.out]; rintro e w0 ⟨rfl, rfl⟩)
        | (go_at_call 17; refine (scan14_any l m a cap w HB.out.2.1 HB.out.1 hcap (by omega) HB.out.2.2).mono ?_; rintro r w1 ⟨hs1, hb1⟩; obtain rfl := HF.out _ _ _ hs1; have HB1 : Hid (Below w.heap.size w (w1.alloc (.cells (SgA 0 0 0 false 0 (.slice none 0 0) 0) 38))) := hb1.alloc hb1.size _; clear hs1 hb1)
        | fail)
      go_ret2
      exact ⟨.slice none 0 0, by rw [HE.out.1]; rfl, by rw [HE.out.2]; exact ownNil _ _, HB1.out⟩
    | some q =>
      obtain ⟨X, Y⟩ := q
      obtain ⟨_, _, _, hX1, hX2, hY1, hY2, _, hpn⟩ := hdr_some l hmem X Y hh
      have hoX' : hoX l = X := by unfold hoX; rw [hh]; rfl
      have hoY' : hoY l = Y := by unfold hoY; rw [hh]; rfl
      obtain ⟨EV, hEV⟩ : ∃ E, sgE l = E := ⟨_, rfl⟩
      obtain ⟨G, hG⟩ : ∃ G, sgG l = G := ⟨_, rfl⟩
      obtain ⟨n, hn⟩ : ∃ n, EV.length = n := ⟨_, rfl⟩
      obtain ⟨F, hF⟩ : ∃ F, sgF l = F := ⟨_, rfl⟩
      obtain ⟨N, hN⟩ : ∃ N, sgN l = N := ⟨_, rfl⟩
      obtain ⟨k, hk⟩ : ∃ k, (sgM l).length = k := ⟨_, rfl⟩
      have hok : EvOk Y EV := by rw [← hEV]; unfold sgE; rw [hoY']; exact (runL_ok l (pn l + 20) Y hY1 hpn (by rw [HB.out.2.1]; exact hl)).1
      have hGm : G ≤ m := by rw [← hG, ← HB.out.2.1]; unfold sgG sgE; exact (runEnd l (pn l + 20) (hoY l) hpn).2
      have hn5 : n ≤ 512 := by rw [← hn]; exact hok.len
      have hN0 : F = 0 → N = 0 := fun h => by rw [← hN]; unfold sgN ftN; rw [if_pos]; rw [← h, ← hF]; rfl
      have hNb : N ≤ 16404 := by
        rw [← hN]
        unfold sgN ftN
        split
        · omega
        · rename_i hc
          have h00 := ftS_pos (l.drop (sgG l)) (hoX l) (hoY l) (sgE l) (by omega)
          have := (decB_facts (fun z hz => hmem z (List.mem_of_mem_drop hz)) h00).2
          omega
      have hF64 : F ≤ 64 := by rw [← hF]; exact ftS_le _ _ _ _
      have HFF : Hid (∀ (b : Bool), decide (0 < F) = b → ∀ base e w', ScanP l base e w' → ∃ (xs : List It) (a1 a2 : Option Addr) (c1 c2 : Nat), e = .returned (.tuple #[SgV (X : Int) (Y : Int) (n : Int) b (F : Int) (.slice a2 k c2) ((G : Int) + (N : Int)), .slice a1 n c1, .int .i64 0]) ∧ xs.map It.fm = EV ∧ xs.length = n ∧ PlcA w' a1 xs) := by
        rintro b hb base e w' (⟨h, _⟩ | ⟨_, xs, v, mv, h1, h2, h3, h4⟩)
        · rw [hh] at h; cases h
        · obtain ⟨a1, c1, hv, hp⟩ := h3.plc
          obtain ⟨a2, c2, hv2, _⟩ := h4.shape
          have hx : xs.length = n := by rw [← hn, ← hEV, ← h1, List.length_map]
          rw [hx] at hv
          rw [hk] at hv2
          subst hv hv2
          refine ⟨xs, a1, a2, c1, c2, ?_, by rw [h1, hEV], hx, hp⟩
          rw [h2, hEV, hn, hoX', hoY', hF, hG, hN, hb]
      have HEO : Hid (EvOk Y EV ∧ EV.length = n ∧ (EV.map evP).length = n) := ⟨hok, hn, by rw [List.length_map]; exact hn⟩
      have hXI : (X : Int) ≤ 999999 := by omega
      have hYI : (Y : Int) ≤ 1099511627777 := by omega
      have hGI : (G : Int) ≤ 16777216 := by omega
      have hn5I : (n : Int) ≤ 512 := by omega
      have hlm := HB.out.2.1
      by_cases hF0 : F = 0
      · have hN00 := hN0 hF0
        have HF : Hid (∀ base e w', ScanP l base e w' → ∃ (xs : List It) (a1 a2 : Option Addr) (c1 c2 : Nat), e = .returned (.tuple #[SgV (X : Int) (Y : Int) (n : Int) false 0 (.slice a2 k c2) (G : Int), .slice a1 n c1, .int .i64 0]) ∧ xs.map It.fm = EV ∧ xs.length = n ∧ PlcA w' a1 xs) := fun base e w' h => by
          have h2 := HFF.out false (decide_eq_false (by omega)) base e w' h
          rw [hF0, hN00] at h2
          simp only [Int.add_zero, Int.natCast_zero] at h2
          exact h2
        by_cases hGe : G = m
        · by_cases hn0 : n = 0
          · have HE : Hid (ftE l (st : Int) = 93 ∧ ftV l (st : Int) = []) := ft_bad l st 93 (by unfold ftE; rw [if_neg (by rw [hS]; simp), if_neg (by rw [hh]; simp), if_neg (by omega), if_neg (by omega), if_pos (by rw [hEV]; exact List.length_eq_zero_iff.1 (by omega))]) (by omega)
            have hg1 : ¬ (G : Int) < (m : Int) := by omega
            have hg2 : ((G : Int) != (m : Int)) = false := by simp; omega
            have hnn : ((n : Int) == 0) = true := by simp; omega
            clear hh hS hoX' hoY' hEV hG hn hF hN hk hok hN0 hGe hn0 hlm hNb hF0 hN00 hF64
            go_enter Tryd.func21, Tryd.ntmps21
            go_wp2_with (first
              | (go_at_call 45; refine (isStride_any _ w).mono ?_; rw [HS.out]; rintro e w0 ⟨rfl, rfl⟩)
              | (go_at_call 17; refine (scan14_any l m a cap w HB.out.2.1 HB.out.1 hcap (by omega) HB.out.2.2).mono ?_; rintro r w1 ⟨hs1, hb1⟩; obtain ⟨xs, a1, a2, c1, c2, rfl, hx1, hl1, hp1⟩ := HF.out _ _ _ hs1; have HB1 : Hid (Below w.heap.size w (w1.alloc (.cells (SgA (X : Int) (Y : Int) (n : Int) false 0 (.slice a2 k c2) (G : Int)) 38)) ∧ Below w1.heap.size w1 (w1.alloc (.cells (SgA (X : Int) (Y : Int) (n : Int) false 0 (.slice a2 k c2) (G : Int)) 38)) ∧ xs.map It.fm = EV ∧ xs.length = n ∧ PlcA (w1.alloc (.cells (SgA (X : Int) (Y : Int) (n : Int) false 0 (.slice a2 k c2) (G : Int)) 38)) a1 xs ∧ SegAt (w1.alloc (.cells (SgA (X : Int) (Y : Int) (n : Int) false 0 (.slice a2 k c2) (G : Int)) 38)) w1.heap.size (X : Int) (Y : Int) (n : Int) false 0 (.slice a2 k c2) (G : Int)) := ⟨hb1.alloc hb1.size _, (Below.refl _ _).alloc (Nat.le_refl _) _, hx1, hl1, hp1.keep ((Below.refl _ _).alloc (Nat.le_refl _) _), SegAt.new w1 (X : Int) (Y : Int) (n : Int) false 0 (.slice a2 k c2) (G : Int)⟩; clear hs1 hb1 hx1 hl1 hp1)
              | fail)
            go_ret2
            exact ⟨.slice none 0 0, by rw [HE.out.1]; rfl, by rw [HE.out.2]; exact ownNil _ _, HB1.out.1⟩
          · have HE : Hid (ftE l (st : Int) = 0 ∧ ftV l (st : Int) = sealL X Y EV st) := by
              have h : ftE l (st : Int) = 0 := by unfold ftE; rw [if_neg (by rw [hS]; simp), if_neg (by rw [hh]; simp), if_neg (by omega), if_neg (by omega), if_neg (by rw [hEV]; intro h; rw [h] at hn; simp at hn; omega)]
              exact ⟨h, by unfold ftV; rw [if_pos h, hoX', hoY', hEV]; rfl⟩
            have hg1 : ¬ (G : Int) < (m : Int) := by omega
            have hg2 : ((G : Int) != (m : Int)) = false := by simp; omega
            have hnn : ((n : Int) == 0) = false := by simp; omega
            have hnp : 0 < n := by omega
            clear hh hS hoX' hoY' hEV hG hn hF hN hk hok hN0 hGe hn0 hlm hNb hF0 hN00 hF64
            go_enter Tryd.func21, Tryd.ntmps21
            go_wp2_with (first
              | (go_at_call 45; refine (isStride_any _ w).mono ?_; rw [HS.out]; rintro e w0 ⟨rfl, rfl⟩)
              | (go_at_call 17; refine (scan14_any l m a cap w HB.out.2.1 HB.out.1 hcap (by omega) HB.out.2.2).mono ?_; rintro r w1 ⟨hs1, hb1⟩; obtain ⟨xs, a1, a2, c1, c2, rfl, hx1, hl1, hp1⟩ := HF.out _ _ _ hs1; have HB1 : Hid (Below w.heap.size w (w1.alloc (.cells (SgA (X : Int) (Y : Int) (n : Int) false 0 (.slice a2 k c2) (G : Int)) 38)) ∧ Below w1.heap.size w1 (w1.alloc (.cells (SgA (X : Int) (Y : Int) (n : Int) false 0 (.slice a2 k c2) (G : Int)) 38)) ∧ xs.map It.fm = EV ∧ xs.length = n ∧ PlcA (w1.alloc (.cells (SgA (X : Int) (Y : Int) (n : Int) false 0 (.slice a2 k c2) (G : Int)) 38)) a1 xs ∧ SegAt (w1.alloc (.cells (SgA (X : Int) (Y : Int) (n : Int) false 0 (.slice a2 k c2) (G : Int)) 38)) w1.heap.size (X : Int) (Y : Int) (n : Int) false 0 (.slice a2 k c2) (G : Int)) := ⟨hb1.alloc hb1.size _, (Below.refl _ _).alloc (Nat.le_refl _) _, hx1, hl1, hp1.keep ((Below.refl _ _).alloc (Nat.le_refl _) _), SegAt.new w1 (X : Int) (Y : Int) (n : Int) false 0 (.slice a2 k c2) (G : Int)⟩; clear hs1 hb1 hx1 hl1 hp1)
              | (go_at_call 46; refine (seal_any X Y EV xs st n a1 c1 _ HB1.out.2.2.1 HB1.out.2.2.2.1 hnp HB1.out.2.2.2.2.1 HEO.out.1 hY2 hX2 hst64 (HB.out.2.2.keep HB1.out.1)).mono ?_; rintro r w3 ⟨v3, rfl, ho3, hb3⟩; have HO3 : Hid (Own w3 w.heap.size v3 (sealL X Y EV st) ∧ Below w.heap.size w w3) := ⟨⟨ho3.1, World.ownsRow.mono (base' := w.heap.size) ho3.2 HB1.out.1.size⟩, below_next HB1.out.1 hb3⟩; clear ho3 hb3)
              | fail)
            go_ret2
            exact ⟨v3, by rw [HE.out.1]; rfl, by rw [HE.out.2]; exact HO3.out.1, HO3.out.2⟩
        · have HE : Hid (ftE l (st : Int) = 60 ∧ ftV l (st : Int) = []) := ft_bad l st 60 (by unfold ftE; rw [if_neg (by rw [hS]; simp), if_neg (by rw [hh]; simp), if_neg (by omega), if_pos (by omega)]) (by omega)
          have hg1 : (G : Int) < (m : Int) := by omega
          have hg2 : ((G : Int) != (m : Int)) = true := by simp; omega
          clear hh hS hoX' hoY' hEV hG hn hF hN hk hok hN0 hGe hlm hNb hF0 hN00 hF64
          go_enter Tryd.func21, Tryd.ntmps21
          go_wp2_with (first
            | (go_at_call 45; refine (isStride_any _ w).mono ?_; rw [HS.out]; rintro e w0 ⟨rfl, rfl⟩)
            | (go_at_call 17; refine (scan14_any l m a cap w HB.out.2.1 HB.out.1 hcap (by omega) HB.out.2.2).mono ?_; rintro r w1 ⟨hs1, hb1⟩; obtain ⟨xs, a1, a2, c1, c2, rfl, hx1, hl1, hp1⟩ := HF.out _ _ _ hs1; have HB1 : Hid (Below w.heap.size w (w1.alloc (.cells (SgA (X : Int) (Y : Int) (n : Int) false 0 (.slice a2 k c2) (G : Int)) 38)) ∧ Below w1.heap.size w1 (w1.alloc (.cells (SgA (X : Int) (Y : Int) (n : Int) false 0 (.slice a2 k c2) (G : Int)) 38)) ∧ xs.map It.fm = EV ∧ xs.length = n ∧ PlcA (w1.alloc (.cells (SgA (X : Int) (Y : Int) (n : Int) false 0 (.slice a2 k c2) (G : Int)) 38)) a1 xs ∧ SegAt (w1.alloc (.cells (SgA (X : Int) (Y : Int) (n : Int) false 0 (.slice a2 k c2) (G : Int)) 38)) w1.heap.size (X : Int) (Y : Int) (n : Int) false 0 (.slice a2 k c2) (G : Int)) := ⟨hb1.alloc hb1.size _, (Below.refl _ _).alloc (Nat.le_refl _) _, hx1, hl1, hp1.keep ((Below.refl _ _).alloc (Nat.le_refl _) _), SegAt.new w1 (X : Int) (Y : Int) (n : Int) false 0 (.slice a2 k c2) (G : Int)⟩; clear hs1 hb1 hx1 hl1 hp1)
            | fail)
          go_ret2
          exact ⟨.slice none 0 0, by rw [HE.out.1]; rfl, by rw [HE.out.2]; exact ownNil _ _, HB1.out.1⟩
      · have HE : Hid (ftE l (st : Int) = 72 ∧ ftV l (st : Int) = []) := ft_bad l st 72 (by unfold ftE; rw [if_neg (by rw [hS]; simp), if_neg (by rw [hh]; simp), if_pos (by omega)]) (by omega)
        have HF : Hid (_) := HFF.out true (decide_eq_true (by omega))
        clear hh hS hoX' hoY' hEV hG hn hF hN hk hok hN0 hF0 hlm
        go_enter Tryd.func21, Tryd.ntmps21
        go_wp2_with (first
          | (go_at_call 45; refine (isStride_any _ w).mono ?_; rw [HS.out]; rintro e w0 ⟨rfl, rfl⟩)
          | (go_at_call 17; refine (scan14_any l m a cap w HB.out.2.1 HB.out.1 hcap (by omega) HB.out.2.2).mono ?_; rintro r w1 ⟨hs1, hb1⟩; obtain ⟨xs, a1, a2, c1, c2, rfl, hx1, hl1, hp1⟩ := HF.out _ _ _ hs1; have HB1 : Hid (Below w.heap.size w (w1.alloc (.cells (SgA (X : Int) (Y : Int) (n : Int) true (F : Int) (.slice a2 k c2) ((G : Int) + (N : Int))) 38)) ∧ Below w1.heap.size w1 (w1.alloc (.cells (SgA (X : Int) (Y : Int) (n : Int) true (F : Int) (.slice a2 k c2) ((G : Int) + (N : Int))) 38)) ∧ xs.map It.fm = EV ∧ xs.length = n ∧ PlcA (w1.alloc (.cells (SgA (X : Int) (Y : Int) (n : Int) true (F : Int) (.slice a2 k c2) ((G : Int) + (N : Int))) 38)) a1 xs ∧ SegAt (w1.alloc (.cells (SgA (X : Int) (Y : Int) (n : Int) true (F : Int) (.slice a2 k c2) ((G : Int) + (N : Int))) 38)) w1.heap.size (X : Int) (Y : Int) (n : Int) true (F : Int) (.slice a2 k c2) ((G : Int) + (N : Int))) := ⟨hb1.alloc hb1.size _, (Below.refl _ _).alloc (Nat.le_refl _) _, hx1, hl1, hp1.keep ((Below.refl _ _).alloc (Nat.le_refl _) _), SegAt.new w1 (X : Int) (Y : Int) (n : Int) true (F : Int) (.slice a2 k c2) ((G : Int) + (N : Int))⟩; clear hs1 hb1 hx1 hl1 hp1)
          | fail)
        go_ret2
        exact ⟨.slice none 0 0, by rw [HE.out.1]; rfl, by rw [HE.out.2]; exact ownNil _ _, HB1.out.1⟩
  · have hS0 : stB stI = false := by simpa using hS
    have HE : Hid (ftE l stI = 1 ∧ ftV l stI = []) := by
      have h : ftE l stI = 1 := by unfold ftE; rw [if_pos hS0]
      exact ⟨h, by unfold ftV; rw [if_neg (by omega)]⟩
    have HS : Hid (stB stI = false) := hS0
    clear hS hS0
    go_enter Tryd.func21, Tryd.ntmps21
    go_wp2_with (first
      | (go_at_call 45; refine (isStride_any _ w).mono ?_; rw [HS.out]; rintro e w0 ⟨rfl, rfl⟩)
      | fail)
    go_ret2
    exact ⟨.slice none 0 0, by rw [HE.out.1]; rfl, by rw [HE.out.2]; exact ownNil _ _, Below.refl _ _⟩
end Go.Proofs.YtaegmeilhdbnnaaDoor
namespace Go.Proofs.YtaegmeilhdbnnaaDoor
open Go.ChangeShapes Go.WideShapes Go.ChangeAt Go.RowKit
set_option linter.unusedVariables false
set_option maxRecDepth 20000 in
set_option maxHeartbeats 4000000 in
theorem rfooter14_any (l : List Nat) (m : Nat) (a : Option Addr) (cap : Nat) (stI : Int) (w : World) (hm : l.length = m) (hb : Bytes w a l) (hcap : m ≤ cap) (hl : m ≤ 16777216) :
    Calls Tryd.prog 20 #[.slice a m cap, .int .i64 stI] w fun e w' => ∃ v, e = .returned (.tuple #[v, .int .i64 (ftE l stI : Nat)]) ∧ Own w' w.heap.size v (ftV l stI) ∧ Below w.heap.size w w' := by
  have HB : Hid (Bytes w a l ∧ l.length = m ∧ True) := ⟨hb, hm, trivial⟩
  have hmem := hb.mem
  clear hb hm
  by_cases hS : stB stI = true
  · have HS : Hid (stB stI = true) := hS
    obtain ⟨st, rfl⟩ : ∃ st : Nat, stI = (st : Int) := ⟨stI.toNat, by have h := of_decide_eq_true hS; omega⟩
    have hst := of_decide_eq_true hS
    have hst1 : 1 ≤ st := by omega
    have hst64 : st ≤ 64 := by omega
    have hstI : (st : Int) ≤ 64 := by omega
    have hst1I : (1 : Int) ≤ (st : Int) := by omega
    clear hst
    cases hh : hdr l with
    | none =>
      have HE : Hid (ftE l (st : Int) = 71 ∧ ftV l (st : Int) = []) := ft_bad l st 71 (by unfold ftE; rw [if_neg (by rw [hS]; simp), if_pos (by rw [hh])]) (by omega)
      have HF : Hid (∀ base e w', ScanP l base e w' → e = .returned (.tuple #[SgV 0 0 0 false 0 (.slice none 0 0) 0, .slice none 0 0, .int .i64 71])) := by
        rintro base e w' (⟨_, h⟩ | ⟨h, _⟩)
        · exact h
        · rw [hh] at h; cases h
      clear hh hS
      go_enter Tryd.func20, Tryd.ntmps20
      go_wp2_with (first
        | (go_at_call 16; refine (rscan14_any l m a cap w HB.out.2.1 HB.out.1 hcap (by omega)).mono ?_; rintro r w1 ⟨hs1, hb1⟩; obtain rfl := HF.out _ _ _ hs1; have HB1 : Hid (Below w.heap.size w (w1.alloc (.cells (SgA 0 0 0 false 0 (.slice none 0 0) 0) 38))) := hb1.alloc hb1.size _; clear hs1 hb1)
        | fail)
      go_ret2
      exact ⟨.slice none 0 0, by rw [HE.out.1]; rfl, by rw [HE.out.2]; exact ownNil _ _, HB1.out⟩
    | some q =>
      obtain ⟨X, Y⟩ := q
      obtain ⟨_, _, _, hX1, hX2, hY1, hY2, _, hpn⟩ := hdr_some l hmem X Y hh
      have hoX' : hoX l = X := by unfold hoX; rw [hh]; rfl
      have hoY' : hoY l = Y := by unfold hoY; rw [hh]; rfl
      obtain ⟨EV, hEV⟩ : ∃ E, sgE l = E := ⟨_, rfl⟩
      obtain ⟨G, hG⟩ : ∃ G, sgG l = G := ⟨_, rfl⟩
      obtain ⟨n, hn⟩ : ∃ n, EV.length = n := ⟨_, rfl⟩
      obtain ⟨F, hF⟩ : ∃ F, sgF l = F := ⟨_, rfl⟩
      obtain ⟨N, hN⟩ : ∃ N, sgN l = N := ⟨_, rfl⟩
      obtain ⟨k, hk⟩ : ∃ k, (sgM l).length = k := ⟨_, rfl⟩
      have hok : EvOk Y EV := by rw [← hEV]; unfold sgE; rw [hoY']; exact (runL_ok l (pn l + 20) Y hY1 hpn (by rw [HB.out.2.1]; exact hl)).1
      have hGm : G ≤ m := by rw [← hG, ← HB.out.2.1]; unfold sgG sgE; exact (runEnd l (pn l + 20) (hoY l) hpn).2
      have hn5 : n ≤ 512 := by rw [← hn]; exact hok.len
      have hN0 : F = 0 → N = 0 := fun h => by rw [← hN]; unfold sgN ftN; rw [if_pos]; rw [← h, ← hF]; rfl
      have hNb : N ≤ 16404 := by
        rw [← hN]
        unfold sgN ftN
        split
        · omega
        · rename_i hc
          have h00 := ftS_pos (l.drop (sgG l)) (hoX l) (hoY l) (sgE l) (by omega)
          have := (decB_facts (fun z hz => hmem z (List.mem_of_mem_drop hz)) h00).2
          omega
      have hF64 : F ≤ 64 := by rw [← hF]; exact ftS_le _ _ _ _
      have HFF : Hid (∀ (b : Bool), decide (0 < F) = b → ∀ base e w', ScanP l base e w' → ∃ (xs : List It) (a1 a2 : Option Addr) (c1 c2 : Nat), e = .returned (.tuple #[SgV (X : Int) (Y : Int) (n : Int) b (F : Int) (.slice a2 k c2) ((G : Int) + (N : Int)), .slice a1 n c1, .int .i64 0]) ∧ xs.map It.fm = EV ∧ xs.length = n ∧ PlcA w' a1 xs) := by
        rintro b hb base e w' (⟨h, _⟩ | ⟨_, xs, v, mv, h1, h2, h3, h4⟩)
        · rw [hh] at h; cases h
        · obtain ⟨a1, c1, hv, hp⟩ := h3.plc
          obtain ⟨a2, c2, hv2, _⟩ := h4.shape
          have hx : xs.length = n := by rw [← hn, ← hEV, ← h1, List.length_map]
          rw [hx] at hv
          rw [hk] at hv2
          subst hv hv2
          refine ⟨xs, a1, a2, c1, c2, ?_, by rw [h1, hEV], hx, hp⟩
          rw [h2, hEV, hn, hoX', hoY', hF, hG, hN, hb]
      have HEO : Hid (EvOk Y EV ∧ EV.length = n ∧ (EV.map evP).length = n) := ⟨hok, hn, by rw [List.length_map]; exact hn⟩
      have hXI : (X : Int) ≤ 999999 := by omega
      have hYI : (Y : Int) ≤ 1099511627777 := by omega
      have hGI : (G : Int) ≤ 16777216 := by omega
      have hn5I : (n : Int) ≤ 512 := by omega
      have hlm := HB.out.2.1
      by_cases hF0 : F = 0
      · have hN00 := hN0 hF0
        have HF : Hid (∀ base e w', ScanP l base e w' → ∃ (xs : List It) (a1 a2 : Option Addr) (c1 c2 : Nat), e = .returned (.tuple #[SgV (X : Int) (Y : Int) (n : Int) false 0 (.slice a2 k c2) (G : Int), .slice a1 n c1, .int .i64 0]) ∧ xs.map It.fm = EV ∧ xs.length = n ∧ PlcA w' a1 xs) := fun base e w' h => by
          have h2 := HFF.out false (decide_eq_false (by omega)) base e w' h
          rw [hF0, hN00] at h2
          simp only [Int.add_zero, Int.natCast_zero] at h2
          exact h2
        by_cases hGe : G = m
        · by_cases hn0 : n = 0
          · have HE : Hid (ftE l (st : Int) = 93 ∧ ftV l (st : Int) = []) := ft_bad l st 93 (by unfold ftE; rw [if_neg (by rw [hS]; simp), if_neg (by rw [hh]; simp), if_neg (by omega), if_neg (by omega), if_pos (by rw [hEV]; exact List.length_eq_zero_iff.1 (by omega))]) (by omega)
            have hg1 : ¬ (G : Int) < (m : Int) := by omega
            have hg2 : ((G : Int) != (m : Int)) = false := by simp; omega
            have hnn : ((n : Int) == 0) = true := by simp; omega
            clear hh hS hoX' hoY' hEV hG hn hF hN hk hok hN0 hGe hn0 hlm hNb hF0 hN00 hF64
            go_enter Tryd.func20, Tryd.ntmps20
            go_wp2_with (first
              | (go_at_call 16; refine (rscan14_any l m a cap w HB.out.2.1 HB.out.1 hcap (by omega)).mono ?_; rintro r w1 ⟨hs1, hb1⟩; obtain ⟨xs, a1, a2, c1, c2, rfl, hx1, hl1, hp1⟩ := HF.out _ _ _ hs1; have HB1 : Hid (Below w.heap.size w (w1.alloc (.cells (SgA (X : Int) (Y : Int) (n : Int) false 0 (.slice a2 k c2) (G : Int)) 38)) ∧ Below w1.heap.size w1 (w1.alloc (.cells (SgA (X : Int) (Y : Int) (n : Int) false 0 (.slice a2 k c2) (G : Int)) 38)) ∧ xs.map It.fm = EV ∧ xs.length = n ∧ PlcA (w1.alloc (.cells (SgA (X : Int) (Y : Int) (n : Int) false 0 (.slice a2 k c2) (G : Int)) 38)) a1 xs ∧ SegAt (w1.alloc (.cells (SgA (X : Int) (Y : Int) (n : Int) false 0 (.slice a2 k c2) (G : Int)) 38)) w1.heap.size (X : Int) (Y : Int) (n : Int) false 0 (.slice a2 k c2) (G : Int)) := ⟨hb1.alloc hb1.size _, (Below.refl _ _).alloc (Nat.le_refl _) _, hx1, hl1, hp1.keep ((Below.refl _ _).alloc (Nat.le_refl _) _), SegAt.new w1 (X : Int) (Y : Int) (n : Int) false 0 (.slice a2 k c2) (G : Int)⟩; clear hs1 hb1 hx1 hl1 hp1)
              | fail)
            go_ret2
            exact ⟨.slice none 0 0, by rw [HE.out.1]; rfl, by rw [HE.out.2]; exact ownNil _ _, HB1.out.1⟩
          · have HE : Hid (ftE l (st : Int) = 0 ∧ ftV l (st : Int) = sealL X Y EV st) := by
              have h : ftE l (st : Int) = 0 := by unfold ftE; rw [if_neg (by rw [hS]; simp), if_neg (by rw [hh]; simp), if_neg (by omega), if_neg (by omega), if_neg (by rw [hEV]; intro h; rw [h] at hn; simp at hn; omega)]
              exact ⟨h, by unfold ftV; rw [if_pos h, hoX', hoY', hEV]; rfl⟩
            have hg1 : ¬ (G : Int) < (m : Int) := by omega
            have hg2 : ((G : Int) != (m : Int)) = false := by simp; omega
            have hnn : ((n : Int) == 0) = false := by simp; omega
            have hnp : 0 < n := by omega
            clear hh hS hoX' hoY' hEV hG hn hF hN hk hok hN0 hGe hn0 hlm hNb hF0 hN00 hF64
            go_enter Tryd.func20, Tryd.ntmps20
            go_wp2_with (first
              | (go_at_call 16; refine (rscan14_any l m a cap w HB.out.2.1 HB.out.1 hcap (by omega)).mono ?_; rintro r w1 ⟨hs1, hb1⟩; obtain ⟨xs, a1, a2, c1, c2, rfl, hx1, hl1, hp1⟩ := HF.out _ _ _ hs1; have HB1 : Hid (Below w.heap.size w (w1.alloc (.cells (SgA (X : Int) (Y : Int) (n : Int) false 0 (.slice a2 k c2) (G : Int)) 38)) ∧ Below w1.heap.size w1 (w1.alloc (.cells (SgA (X : Int) (Y : Int) (n : Int) false 0 (.slice a2 k c2) (G : Int)) 38)) ∧ xs.map It.fm = EV ∧ xs.length = n ∧ PlcA (w1.alloc (.cells (SgA (X : Int) (Y : Int) (n : Int) false 0 (.slice a2 k c2) (G : Int)) 38)) a1 xs ∧ SegAt (w1.alloc (.cells (SgA (X : Int) (Y : Int) (n : Int) false 0 (.slice a2 k c2) (G : Int)) 38)) w1.heap.size (X : Int) (Y : Int) (n : Int) false 0 (.slice a2 k c2) (G : Int)) := ⟨hb1.alloc hb1.size _, (Below.refl _ _).alloc (Nat.le_refl _) _, hx1, hl1, hp1.keep ((Below.refl _ _).alloc (Nat.le_refl _) _), SegAt.new w1 (X : Int) (Y : Int) (n : Int) false 0 (.slice a2 k c2) (G : Int)⟩; clear hs1 hb1 hx1 hl1 hp1)
              | fail)
            obtain ⟨M, hM⟩ : ∃ M, bldL (st : Int) (EV.map evP) = M := ⟨_, rfl⟩
            obtain ⟨ml, hml⟩ : ∃ k, M.length = k := ⟨_, rfl⟩
            obtain ⟨fl, hfl⟩ : ∃ k, (footB Y EV st).length = k := ⟨_, rfl⟩
            have hff := foot_facts Y EV st HEO.out.1 hY2 hst64
            have hfb : footB Y EV st = nencs [Y, n, st] ++ mEnc M := by unfold footB; rw [hM, HEO.out.2.1]
            have hflb : fl ≤ 10280 := by rw [← hfl]; exact hff.2.1
            have hfl0 : footB Y EV st ≠ [] := fun h => by
              have h2 := congrArg List.length hfb
              rw [h, List.length_append] at h2
              have := (nencs_len [Y, n, st] (fun z hz => by simp at hz; omega)).2
              simp at h2 this
              omega
            have HMS : Hid (bldL (st : Int) (EV.map evP) = M ∧ M.length = ml ∧ validB M = true ∧ footB Y EV st = nencs [Y, n, st] ++ mEnc M ∧ (footB Y EV st).length = fl ∧ footB Y EV st ≠ []) := ⟨hM, hml, by rw [← hM]; exact HEO.out.1.marks _, hfb, hfl, hfl0⟩
            have HEN : Hid (encE (3 : Int) (X : Int) fl = 0 ∧ encL (3 : Int) (X : Int) (footB Y EV st) = sealL X Y EV st) := by
              have h := enc_frame 3 X fl (by omega) (by omega) (by omega) (by omega)
              refine ⟨h, ?_⟩
              unfold encL
              rw [hfl]
              rw [show encE (3 : Int) (X : Int) fl = 0 from h, if_pos rfl]
              rfl
            clear hM hml hfl hff hfb hfl0
            obtain ⟨W2, hW2⟩ : ∃ W2, w1.alloc (.cells (SgA (X : Int) (Y : Int) (n : Int) false 0 (.slice a2 k c2) (G : Int)) 38) = W2 := ⟨_, rfl⟩
            rw [hW2] at HB1 ⊢
            clear hW2
            have k0 : W2.cell? ⟨w1.heap.size, 0, none⟩ = some (.int .i64 (X : Int)) := (HB1.out.2.2.2.2.2.at 0).1
            have k1 : W2.cell? ⟨w1.heap.size, 1, none⟩ = some (.int .i64 (Y : Int)) := (HB1.out.2.2.2.2.2.at 1).1
            have k2 : W2.cell? ⟨w1.heap.size, 2, none⟩ = some (.int .i64 (n : Int)) := (HB1.out.2.2.2.2.2.at 2).1
            go_region_held3 (fun w' => w'.cell? ⟨w1.heap.size, 0, none⟩ = some (.int .i64 (X : Int)) ∧ w'.cell? ⟨w1.heap.size, 1, none⟩ = some (.int .i64 (Y : Int)) ∧ w'.cell? ⟨w1.heap.size, 2, none⟩ = some (.int .i64 (n : Int))) (go_keep) (first
              | (go_at_call 39; refine (rbuild_any (EV.map evP) (pflt xs) n a1 c1 (st : Int) _ HEO.out.2.2 (by have h := plAt_of (HB1.out.2.2.2.2.1.keep (below_drewN (Below.refl _ _) 1)); rw [HB1.out.2.2.1] at h; exact h) (by omega) (by omega) (by omega)).mono ?_; rw [HMS.out.1]; rintro r w6 ⟨v6, rfl, ho6, hb6⟩; obtain ⟨a6, c6, hv6, _, _, hy6, _⟩ := ho6.shape; rw [HMS.out.2.1] at hv6; subst hv6; have HB6 : Hid (Below W2.heap.size W2 w6 ∧ Marks w6 a6 M) := ⟨(below_drewN (Below.refl _ _) _).trans hb6, hy6⟩; have HS6 : Hid (SegAt w6 w1.heap.size (X : Int) (Y : Int) (n : Int) false 0 (.slice a2 k c2) (G : Int)) := HB1.out.2.2.2.2.2.keep HB6.out.1; have q0 : w6.cell? ⟨w1.heap.size, 0, none⟩ = some (.int .i64 (X : Int)) := (HS6.out.at 0).1; have q1 : w6.cell? ⟨w1.heap.size, 1, none⟩ = some (.int .i64 (Y : Int)) := (HS6.out.at 1).1; have q2 : w6.cell? ⟨w1.heap.size, 2, none⟩ = some (.int .i64 (n : Int)) := (HS6.out.at 2).1; clear ho6 hb6 hy6)
              | (go_at_call 40; refine (rfoot_any Y n st M ml a6 c6 w6 HMS.out.2.1 HB6.out.2 HMS.out.2.2.1 hY2 hn5 hst64).mono ?_; rw [← HMS.out.2.2.2.1]; rintro r w7 ⟨v7, rfl, ho7, hb7⟩; obtain ⟨g7, c7, hv7, _, hy7⟩ := ho7.row HMS.out.2.2.2.2.2; rw [HMS.out.2.2.2.2.1] at hv7; subst hv7; have HB7 : Hid (Below W2.heap.size W2 w7 ∧ Bytes w7 (some ⟨g7, 0, none⟩) (footB Y EV st)) := ⟨below_next HB6.out.1 hb7, hy7⟩; have HS7 : Hid (SegAt w7 w1.heap.size (X : Int) (Y : Int) (n : Int) false 0 (.slice a2 k c2) (G : Int)) := HB1.out.2.2.2.2.2.keep HB7.out.1; have s0 : w7.cell? ⟨w1.heap.size, 0, none⟩ = some (.int .i64 (X : Int)) := (HS7.out.at 0).1; have s1 : w7.cell? ⟨w1.heap.size, 1, none⟩ = some (.int .i64 (Y : Int)) := (HS7.out.at 1).1; have s2 : w7.cell? ⟨w1.heap.size, 2, none⟩ = some (.int .i64 (n : Int)) := (HS7.out.at 2).1; clear ho7 hb7 hy7)
              | (go_at_call 29; refine (rfenc_any 3 X (footB Y EV st) fl (some ⟨g7, 0, none⟩) c7 w7 HMS.out.2.2.2.2.1 HB7.out.2 (fun h => by cases h) (by omega)).mono ?_; rw [HEN.out.1, HEN.out.2]; rintro r w8 ⟨v8, rfl, ho8, hb8⟩; have HB8 : Hid (Below W2.heap.size W2 w8 ∧ Own w8 w.heap.size v8 (sealL X Y EV st)) := ⟨below_next HB7.out.1 hb8, ⟨ho8.1, World.ownsRow.mono (base' := w.heap.size) ho8.2 (Nat.le_trans HB1.out.1.size HB7.out.1.size)⟩⟩; have HS8 : Hid (SegAt w8 w1.heap.size (X : Int) (Y : Int) (n : Int) false 0 (.slice a2 k c2) (G : Int)) := HB1.out.2.2.2.2.2.keep HB8.out.1; have t0 : w8.cell? ⟨w1.heap.size, 0, none⟩ = some (.int .i64 (X : Int)) := (HS8.out.at 0).1; have t1 : w8.cell? ⟨w1.heap.size, 1, none⟩ = some (.int .i64 (Y : Int)) := (HS8.out.at 1).1; have t2 : w8.cell? ⟨w1.heap.size, 2, none⟩ = some (.int .i64 (n : Int)) := (HS8.out.at 2).1; clear ho8 hb8)
              | fail)
            all_goals (
              go_wp2
              go_ret2
              exact ⟨v8, by rw [HE.out.1]; rfl, by rw [HE.out.2]; exact HB8.out.2, below_next HB1.out.1 HB8.out.1⟩)
        · have HE : Hid (ftE l (st : Int) = 60 ∧ ftV l (st : Int) = []) := ft_bad l st 60 (by unfold ftE; rw [if_neg (by rw [hS]; simp), if_neg (by rw [hh]; simp), if_neg (by omega), if_pos (by omega)]) (by omega)
          have hg1 : (G : Int) < (m : Int) := by omega
          have hg2 : ((G : Int) != (m : Int)) = true := by simp; omega
          clear hh hS hoX' hoY' hEV hG hn hF hN hk hok hN0 hGe hlm hNb hF0 hN00 hF64
          go_enter Tryd.func20, Tryd.ntmps20
          go_wp2_with (first
            | (go_at_call 16; refine (rscan14_any l m a cap w HB.out.2.1 HB.out.1 hcap (by omega)).mono ?_; rintro r w1 ⟨hs1, hb1⟩; obtain ⟨xs, a1, a2, c1, c2, rfl, hx1, hl1, hp1⟩ := HF.out _ _ _ hs1; have HB1 : Hid (Below w.heap.size w (w1.alloc (.cells (SgA (X : Int) (Y : Int) (n : Int) false 0 (.slice a2 k c2) (G : Int)) 38)) ∧ Below w1.heap.size w1 (w1.alloc (.cells (SgA (X : Int) (Y : Int) (n : Int) false 0 (.slice a2 k c2) (G : Int)) 38)) ∧ xs.map It.fm = EV ∧ xs.length = n ∧ PlcA (w1.alloc (.cells (SgA (X : Int) (Y : Int) (n : Int) false 0 (.slice a2 k c2) (G : Int)) 38)) a1 xs ∧ SegAt (w1.alloc (.cells (SgA (X : Int) (Y : Int) (n : Int) false 0 (.slice a2 k c2) (G : Int)) 38)) w1.heap.size (X : Int) (Y : Int) (n : Int) false 0 (.slice a2 k c2) (G : Int)) := ⟨hb1.alloc hb1.size _, (Below.refl _ _).alloc (Nat.le_refl _) _, hx1, hl1, hp1.keep ((Below.refl _ _).alloc (Nat.le_refl _) _), SegAt.new w1 (X : Int) (Y : Int) (n : Int) false 0 (.slice a2 k c2) (G : Int)⟩; clear hs1 hb1 hx1 hl1 hp1)
            | fail)
          go_ret2
          exact ⟨.slice none 0 0, by rw [HE.out.1]; rfl, by rw [HE.out.2]; exact ownNil _ _, HB1.out.1⟩
      · have HE : Hid (ftE l (st : Int) = 72 ∧ ftV l (st : Int) = []) := ft_bad l st 72 (by unfold ftE; rw [if_neg (by rw [hS]; simp), if_neg (by rw [hh]; simp), if_pos (by omega)]) (by omega)
        have HF : Hid (_) := HFF.out true (decide_eq_true (by omega))
        clear hh hS hoX' hoY' hEV hG hn hF hN hk hok hN0 hF0 hlm
        go_enter Tryd.func20, Tryd.ntmps20
        go_wp2_with (first
          | (go_at_call 16; refine (rscan14_any l m a cap w HB.out.2.1 HB.out.1 hcap (by omega)).mono ?_; rintro r w1 ⟨hs1, hb1⟩; obtain ⟨xs, a1, a2, c1, c2, rfl, hx1, hl1, hp1⟩ := HF.out _ _ _ hs1; have HB1 : Hid (Below w.heap.size w (w1.alloc (.cells (SgA (X : Int) (Y : Int) (n : Int) true (F : Int) (.slice a2 k c2) ((G : Int) + (N : Int))) 38)) ∧ Below w1.heap.size w1 (w1.alloc (.cells (SgA (X : Int) (Y : Int) (n : Int) true (F : Int) (.slice a2 k c2) ((G : Int) + (N : Int))) 38)) ∧ xs.map It.fm = EV ∧ xs.length = n ∧ PlcA (w1.alloc (.cells (SgA (X : Int) (Y : Int) (n : Int) true (F : Int) (.slice a2 k c2) ((G : Int) + (N : Int))) 38)) a1 xs ∧ SegAt (w1.alloc (.cells (SgA (X : Int) (Y : Int) (n : Int) true (F : Int) (.slice a2 k c2) ((G : Int) + (N : Int))) 38)) w1.heap.size (X : Int) (Y : Int) (n : Int) true (F : Int) (.slice a2 k c2) ((G : Int) + (N : Int))) := ⟨hb1.alloc hb1.size _, (Below.refl _ _).alloc (Nat.le_refl _) _, hx1, hl1, hp1.keep ((Below.refl _ _).alloc (Nat.le_refl _) _), SegAt.new w1 (X : Int) (Y : Int) (n : Int) true (F : Int) (.slice a2 k c2) ((G : Int) + (N : Int))⟩; clear hs1 hb1 hx1 hl1 hp1)
          | fail)
        go_ret2
        exact ⟨.slice none 0 0, by rw [HE.out.1]; rfl, by rw [HE.out.2]; exact ownNil _ _, HB1.out.1⟩
  · have hS0 : stB stI = false := by simpa using hS
    have HE : Hid (ftE l stI = 1 ∧ ftV l stI = []) := by
      have h : ftE l stI = 1 := by unfold ftE; rw [if_pos hS0]
      exact ⟨h, by unfold ftV; rw [if_neg (by omega)]⟩
    have HS : Hid (stB stI = false) := hS0
    have hnot : ¬ (1 ≤ stI ∧ stI ≤ 64) := of_decide_eq_false hS0
    clear hS hS0
    by_cases q1 : stI < 1
    · clear hnot
      go_enter Tryd.func20, Tryd.ntmps20
      go_wp2
      go_ret2
      exact ⟨.slice none 0 0, by rw [HE.out.1]; rfl, by rw [HE.out.2]; exact ownNil _ _, Below.refl _ _⟩
    · have q2 : 64 < stI := by omega
      clear hnot
      go_enter Tryd.func20, Tryd.ntmps20
      go_wp2
      go_ret2
      exact ⟨.slice none 0 0, by rw [HE.out.1]; rfl, by rw [HE.out.2]; exact ownNil _ _, Below.refl _ _⟩
end Go.Proofs.YtaegmeilhdbnnaaDoor
namespace Go.Proofs.YtaegmeilhdbnnaaDoor
open Go.ChangeShapes Go.WideShapes Go.ChangeAt Go.RowKit
/-- all blocks of w but ga and gc are in wr as they were -/
structure Kept (ga gc : Nat) (w wr : World) : Prop where
  os : wr.os = w.os
  tape : wr.tape = w.tape
  output : wr.output = w.output
  size : w.heap.size ≤ wr.heap.size
  block : ∀ k, k < w.heap.size → k ≠ ga → k ≠ gc → wr.heap[k]? = w.heap[k]?
theorem Kept.refl (ga gc : Nat) (w : World) : Kept ga gc w w := ⟨rfl, rfl, rfl, Nat.le_refl _, fun _ _ _ _ => rfl⟩
theorem Kept.grown {ga gc : Nat} {w wr w' : World} {row : Option Nat} (h : Kept ga gc w wr) (hg : wr.grownBy w' row) (hr : ∀ k, row = some k → k = ga ∨ k = gc ∨ w.heap.size ≤ k) : Kept ga gc w w' := by
  refine ⟨hg.os.trans h.os, hg.tape.trans h.tape, hg.output.trans h.output, Nat.le_trans h.size hg.size, fun k hk h1 h2 => ?_⟩
  rw [hg.block k (Nat.lt_of_lt_of_le hk h.size) (fun hh => ?_), h.block k hk h1 h2]
  rcases hr k hh.symm with h3 | h3 | h3
  · exact h1 h3
  · exact h2 h3
  · omega
theorem Kept.alloc {ga gc : Nat} {w wr : World} (h : Kept ga gc w wr) (o : Obj) : Kept ga gc w (wr.alloc o) :=
  h.grown (World.grownBy_alloc wr o none) (fun _ hk => by cases hk)
theorem Kept.bytes {ga gc : Nat} {w wr : World} {b off : Nat} {l : List Nat} (h : Kept ga gc w wr) (hb : Bytes w (some ⟨b, off, none⟩) l) (h1 : b ≠ ga) (h2 : b ≠ gc) : Bytes wr (some ⟨b, off, none⟩) l := by
  refine ⟨hb.1, ?_⟩
  rcases hb.2 with hb | ⟨b', off', hx, hlt, hc⟩
  · exact .inl hb
  · cases hx
    exact .inr ⟨b, off, rfl, Nat.lt_of_lt_of_le hlt h.size, fun i hi => (World.cell?_of_block (w := w) (a := ⟨b, off + i, none⟩) (h.block b hlt h1 h2)).trans (hc i hi)⟩
theorem Kept.nums {ga gc : Nat} {w wr : World} {a : Option Addr} {l : List Nat} (h : Kept ga gc w wr) (hb : Nums w a l) (hne : ∀ b off, a = some ⟨b, off, none⟩ → b < w.heap.size → l ≠ [] → b ≠ ga ∧ b ≠ gc) : Nums wr a l := by
  refine ⟨hb.1, ?_⟩
  rcases hb.2 with hb | ⟨b, off, rfl, hlt, hc⟩
  · exact .inl hb
  · by_cases hl : l = []
    · exact .inl hl
    · obtain ⟨h1, h2⟩ := hne b off rfl hlt hl
      exact .inr ⟨b, off, rfl, Nat.lt_of_lt_of_le hlt h.size, fun i hi => (World.cell?_of_block (w := w) (a := ⟨b, off + i, none⟩) (h.block b hlt h1 h2)).trans (hc i hi)⟩
theorem Kept.below {ga gc : Nat} {W w wr : World} (h : Kept ga gc w wr) (hb : Below W.heap.size W w) (h1 : W.heap.size ≤ ga) (h2 : W.heap.size ≤ gc) : Below W.heap.size W wr :=
  ⟨h.os.trans hb.os, h.tape.trans hb.tape, h.output.trans hb.output, Nat.le_trans hb.size h.size, fun k hk => (h.block k (Nat.lt_of_lt_of_le hk hb.size) (by omega) (by omega)).trans (hb.block k hk)⟩
/-- append to a row of the call's own: it stays where it is, or goes to new memory -/
theorem wpList_append_two {P : Program} (w : World) {ops : Array Oper} {rest : List Oper} {o : Oper} {a : Act} {Q : Exit → Act → World → Prop}
    (hg : o.guard = none) (s x : Operand) (t : TypeId) (hop : o.op = Op.call { callee := Callee.builtin Builtin.append, args := #[s, x], argTypes := #[t, t] })
    (base : Nat) (e : TypeId) (i : TypeInfo) (z : Value) (bytes : Nat) (h1 : P.underlying t = some (.slice e)) (h2 : P.info? e = some i) (h3 : i.zero = some z) (h4 : i.size = 1) (h5 : i.bytes = bytes) (h6 : z.cells.size = 1)
    (g n cap : Nat) (xs : List Value) (hs : a.eval s = .slice (some ⟨g, 0, none⟩) n cap) (hown : w.ownsRow base e 1 (.slice (some ⟨g, 0, none⟩) n cap) n xs) (ad : Addr) (m c : Nat) (news : List Value) (hx : a.eval x = .slice (some ad) m c) (hn : news.length = m * 1)
    (hc : ∀ j u, news[j]? = some u → w.cell? (ad.add j) = some u) (h1c : ∀ u ∈ news, u.oneCell' = true) (hm : 0 < m) (b1 : n + m ≤ maxLen) (b2 : (n + m) * bytes ≤ 140737488355328) (hbase : base ≤ w.heap.size)
    (hK : ∀ g' cap' w', (g' = g ∨ w.heap.size ≤ g') → g' < w'.heap.size → w'.ownsRow base e 1 (.slice (some ⟨g', 0, none⟩) (n + m) cap') (n + m) (xs ++ news) → w.grownBy w' (some g) → wpList P ops Q rest (a.put o.dst (.slice (some ⟨g', 0, none⟩) (n + m) cap')) w') :
    wpList P ops Q (o :: rest) a w := by
  have hlt : ∀ {w' : World} {g' cap' b' : Nat} {ys : List Value}, w'.ownsRow b' e 1 (.slice (some ⟨g', 0, none⟩) (n + m) cap') (n + m) ys → g' < w'.heap.size := by
    intro w' g' cap' b' ys ho
    rcases ho.2 with ⟨h, _⟩ | ⟨g2, cap2, cur, h, _, hh, _⟩
    · cases h
    · cases h
      by_cases hh2 : g' < w'.heap.size
      · exact hh2
      · rw [Array.getElem?_eq_none (by omega)] at hh; cases hh
  by_cases hroom : n + m ≤ cap
  · exact wpList_append_fits w hg s x t hop base e i 1 h1 h2 h4 g n cap xs hs hown ad m c news hx hn hc h1c hroom (fun w' ho hgr => hK g cap w' (.inl rfl) (hlt ho) ho hgr)
  · refine wpList_append_grows w hg s x t hop e i z 1 bytes h1 h2 h3 h4 h5 h6 (by decide) (some ⟨g, 0, none⟩) n cap xs hs (fun h => by cases h) hown.1 (fun b hb j u hj => ?_) ad m c news hx hn hc h1c (by omega) b1 b2 (fun v' w' ho hgr => ?_)
    · cases hb
      exact hown.cells (g := g) rfl j u hj
    · rcases ho.2 with ⟨hv, hz⟩ | ⟨g', cap', cur, hv, hbg, hh, hr1, hr2, hr3, hr4⟩
      · omega
      · subst hv
        have ho2 : w'.ownsRow base e 1 (.slice (some ⟨g', 0, none⟩) (n + m) cap') (n + m) (xs ++ news) := ⟨ho.1, .inr ⟨g', cap', cur, rfl, Nat.le_trans hbase hbg, hh, hr1, hr2, hr3, hr4⟩⟩
        exact hK g' cap' w' (.inr hbg) (hlt ho) ho2 ⟨hgr.os, hgr.tape, hgr.output, hgr.size, fun k hk _ => hgr.block k hk (by simp)⟩
end Go.Proofs.YtaegmeilhdbnnaaDoor
namespace Go.Proofs.YtaegmeilhdbnnaaDoor
open Go.ChangeShapes Go.WideShapes Go.ChangeAt Go.RowKit
theorem two_pow_mul_xor (n a b : Nat) : 2 ^ n * (a ^^^ b) = 2 ^ n * a ^^^ 2 ^ n * b := by
  apply Nat.eq_of_testBit_eq
  intro i
  rw [Nat.testBit_xor, Nat.testBit_two_pow_mul, Nat.testBit_two_pow_mul, Nat.testBit_two_pow_mul, Nat.testBit_xor]
  cases (decide (i ≥ n)) <;> simp
theorem val_set (l : List Nat) (k j : Nat) (h : k < l.length) (hj : j < 8) (hl : ∀ x ∈ l, x < 256) : Crcm.val (l.set k (l.getD k 0 ^^^ 2 ^ j)) = Crcm.val l ^^^ 2 ^ (8 * k + j) := by
  induction l generalizing k with
  | nil => simp at h
  | cons c r ih =>
    have hc : c < 2 ^ 8 := hl c (by simp)
    have hr : ∀ x ∈ r, x < 256 := fun x hx => hl x (by simp [hx])
    cases k with
    | zero =>
      have hp : (2 : Nat) ^ j < 2 ^ 8 := Nat.pow_lt_pow_right (by omega) hj
      show (c ^^^ 2 ^ j) + 2 ^ 8 * Crcm.val r = (c + 2 ^ 8 * Crcm.val r) ^^^ 2 ^ (8 * 0 + j)
      rw [Crcm.add_eq_xor 8 _ _ (Nat.xor_lt_two_pow hc hp), Crcm.add_eq_xor 8 _ _ hc, Nat.mul_zero, Nat.zero_add, Nat.xor_assoc, Nat.xor_assoc, Nat.xor_comm (2 ^ j)]
    | succ k =>
      have ih' := ih k (by simpa using h) hr
      show c + 2 ^ 8 * Crcm.val (r.set k (r.getD k 0 ^^^ 2 ^ j)) = (c + 2 ^ 8 * Crcm.val r) ^^^ 2 ^ (8 * (k + 1) + j)
      rw [ih', Crcm.add_eq_xor 8 _ _ hc, Crcm.add_eq_xor 8 _ _ hc, Nat.xor_assoc]
      rw [show 8 * (k + 1) + j = 8 + (8 * k + j) from by omega, Nat.pow_add 2 8 (8 * k + j), two_pow_mul_xor]
theorem B8_set (t : List Nat) (k v : Nat) : B8 (t.set k v) = (B8 t).set k (.int .u8 (v : Nat)) := by simp [B8, List.map_set]
theorem pow_lt_256 (j : Nat) (h : j < 8) : 2 ^ j < 256 := Nat.pow_lt_pow_right (n := 8) (by omega) h
theorem mod_step (P i : Nat) : P % 2 ^ (i + 1) = (P % 2 ^ i) ^^^ 2 ^ i * (P / 2 ^ i % 2) := by
  have h : P % 2 ^ (i + 1) = P % 2 ^ i + 2 ^ i * (P / 2 ^ i % 2) := by rw [Nat.pow_succ, Nat.mod_mul]
  rw [h, Crcm.add_eq_xor i _ _ (Nat.mod_lt _ (Nat.two_pow_pos i))]
/-- what the register of turned bits is behind i rounds -/
def turned (at0 P m i : Nat) : Nat := 2 ^ at0 * (P % 2 ^ (min i m))
theorem turned_on (at0 P m i : Nat) (h : i < m) (hb : P / 2 ^ i % 2 = 1) : turned at0 P m (i + 1) = turned at0 P m i ^^^ 2 ^ (at0 + i) := by
  unfold turned
  rw [Nat.min_eq_left (by omega), Nat.min_eq_left (by omega), mod_step, hb, Nat.mul_one, two_pow_mul_xor, Nat.pow_add]
theorem turned_off (at0 P m i : Nat) (h : m ≤ i ∨ P / 2 ^ i % 2 = 0) : turned at0 P m (i + 1) = turned at0 P m i := by
  unfold turned
  by_cases hm : m ≤ i
  · rw [Nat.min_eq_right (by omega), Nat.min_eq_right hm]
  · have h0 : P / 2 ^ i % 2 = 0 := by omega
    rw [Nat.min_eq_left (by omega), Nat.min_eq_left (by omega), mod_step, h0, Nat.mul_zero, Nat.xor_zero]
end Go.Proofs.YtaegmeilhdbnnaaDoor
