/- Own texts, joined: Sg16. -/
import Derived.Test.YtfnkhpijcbpeoaaDoorK42
namespace Go.Proofs.YtfnkhpijcbpeoaaDoor
open Go.ChangeShapes Go.WideShapes Go.ChangeAt Go.RowKit
set_option linter.unusedVariables false
/-- what Footer answers -/
def ftE (l : List Nat) (st : Int) : Nat := if stB st = false then 1 else if hdr l = none then 71 else if 0 < sgF l then 72 else if sgG l < l.length then 60 else if sgE l = [] then 93 else 0
def ftV (l : List Nat) (st : Int) : List Nat := if ftE l st = 0 then sealL (hoX l) (hoY l) (sgE l) st.toNat else []
theorem ft_bad (l : List Nat) (st e : Nat) (h : ftE l (st : Int) = e) (he : e ≠ 0) : ftE l (st : Int) = e ∧ ftV l (st : Int) = [] := ⟨h, by unfold ftV; rw [if_neg (by omega)]⟩
set_option maxRecDepth 20000 in
set_option maxHeartbeats 4000000 in
theorem footer14_any (l : List Nat) (m : Nat) (a : Option Addr) (cap : Nat) (stI : Int) (w : World) (hm : l.length = m) (hb : Bytes w a l) (hcap : m ≤ cap) (hl : m ≤ 16777216) (ht : Tab w) :
    Calls Tryd.prog 4 #[.slice a m cap, .int .i64 stI] w fun e w' => ∃ v, e = .returned (.tuple #[v, .int .i64 (ftE l stI : Nat)]) ∧ Own w' w.heap.size v (ftV l stI) ∧ Below w.heap.size w w' := by
  have HB : Hid (Bytes w a l ∧ l.length = m ∧ Tab w) := ⟨hb, hm, ht⟩
  have hmem := hb.mem
  clear hb hm ht
  by_cases hS : stB stI = true
  · have HS : Hid (stB stI = true) := hS
    obtain ⟨st, rfl⟩ : ∃ st : Nat, stI = (st : Int) := ⟨stI.toNat, by have h := of_decide_eq_true hS; omega⟩
    have hst := of_decide_eq_true hS
    have hst1 : 1 ≤ st := by omega
    have hst64 : st ≤ 64 := by omega
    have hstI : (st : Int) ≤ 64 := by omega
    have hst1I : (1 : Int) ≤ (st : Int) := by omega
    clear hst
    cases hh : hdr l with
    | none =>
      have HE : Hid (ftE l (st : Int) = 71 ∧ ftV l (st : Int) = []) := ft_bad l st 71 (by unfold ftE; rw [if_neg (by rw [hS]; simp), if_pos (by rw [hh])]) (by omega)
      have HF : Hid (∀ base e w', ScanP l base e w' → e = .returned (.tuple #[SgV 0 0 0 false 0 (.slice none 0 0) 0, .slice none 0 0, .int .i64 71])) := by
        rintro base e w' (⟨_, h⟩ | ⟨h, _⟩)
        · exact h
        · rw [hh] at h; cases h
      clear hh hS
      go_enter Tryd.func4, Tryd.ntmps4
      go_wp2_with (first
        | (go_at_call 10; refine (isStride_any _ w).mono ?_; rw [HS.out]; rintro e w0 ⟨rfl, rfl⟩)
        | (go_at_call 11; refine (scan14_any l m a cap w HB.out.2.1 HB.out.1 hcap (by omega) HB.out.2.2).mono ?_; rintro r w1 ⟨hs1, hb1⟩; obtain rfl := HF.out _ _ _ hs1; have HB1 : Hid (Below w.heap.size w (w1.alloc (.cells (SgA 0 0 0 false 0 (.slice none 0 0) 0) 40))) := hb1.alloc hb1.size _; clear hs1 hb1)
        | fail)
      go_ret2
      exact ⟨.slice none 0 0, by rw [HE.out.1]; rfl, by rw [HE.out.2]; exact ownNil _ _, HB1.out⟩
    | some q =>
      obtain ⟨X, Y⟩ := q
      obtain ⟨_, _, _, hX1, hX2, hY1, hY2, _, hpn⟩ := hdr_some l hmem X Y hh
      have hoX' : hoX l = X := by unfold hoX; rw [hh]; rfl
      have hoY' : hoY l = Y := by unfold hoY; rw [hh]; rfl
      obtain ⟨EV, hEV⟩ : ∃ E, sgE l = E := ⟨_, rfl⟩
      obtain ⟨G, hG⟩ : ∃ G, sgG l = G := ⟨_, rfl⟩
      obtain ⟨n, hn⟩ : ∃ n, EV.length = n := ⟨_, rfl⟩
      obtain ⟨F, hF⟩ : ∃ F, sgF l = F := ⟨_, rfl⟩
      obtain ⟨N, hN⟩ : ∃ N, sgN l = N := ⟨_, rfl⟩
      obtain ⟨k, hk⟩ : ∃ k, (sgM l).length = k := ⟨_, rfl⟩
      have hok : EvOk Y EV := by rw [← hEV]; unfold sgE; rw [hoY']; exact (runL_ok l (pn l + 20) Y hY1 hpn (by rw [HB.out.2.1]; exact hl)).1
      have hGm : G ≤ m := by rw [← hG, ← HB.out.2.1]; unfold sgG sgE; exact (runEnd l (pn l + 20) (hoY l) hpn).2
      have hn5 : n ≤ 512 := by rw [← hn]; exact hok.len
      have hN0 : F = 0 → N = 0 := fun h => by rw [← hN]; unfold sgN ftN; rw [if_pos]; rw [← h, ← hF]; rfl
      have hNb : N ≤ 16404 := by
        rw [← hN]
        unfold sgN ftN
        split
        · omega
        · rename_i hc
          have h00 := ftS_pos (l.drop (sgG l)) (hoX l) (hoY l) (sgE l) (by omega)
          have := (decB_facts (fun z hz => hmem z (List.mem_of_mem_drop hz)) h00).2
          omega
      have hF64 : F ≤ 64 := by rw [← hF]; exact ftS_le _ _ _ _
      have HFF : Hid (∀ (b : Bool), decide (0 < F) = b → ∀ base e w', ScanP l base e w' → ∃ (xs : List It) (a1 a2 : Option Addr) (c1 c2 : Nat), e = .returned (.tuple #[SgV (X : Int) (Y : Int) (n : Int) b (F : Int) (.slice a2 k c2) ((G : Int) + (N : Int)), .slice a1 n c1, .int .i64 0]) ∧ xs.map It.fm = EV ∧ xs.length = n ∧ PlcA w' a1 xs) := by
        rintro b hb base e w' (⟨h, _⟩ | ⟨_, xs, v, mv, h1, h2, h3, h4⟩)
        · rw [hh] at h; cases h
        · obtain ⟨a1, c1, hv, hp⟩ := h3.plc
          obtain ⟨a2, c2, hv2, _⟩ := h4.shape
          have hx : xs.length = n := by rw [← hn, ← hEV, ← h1, List.length_map]
          rw [hx] at hv
          rw [hk] at hv2
          subst hv hv2
          refine ⟨xs, a1, a2, c1, c2, ?_, by rw [h1, hEV], hx, hp⟩
          rw [h2, hEV, hn, hoX', hoY', hF, hG, hN, hb]
      have HEO : Hid (EvOk Y EV ∧ EV.length = n ∧ (EV.map evP).length = n) := ⟨hok, hn, by rw [List.length_map]; exact hn⟩
      have hXI : (X : Int) ≤ 999999 := by omega
      have hYI : (Y : Int) ≤ 1099511627777 := by omega
      have hGI : (G : Int) ≤ 16777216 := by omega
      have hn5I : (n : Int) ≤ 512 := by omega
      have hlm := HB.out.2.1
      by_cases hF0 : F = 0
      · have hN00 := hN0 hF0
        have HF : Hid (∀ base e w', ScanP l base e w' → ∃ (xs : List It) (a1 a2 : Option Addr) (c1 c2 : Nat), e = .returned (.tuple #[SgV (X : Int) (Y : Int) (n : Int) false 0 (.slice a2 k c2) (G : Int), .slice a1 n c1, .int .i64 0]) ∧ xs.map It.fm = EV ∧ xs.length = n ∧ PlcA w' a1 xs) := fun base e w' h => by
          have h2 := HFF.out false (decide_eq_false (by omega)) base e w' h
          rw [hF0, hN00] at h2
          simp only [Int.add_zero, Int.natCast_zero] at h2
          exact h2
        by_cases hGe : G = m
        · by_cases hn0 : n = 0
          · have HE : Hid (ftE l (st : Int) = 93 ∧ ftV l (st : Int) = []) := ft_bad l st 93 (by unfold ftE; rw [if_neg (by rw [hS]; simp), if_neg (by rw [hh]; simp), if_neg (by omega), if_neg (by omega), if_pos (by rw [hEV]; exact List.length_eq_zero_iff.1 (by omega))]) (by omega)
            have hg1 : ¬ (G : Int) < (m : Int) := by omega
            have hg2 : ((G : Int) != (m : Int)) = false := by simp; omega
            have hnn : ((n : Int) == 0) = true := by simp; omega
            clear hh hS hoX' hoY' hEV hG hn hF hN hk hok hN0 hGe hn0 hlm hNb hF0 hN00 hF64
            go_enter Tryd.func4, Tryd.ntmps4
            go_wp2_with (first
              | (go_at_call 10; refine (isStride_any _ w).mono ?_; rw [HS.out]; rintro e w0 ⟨rfl, rfl⟩)
              | (go_at_call 11; refine (scan14_any l m a cap w HB.out.2.1 HB.out.1 hcap (by omega) HB.out.2.2).mono ?_; rintro r w1 ⟨hs1, hb1⟩; obtain ⟨xs, a1, a2, c1, c2, rfl, hx1, hl1, hp1⟩ := HF.out _ _ _ hs1; have HB1 : Hid (Below w.heap.size w (w1.alloc (.cells (SgA (X : Int) (Y : Int) (n : Int) false 0 (.slice a2 k c2) (G : Int)) 40)) ∧ Below w1.heap.size w1 (w1.alloc (.cells (SgA (X : Int) (Y : Int) (n : Int) false 0 (.slice a2 k c2) (G : Int)) 40)) ∧ xs.map It.fm = EV ∧ xs.length = n ∧ PlcA (w1.alloc (.cells (SgA (X : Int) (Y : Int) (n : Int) false 0 (.slice a2 k c2) (G : Int)) 40)) a1 xs ∧ SegAt (w1.alloc (.cells (SgA (X : Int) (Y : Int) (n : Int) false 0 (.slice a2 k c2) (G : Int)) 40)) w1.heap.size (X : Int) (Y : Int) (n : Int) false 0 (.slice a2 k c2) (G : Int)) := ⟨hb1.alloc hb1.size _, (Below.refl _ _).alloc (Nat.le_refl _) _, hx1, hl1, hp1.keep ((Below.refl _ _).alloc (Nat.le_refl _) _), SegAt.new w1 (X : Int) (Y : Int) (n : Int) false 0 (.slice a2 k c2) (G : Int)⟩; clear hs1 hb1 hx1 hl1 hp1)
              | fail)
            go_ret2
            exact ⟨.slice none 0 0, by rw [HE.out.1]; rfl, by rw [HE.out.2]; exact ownNil _ _, HB1.out.1⟩
          · have HE : Hid (ftE l (st : Int) = 0 ∧ ftV l (st : Int) = sealL X Y EV st) := by
              have h : ftE l (st : Int) = 0 := by unfold ftE; rw [if_neg (by rw [hS]; simp), if_neg (by rw [hh]; simp), if_neg (by omega), if_neg (by omega), if_neg (by rw [hEV]; intro h; rw [h] at hn; simp at hn; omega)]
              exact ⟨h, by unfold ftV; rw [if_pos h, hoX', hoY', hEV]; rfl⟩
            have hg1 : ¬ (G : Int) < (m : Int) := by omega
            have hg2 : ((G : Int) != (m : Int)) = false := by simp; omega
            have hnn : ((n : Int) == 0) = false := by simp; omega
            have hnp : 0 < n := by omega
            clear hh hS hoX' hoY' hEV hG hn hF hN hk hok hN0 hGe hn0 hlm hNb hF0 hN00 hF64
            go_enter Tryd.func4, Tryd.ntmps4
            go_wp2_with (first
              | (go_at_call 10; refine (isStride_any _ w).mono ?_; rw [HS.out]; rintro e w0 ⟨rfl, rfl⟩)
              | (go_at_call 11; refine (scan14_any l m a cap w HB.out.2.1 HB.out.1 hcap (by omega) HB.out.2.2).mono ?_; rintro r w1 ⟨hs1, hb1⟩; obtain ⟨xs, a1, a2, c1, c2, rfl, hx1, hl1, hp1⟩ := HF.out _ _ _ hs1; have HB1 : Hid (Below w.heap.size w (w1.alloc (.cells (SgA (X : Int) (Y : Int) (n : Int) false 0 (.slice a2 k c2) (G : Int)) 40)) ∧ Below w1.heap.size w1 (w1.alloc (.cells (SgA (X : Int) (Y : Int) (n : Int) false 0 (.slice a2 k c2) (G : Int)) 40)) ∧ xs.map It.fm = EV ∧ xs.length = n ∧ PlcA (w1.alloc (.cells (SgA (X : Int) (Y : Int) (n : Int) false 0 (.slice a2 k c2) (G : Int)) 40)) a1 xs ∧ SegAt (w1.alloc (.cells (SgA (X : Int) (Y : Int) (n : Int) false 0 (.slice a2 k c2) (G : Int)) 40)) w1.heap.size (X : Int) (Y : Int) (n : Int) false 0 (.slice a2 k c2) (G : Int)) := ⟨hb1.alloc hb1.size _, (Below.refl _ _).alloc (Nat.le_refl _) _, hx1, hl1, hp1.keep ((Below.refl _ _).alloc (Nat.le_refl _) _), SegAt.new w1 (X : Int) (Y : Int) (n : Int) false 0 (.slice a2 k c2) (G : Int)⟩; clear hs1 hb1 hx1 hl1 hp1)
              | (go_at_call 12; refine (seal_any X Y EV xs st n a1 c1 _ HB1.out.2.2.1 HB1.out.2.2.2.1 hnp HB1.out.2.2.2.2.1 HEO.out.1 hY2 hX2 hst64 (HB.out.2.2.keep HB1.out.1)).mono ?_; rintro r w3 ⟨v3, rfl, ho3, hb3⟩; have HO3 : Hid (Own w3 w.heap.size v3 (sealL X Y EV st) ∧ Below w.heap.size w w3) := ⟨⟨ho3.1, World.ownsRow.mono (base' := w.heap.size) ho3.2 HB1.out.1.size⟩, below_next HB1.out.1 hb3⟩; clear ho3 hb3)
              | fail)
            go_ret2
            exact ⟨v3, by rw [HE.out.1]; rfl, by rw [HE.out.2]; exact HO3.out.1, HO3.out.2⟩
        · have HE : Hid (ftE l (st : Int) = 60 ∧ ftV l (st : Int) = []) := ft_bad l st 60 (by unfold ftE; rw [if_neg (by rw [hS]; simp), if_neg (by rw [hh]; simp), if_neg (by omega), if_pos (by omega)]) (by omega)
          have hg1 : (G : Int) < (m : Int) := by omega
          have hg2 : ((G : Int) != (m : Int)) = true := by simp; omega
          clear hh hS hoX' hoY' hEV hG hn hF hN hk hok hN0 hGe hlm hNb hF0 hN00 hF64
          go_enter Tryd.func4, Tryd.ntmps4
          go_wp2_with (first
            | (go_at_call 10; refine (isStride_any _ w).mono ?_; rw [HS.out]; rintro e w0 ⟨rfl, rfl⟩)
            | (go_at_call 11; refine (scan14_any l m a cap w HB.out.2.1 HB.out.1 hcap (by omega) HB.out.2.2).mono ?_; rintro r w1 ⟨hs1, hb1⟩; obtain ⟨xs, a1, a2, c1, c2, rfl, hx1, hl1, hp1⟩ := HF.out _ _ _ hs1; have HB1 : Hid (Below w.heap.size w (w1.alloc (.cells (SgA (X : Int) (Y : Int) (n : Int) false 0 (.slice a2 k c2) (G : Int)) 40)) ∧ Below w1.heap.size w1 (w1.alloc (.cells (SgA (X : Int) (Y : Int) (n : Int) false 0 (.slice a2 k c2) (G : Int)) 40)) ∧ xs.map It.fm = EV ∧ xs.length = n ∧ PlcA (w1.alloc (.cells (SgA (X : Int) (Y : Int) (n : Int) false 0 (.slice a2 k c2) (G : Int)) 40)) a1 xs ∧ SegAt (w1.alloc (.cells (SgA (X : Int) (Y : Int) (n : Int) false 0 (.slice a2 k c2) (G : Int)) 40)) w1.heap.size (X : Int) (Y : Int) (n : Int) false 0 (.slice a2 k c2) (G : Int)) := ⟨hb1.alloc hb1.size _, (Below.refl _ _).alloc (Nat.le_refl _) _, hx1, hl1, hp1.keep ((Below.refl _ _).alloc (Nat.le_refl _) _), SegAt.new w1 (X : Int) (Y : Int) (n : Int) false 0 (.slice a2 k c2) (G : Int)⟩; clear hs1 hb1 hx1 hl1 hp1)
            | fail)
          go_ret2
          exact ⟨.slice none 0 0, by rw [HE.out.1]; rfl, by rw [HE.out.2]; exact ownNil _ _, HB1.out.1⟩
      · have HE : Hid (ftE l (st : Int) = 72 ∧ ftV l (st : Int) = []) := ft_bad l st 72 (by unfold ftE; rw [if_neg (by rw [hS]; simp), if_neg (by rw [hh]; simp), if_pos (by omega)]) (by omega)
        have HF : Hid (_) := HFF.out true (decide_eq_true (by omega))
        clear hh hS hoX' hoY' hEV hG hn hF hN hk hok hN0 hF0 hlm
        go_enter Tryd.func4, Tryd.ntmps4
        go_wp2_with (first
          | (go_at_call 10; refine (isStride_any _ w).mono ?_; rw [HS.out]; rintro e w0 ⟨rfl, rfl⟩)
          | (go_at_call 11; refine (scan14_any l m a cap w HB.out.2.1 HB.out.1 hcap (by omega) HB.out.2.2).mono ?_; rintro r w1 ⟨hs1, hb1⟩; obtain ⟨xs, a1, a2, c1, c2, rfl, hx1, hl1, hp1⟩ := HF.out _ _ _ hs1; have HB1 : Hid (Below w.heap.size w (w1.alloc (.cells (SgA (X : Int) (Y : Int) (n : Int) true (F : Int) (.slice a2 k c2) ((G : Int) + (N : Int))) 40)) ∧ Below w1.heap.size w1 (w1.alloc (.cells (SgA (X : Int) (Y : Int) (n : Int) true (F : Int) (.slice a2 k c2) ((G : Int) + (N : Int))) 40)) ∧ xs.map It.fm = EV ∧ xs.length = n ∧ PlcA (w1.alloc (.cells (SgA (X : Int) (Y : Int) (n : Int) true (F : Int) (.slice a2 k c2) ((G : Int) + (N : Int))) 40)) a1 xs ∧ SegAt (w1.alloc (.cells (SgA (X : Int) (Y : Int) (n : Int) true (F : Int) (.slice a2 k c2) ((G : Int) + (N : Int))) 40)) w1.heap.size (X : Int) (Y : Int) (n : Int) true (F : Int) (.slice a2 k c2) ((G : Int) + (N : Int))) := ⟨hb1.alloc hb1.size _, (Below.refl _ _).alloc (Nat.le_refl _) _, hx1, hl1, hp1.keep ((Below.refl _ _).alloc (Nat.le_refl _) _), SegAt.new w1 (X : Int) (Y : Int) (n : Int) true (F : Int) (.slice a2 k c2) ((G : Int) + (N : Int))⟩; clear hs1 hb1 hx1 hl1 hp1)
          | fail)
        go_ret2
        exact ⟨.slice none 0 0, by rw [HE.out.1]; rfl, by rw [HE.out.2]; exact ownNil _ _, HB1.out.1⟩
  · have hS0 : stB stI = false := by simpa using hS
    have HE : Hid (ftE l stI = 1 ∧ ftV l stI = []) := by
      have h : ftE l stI = 1 := by unfold ftE; rw [if_pos hS0]
      exact ⟨h, by unfold ftV; rw [if_neg (by omega)]⟩
    have HS : Hid (stB stI = false) := hS0
    clear hS hS0
    go_enter Tryd.func4, Tryd.ntmps4
    go_wp2_with (first
      | (go_at_call 10; refine (isStride_any _ w).mono ?_; rw [HS.out]; rintro e w0 ⟨rfl, rfl⟩)
      | fail)
    go_ret2
    exact ⟨.slice none 0 0, by rw [HE.out.1]; rfl, by rw [HE.out.2]; exact ownNil _ _, Below.refl _ _⟩
end Go.Proofs.YtfnkhpijcbpeoaaDoor
