/- Own texts, joined: Sg10. -/
import Derived.Test.YtfnkhpijcbpeoaaDoorK35
import Derived.Test.YtfnkhpijcbpeoaaDoorK37
import Derived.Deep.RegionHeld3
import Derived.BigQuiet
namespace Go.Proofs.YtfnkhpijcbpeoaaDoor
open Go.ChangeShapes Go.WideShapes Go.ChangeAt Go.RowKit
set_option linter.unusedVariables false
def ftN (l : List Nat) (x y : Nat) (E : List Fm) : Nat := if ftS l x y E = 0 then 0 else pn l + 20
theorem ft_zero {l : List Nat} {x y : Nat} {E : List Fm} (h : ftS l x y E = 0) : ftS l x y E = 0 ∧ ftN l x y E = 0 := ⟨h, by unfold ftN; rw [if_pos h]⟩
theorem isStride_q (st : Int) (w : World) : Calls Tryd.prog 10 #[.int .i64 st] w fun e w' => e = .returned (.bool (stB st)) ∧ w' = w := (isStride_any st w).mono (by rintro e w' ⟨h1, h2⟩; exact ⟨h1, h2.symm⟩)
set_option maxRecDepth 20000 in
set_option maxHeartbeats 4000000 in
theorem sealedBy_any (l : List Nat) (x y : Nat) (E : List Fm) (xs : List It) (m n : Nat) (ab a : Option Addr) (capb cap : Nat) (w : World) (hm : l.length = m) (hb : Bytes w ab l) (hcapb : m ≤ capb) (hml : m ≤ 140737488351232) (hxs : xs.map It.fm = E) (hn : xs.length = n) (hp : PlcA w a xs) (hE : EvOk y E) (hy : y ≤ 1099511627777) (hx : x ≤ 999999) (ht : Tab w) :
    Calls Tryd.prog 25 #[.slice ab m capb, .int .i64 (x : Int), .slice a n cap] w fun e w' => e = .returned (.tuple #[.int .i64 (ftS l x y E : Nat), .int .i64 (ftN l x y E : Nat)]) ∧ Below w.heap.size w w' := by
  have HB : Hid (Bytes w ab l ∧ l.length = m ∧ Tab w) := ⟨hb, hm, ht⟩
  have hmem := hb.mem
  have hnE : E.length = n := by rw [← hxs, List.length_map]; exact hn
  have HX : Hid (xs.map It.fm = E ∧ xs.length = n ∧ PlcA w a xs ∧ EvOk y E) := ⟨hxs, hn, hp, hE⟩
  have hn5 : n ≤ 512 := by have := hE.len; omega
  have hn5I : (n : Int) ≤ 512 := by omega
  have hxI : (x : Int) ≤ 999999 := by omega
  clear hb hm ht hxs hn hp
  by_cases h0 : decE l = 0
  · obtain ⟨b1, b2, b3, b4, b5, b6, b7⟩ := decB_facts hmem h0
    obtain ⟨P, hP⟩ : ∃ P, pk l = P := ⟨_, rfl⟩
    obtain ⟨S, hS⟩ : ∃ S, ps l = S := ⟨_, rfl⟩
    obtain ⟨B, hB⟩ : ∃ B, pn l = B := ⟨_, rfl⟩
    obtain ⟨Q, hQ⟩ : ∃ Q, B + 20 = Q := ⟨_, rfl⟩
    have HDV : Hid (∀ v, DV l v = .tuple #[FrV (P : Int) (S : Int) v, .int .i64 (Q : Int), .int .i64 0]) := fun v => by rw [← hP, ← hS, ← hQ, ← hB]; exact (dv_good l v h0).1
    have HBL : Hid ((decB l).length = B ∧ decE l = 0 ∧ (∀ y ∈ decB l, y < 256) ∧ pn l + 20 = Q) := ⟨b3.trans hB, h0, b1, by omega⟩
    have hBb : B ≤ 16384 := by omega
    have hBm : Q ≤ m := by have := HB.out.2.1; omega
    have hQ20 : 20 ≤ Q := by omega
    have hQb : Q ≤ 16404 := by omega
    have hQ0I : (0 : Int) ≤ (Q : Int) := by omega
    have hBI : (B : Int) ≤ 16384 := by omega
    have hBmI : (Q : Int) ≤ (m : Int) := by omega
    have hBcI : (Q : Int) ≤ (capb : Int) := by omega
    clear hP hS hB b2 b3 b4 b5 b6 b7 hQ
    by_cases hn0 : n = 0
    · have hE0 : E = [] := List.length_eq_zero_iff.1 (by omega)
      have HFT : Hid (ftS l x y E = 0 ∧ ftN l x y E = 0) := ft_zero (ftS_no l x y E (.inr (.inr (.inr hE0))))
      subst hn0
      clear hE0 hE h0 b1
      go_enter Tryd.func25, Tryd.ntmps25
      go_wp2_with (first
        | (go_at_call 37; refine (fdec_any l m ab capb w HB.out.2.1 HB.out.1 (by rw [HB.out.2.1]; omega) (by rw [HB.out.2.1]; omega) HB.out.2.2).mono ?_; rintro r w1 ⟨v1, rfl, ho1, hb1⟩; rw [HDV.out v1]; obtain ⟨a1, c1, hv1, hc1, _, hy1, _⟩ := ho1.shape; rw [HBL.out.1] at hv1 hc1; subst hv1; have HB1 : Hid (Below w.heap.size w w1 ∧ Bytes w1 a1 (decB l) ∧ B ≤ c1) := ⟨hb1, hy1, hc1⟩; clear ho1 hb1 hy1 hc1)
        | fail)
      go_ret2
      exact ⟨by rw [HFT.out.1, HFT.out.2]; rfl, HB1.out.1.alloc HB1.out.1.size _⟩
    · have hE1 : E ≠ [] := fun h => by rw [h] at hnE; simp at hnE; omega
      have hnn : ((n : Int) == 0) = false := by simp; omega
      cases hr : nrd 3 (decB l) with
      | none =>
        have HFT : Hid (ftS l x y E = 0 ∧ ftN l x y E = 0) := ft_zero (ftS_none l x y E hr)
        have HN : Hid (nrd 3 (decB l) = none) := hr
        have HARM : Hid (∀ w' a1 c1, Bytes w' a1 (decB l) → B ≤ c1 → Calls Tryd.prog 17 #[.slice a1 B c1, .int .i64 3] w' fun e w'' => e = .returned (.tuple #[.slice none 0 0, .slice none 0 0, .bool false]) ∧ Below w'.heap.size w' w'') := fun w' a1 c1 hy1 hc1 => by
          refine (read_any (decB l) 3 B a1 c1 _ HBL.out.1 hy1 hc1 (by omega) (by omega)).mono ?_
          rw [HN.out]
          rintro e w2 ⟨⟨_, _, _, _, _, h, _⟩ | ⟨_, h⟩, hb2⟩
          · cases h
          · exact ⟨h, hb2⟩
        clear hr h0 b1 hE
        go_enter Tryd.func25, Tryd.ntmps25
        go_wp2_with (first
          | (go_at_call 37; refine (fdec_any l m ab capb w HB.out.2.1 HB.out.1 (by rw [HB.out.2.1]; omega) (by rw [HB.out.2.1]; omega) HB.out.2.2).mono ?_; rintro r w1 ⟨v1, rfl, ho1, hb1⟩; rw [HDV.out v1]; obtain ⟨a1, c1, hv1, hc1, _, hy1, _⟩ := ho1.shape; rw [HBL.out.1] at hv1 hc1; subst hv1; have HB1 : Hid (Below w.heap.size w w1 ∧ Bytes w1 a1 (decB l) ∧ B ≤ c1) := ⟨hb1, hy1, hc1⟩; clear ho1 hb1 hy1 hc1)
          | (go_at_call 17; refine (HARM.out _ _ _ (HB1.out.2.1.keep ((Below.refl _ _).alloc (Nat.le_refl _) _)) HB1.out.2.2).mono ?_; rintro r w2 ⟨rfl, hb2⟩; have HB2 : Hid (Below w.heap.size w w2) := below_next (HB1.out.1.alloc HB1.out.1.size _) hb2; clear hb2)
          | fail)
        go_quiet (fail)
        go_wp2
        go_ret2
        exact ⟨by rw [HFT.out.1, HFT.out.2]; rfl, below_drewN HB2.out _⟩
      | some q =>
        obtain ⟨ns, r⟩ := q
        obtain ⟨u, v, st, rfl, hu, hv, hst⟩ := nrd_three _ b1 ns r hr
        have hft := ftS_of l hmem x y E hE hE1 hy hx h0 u v st r hr
        rw [HBL.out.2.2.2] at hft
        have HN : Hid (nrd 3 (decB l) = some ([u, v, st], r)) := hr
        have HARM : Hid (∀ w' a1 c1, Bytes w' a1 (decB l) → B ≤ c1 → Calls Tryd.prog 17 #[.slice a1 B c1, .int .i64 3] w' fun e w'' => ∃ g c2 xa R cp, e = .returned (.tuple #[.slice (some ⟨g, 0, none⟩) 3 c2, .slice xa R cp, .bool true]) ∧ g < w''.heap.size ∧ w''.cell? ⟨g, 2, none⟩ = some (.int .i64 (st : Int)) ∧ Below w'.heap.size w' w'') := fun w' a1 c1 hy1 hc1 => by
          refine (read_any (decB l) 3 B a1 c1 _ HBL.out.1 hy1 hc1 (by omega) (by omega)).mono ?_
          rw [HN.out]
          rintro e w2 ⟨⟨ns, r', va, xa, cp, h, rfl, ho, hy2, hcp, _⟩ | ⟨h, _⟩, hb2⟩
          · simp only [Option.some.injEq, Prod.mk.injEq] at h
            obtain ⟨rfl, rfl⟩ := h
            obtain ⟨g, c2, hv, _, hlt⟩ := World.ownsRow.form ho (by omega)
            subst hv
            exact ⟨g, c2, xa, _, cp, rfl, hlt, World.ownsRow.cellAt ho 2 (by omega), hb2⟩
          · cases h
        have hstI : (st : Int) ≤ 1099511627777 := by omega
        clear hr b1 h0
        by_cases hs : 1 ≤ st ∧ st ≤ 64
        · have HST : Hid (stB (st : Int) = true) := decide_eq_true ⟨by omega, by omega⟩
          obtain ⟨q1, q2, _⟩ := foot_facts y E st hE hy hs.2
          obtain ⟨Z, hZ⟩ : ∃ Z, (sealL x y E st).length = Z := ⟨_, rfl⟩
          have hZ20 : 20 ≤ Z := by rw [← hZ]; unfold sealL; rw [frameL_length]; omega
          have hlt20 : (l.take Q).length = Q := by rw [List.length_take, HB.out.2.1]; omega
          have HLN : Hid ((l.take Q).length = Q ∧ (sealL x y E st).length = Z ∧ l.take Q ≠ [] ∧ sealL x y E st ≠ []) := ⟨hlt20, hZ, fun h => by rw [h] at hlt20; simp at hlt20; omega, fun h => by rw [h] at hZ; simp at hZ; omega⟩
          have HBK : Hid (Bytes w ab (l.take Q)) := HB.out.1.take Q
          have HSL : Hid (∀ w', Below w.heap.size w w' → Calls Tryd.prog 12 #[.int .i64 (x : Int), .slice a n cap, .int .i64 (st : Int)] w' fun e w'' => ∃ g3 c3, e = .returned (.slice (some ⟨g3, 0, none⟩) Z c3) ∧ Bytes w'' (some ⟨g3, 0, none⟩) (sealL x y E st) ∧ Below w'.heap.size w' w'') := fun w' hw' => by
            refine (seal_any x y E xs st n a cap w' HX.out.1 HX.out.2.1 (by omega) (HX.out.2.2.1.keep hw') HX.out.2.2.2 hy hx hs.2 (HB.out.2.2.keep hw')).mono ?_
            rintro e w'' ⟨v3, rfl, ho3, hb3⟩
            obtain ⟨g3, c3, hv3, _, hy3⟩ := ho3.row HLN.out.2.2.2
            rw [HLN.out.2.1] at hv3
            exact ⟨g3, c3, by rw [hv3], hy3, hb3⟩
          have hst1 : (1 : Int) ≤ (st : Int) := by omega
          clear q1 q2 hlt20 hZ
          by_cases heq : l.take Q = sealL x y E st
          · have HFT : Hid (ftS l x y E = st ∧ ftN l x y E = Q) := by
              have h1 : ftS l x y E = st := by rw [hft, if_pos ⟨hs.1, hs.2, heq⟩]
              exact ⟨h1, by unfold ftN; rw [if_neg (by omega), HBL.out.2.2.2]⟩
            have HEQ : Hid (decide (l.take Q = sealL x y E st) = true) := decide_eq_true heq
            clear hft heq hs hE
            go_enter Tryd.func25, Tryd.ntmps25
            go_wp2_with (first
              | (go_at_call 37; refine (fdec_any l m ab capb w HB.out.2.1 HB.out.1 (by rw [HB.out.2.1]; omega) (by rw [HB.out.2.1]; omega) HB.out.2.2).mono ?_; rintro r w1 ⟨v1, rfl, ho1, hb1⟩; rw [HDV.out v1]; obtain ⟨a1, c1, hv1, hc1, _, hy1, _⟩ := ho1.shape; rw [HBL.out.1] at hv1 hc1; subst hv1; have HB1 : Hid (Below w.heap.size w w1 ∧ Bytes w1 a1 (decB l) ∧ B ≤ c1) := ⟨hb1, hy1, hc1⟩; clear ho1 hb1 hy1 hc1)
              | (go_at_call 17; refine (HARM.out _ _ _ (HB1.out.2.1.keep ((Below.refl _ _).alloc (Nat.le_refl _) _)) HB1.out.2.2).mono ?_; rintro e w2 ⟨g, c2, xa, R, cp, rfl, hlt, k2, hb2⟩; have HB2 : Hid (Below w.heap.size w w2) := below_next (HB1.out.1.alloc HB1.out.1.size _) hb2; clear hb2)
              | fail)
            go_region_held3 (fun w' => w'.cell? ⟨g, 2, none⟩ = some (.int .i64 (st : Int))) (go_keep) (first
              | (go_at_call 10; refine (isStride_any (st : Int) _).mono ?_; rw [HST.out]; rintro e w8 ⟨rfl, rfl⟩)
              | (go_at_call 12; refine (HSL.out _ ?_).mono ?_; exact below_drewN HB2.out _; rintro e w3 ⟨g3, c3, rfl, hy3, hb3⟩; have HB3 : Hid (Below w2.heap.size w2 w3) := (below_drewN (Below.refl w2.heap.size w2) _).trans hb3; have HY3 : Hid (Bytes w3 (some ⟨g3, 0, none⟩) (sealL x y E st) ∧ Bytes w3 ab (l.take Q)) := ⟨hy3, (HBK.out.keep HB2.out).keep HB3.out⟩; have kk2 : w3.cell? ⟨g, 2, none⟩ = some (.int .i64 (st : Int)) := (hb3.cell (p := ⟨g, 2, none⟩) hlt).trans k2; have hlt3 : g < w3.heap.size := Nat.lt_of_lt_of_le hlt HB3.out.size; clear hb3 hy3)
              | (go_at_call 48; refine (equal_any (l.take Q) (sealL x y E st) Q Z ab (some ⟨g3, 0, none⟩) _ _ _ HLN.out.1 HLN.out.2.1 HLN.out.2.2.1 HLN.out.2.2.2 HY3.out.2 HY3.out.1).mono ?_; rw [HEQ.out]; rintro e w9 ⟨rfl, rfl⟩)
              | fail)
            all_goals (
              go_wp2
              go_ret2
              exact ⟨by rw [HFT.out.1, HFT.out.2]; rfl, below_next HB2.out HB3.out⟩)
          · have HFT : Hid (ftS l x y E = 0 ∧ ftN l x y E = 0) := ft_zero (by rw [hft, if_neg (fun h => heq h.2.2)])
            have HEQ : Hid (decide (l.take Q = sealL x y E st) = false) := decide_eq_false heq
            clear hft heq hs hE
            go_enter Tryd.func25, Tryd.ntmps25
            go_wp2_with (first
              | (go_at_call 37; refine (fdec_any l m ab capb w HB.out.2.1 HB.out.1 (by rw [HB.out.2.1]; omega) (by rw [HB.out.2.1]; omega) HB.out.2.2).mono ?_; rintro r w1 ⟨v1, rfl, ho1, hb1⟩; rw [HDV.out v1]; obtain ⟨a1, c1, hv1, hc1, _, hy1, _⟩ := ho1.shape; rw [HBL.out.1] at hv1 hc1; subst hv1; have HB1 : Hid (Below w.heap.size w w1 ∧ Bytes w1 a1 (decB l) ∧ B ≤ c1) := ⟨hb1, hy1, hc1⟩; clear ho1 hb1 hy1 hc1)
              | (go_at_call 17; refine (HARM.out _ _ _ (HB1.out.2.1.keep ((Below.refl _ _).alloc (Nat.le_refl _) _)) HB1.out.2.2).mono ?_; rintro e w2 ⟨g, c2, xa, R, cp, rfl, hlt, k2, hb2⟩; have HB2 : Hid (Below w.heap.size w w2) := below_next (HB1.out.1.alloc HB1.out.1.size _) hb2; clear hb2)
              | fail)
            go_region_held3 (fun w' => w'.cell? ⟨g, 2, none⟩ = some (.int .i64 (st : Int))) (go_keep) (first
              | (go_at_call 10; refine (isStride_any (st : Int) _).mono ?_; rw [HST.out]; rintro e w8 ⟨rfl, rfl⟩)
              | (go_at_call 12; refine (HSL.out _ ?_).mono ?_; exact below_drewN HB2.out _; rintro e w3 ⟨g3, c3, rfl, hy3, hb3⟩; have HB3 : Hid (Below w2.heap.size w2 w3) := (below_drewN (Below.refl w2.heap.size w2) _).trans hb3; have HY3 : Hid (Bytes w3 (some ⟨g3, 0, none⟩) (sealL x y E st) ∧ Bytes w3 ab (l.take Q)) := ⟨hy3, (HBK.out.keep HB2.out).keep HB3.out⟩; have kk2 : w3.cell? ⟨g, 2, none⟩ = some (.int .i64 (st : Int)) := (hb3.cell (p := ⟨g, 2, none⟩) hlt).trans k2; have hlt3 : g < w3.heap.size := Nat.lt_of_lt_of_le hlt HB3.out.size; clear hb3 hy3)
              | (go_at_call 48; refine (equal_any (l.take Q) (sealL x y E st) Q Z ab (some ⟨g3, 0, none⟩) _ _ _ HLN.out.1 HLN.out.2.1 HLN.out.2.2.1 HLN.out.2.2.2 HY3.out.2 HY3.out.1).mono ?_; rw [HEQ.out]; rintro e w9 ⟨rfl, rfl⟩)
              | fail)
            all_goals (
              go_wp2
              go_ret2
              exact ⟨by rw [HFT.out.1, HFT.out.2]; rfl, below_next HB2.out HB3.out⟩)
        · have HFT : Hid (ftS l x y E = 0 ∧ ftN l x y E = 0) := ft_zero (by rw [hft, if_neg (fun h => hs ⟨h.1, h.2.1⟩)])
          have HST : Hid (stB (st : Int) = false) := decide_eq_false (fun h => hs ⟨by omega, by omega⟩)
          clear hft hs hE
          go_enter Tryd.func25, Tryd.ntmps25
          go_wp2_with (first
            | (go_at_call 37; refine (fdec_any l m ab capb w HB.out.2.1 HB.out.1 (by rw [HB.out.2.1]; omega) (by rw [HB.out.2.1]; omega) HB.out.2.2).mono ?_; rintro r w1 ⟨v1, rfl, ho1, hb1⟩; rw [HDV.out v1]; obtain ⟨a1, c1, hv1, hc1, _, hy1, _⟩ := ho1.shape; rw [HBL.out.1] at hv1 hc1; subst hv1; have HB1 : Hid (Below w.heap.size w w1 ∧ Bytes w1 a1 (decB l) ∧ B ≤ c1) := ⟨hb1, hy1, hc1⟩; clear ho1 hb1 hy1 hc1)
            | (go_at_call 17; refine (HARM.out _ _ _ (HB1.out.2.1.keep ((Below.refl _ _).alloc (Nat.le_refl _) _)) HB1.out.2.2).mono ?_; rintro e w2 ⟨g, c2, xa, R, cp, rfl, hlt, k2, hb2⟩; have HB2 : Hid (Below w.heap.size w w2) := below_next (HB1.out.1.alloc HB1.out.1.size _) hb2; clear hb2)
            | fail)
          have hq : ∀ w0, Calls Tryd.prog 10 #[.int .i64 (st : Int)] w0 fun e w1 => e = .returned (.bool false) ∧ w1 = w0 := fun w0 => by have h := isStride_q (st : Int) w0; rw [HST.out] at h; exact h
          have HQQ : Hid (_) := hq
          clear hq
          go_quiet ((go_at_call 10; exact Calls.quiet_of_same (HQQ.out _)))
          go_wp2
          go_ret2
          exact ⟨by rw [HFT.out.1, HFT.out.2]; rfl, below_drewN HB2.out _⟩
  · obtain ⟨e, he⟩ : ∃ e, decE l = e := ⟨_, rfl⟩
    have HDV : Hid (∀ v, DV l v = .tuple #[FrV 0 0 v, .int .i64 0, .int .i64 (e : Int)]) := fun v => (dv_none l v e he (by omega)).1
    have HFT : Hid (ftS l x y E = 0 ∧ ftN l x y E = 0) := ft_zero (ftS_no l x y E (.inl h0))
    have heI : ((e : Int) != 0) = true := by simp; omega
    clear h0 he hE
    go_enter Tryd.func25, Tryd.ntmps25
    go_wp2_with (first
      | (go_at_call 37; refine (fdec_any l m ab capb w HB.out.2.1 HB.out.1 (by rw [HB.out.2.1]; omega) (by rw [HB.out.2.1]; omega) HB.out.2.2).mono ?_; rintro r w1 ⟨v1, rfl, ho1, hb1⟩; rw [HDV.out v1]; obtain ⟨a1, c1, hv1, _⟩ := ho1.shape; subst hv1; have HB1 : Hid (Below w.heap.size w w1) := hb1; clear ho1 hb1)
      | fail)
    go_ret2
    exact ⟨by rw [HFT.out.1, HFT.out.2]; rfl, HB1.out.alloc HB1.out.size _⟩
end Go.Proofs.YtfnkhpijcbpeoaaDoor
