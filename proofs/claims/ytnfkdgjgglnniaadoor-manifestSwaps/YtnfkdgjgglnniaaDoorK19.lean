/- Own texts, joined: Mf5, Mf6. -/
import Derived.Test.YtnfkdgjgglnniaaDoorK15
import Derived.Test.YtnfkdgjgglnniaaDoorK18
import Derived.BigRegionIn
namespace Go.Proofs.YtnfkdgjgglnniaaDoor
open Go.ChangeShapes Go.WideShapes Go.ChangeAt Go.RowKit
set_option linter.unusedVariables false
theorem vdecN_len : ∀ (c : Nat) (l : List Nat) (p : Nat) (acc : List Nat), (vdecN c l p acc).2.2 = 0 → (vdecN c l p acc).1.length = acc.length + c
  | 0, l, p, acc, h => rfl
  | c + 1, l, p, acc, h => by
    obtain ⟨u, k, e, hd⟩ : ∃ u k e, dec 0 0 (l.drop p) = (u, k, e) := ⟨_, _, _, rfl⟩
    rw [decN_succ c l p acc u k e hd] at h ⊢
    by_cases he : e = 0
    · rw [if_pos he] at h ⊢
      rw [vdecN_len c l (p + k) (acc ++ [u]) h, List.length_append]
      simp only [List.length_cons, List.length_nil]
      omega
    · rw [if_neg he] at h
      exact absurd h he
theorem decAll_lenM {l U : List Nat} {p : Nat} (h : decAll l 1028 = (U, p, 0)) : U.length ≤ 1028 := by
  unfold decAll at h
  split at h
  · rename_i h1
    have h2 := congrArg (fun x => x.2.2) h
    exact absurd h2 h1
  · split at h
    · cases h
    · rename_i h1 h2
      have h3 := vdecN_len (dec 0 0 l).1 l (dec 0 0 l).2.1 [] (by rw [h])
      rw [h] at h3
      simp only [List.length_nil] at h3
      have : (1028 : Int).toNat = 1028 := rfl
      omega
/-- the numbers of a body are as many as a manifest may have -/
def nbB (l : List Nat) : Bool := decide ((decAll l 1028).2.2 = 0 ∧ (decAll l 1028).2.1 = l.length ∧ 4 ≤ (decAll l 1028).1.length ∧ ((decAll l 1028).1.length - 4) % 4 = 0)
set_option maxRecDepth 20000 in
set_option maxHeartbeats 2000000 in
theorem numbers_any (l : List Nat) (n : Nat) (a : Option Addr) (cap : Nat) (w : World) (hn : l.length = n) (hb : Bytes w a l) (hcap : n ≤ cap) (hl : n ≤ 140737488351232) :
    Calls Tryd.prog 35 #[.slice a n cap] w fun x w' => ∃ v, x = .returned (.tuple #[v, .bool (nbB l)]) ∧ Own64 w' w.heap.size v (decAll l 1028).1 ∧ Below w.heap.size w w' := by
  obtain ⟨U, p, e, hd⟩ : ∃ U p e, decAll l 1028 = (U, p, e) := ⟨_, _, _, rfl⟩
  have hul : e = 0 → U.length ≤ 1028 := fun h => decAll_lenM (by rw [hd, h])
  obtain ⟨m, hm⟩ : ∃ m, U.length = m := ⟨_, rfl⟩
  have HB : Hid (nbB l = decide (e = 0 ∧ p = n ∧ 4 ≤ m ∧ (m - 4) % 4 = 0)) := by show _ = _; unfold nbB; rw [hd, hn, hm]
  have HM : Hid (U.length = m) := hm
  have HD : Hid (decAll l 1028 = (U, p, e)) := hd
  have HX : Hid (l.length = n ∧ Bytes w a l ∧ n ≤ cap ∧ n ≤ 140737488351232) := ⟨hn, hb, hcap, hl⟩
  rw [hm] at hul
  rw [hd]
  clear hn hb hcap hm hd
  have go1 : ∀ (R : Bool), nbB l = R → ((e = 0 ∧ p = n ∧ 4 ≤ m ∧ (m - 4) % 4 = 0 ∧ R = true) ∨ (e = 0 ∧ p = n ∧ 4 ≤ m ∧ (m - 4) % 4 ≠ 0 ∧ R = false) ∨ (e = 0 ∧ p = n ∧ ¬ 4 ≤ m ∧ R = false) ∨ (e = 0 ∧ p ≠ n ∧ R = false) ∨ (e ≠ 0 ∧ R = false)) := by
    intro R hR
    rw [← hR, HB.out]
    by_cases h1 : e = 0 <;> by_cases h2 : p = n <;> by_cases h3 : 4 ≤ m <;> by_cases h4 : (m - 4) % 4 = 0 <;> simp [h1, h2, h3, h4]
  obtain ⟨R, hR⟩ : ∃ R, nbB l = R := ⟨_, rfl⟩
  rw [hR]
  rcases go1 R hR with ⟨h1, h2, h3, h4, rfl⟩ | ⟨h1, h2, h3, h4, rfl⟩ | ⟨h1, h2, h3, rfl⟩ | ⟨h1, h2, rfl⟩ | ⟨h1, rfl⟩
  · have b1 : ((e : Int) == 0) = true := by simp [h1]
    have b2 : ((p : Int) == (n : Int)) = true := by simp [h2]
    have b3 : (4 : Int) ≤ (m : Int) := by omega
    have b5 : (m : Int) ≤ 1028 := by have := hul h1; omega
    have b4 : Int.tmod ((m : Int) - 4) 4 = 0 := by rw [Int.tmod_eq_emod_of_nonneg (by omega)]; omega
    clear go1 hul h1 h2 h3 h4 hR HB
    go_enter Tryd.func35, Tryd.ntmps35
    go_wp2_with (go_at_call 54; refine (decAll_any l 1028 _ _ _ _ HX.out.1 HX.out.2.1 HX.out.2.2.1 HX.out.2.2.2 (by omega) (by omega) (by omega)).mono ?_; rw [HD.out]; rintro x w1 ⟨v1, rfl, ho1, hb1⟩; have HO1 : Hid (Own64 w1 w.heap.size v1 U) := ho1; obtain ⟨a1, c1, hv1, _⟩ := ho1.slice; rw [HM.out] at hv1; subst hv1; clear ho1)
    go_ret2
    exact ⟨_, rfl, HO1.out, hb1⟩
  · have b1 : ((e : Int) == 0) = true := by simp [h1]
    have b2 : ((p : Int) == (n : Int)) = true := by simp [h2]
    have b3 : (4 : Int) ≤ (m : Int) := by omega
    have b5 : (m : Int) ≤ 1028 := by have := hul h1; omega
    have b4 : ((m : Int) % 4 == 0) = false := by simp; omega
    clear go1 hul h1 h2 h3 h4 hR HB
    go_enter Tryd.func35, Tryd.ntmps35
    go_wp2_with (go_at_call 54; refine (decAll_any l 1028 _ _ _ _ HX.out.1 HX.out.2.1 HX.out.2.2.1 HX.out.2.2.2 (by omega) (by omega) (by omega)).mono ?_; rw [HD.out]; rintro x w1 ⟨v1, rfl, ho1, hb1⟩; have HO1 : Hid (Own64 w1 w.heap.size v1 U) := ho1; obtain ⟨a1, c1, hv1, _⟩ := ho1.slice; rw [HM.out] at hv1; subst hv1; clear ho1)
    go_ret2
    exact ⟨_, rfl, HO1.out, hb1⟩
  · have b1 : ((e : Int) == 0) = true := by simp [h1]
    have b2 : ((p : Int) == (n : Int)) = true := by simp [h2]
    have b3 : ¬ (4 : Int) ≤ (m : Int) := by omega
    clear go1 hul h1 h2 h3 hR HB
    go_enter Tryd.func35, Tryd.ntmps35
    go_wp2_with (go_at_call 54; refine (decAll_any l 1028 _ _ _ _ HX.out.1 HX.out.2.1 HX.out.2.2.1 HX.out.2.2.2 (by omega) (by omega) (by omega)).mono ?_; rw [HD.out]; rintro x w1 ⟨v1, rfl, ho1, hb1⟩; have HO1 : Hid (Own64 w1 w.heap.size v1 U) := ho1; obtain ⟨a1, c1, hv1, _⟩ := ho1.slice; rw [HM.out] at hv1; subst hv1; clear ho1)
    go_ret2
    exact ⟨_, rfl, HO1.out, hb1⟩
  · have b1 : ((e : Int) == 0) = true := by simp [h1]
    have b2 : ((p : Int) == (n : Int)) = false := by simp; omega
    clear go1 hul h1 h2 hR HB
    go_enter Tryd.func35, Tryd.ntmps35
    go_wp2_with (go_at_call 54; refine (decAll_any l 1028 _ _ _ _ HX.out.1 HX.out.2.1 HX.out.2.2.1 HX.out.2.2.2 (by omega) (by omega) (by omega)).mono ?_; rw [HD.out]; rintro x w1 ⟨v1, rfl, ho1, hb1⟩; have HO1 : Hid (Own64 w1 w.heap.size v1 U) := ho1; obtain ⟨a1, c1, hv1, _⟩ := ho1.slice; rw [HM.out] at hv1; subst hv1; clear ho1)
    go_ret2
    exact ⟨_, rfl, HO1.out, hb1⟩
  · have b1 : ((e : Int) == 0) = false := by simp; omega
    clear go1 hul h1 hR HB
    go_enter Tryd.func35, Tryd.ntmps35
    go_wp2_with (go_at_call 54; refine (decAll_any l 1028 _ _ _ _ HX.out.1 HX.out.2.1 HX.out.2.2.1 HX.out.2.2.2 (by omega) (by omega) (by omega)).mono ?_; rw [HD.out]; rintro x w1 ⟨v1, rfl, ho1, hb1⟩; have HO1 : Hid (Own64 w1 w.heap.size v1 U) := ho1; obtain ⟨a1, c1, hv1, _⟩ := ho1.slice; rw [HM.out] at hv1; subst hv1; clear ho1)
    go_ret2
    exact ⟨_, rfl, HO1.out, hb1⟩
/-- the manifest that a text's numbers tell of -/
def mdC (l : List Nat) : Mf := match (decAll (decB l) 1028).1 with
  | u0 :: u1 :: u2 :: u3 :: r => ⟨(ps l : Int), toI u0, toI u1, toI u2, toI u3, smsOf r⟩
  | _ => zeroM
/-- what Decode reads -/
def mdO (l : List Nat) : Option Mf := if whE l 4 = 0 ∧ nbB (decB l) = true ∧ mvB (mdC l) = true then some (mdC l) else none
def mdM (l : List Nat) : Mf := (mdO l).getD zeroM
def mdE (l : List Nat) : Nat := if (mdO l).isSome then 0 else 80
theorem md_none {l : List Nat} (h : ¬ (whE l 4 = 0 ∧ nbB (decB l) = true ∧ mvB (mdC l) = true)) : mdM l = zeroM ∧ mdE l = 80 := by
  unfold mdM mdE
  rw [show mdO l = none from if_neg h]
  exact ⟨rfl, rfl⟩
theorem md_some {l : List Nat} (h : whE l 4 = 0 ∧ nbB (decB l) = true ∧ mvB (mdC l) = true) : mdM l = mdC l ∧ mdE l = 0 := by
  unfold mdM mdE
  rw [show mdO l = some (mdC l) from if_pos h]
  exact ⟨rfl, rfl⟩
end Go.Proofs.YtnfkdgjgglnniaaDoor
namespace Go.Proofs.YtnfkdgjgglnniaaDoor
open Go.ChangeShapes Go.WideShapes Go.ChangeAt Go.RowKit Go.Shelf
set_option linter.unusedVariables false
theorem MfAt.grow {w w' : World} {b k : Nat} {m : Mf} {v : Value} (h : MfAt w b m v) (hh : ∀ j, j ≠ k → w'.heap[j]? = w.heap[j]?) (hk : b ≠ k) : MfAt w' b m v := (hh b hk).trans h
set_option maxRecDepth 20000 in
set_option maxHeartbeats 2000000 in
theorem mdec_bad1 (l : List Nat) (n : Nat) (a : Option Addr) (cap : Nat) (w : World) (hn : l.length = n) (hb : Bytes w a l) (hcap : n ≤ cap) (hl : n ≤ 140737488351232) (ht : Tab w) (hE : whE l 4 ≠ 0) :
    Calls Tryd.prog 15 #[.slice a n cap] w fun e w' => e = .returned (.tuple #[MfV zeroM (.slice none 0 0), .int .i64 80]) ∧ Below w.heap.size w w' := by
  have HX : Hid (l.length = n ∧ Bytes w a l ∧ l.length ≤ cap ∧ l.length ≤ 281474976710656 ∧ Tab w) := ⟨hn, hb, by omega, by omega, ht⟩
  have HM0 : Hid (MfAt (w.alloc (.cells (mfA zeroM (.slice none 0 0)) 24)) w.heap.size zeroM (.slice none 0 0)) := MfAt.new w zeroM _
  have HB0 : Hid (Below w.heap.size w (w.alloc (.cells (mfA zeroM (.slice none 0 0)) 24))) := (Below.refl _ _).alloc (Nat.le_refl _) _
  obtain ⟨E, hEE⟩ : ∃ E, whE l 4 = E := ⟨_, rfl⟩
  have HWV : Hid (∀ v, WV l 4 v = .tuple #[FrV 0 0 v, .int .i64 (E : Int)] ∧ whB l 4 = []) := fun v => wv_bad l 4 v E hEE (by rw [← hEE]; exact hE)
  have hEb : ((E : Int) != 0) = true := by simp; rw [← hEE]; exact hE
  have T1 : Hid True := trivial
  clear hn hb hcap hl ht hE hEE
  go_enter Tryd.func15, Tryd.ntmps15
  go_wp2_with (first
    | (go_at_call 34; refine (fwhole_any l 4 n a cap _ HX.out.1 (HX.out.2.1.keep HB0.out) HX.out.2.2.2.1 HX.out.2.2.1 (HX.out.2.2.2.2.keep HB0.out)).mono ?_; rintro _ w1 ⟨v1, rfl, ho1, hb1⟩; rw [(HWV.out v1).1]; rw [(HWV.out v1).2] at ho1; obtain ⟨a1, c1, hv1, _⟩ := ho1.shape; subst hv1; have HM1 : Hid (MfAt w1 w.heap.size zeroM (.slice none 0 0)) := HM0.out.after hb1; have HB1 : Hid (Below w.heap.size w w1) := below_next HB0.out hb1; have HL1 : Hid (w.heap.size < w1.heap.size) := HM1.out.lt; clear ho1 hb1)
    | ((with_reducible refine frm_store 70 ?_); clear T1; refine wpList_store_frm rfl _ _ rfl rfl (FrmAt.new w1 0 0 (.slice none 0 0)) rfl rfl rfl ?_; intro w2 hf2 ho2 hh2 hs2; have HB2 : Hid (Below w.heap.size w w2) := below_one (HB1.out.alloc HB1.out.size _) ho2 hh2 hs2 HB1.out.size; have HM2 : Hid (MfAt w2 w.heap.size zeroM (.slice none 0 0)) := (hh2 _ (by have := HL1.out; omega)).trans (HM1.out.after ((Below.refl _ _).alloc (Nat.le_refl _) _)); clear hf2 ho2 hh2 hs2)
    | ((with_reducible refine frm_store 24 ?_); refine wpList_store_mf rfl _ _ rfl rfl HM2.out rfl (m2 := zeroM) (a2 := none) (n2 := 0) (c2 := 0) rfl ?_; intro w3 hf3 ho3 hh3 hs3; have HM3 : Hid (MfAt w3 w.heap.size zeroM (.slice none 0 0)) := hf3; have HB3 : Hid (Below w.heap.size w w3) := ho3 _ _ HB2.out (Nat.le_refl _); clear hf3 ho3 hh3 hs3))
  (try simp only [Exit.inBlock, Exit.then])
  exact bodyPost_ret (results_mf2 rfl _ _ w.heap.size _ rfl rfl HM3.out) rfl ⟨rfl, HB3.out⟩
set_option maxRecDepth 20000 in
set_option maxHeartbeats 2000000 in
theorem mdec_bad2 (l : List Nat) (n : Nat) (a : Option Addr) (cap : Nat) (w : World) (hn : l.length = n) (hb : Bytes w a l) (hcap : n ≤ cap) (hl : n ≤ 140737488351232) (ht : Tab w) (hE : whE l 4 = 0) (hN : nbB (decB l) = false) :
    Calls Tryd.prog 15 #[.slice a n cap] w fun e w' => e = .returned (.tuple #[MfV zeroM (.slice none 0 0), .int .i64 80]) ∧ Below w.heap.size w w' := by
  have HX : Hid (l.length = n ∧ Bytes w a l ∧ l.length ≤ cap ∧ l.length ≤ 281474976710656 ∧ Tab w) := ⟨hn, hb, by omega, by omega, ht⟩
  have HM0 : Hid (MfAt (w.alloc (.cells (mfA zeroM (.slice none 0 0)) 24)) w.heap.size zeroM (.slice none 0 0)) := MfAt.new w zeroM _
  have HB0 : Hid (Below w.heap.size w (w.alloc (.cells (mfA zeroM (.slice none 0 0)) 24))) := (Below.refl _ _).alloc (Nat.le_refl _) _
  have HWV : Hid (∀ v, WV l 4 v = .tuple #[FrV (pk l : Int) (ps l : Int) v, .int .i64 0] ∧ whB l 4 = decB l) := fun v => wv_good l 4 v hE
  obtain ⟨K, hK⟩ : ∃ K, pk l = K := ⟨_, rfl⟩
  obtain ⟨S, hS⟩ : ∃ S, ps l = S := ⟨_, rfl⟩
  rw [hK, hS] at HWV
  obtain ⟨B, hB⟩ : ∃ B, (decB l).length = B := ⟨_, rfl⟩
  have hBl : B ≤ n := by rw [← hB, ← hn]; unfold decB; split <;> simp; omega
  have HBL : Hid ((decB l).length = B ∧ B ≤ 140737488351232) := ⟨hB, by omega⟩
  have HNB : Hid (nbB (decB l) = false) := hN
  have T1 : Hid True := trivial
  clear hn hb hcap hl ht hE hK hS hB hN hBl
  go_enter Tryd.func15, Tryd.ntmps15
  go_wp2_with (first
    | (go_at_call 34; refine (fwhole_any l 4 n a cap _ HX.out.1 (HX.out.2.1.keep HB0.out) HX.out.2.2.2.1 HX.out.2.2.1 (HX.out.2.2.2.2.keep HB0.out)).mono ?_; rintro _ w1 ⟨v1, rfl, ho1, hb1⟩; rw [(HWV.out v1).1]; rw [(HWV.out v1).2] at ho1; obtain ⟨a1, c1, hv1, hc1, _, hy1, _⟩ := ho1.shape; rw [HBL.out.1] at hv1 hc1; subst hv1; have HY1 : Hid (Bytes w1 a1 (decB l) ∧ B ≤ c1) := ⟨hy1, hc1⟩; have HM1 : Hid (MfAt w1 w.heap.size zeroM (.slice none 0 0)) := HM0.out.after hb1; have HB1 : Hid (Below w.heap.size w w1) := below_next HB0.out hb1; have HL1 : Hid (w.heap.size < w1.heap.size) := HM1.out.lt; clear ho1 hb1 hy1 hc1)
    | ((with_reducible refine frm_store 70 ?_); clear T1; refine wpList_store_frm rfl _ _ rfl rfl (FrmAt.new w1 0 0 (.slice none 0 0)) rfl rfl rfl ?_; intro w2 hf2 ho2 hh2 hs2; have HB2 : Hid (Below w.heap.size w w2) := below_one (HB1.out.alloc HB1.out.size _) ho2 hh2 hs2 HB1.out.size; have HM2 : Hid (MfAt w2 w.heap.size zeroM (.slice none 0 0)) := (hh2 _ (by have := HL1.out; omega)).trans (HM1.out.after ((Below.refl _ _).alloc (Nat.le_refl _) _)); have HY2 : Hid (Bytes w2 a1 (decB l)) := HY1.out.1.keep (below_one ((Below.refl _ _).alloc (Nat.le_refl _) _) ho2 hh2 hs2 (Nat.le_refl _)); obtain ⟨x0, x1, x2⟩ := hf2.cells; have hl2 : w1.heap.size < w2.heap.size := lt_of_heap hf2; clear hf2 ho2 hh2 hs2)
    | (go_at_call 35; refine (numbers_any (decB l) B a1 c1 _ HBL.out.1 HY2.out HY1.out.2 HBL.out.2).mono ?_; rw [HNB.out]; rintro _ w3 ⟨v3, rfl, ho3, hb3⟩; have HM3 : Hid (MfAt w3 w.heap.size zeroM (.slice none 0 0)) := HM2.out.after hb3; have HB3 : Hid (Below w.heap.size w w3) := below_next HB2.out hb3; clear ho3 hb3)
    | ((with_reducible refine frm_store 24 ?_); refine wpList_store_mf rfl _ _ rfl rfl HM3.out rfl (m2 := zeroM) (a2 := none) (n2 := 0) (c2 := 0) rfl ?_; intro w4 hf4 ho4 hh4 hs4; have HM4 : Hid (MfAt w4 w.heap.size zeroM (.slice none 0 0)) := hf4; have HB4 : Hid (Below w.heap.size w w4) := ho4 _ _ HB3.out (Nat.le_refl _); clear hf4 ho4 hh4 hs4))
  (try simp only [Exit.inBlock, Exit.then])
  exact bodyPost_ret (results_mf2 rfl _ _ w.heap.size _ rfl rfl HM4.out) rfl ⟨rfl, HB4.out⟩
end Go.Proofs.YtnfkdgjgglnniaaDoor
