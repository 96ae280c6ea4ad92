/- manifest: Decode. -/
import Derived.Test.YtoneaannbmkeiaaDoorMf5
import Derived.BigRegionIn
namespace Go.Proofs.YtoneaannbmkeiaaDoor
open Go.ChangeShapes Go.WideShapes Go.ChangeAt Go.RowKit Go.Shelf
set_option linter.unusedVariables false
theorem MfAt.grow {w w' : World} {b k : Nat} {m : Mf} {v : Value} (h : MfAt w b m v) (hh : ∀ j, j ≠ k → w'.heap[j]? = w.heap[j]?) (hk : b ≠ k) : MfAt w' b m v := (hh b hk).trans h
set_option maxRecDepth 20000 in
set_option maxHeartbeats 2000000 in
theorem mdec_bad1 (l : List Nat) (n : Nat) (a : Option Addr) (cap : Nat) (w : World) (hn : l.length = n) (hb : Bytes w a l) (hcap : n ≤ cap) (hl : n ≤ 140737488351232) (ht : Tab w) (hE : whE l 4 ≠ 0) :
    Calls Tryd.prog 16 #[.slice a n cap] w fun e w' => e = .returned (.tuple #[MfV zeroM (.slice none 0 0), .int .i64 80]) ∧ Below w.heap.size w w' := by
  have HX : Hid (l.length = n ∧ Bytes w a l ∧ l.length ≤ cap ∧ l.length ≤ 281474976710656 ∧ Tab w) := ⟨hn, hb, by omega, by omega, ht⟩
  have HM0 : Hid (MfAt (w.alloc (.cells (mfA zeroM (.slice none 0 0)) 24)) w.heap.size zeroM (.slice none 0 0)) := MfAt.new w zeroM _
  have HB0 : Hid (Below w.heap.size w (w.alloc (.cells (mfA zeroM (.slice none 0 0)) 24))) := (Below.refl _ _).alloc (Nat.le_refl _) _
  obtain ⟨E, hEE⟩ : ∃ E, whE l 4 = E := ⟨_, rfl⟩
  have HWV : Hid (∀ v, WV l 4 v = .tuple #[FrV 0 0 v, .int .i64 (E : Int)] ∧ whB l 4 = []) := fun v => wv_bad l 4 v E hEE (by rw [← hEE]; exact hE)
  have hEb : ((E : Int) != 0) = true := by simp; rw [← hEE]; exact hE
  have T1 : Hid True := trivial
  clear hn hb hcap hl ht hE hEE
  go_enter Tryd.func16, Tryd.ntmps16
  go_wp2_with (first
    | (go_at_call 27; refine (fwhole_any l 4 n a cap _ HX.out.1 (HX.out.2.1.keep HB0.out) HX.out.2.2.2.1 HX.out.2.2.1 (HX.out.2.2.2.2.keep HB0.out)).mono ?_; rintro _ w1 ⟨v1, rfl, ho1, hb1⟩; rw [(HWV.out v1).1]; rw [(HWV.out v1).2] at ho1; obtain ⟨a1, c1, hv1, _⟩ := ho1.shape; subst hv1; have HM1 : Hid (MfAt w1 w.heap.size zeroM (.slice none 0 0)) := HM0.out.after hb1; have HB1 : Hid (Below w.heap.size w w1) := below_next HB0.out hb1; have HL1 : Hid (w.heap.size < w1.heap.size) := HM1.out.lt; clear ho1 hb1)
    | ((with_reducible refine frm_store 52 ?_); clear T1; refine wpList_store_frm rfl _ _ rfl rfl (FrmAt.new w1 0 0 (.slice none 0 0)) rfl rfl rfl ?_; intro w2 hf2 ho2 hh2 hs2; have HB2 : Hid (Below w.heap.size w w2) := below_one (HB1.out.alloc HB1.out.size _) ho2 hh2 hs2 HB1.out.size; have HM2 : Hid (MfAt w2 w.heap.size zeroM (.slice none 0 0)) := (hh2 _ (by have := HL1.out; omega)).trans (HM1.out.after ((Below.refl _ _).alloc (Nat.le_refl _) _)); clear hf2 ho2 hh2 hs2)
    | ((with_reducible refine frm_store 24 ?_); refine wpList_store_mf rfl _ _ rfl rfl HM2.out rfl (m2 := zeroM) (a2 := none) (n2 := 0) (c2 := 0) rfl ?_; intro w3 hf3 ho3 hh3 hs3; have HM3 : Hid (MfAt w3 w.heap.size zeroM (.slice none 0 0)) := hf3; have HB3 : Hid (Below w.heap.size w w3) := ho3 _ _ HB2.out (Nat.le_refl _); clear hf3 ho3 hh3 hs3))
  (try simp only [Exit.inBlock, Exit.then])
  exact bodyPost_ret (results_mf2 rfl _ _ w.heap.size _ rfl rfl HM3.out) rfl ⟨rfl, HB3.out⟩
set_option maxRecDepth 20000 in
set_option maxHeartbeats 2000000 in
theorem mdec_bad2 (l : List Nat) (n : Nat) (a : Option Addr) (cap : Nat) (w : World) (hn : l.length = n) (hb : Bytes w a l) (hcap : n ≤ cap) (hl : n ≤ 140737488351232) (ht : Tab w) (hE : whE l 4 = 0) (hN : nbB (decB l) = false) :
    Calls Tryd.prog 16 #[.slice a n cap] w fun e w' => e = .returned (.tuple #[MfV zeroM (.slice none 0 0), .int .i64 80]) ∧ Below w.heap.size w w' := by
  have HX : Hid (l.length = n ∧ Bytes w a l ∧ l.length ≤ cap ∧ l.length ≤ 281474976710656 ∧ Tab w) := ⟨hn, hb, by omega, by omega, ht⟩
  have HM0 : Hid (MfAt (w.alloc (.cells (mfA zeroM (.slice none 0 0)) 24)) w.heap.size zeroM (.slice none 0 0)) := MfAt.new w zeroM _
  have HB0 : Hid (Below w.heap.size w (w.alloc (.cells (mfA zeroM (.slice none 0 0)) 24))) := (Below.refl _ _).alloc (Nat.le_refl _) _
  have HWV : Hid (∀ v, WV l 4 v = .tuple #[FrV (pk l : Int) (ps l : Int) v, .int .i64 0] ∧ whB l 4 = decB l) := fun v => wv_good l 4 v hE
  obtain ⟨K, hK⟩ : ∃ K, pk l = K := ⟨_, rfl⟩
  obtain ⟨S, hS⟩ : ∃ S, ps l = S := ⟨_, rfl⟩
  rw [hK, hS] at HWV
  obtain ⟨B, hB⟩ : ∃ B, (decB l).length = B := ⟨_, rfl⟩
  have hBl : B ≤ n := by rw [← hB, ← hn]; unfold decB; split <;> simp; omega
  have HBL : Hid ((decB l).length = B ∧ B ≤ 140737488351232) := ⟨hB, by omega⟩
  have HNB : Hid (nbB (decB l) = false) := hN
  have T1 : Hid True := trivial
  clear hn hb hcap hl ht hE hK hS hB hN hBl
  go_enter Tryd.func16, Tryd.ntmps16
  go_wp2_with (first
    | (go_at_call 27; refine (fwhole_any l 4 n a cap _ HX.out.1 (HX.out.2.1.keep HB0.out) HX.out.2.2.2.1 HX.out.2.2.1 (HX.out.2.2.2.2.keep HB0.out)).mono ?_; rintro _ w1 ⟨v1, rfl, ho1, hb1⟩; rw [(HWV.out v1).1]; rw [(HWV.out v1).2] at ho1; obtain ⟨a1, c1, hv1, hc1, _, hy1, _⟩ := ho1.shape; rw [HBL.out.1] at hv1 hc1; subst hv1; have HY1 : Hid (Bytes w1 a1 (decB l) ∧ B ≤ c1) := ⟨hy1, hc1⟩; have HM1 : Hid (MfAt w1 w.heap.size zeroM (.slice none 0 0)) := HM0.out.after hb1; have HB1 : Hid (Below w.heap.size w w1) := below_next HB0.out hb1; have HL1 : Hid (w.heap.size < w1.heap.size) := HM1.out.lt; clear ho1 hb1 hy1 hc1)
    | ((with_reducible refine frm_store 52 ?_); clear T1; refine wpList_store_frm rfl _ _ rfl rfl (FrmAt.new w1 0 0 (.slice none 0 0)) rfl rfl rfl ?_; intro w2 hf2 ho2 hh2 hs2; have HB2 : Hid (Below w.heap.size w w2) := below_one (HB1.out.alloc HB1.out.size _) ho2 hh2 hs2 HB1.out.size; have HM2 : Hid (MfAt w2 w.heap.size zeroM (.slice none 0 0)) := (hh2 _ (by have := HL1.out; omega)).trans (HM1.out.after ((Below.refl _ _).alloc (Nat.le_refl _) _)); have HY2 : Hid (Bytes w2 a1 (decB l)) := HY1.out.1.keep (below_one ((Below.refl _ _).alloc (Nat.le_refl _) _) ho2 hh2 hs2 (Nat.le_refl _)); obtain ⟨x0, x1, x2⟩ := hf2.cells; have hl2 : w1.heap.size < w2.heap.size := lt_of_heap hf2; clear hf2 ho2 hh2 hs2)
    | (go_at_call 28; refine (numbers_any (decB l) B a1 c1 _ HBL.out.1 HY2.out HY1.out.2 HBL.out.2).mono ?_; rw [HNB.out]; rintro _ w3 ⟨v3, rfl, ho3, hb3⟩; have HM3 : Hid (MfAt w3 w.heap.size zeroM (.slice none 0 0)) := HM2.out.after hb3; have HB3 : Hid (Below w.heap.size w w3) := below_next HB2.out hb3; clear ho3 hb3)
    | ((with_reducible refine frm_store 24 ?_); refine wpList_store_mf rfl _ _ rfl rfl HM3.out rfl (m2 := zeroM) (a2 := none) (n2 := 0) (c2 := 0) rfl ?_; intro w4 hf4 ho4 hh4 hs4; have HM4 : Hid (MfAt w4 w.heap.size zeroM (.slice none 0 0)) := hf4; have HB4 : Hid (Below w.heap.size w w4) := ho4 _ _ HB3.out (Nat.le_refl _); clear hf4 ho4 hh4 hs4))
  (try simp only [Exit.inBlock, Exit.then])
  exact bodyPost_ret (results_mf2 rfl _ _ w.heap.size _ rfl rfl HM4.out) rfl ⟨rfl, HB4.out⟩
end Go.Proofs.YtoneaannbmkeiaaDoor
