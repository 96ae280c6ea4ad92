/- For every three texts: the sums of their beginnings of one length make the sum of the three laid over each other. No condition. -/
import Derived.Test.YtenekcnccmghhadDoorCrcTie
import Derived.Test.YtenekcnccmghhadDoorHead03
import Derived.Test.YtenekcnccmghhadDoorCopy
import Derived.SizedLaws
import Derived.ChangeOld
import Derived.Deep.QuietTactic
import Derived.BigQuiet
import Derived.Deep.RegionHeld
namespace Go.Proofs.YtenekcnccmghhadDoor.crcLinear
open Go.ChangeShapes Go.WideShapes Go.ChangeAt Go.RowKit
set_option linter.unusedVariables false
def zx (l m : List Nat) : List Nat := List.zipWith (fun x y => x ^^^ y) l m
theorem zx_lt (l m : List Nat) (hl : ∀ x ∈ l, x < 256) (hm : ∀ x ∈ m, x < 256) : ∀ x ∈ zx l m, x < 256 := by
  induction l generalizing m with
  | nil => intro x hx; simp [zx] at hx
  | cons a l ih =>
    cases m with
    | nil => intro x hx; simp [zx] at hx
    | cons b m =>
      intro x hx
      rcases List.mem_cons.1 hx with rfl | hx
      · exact Nat.xor_lt_two_pow (n := 8) (hl a (by simp)) (hm b (by simp))
      · exact ih m (fun y hy => hl y (by simp [hy])) (fun y hy => hm y (by simp [hy])) x hx
theorem zx_length (l m : List Nat) (h : l.length = m.length) : (zx l m).length = l.length := by simp [zx, h]
theorem zx_get (l m : List Nat) (k : Nat) (h1 : k < l.length) (h2 : k < m.length) : (zx l m).getD k 0 = l.getD k 0 ^^^ m.getD k 0 := by
  simp only [zx, List.getD_eq_getElem?_getD, List.getElem?_eq_getElem h1, List.getElem?_eq_getElem h2]
  rw [List.getElem?_eq_getElem (by rw [List.length_zipWith]; omega)]
  simp
theorem two_pow_mul_xor (n a b : Nat) : 2 ^ n * (a ^^^ b) = 2 ^ n * a ^^^ 2 ^ n * b := by
  apply Nat.eq_of_testBit_eq
  intro i
  rw [Nat.testBit_xor, Nat.testBit_two_pow_mul, Nat.testBit_two_pow_mul, Nat.testBit_two_pow_mul, Nat.testBit_xor]
  cases (decide (i ≥ n)) <;> simp
theorem val_zx (l m : List Nat) (hl : ∀ x ∈ l, x < 256) (hm : ∀ x ∈ m, x < 256) (h : l.length = m.length) : Crcm.val (zx l m) = Crcm.val l ^^^ Crcm.val m := by
  induction l generalizing m with
  | nil => cases m <;> simp_all [zx, Crcm.val]
  | cons a l ih =>
    cases m with
    | nil => simp at h
    | cons b m =>
      have ha : a < 2 ^ 8 := hl a (by simp)
      have hb : b < 2 ^ 8 := hm b (by simp)
      have ih' := ih m (fun y hy => hl y (by simp [hy])) (fun y hy => hm y (by simp [hy])) (by simpa using h)
      show (a ^^^ b) + 2 ^ 8 * Crcm.val (zx l m) = (a + 2 ^ 8 * Crcm.val l) ^^^ (b + 2 ^ 8 * Crcm.val m)
      rw [ih', Crcm.add_eq_xor 8 _ _ (Nat.xor_lt_two_pow ha hb), Crcm.add_eq_xor 8 _ _ ha, Crcm.add_eq_xor 8 _ _ hb, two_pow_mul_xor]
      apply Nat.eq_of_testBit_eq
      intro i
      simp only [Nat.testBit_xor]
      cases a.testBit i <;> cases b.testBit i <;> cases (2 ^ 8 * Crcm.val l).testBit i <;> cases (2 ^ 8 * Crcm.val m).testBit i <;> rfl
theorem sum_val (l : List Nat) (hl : ∀ x ∈ l, x < 256) : Crcm.sum l = Crcm.shN (8 * l.length) Crcm.ones ^^^ Crcm.shN (8 * l.length) (Crcm.val l) ^^^ Crcm.ones := by
  show Crcm.upd (0 ^^^ Crcm.ones) l ^^^ Crcm.ones = _
  rw [Nat.zero_xor, Crcm.upd_val _ l hl, Crcm.shN_xor]
theorem linear3 (a b c : List Nat) (ha : ∀ x ∈ a, x < 256) (hb : ∀ x ∈ b, x < 256) (hc : ∀ x ∈ c, x < 256) (h1 : a.length = b.length) (h2 : b.length = c.length) :
    Crcm.sum (zx (zx a b) c) = Crcm.sum a ^^^ Crcm.sum b ^^^ Crcm.sum c := by
  have hab := zx_lt a b ha hb
  have hl1 : (zx a b).length = c.length := by rw [zx_length a b h1]; omega
  rw [sum_val _ (zx_lt _ c hab hc), sum_val a ha, sum_val b hb, sum_val c hc, zx_length _ c hl1, val_zx _ c hab hc hl1, val_zx a b ha hb h1, hl1, h1, h2, Crcm.shN_xor, Crcm.shN_xor]
  apply Nat.eq_of_testBit_eq
  intro i
  simp only [Nat.testBit_xor]
  cases (Crcm.shN (8 * c.length) Crcm.ones).testBit i <;> cases (Crcm.shN (8 * c.length) (Crcm.val a)).testBit i <;> cases (Crcm.shN (8 * c.length) (Crcm.val b)).testBit i <;> cases (Crcm.shN (8 * c.length) (Crcm.val c)).testBit i <;> cases Crcm.ones.testBit i <;> rfl
theorem sum_q (l : List Nat) (n : Nat) (a : Option Addr) (cap : Nat) (w : World) (hn : l.length = n) (hb : Bytes w a l) (hl : l.length ≤ maxLen) (ht : Tab w) :
    Calls Tryd.prog 10 #[.slice a n cap] w fun e w' => e = .returned (.int .u32 (Crcm.sum l : Nat)) ∧ w' = w :=
  (sum_any l n a cap w hn hb hl ht).mono fun _ _ h => ⟨h.1, h.2.symm⟩
theorem sum_none : Crcm.sum [] = 0 := by decide
set_option maxRecDepth 20000 in
set_option maxHeartbeats 2000000 in
theorem walk (la : List Nat) (a : Option Addr) (capa : Nat) (lb : List Nat) (b : Option Addr) (capb : Nat) (lc : List Nat) (c : Option Addr) (capc : Nat) (w : World) (ha : Bytes w a la) (ca : Came w a la.length capa 1) (hb : Bytes w b lb) (cb : Came w b lb.length capb 1) (hc : Bytes w c lc) (cc : Came w c lc.length capc 1) (ht : Tab w) :
    Calls Tryd.prog 4 #[.slice a la.length capa, .slice b lb.length capb, .slice c lc.length capc] w fun e w' => e = .returned (.bool true) ∧ Below w.heap.size w w' := by
  obtain ⟨i0, hi, hz0, hz1, hz2⟩ := info_parts Tryd.info5c
  obtain ⟨fa, ra, na⟩ := ca
  obtain ⟨fb, rb, nb⟩ := cb
  obtain ⟨fc, rc, nc⟩ := cc
  have HT : Hid (Tab w) := ht
  have HA : Hid (Bytes w a la) := ha
  have HB : Hid (Bytes w b lb) := hb
  have HC : Hid (Bytes w c lc) := hc
  have hs0 : la.length ≤ 140737488351232 ∧ lb.length ≤ 140737488351232 ∧ lc.length ≤ 140737488351232 := by omega
  obtain ⟨na', hla⟩ : ∃ na', la.length = na' := ⟨_, rfl⟩
  obtain ⟨nb', hlb⟩ : ∃ nb', lb.length = nb' := ⟨_, rfl⟩
  obtain ⟨nc', hlc⟩ : ∃ nc', lc.length = nc' := ⟨_, rfl⟩
  rw [hla] at fa
  rw [hlb] at fb
  rw [hlc] at fc
  rw [hla, hlb, hlc] at hs0 ⊢
  obtain ⟨sa, sb, sc⟩ := hs0
  have HLA : Hid (la.length = na') := hla
  have HLB : Hid (lb.length = nb') := hlb
  have HLC : Hid (lc.length = nc') := hlc
  clear ht hla hlb hlc ha hb hc na nb nc
  have h4 : (na' ≤ nb' ∧ na' ≤ nc') ∨ (nb' < na' ∧ nb' ≤ nc') ∨ (na' ≤ nb' ∧ nc' < na') ∨ (nb' < na' ∧ nc' < nb') := by omega
  rcases h4 with ⟨h1, h2⟩ | ⟨h1, h2⟩ | ⟨h1, h2⟩ | ⟨h1, h2⟩
  case' inl =>
    have HNA : Hid (na' ≤ la.length) := by show _ ≤ _; rw [HLA.out]; omega
    have HNB : Hid (na' ≤ lb.length) := by show _ ≤ _; rw [HLB.out]; omega
    have HNC : Hid (na' ≤ lc.length) := by show _ ≤ _; rw [HLC.out]; omega
    have hq1 : na' ≤ capa := by omega
    have hq2 : na' ≤ capb := by omega
    have hq3 : na' ≤ capc := by omega
    have hq4 : na' ≤ na' := by omega
    have hq5 : na' ≤ nb' := by omega
    have hq6 : na' ≤ nc' := by omega
    have hl3 : na' ≤ maxLen := by unfold maxLen; omega
    have hl4 : na' ≤ 140737488351232 := by omega
    generalize na' = n at *
  case' inr.inl =>
    have HNA : Hid (nb' ≤ la.length) := by show _ ≤ _; rw [HLA.out]; omega
    have HNB : Hid (nb' ≤ lb.length) := by show _ ≤ _; rw [HLB.out]; omega
    have HNC : Hid (nb' ≤ lc.length) := by show _ ≤ _; rw [HLC.out]; omega
    have hq1 : nb' ≤ capa := by omega
    have hq2 : nb' ≤ capb := by omega
    have hq3 : nb' ≤ capc := by omega
    have hq4 : nb' ≤ na' := by omega
    have hq5 : nb' ≤ nb' := by omega
    have hq6 : nb' ≤ nc' := by omega
    have hl3 : nb' ≤ maxLen := by unfold maxLen; omega
    have hl4 : nb' ≤ 140737488351232 := by omega
    generalize nb' = n at *
  case' inr.inr.inl =>
    have HNA : Hid (nc' ≤ la.length) := by show _ ≤ _; rw [HLA.out]; omega
    have HNB : Hid (nc' ≤ lb.length) := by show _ ≤ _; rw [HLB.out]; omega
    have HNC : Hid (nc' ≤ lc.length) := by show _ ≤ _; rw [HLC.out]; omega
    have hq1 : nc' ≤ capa := by omega
    have hq2 : nc' ≤ capb := by omega
    have hq3 : nc' ≤ capc := by omega
    have hq4 : nc' ≤ na' := by omega
    have hq5 : nc' ≤ nb' := by omega
    have hq6 : nc' ≤ nc' := by omega
    have hl3 : nc' ≤ maxLen := by unfold maxLen; omega
    have hl4 : nc' ≤ 140737488351232 := by omega
    generalize nc' = n at *
  case' inr.inr.inr =>
    have HNA : Hid (nc' ≤ la.length) := by show _ ≤ _; rw [HLA.out]; omega
    have HNB : Hid (nc' ≤ lb.length) := by show _ ≤ _; rw [HLB.out]; omega
    have HNC : Hid (nc' ≤ lc.length) := by show _ ≤ _; rw [HLC.out]; omega
    have hq1 : nc' ≤ capa := by omega
    have hq2 : nc' ≤ capb := by omega
    have hq3 : nc' ≤ capc := by omega
    have hq4 : nc' ≤ na' := by omega
    have hq5 : nc' ≤ nb' := by omega
    have hq6 : nc' ≤ nc' := by omega
    have hl3 : nc' ≤ maxLen := by unfold maxLen; omega
    have hl4 : nc' ≤ 140737488351232 := by omega
    generalize nc' = n at *
  all_goals
    have TA : Hid ((la.take n).length = n) := by show _ = _; rw [List.length_take]; have := HNA.out; omega
    have TB : Hid ((lb.take n).length = n) := by show _ = _; rw [List.length_take]; have := HNB.out; omega
    have TC : Hid ((lc.take n).length = n) := by show _ = _; rw [List.length_take]; have := HNC.out; omega
    have TM : Hid ((la.take n).length ≤ maxLen ∧ (lb.take n).length ≤ maxLen ∧ (lc.take n).length ≤ maxLen) := by
      show _ ∧ _
      rw [TA.out, TB.out, TC.out]
      exact ⟨hl3, hl3, hl3⟩
    obtain ⟨X, hX⟩ : ∃ X, X = zx (zx (la.take n) (lb.take n)) (lc.take n) := ⟨_, rfl⟩
    have hXn : X.length = n := by rw [hX, zx_length _ _ (by rw [zx_length _ _ (by rw [TA.out, TB.out]), TA.out, TC.out]), zx_length _ _ (by rw [TA.out, TB.out]), TA.out]
    have HXM : Hid (∀ x ∈ X, x < 256) := by
      show ∀ x ∈ X, x < 256
      rw [hX]
      exact zx_lt _ _ (zx_lt _ _ (HA.out.take n).mem (HB.out.take n).mem) (HC.out.take n).mem
    have HXS : Hid (Crcm.sum X = Crcm.sum (la.take n) ^^^ Crcm.sum (lb.take n) ^^^ Crcm.sum (lc.take n)) := by
      show _ = _
      rw [hX]
      exact linear3 _ _ _ (HA.out.take n).mem (HB.out.take n).mem (HC.out.take n).mem (by rw [TA.out, TB.out]) (by rw [TB.out, TC.out])
    have HXG : Hid (∀ k, k < n → X.getD k 0 = la.getD k 0 ^^^ lb.getD k 0 ^^^ lc.getD k 0) := by
      show ∀ k, _ → _
      intro k hk
      rw [hX, zx_get _ _ k (by rw [zx_length _ _ (by rw [TA.out, TB.out]), TA.out]; exact hk) (by rw [TC.out]; exact hk), zx_get _ _ k (by rw [TA.out]; exact hk) (by rw [TB.out]; exact hk)]
      simp only [List.getD_eq_getElem?_getD, List.getElem?_take, if_pos hk]
    have HXN : Hid (X.length = n) := hXn
    clear hX hXn
    go_enter Tryd.func4, Tryd.ntmps4
    go_wp2_with (first
      | (go_at_call 8; refine (head03_any w HT.out).mono ?_; rintro e w1 ⟨rfl, hb1⟩)
      | (at_make; refine wpList_make_full _ rfl _ _ 26 rfl w1.heap.size 5 i0 (.int .u8 0) 1 Tryd.underlying26 hi hz0 hz1 _ _ _ _ n rfl rfl rfl rfl (by rw [hz2]; omega) hl3 (Nat.le_refl _) ?_))
    intro w2 ho hg
    have hb2 : Below w1.heap.size w1 w2 := (Below.refl _ _).grown hg (Nat.le_refl _) (fun k hk => by cases hk)
    clear hg
    have hbw2 : Below w.heap.size w w2 := hb1.trans (hb2.mono hb1.size)
    have ho1 : w2.ownsRow w1.heap.size 5 1 (.slice (some ⟨w1.heap.size, 0, none⟩) n n) n (B8 (X.take 0) ++ List.replicate (n - 0) (Value.int .u8 0)) := by
      have h := ho
      rw [toList_madeCells_one] at h
      simpa [B8] using h
    have hsw : w.heap.size ≤ w1.heap.size := hb1.size
    clear ho
    go_wp2
    go_loopw [9, 23] (fun vi i wr => ∃ k : Nat, k ≤ n ∧ i = .int .i64 k ∧ wr.ownsRow w1.heap.size 5 1 (.slice (some ⟨w1.heap.size, 0, none⟩) n n) n (B8 (X.take k) ++ List.replicate (n - k) (Value.int .u8 0)) ∧ Below w1.heap.size w1 wr) (fun _ i _ => n - (intOf i).toNat)
    case atStart => exact ⟨0, Nat.zero_le _, rfl, ho1, hb2⟩
    case round =>
      obtain ⟨k, hk, rfl, ho, hbe⟩ := hrel
      clear ho1 hb2 hbw2
      by_cases hkl : k < n
      · obtain ⟨ba, oa, rfl, hlta, hca⟩ := (HA.out.keep hb1).nonempty (by intro h; have := HNA.out; rw [h] at this; simp at this; omega)
        obtain ⟨bb, ob, rfl, hltb, hcb⟩ := (HB.out.keep hb1).nonempty (by intro h; have := HNB.out; rw [h] at this; simp at this; omega)
        obtain ⟨bc, oc, rfl, hltc, hcc⟩ := (HC.out.keep hb1).nonempty (by intro h; have := HNC.out; rw [h] at this; simp at this; omega)
        have e1 := hca k (by have := HNA.out; omega)
        have e2 := hcb k (by have := HNB.out; omega)
        have e3 := hcc k (by have := HNC.out; omega)
        rw [← hbe.cell (p := ⟨ba, oa + k, none⟩) hlta] at e1
        rw [← hbe.cell (p := ⟨bb, ob + k, none⟩) hltb] at e2
        rw [← hbe.cell (p := ⟨bc, oc + k, none⟩) hltc] at e3
        have hst := ho.stored k (.int .u8 (X.getD k 0 : Nat))
        rw [copy_step X k n HXN.out.symm (by rw [HXN.out]; exact hkl)] at hst
        have e4 := ho.cellAt k (by omega)
        have e5 := ho.frozenAt k
        obtain ⟨z0, hz⟩ : ∃ z, wr.cell? ⟨w1.heap.size, k, none⟩ = some z := by
          rw [e4]
          exact ⟨_, List.getElem?_eq_getElem (by rw [List.length_append, List.length_replicate]; simp [B8]; have := HXN.out; omega)⟩
        have hb3 := hbe.grown hst.2 (by have := hbe.size; omega) (fun j hj => by cases hj; exact Nat.le_refl _)
        have HS : Hid (_ ∧ _) := ⟨hst.1, hb3⟩
        have x256 := HA.out.1 k
        have y256 := HB.out.1 k
        have z256 := HC.out.1 k
        have hXG := HXG.out k hkl
        obtain ⟨x, hx⟩ : ∃ x, x = la.getD k 0 := ⟨_, rfl⟩
        obtain ⟨y, hy⟩ : ∃ y, y = lb.getD k 0 := ⟨_, rfl⟩
        obtain ⟨z, hzz⟩ : ∃ z, z = lc.getD k 0 := ⟨_, rfl⟩
        rw [← hx] at e1 x256 hXG
        rw [← hy] at e2 y256 hXG
        rw [← hzz] at e3 z256 hXG
        rw [hXG] at HS
        have hx1 : bits .xor .u8 (x : Int) (y : Int) = ((x ^^^ y : Nat) : Int) := u8_xor_nat x y x256 y256
        have hx2 : bits .xor .u8 ((x ^^^ y : Nat) : Int) (z : Int) = ((x ^^^ y ^^^ z : Nat) : Int) := u8_xor_nat _ z (Nat.xor_lt_two_pow (n := 8) x256 y256) z256
        have hkI : (k : Int) < (n : Int) := by omega
        clear e4 hst hb3 ho hbe hca hcb hcc hx hy hzz hXG HXS HXM x256 y256 z256 HXG
        go_wp2
        go_region
        all_goals go_wp2
        all_goals
          go_roundw
          case rel => exact ⟨k + 1, by omega, by go_num, HS.out.1.drew, HS.out.2.drew⟩
          case measure => simp [intOf]; omega
      · have hkn : k = n := by omega
        subst hkn
        have hown : Own wr w1.heap.size (.slice (some ⟨w1.heap.size, 0, none⟩) k k) X := by
          refine ⟨getD_lt HXM.out, ?_⟩
          have h := ho
          rw [List.take_of_length_le (by rw [HXN.out]; exact Nat.le_refl _), Nat.sub_self, List.replicate_zero, List.append_nil] at h
          rw [HXN.out]
          exact h
        obtain ⟨g, cap', hg1, hby⟩ := hown.slice
        have hg2 : g = some ⟨w1.heap.size, 0, none⟩ := by cases hg1; rfl
        subst hg2
        have hbw : Below w.heap.size w wr := hb1.trans (hbe.mono hb1.size)
        have HBX : Hid (Bytes wr (some ⟨w1.heap.size, 0, none⟩) X) := hby
        have HAw : Hid (Bytes wr a (la.take k)) := (HA.out.keep hbw).take k
        have HBw : Hid (Bytes wr b (lb.take k)) := (HB.out.keep hbw).take k
        have HCw : Hid (Bytes wr c (lc.take k)) := (HC.out.keep hbw).take k
        have HTw : Hid (Tab wr) := HT.out.keep hbw
        have HXL : Hid (X.length ≤ maxLen) := by show _ ≤ _; rw [HXN.out]; exact hl3
        have s1 := Crcm.sum_lt _ HAw.out.mem
        have s2 := Crcm.sum_lt _ HBw.out.mem
        have s3 := Crcm.sum_lt _ HCw.out.mem
        have hx1 : bits .xor .u32 (Crcm.sum (la.take k) : Int) (Crcm.sum (lb.take k) : Int) = ((Crcm.sum (la.take k) ^^^ Crcm.sum (lb.take k) : Nat) : Int) := u32_xor_nat _ _ s1 s2
        have hx2 : bits .xor .u32 ((Crcm.sum (la.take k) ^^^ Crcm.sum (lb.take k) : Nat) : Int) (Crcm.sum (lc.take k) : Int) = ((Crcm.sum (la.take k) ^^^ Crcm.sum (lb.take k) ^^^ Crcm.sum (lc.take k) : Nat) : Int) := u32_xor_nat _ _ (xor_lt32 s1 s2) s3
        clear hown hg1 hby ho s1 s2 s3
        go_wp2
        go_quiet ((first
          | (go_at_call_of 10 (capa); exact Calls.quiet_of_same (sum_q (la.take k) _ _ _ _ TA.out (HAw.out.drewN _) TM.out.1 (HTw.out.drewN _)))
          | (go_at_call_of 10 (capb); exact Calls.quiet_of_same (sum_q (lb.take k) _ _ _ _ TB.out (HBw.out.drewN _) TM.out.2.1 (HTw.out.drewN _)))
          | (go_at_call_of 10 (capc); exact Calls.quiet_of_same (sum_q (lc.take k) _ _ _ _ TC.out (HCw.out.drewN _) TM.out.2.2 (HTw.out.drewN _)))
          | (go_at_call 10; exact Calls.quiet_of_same (sum_q X _ _ _ _ HXN.out (HBX.out.drewN _) HXL.out (HTw.out.drewN _)))))
        all_goals go_wp2
        all_goals go_ret
        all_goals exact ⟨ret_bool (by rw [HXS.out]; simp), below_drewN hbw _⟩
theorem own : ownKnob Tryd.prog.godebug = none := by kernel_rfl
theorem laidOut : laidOutB Tryd.prog = true := by kernel_rfl
set_option maxRecDepth 100000 in
theorem contract (H : Type) (enc : TypeId × Value → H) (W : World) (base : Nat) (args : Array Value) (ds gs : List (DataW H)) (before : List MemPlace)
    (hval : ∀ (j : Nat) t v, Tryd.f4.params[j]? = some t → args[j]? = some v → Value.okWide Tryd.prog W .any base t v)
    (hW : DataW.Whole enc Tryd.prog Tryd.f4.params.toList Rows.crcLinearSpec.vars false W args.toList ds gs before)
    (hsz : (DataW.weightsEach Tryd.prog (Tryd.f4.params.toList ++ Rows.crcLinearSpec.plain.varTypes Tryd.prog) (ds ++ gs)).all (· ≤ reachBytes) = true) (hL : laidMetH Tryd.prog [("daybook/crc.halves", Rows.laid_daybook_crc_halves)] W) :
    Calls Tryd.prog 4 args W fun e W' => ∃ v, e = .returned v ∧ Rows.crcLinearSpec.post enc Tryd.prog Tryd.f4 false true false false W args v W' := by
  have hW' := hW
  obtain ⟨p, q, hA0, hV, rfl, hfz, hnd⟩ := hW
  have hA : DataW.TrodAll enc Tryd.prog W 0 (fun _ => true) true Tryd.f4.params.toList args.toList ds p := hA0
  rw [Tryd.params4] at hA hval hsz
  obtain ⟨v0, vs0, d0, ds0, p0, q0, hargs, rfl, rfl, h0, r0⟩ := trodAll_cons hA
  obtain ⟨v1, vs1, d1, ds1, p1, q1, rfl, rfl, rfl, h1, r1⟩ := trodAll_cons r0
  obtain ⟨v2, vs2, d2, ds2, p2, q2, rfl, rfl, rfl, h2, r2⟩ := trodAll_cons r1
  obtain ⟨rfl, rfl, rfl⟩ := trodAll_nil r2
  obtain rfl : args = #[v0, v1, v2] := by cases args; simp_all
  obtain ⟨rfl, rfl⟩ := trodVars_none hV
  obtain ⟨a0, len0, cap0, rfl⟩ := okWide_slice Tryd.underlying26 (hval 0 26 v0 rfl rfl)
  have k0 := h0
  have lt0 : ∀ x ∈ p0, x.block < W.heap.size := by obtain ⟨m, hm⟩ := k0; exact DataW.trod_lt m _ _ _ hm
  obtain ⟨l0, hlen0, w0, c0⟩ : ∃ l : List Nat, l.length = len0 ∧ Bytes W a0 l ∧ Came W a0 len0 cap0 1 := by
    obtain ⟨fuel, hf⟩ := h0
    rcases open_ints Tryd.underlying26 Tryd.underlying5 (by kernel_rfl) hf with ⟨hcs, hx⟩ | ⟨x, l, c, zs, hcs, _, hl, hm, hz, hx, hcell, hwz⟩
    · simp [Value.cells] at hcs
      obtain ⟨rfl, rfl, rfl⟩ := hcs
      exact ⟨[], rfl, ⟨by simp, .inl rfl⟩, ⟨Nat.le_refl _, by simp, fun _ => rfl⟩⟩
    · simp [Value.cells] at hcs
      obtain ⟨rfl, rfl, rfl⟩ := hcs
      have hz2 : zs.length = cap0 := by simpa using hz
      obtain ⟨ll, e1, e2, e3⟩ := row_nats .u8 256 (by decide) wf_u8 W x zs len0 (by omega) hcell hwz
      have hd : d0 = .slice (lits .u8 (zs.take len0)) (lits .u8 (zs.drop len0)) := (Prod.mk.inj hx).1
      have hreach : cap0 * 1 ≤ 140737488351232 := by
        have := sized_slice hsz (j := 0) (t := 26) (e := 5) rfl (by rw [hd]; rfl) Tryd.underlying26
        rw [show Tryd.prog.bytesOf 5 = 1 from by kernel_rfl] at this
        simp only [lits, List.length_map, List.length_take, List.length_drop, reachBytes] at this
        have hmin : min len0 zs.length = len0 := Nat.min_eq_left (by omega)
        rw [hmin] at this
        have hcap : len0 + (zs.length - len0) = cap0 := by omega
        rw [hcap] at this
        exact this
      exact ⟨ll, e1, ⟨e2, e3⟩, ⟨hl, hreach, fun h => by cases h⟩⟩
  subst hlen0
  obtain ⟨a1, len1, cap1, rfl⟩ := okWide_slice Tryd.underlying26 (hval 1 26 v1 rfl rfl)
  have k1 := h1
  have lt1 : ∀ x ∈ p1, x.block < W.heap.size := by obtain ⟨m, hm⟩ := k1; exact DataW.trod_lt m _ _ _ hm
  obtain ⟨l1, hlen1, w1, c1⟩ : ∃ l : List Nat, l.length = len1 ∧ Bytes W a1 l ∧ Came W a1 len1 cap1 1 := by
    obtain ⟨fuel, hf⟩ := h1
    rcases open_ints Tryd.underlying26 Tryd.underlying5 (by kernel_rfl) hf with ⟨hcs, hx⟩ | ⟨x, l, c, zs, hcs, _, hl, hm, hz, hx, hcell, hwz⟩
    · simp [Value.cells] at hcs
      obtain ⟨rfl, rfl, rfl⟩ := hcs
      exact ⟨[], rfl, ⟨by simp, .inl rfl⟩, ⟨Nat.le_refl _, by simp, fun _ => rfl⟩⟩
    · simp [Value.cells] at hcs
      obtain ⟨rfl, rfl, rfl⟩ := hcs
      have hz2 : zs.length = cap1 := by simpa using hz
      obtain ⟨ll, e1, e2, e3⟩ := row_nats .u8 256 (by decide) wf_u8 W x zs len1 (by omega) hcell hwz
      have hd : d1 = .slice (lits .u8 (zs.take len1)) (lits .u8 (zs.drop len1)) := (Prod.mk.inj hx).1
      have hreach : cap1 * 1 ≤ 140737488351232 := by
        have := sized_slice hsz (j := 1) (t := 26) (e := 5) rfl (by rw [hd]; rfl) Tryd.underlying26
        rw [show Tryd.prog.bytesOf 5 = 1 from by kernel_rfl] at this
        simp only [lits, List.length_map, List.length_take, List.length_drop, reachBytes] at this
        have hmin : min len1 zs.length = len1 := Nat.min_eq_left (by omega)
        rw [hmin] at this
        have hcap : len1 + (zs.length - len1) = cap1 := by omega
        rw [hcap] at this
        exact this
      exact ⟨ll, e1, ⟨e2, e3⟩, ⟨hl, hreach, fun h => by cases h⟩⟩
  subst hlen1
  obtain ⟨a2, len2, cap2, rfl⟩ := okWide_slice Tryd.underlying26 (hval 2 26 v2 rfl rfl)
  have k2 := h2
  have lt2 : ∀ x ∈ p2, x.block < W.heap.size := by obtain ⟨m, hm⟩ := k2; exact DataW.trod_lt m _ _ _ hm
  obtain ⟨l2, hlen2, w2, c2⟩ : ∃ l : List Nat, l.length = len2 ∧ Bytes W a2 l ∧ Came W a2 len2 cap2 1 := by
    obtain ⟨fuel, hf⟩ := h2
    rcases open_ints Tryd.underlying26 Tryd.underlying5 (by kernel_rfl) hf with ⟨hcs, hx⟩ | ⟨x, l, c, zs, hcs, _, hl, hm, hz, hx, hcell, hwz⟩
    · simp [Value.cells] at hcs
      obtain ⟨rfl, rfl, rfl⟩ := hcs
      exact ⟨[], rfl, ⟨by simp, .inl rfl⟩, ⟨Nat.le_refl _, by simp, fun _ => rfl⟩⟩
    · simp [Value.cells] at hcs
      obtain ⟨rfl, rfl, rfl⟩ := hcs
      have hz2 : zs.length = cap2 := by simpa using hz
      obtain ⟨ll, e1, e2, e3⟩ := row_nats .u8 256 (by decide) wf_u8 W x zs len2 (by omega) hcell hwz
      have hd : d2 = .slice (lits .u8 (zs.take len2)) (lits .u8 (zs.drop len2)) := (Prod.mk.inj hx).1
      have hreach : cap2 * 1 ≤ 140737488351232 := by
        have := sized_slice hsz (j := 2) (t := 26) (e := 5) rfl (by rw [hd]; rfl) Tryd.underlying26
        rw [show Tryd.prog.bytesOf 5 = 1 from by kernel_rfl] at this
        simp only [lits, List.length_map, List.length_take, List.length_drop, reachBytes] at this
        have hmin : min len2 zs.length = len2 := Nat.min_eq_left (by omega)
        rw [hmin] at this
        have hcap : len2 + (zs.length - len2) = cap2 := by omega
        rw [hcap] at this
        exact this
      exact ⟨ll, e1, ⟨e2, e3⟩, ⟨hl, hreach, fun h => by cases h⟩⟩
  subst hlen2
  clear hA0
  refine (walk l0 a0 cap0 l1 a1 cap1 l2 a2 cap2 W w0 c0 w1 c1 w2 c2 (tab_of hL)).mono fun e W' ⟨he, bel⟩ => ?_
  subst he
  exact ⟨_, rfl, _, _, _, [], _, [], hW', trodAll_mk1 (shut_bool Tryd.underlying4 _), (trodAll_cons_mk (Below.trod laidOut (by kernel_rfl) (of_decide_eq_true (by kernel_rfl)) k0 bel lt0) (trodAll_cons_mk (Below.trod laidOut (by kernel_rfl) (of_decide_eq_true (by kernel_rfl)) k1 bel lt1) (trodAll_cons_mk (Below.trod laidOut (by kernel_rfl) (of_decide_eq_true (by kernel_rfl)) k2 bel lt2) trodAll_mk0))), rfl, bel.frame _, fun h => by cases h⟩
set_option maxRecDepth 100000 in
theorem start (os : Os) : ∃ w0 : World, w0.os = os ∧ (w0.forCall (fun _ _ => 0) ⟨#[], #[.slice none 0 0, .slice none 0 0, .slice none 0 0], []⟩).variablesB Tryd.prog = true ∧
    ((w0.forCall (fun _ _ => 0) ⟨#[], #[.slice none 0 0, .slice none 0 0, .slice none 0 0], []⟩).heap.toList.drop Tryd.prog.globals.size).take ((begin Tryd.prog (fun _ _ => 0) default).world.heap.size - Tryd.prog.globals.size) = (begin Tryd.prog (fun _ _ => 0) default).world.heap.toList.drop Tryd.prog.globals.size ∧
    Input.okWideB Tryd.prog (w0.forCall (fun _ _ => 0) ⟨#[], #[.slice none 0 0, .slice none 0 0, .slice none 0 0], []⟩) 4 ⟨#[], #[.slice none 0 0, .slice none 0 0, .slice none 0 0], []⟩ = true ∧
    laidMet Tryd.prog Rows.crcLinearRow.laid (w0.forCall (fun _ _ => 0) ⟨#[], #[.slice none 0 0, .slice none 0 0, .slice none 0 0], []⟩).memory ∧
    ∀ (H : Type) (enc : TypeId × Value → H), DataW.whole enc Tryd.prog (w0.forCall (fun _ _ => 0) ⟨#[], #[.slice none 0 0, .slice none 0 0, .slice none 0 0], []⟩).memory Tryd.f4.params.toList Rows.crcLinearSpec.vars false (#[.slice none 0 0, .slice none 0 0, .slice none 0 0] : Array Value).toList 8 = some ([.nil, .nil, .nil], [], []) :=
  ⟨{ World.holding Tryd.prog os ⟨#[], #[], []⟩ with heap := (World.holding Tryd.prog os ⟨#[], #[], []⟩).heap.modify 0 fun
      | .cells _ t frozen => .cells #[.int .u32 0, .int .u32 498536548, .int .u32 997073096, .int .u32 651767980, .int .u32 1994146192, .int .u32 1802195444, .int .u32 1303535960, .int .u32 1342533948, .int .u32 3988292384, .int .u32 4027552580, .int .u32 3604390888, .int .u32 3412177804, .int .u32 2607071920, .int .u32 2262029012, .int .u32 2685067896, .int .u32 3183342108] t frozen
      | o => o }, rfl, by kernel_rfl, by kernel_rfl, by kernel_rfl, laidMet_of_run' 8 (by kernel_rfl) (by kernel_rfl), fun _ _ => by kernel_rfl⟩
set_option maxRecDepth 100000 in
theorem lifted (os : Os) (started : os.Started) (H : Type) (enc : TypeId × Value → H) (F : Stop.Interp) :
    ReturnsInHanded {} Tryd.checked os 4 .any ((OpenSpec.ofChange Rows.crcLinearSpec).preRow enc Tryd.prog Tryd.f4 Rows.crcLinearRow.domain false Rows.crcLinearRow.laid) (((OpenSpec.ofChange Rows.crcLinearSpec).at F).post enc Tryd.prog Tryd.f4 false true false false) := by
  obtain ⟨w0, h1, h2, h3, h4, h5, h6⟩ := start os
  refine returnsInHanded_of_row (C := Tryd.checked) (s := OpenSpec.ofChange Rows.crcLinearSpec) own started (by kernel_rfl) Tryd.func4
    (witness_row_at (enc := enc) (C := Tryd.checked) false w0 #[.slice none 0 0, .slice none 0 0, .slice none 0 0] h1 h2 h3 h4
      (OpenSpec.preRow_of_cond 8 (h6 H enc) (by kernel_rfl) (fun k hk => by cases hk) (by kernel_rfl) h5)) ?_
  intro W base args ds gs before hval hW _ hcond hsz hL _ _
  exact contract H enc W base args ds gs before hval hW hsz hL
theorem said : Rows.CrcLinearSaid :=
  OpenClaim.holds_of_cond 4 Tryd.f4 rfl rfl rfl rfl rfl rfl rfl ⟨rfl, rfl, rfl, rfl, rfl⟩ rfl rfl rfl rfl rfl (by kernel_rfl) Tryd.func4 (by kernel_rfl)
    (of_decide_eq_true (by kernel_rfl)) (by unfold Func.isWrapper; first | (rw [if_pos (by decide +kernel)]; kernel_rfl) | (rw [if_neg (by decide +kernel)]; exact ⟨rfl, rfl⟩))
    (fun os started H enc _ F => by rw [OpenClaim.pre_eq_preRow]; exact lifted os started H enc F)
theorem plain (f : FuncId) (fn : Func) (hf : Tryd.pinned.checked.prog.funcNamed "daybook/daybooklaw03.CrcLinear" = some f) (hfn : Tryd.pinned.checked.prog.funcs[f]? = some fn) :
    false = Tryd.pinned.checked.prog.looks [] ∧ ∀ (j : Nat) t, fn.params[j]? = some t → Tryd.pinned.checked.prog.wantsStandIn t = false := by
  obtain rfl : f = 4 := Option.some.inj ((show Tryd.prog.funcNamed "daybook/daybooklaw03.CrcLinear" = some 4 by kernel_rfl).symm.trans hf) |>.symm
  obtain rfl : fn = Tryd.f4 := (Option.some.inj (Tryd.func4.symm.trans hfn)).symm
  refine ⟨by kernel_rfl, fun j t ht => ?_⟩
  rw [Tryd.params4] at ht
  have hm := Array.mem_of_getElem? ht
  have hall : ∀ t ∈ (#[26, 26, 26] : Array TypeId), Tryd.prog.wantsStandIn t = false := by
    intro t ht
    simp only [List.mem_toArray, List.mem_cons, List.not_mem_nil, or_false] at ht
    rcases ht with rfl | rfl | rfl <;> kernel_rfl
  exact hall t hm
theorem card : Rows.CrcLinearCardSaid :=
  Claim7.holds_tied_plain_at .later [] _ _ _ _ said (fun _ h => by cases h) (by kernel_rfl) (fun _ h => by cases h) crcLinear_row_tie rfl ⟨rfl, rfl⟩ (by kernel_rfl) rfl plain (by kernel_rfl)
end Go.Proofs.YtenekcnccmghhadDoor.crcLinear
