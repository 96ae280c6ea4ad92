/- Own texts, joined: Enc, Sg1. -/
import Derived.Test.YtfnkhpijcbpeoaaDoorK25
import Derived.Test.YtfnkhpijcbpeoaaDoorK04
import Derived.Test.YtfnkhpijcbpeoaaDoorK05
namespace Go.Proofs.YtfnkhpijcbpeoaaDoor
open Go.ChangeShapes Go.WideShapes Go.ChangeAt Go.RowKit
set_option maxHeartbeats 400000 in
theorem encode_any (u : Nat) (w : World) (hu : u ≤ 18446744073709551615) :
    Calls Tryd.prog 50 #[.int .u64 u] w fun e w' => ∃ v, e = .returned v ∧ Own w' w.heap.size v (enc u) ∧ Below w.heap.size w w' := by
  obtain ⟨i0, hi, hz0, hz1, hz2⟩ := info_parts Tryd.info5
  have hl := enc_length_le u hu
  obtain ⟨hl1, hl2⟩ := hl
  have HB : Hid (∀ i, (enc u).getD i 0 < 256) := enc_byte u hu
  generalize hE : enc u = l at *
  have HE : Hid (_ = _) := hE
  clear hE
  have hl3 : l.length ≤ maxLen := by unfold maxLen; omega
  go_enter Tryd.func50, Tryd.ntmps50
  go_wp2_with (first
    | (go_at_call 66; refine (size_any u _ hu).mono ?_; rw [HE.out]; rintro e w' ⟨rfl, rfl⟩)
    | (at_make; refine wpList_make_own _ rfl _ _ 22 rfl w.heap.size 5 i0 (.int .u8 0) 1 Tryd.underlying22 hi hz0 hz1 _ _ _ l.length rfl rfl rfl (by rw [hz2]; omega) hl3 (Nat.le_refl _) ?_))
  intro w1 ho hg
  have hb1 : Below w.heap.size w w1 := (Below.refl _ _).grown hg (Nat.le_refl _) (fun k hk => by cases hk)
  have hs1 := hb1.size
  clear hg
  go_wp2_with (go_at_call 67; refine (put_any u w.heap.size _ _ _ _ hu ho hs1 (by omega)).mono ?_; rw [HE.out, Nat.zero_add, List.nil_append]; rintro e w2 ⟨v, rfl, ho2, hb2⟩)
  go_ret
  exact ⟨v, rfl, ⟨HB.out, ho2⟩, hb1.trans hb2⟩
end Go.Proofs.YtfnkhpijcbpeoaaDoor
namespace Go.Proofs.YtfnkhpijcbpeoaaDoor
open Go.ChangeShapes Go.WideShapes Go.ChangeAt Go.RowKit
set_option linter.unusedVariables false
/-- ints that are no less than 0 lie from address a on -/
def NatI (w : World) (a : Option Addr) (l : List Nat) : Prop := ∃ b off, a = some ⟨b, off, none⟩ ∧ b < w.heap.size ∧ ∀ i, i < l.length → w.cell? ⟨b, off + i, none⟩ = some (.int .i64 (l.getD i 0 : Nat))
theorem NatI.keep {w w' : World} {a : Option Addr} {l : List Nat} (h : NatI w a l) (hb : Below w.heap.size w w') : NatI w' a l := by
  obtain ⟨b, off, rfl, hlt, hc⟩ := h
  exact ⟨b, off, rfl, Nat.lt_of_lt_of_le hlt hb.size, fun i hi => (hb.cell (p := ⟨b, off + i, none⟩) hlt).trans (hc i hi)⟩
theorem encode_at (x : Int) (u : Nat) (hx : x = u) (w : World) (hu : u ≤ 18446744073709551615) :
    Calls Tryd.prog 50 #[.int .u64 x] w fun e w' => ∃ v, e = .returned v ∧ Own w' w.heap.size v (enc u) ∧ Below w.heap.size w w' := by
  subst hx
  exact encode_any u w hu
theorem enc_ne (u : Nat) (h : u ≤ 18446744073709551615) : enc u ≠ [] := fun e => by
  have := (enc_length_le u h).1
  rw [e] at this
  simp at this
theorem nencs_snoc (l : List Nat) (x : Nat) : nencs (l ++ [x]) = nencs l ++ enc x := by rw [nencs_append]; simp [nencs]
theorem ownNil (w : World) (base : Nat) : Own w base (.slice none 0 0) [] := ⟨by simp, World.ownsRow_nil ..⟩
set_option maxRecDepth 20000 in
set_option maxHeartbeats 2000000 in
theorem write_any (l : List Nat) (n : Nat) (a : Option Addr) (cap : Nat) (w : World) (hn : l.length = n) (hb : NatI w a l) (hm : ∀ x ∈ l, x ≤ 1099511627777) (hl : n ≤ 16) :
    Calls Tryd.prog 28 #[.slice a n cap] w fun e w' => ∃ v, e = .returned v ∧ Own w' w.heap.size v (nencs l) ∧ Below w.heap.size w w' := by
  obtain ⟨i0, hi, hz0, hz1, hz2⟩ := info_parts Tryd.info5
  obtain ⟨b, off, rfl, hlt, hcell⟩ := hb
  have HC : Hid ((∀ i, i < l.length → w.cell? ⟨b, off + i, none⟩ = some (.int .i64 (l.getD i 0 : Nat))) ∧ l.length = n ∧ ∀ x ∈ l, x ≤ 1099511627777) := ⟨hcell, hn, hm⟩
  have hnI : (n : Int) ≤ 16 := by omega
  clear hcell hn hm
  go_enter Tryd.func28, Tryd.ntmps28
  go_wp2
  go_loopw [3, 8] (fun vb vi wr => ∃ (b0 : Value) (k : Nat), b0 = vb ∧ k ≤ n ∧ vi = .int .i64 k ∧ Own wr w.heap.size b0 (nencs (l.take k)) ∧ Below w.heap.size w wr) (fun _ vi _ => n - (intOf vi).toNat)
  case atStart => exact ⟨_, 0, rfl, Nat.zero_le _, rfl, ownNil _ _, Below.refl _ _⟩
  case round =>
    obtain ⟨vb, k, rfl, hk, rfl, hO, hbr⟩ := hrel
    have HR : Hid (Own wr w.heap.size vb (nencs (l.take k))) := hO
    have hsz := hbr.size
    clear hO
    by_cases hkn : k < n
    · have hc := HC.out.1 k (by rw [HC.out.2.1]; exact hkn)
      obtain ⟨u, hu⟩ : ∃ u, l.getD k 0 = u := ⟨_, rfl⟩
      rw [hu, ← hbr.cell (p := ⟨b, off + k, none⟩) hlt] at hc
      have hub : u ≤ 1099511627777 := by
        rw [← hu]
        rw [List.getD_eq_getElem?_getD, List.getElem?_eq_getElem (by rw [HC.out.2.1]; exact hkn)]
        exact HC.out.2.2 _ (List.getElem_mem _)
      have HT : Hid (l.take (k + 1) = l.take k ++ [u]) := by
        show _ = _
        rw [List.take_succ_eq_append_getElem (by rw [HC.out.2.1]; exact hkn), ← hu, List.getD_eq_getElem?_getD, List.getElem?_eq_getElem (by rw [HC.out.2.1]; exact hkn)]
        rfl
      have huI : (u : Int) ≤ 1099511627777 := by omega
      have hu0 : (0 : Int) ≤ (u : Int) := by omega
      have hkI : (k : Int) < (n : Int) := by omega
      obtain ⟨m, hm⟩ : ∃ m, (enc u).length = m := ⟨_, rfl⟩
      have hm10 : 1 ≤ m ∧ m ≤ 10 := by rw [← hm]; exact enc_length_le u (by omega)
      have HM : Hid ((enc u).length = m ∧ enc u ≠ []) := ⟨hm, enc_ne u (by omega)⟩
      obtain ⟨q, hq⟩ : ∃ q, (nencs (l.take k)).length = q := ⟨_, rfl⟩
      have HQ : Hid ((nencs (l.take k)).length = q) := hq
      have hq1 : q ≤ 160 := by
        have h1 := (nencs_len (l.take k) (fun x hx => by have := HC.out.2.2 x (List.mem_of_mem_take hx); omega)).1
        rw [List.length_take, HC.out.2.1] at h1
        omega
      clear hu hm hq
      go_wp2_with (first
        | (go_at_call 50; refine (encode_at _ u rfl _ (by omega)).mono ?_; rintro e w1 ⟨v1, rfl, ho1, hb1⟩; obtain ⟨g1, c1, hv1, hc1, hy1⟩ := ho1.row HM.out.2; rw [HM.out.1] at hv1 hc1; subst hv1; have HY1 : Hid (Bytes w1 (some ⟨g1, 0, none⟩) (enc u) ∧ ∀ i, (enc u).getD i 0 < 256) := ⟨hy1, ho1.1⟩; have HB1 : Hid (Below w.heap.size w w1) := hbr.trans (hb1.mono hsz); have HO1 : Hid (w1.ownsRow w.heap.size 5 1 vb q (B8 (nencs (l.take k)))) := (by have h := own_below HR.out.2 hb1; rw [HQ.out] at h; exact h); have hs1 : w.heap.size ≤ w1.heap.size := HB1.out.size; clear ho1 hb1 hy1)
        | (at_builtin; refine wpList_append_own _ rfl _ _ 22 rfl w.heap.size 5 i0 (.int .u8 0) 1 1 Tryd.underlying22 hi hz0 hz1 hz2 rfl (by decide) _ _ _ rfl HO1.out ⟨g1, 0, none⟩ m c1 (B8 (enc u)) rfl (by rw [B8_length, HM.out.1, Nat.mul_one]) (bytes_cells HY1.out.1) (B8_one _) (by unfold maxLen; omega) (by omega) hs1 ?_; intro v5 w5 ho5 hg5 _; have HW5 : Hid (Below w.heap.size w w5) := grown_row HB1.out HO1.out hs1 hg5; have HO5 : Hid (Own w5 w.heap.size v5 (nencs (l.take (k + 1)))) := (by show Own _ _ _ _; rw [HT.out, nencs_snoc]; exact Own.append HR.out.1 HY1.out.2 (by rw [HQ.out, HM.out.1]; exact ho5)); clear ho5 hg5))
      go_roundw
      case rel => exact ⟨v5, k + 1, rfl, by omega, by go_num, HO5.out, HW5.out⟩
      case measure => simp [intOf]; omega
    · obtain rfl : k = n := by omega
      have HTK : Hid (l.take k = l) := List.take_of_length_le (by rw [HC.out.2.1]; exact Nat.le_refl _)
      have HO : Hid (Own wr w.heap.size vb (nencs l)) := by
        have h := HR.out
        rw [HTK.out] at h
        exact h
      go_wp2
      go_ret
      exact ⟨vb, rfl, HO.out, hbr⟩
def sgB (x y : Int) : Bool := decide (1 ≤ x ∧ x ≤ 999999 ∧ 1 ≤ y ∧ y ≤ 1099511627777)
set_option maxHeartbeats 1000000 in
theorem sginB_any (x y : Int) (w : World) : Calls Tryd.prog 45 #[.int .i64 x, .int .i64 y] w fun e w' => e = .returned (.bool (sgB x y)) ∧ w = w' := by
  by_cases h1 : 1 ≤ x
  · by_cases h2 : x ≤ 999999
    · by_cases h3 : 1 ≤ y
      · by_cases h4 : y ≤ 1099511627777
        · have HS : Hid (sgB x y = true) := decide_eq_true ⟨h1, h2, h3, h4⟩
          go_enter Tryd.func45, Tryd.ntmps45
          go_wp2
          go_ret
          exact ⟨by rw [HS.out]; rfl, rfl⟩
        · have HS : Hid (sgB x y = false) := decide_eq_false (fun h => h4 h.2.2.2)
          go_enter Tryd.func45, Tryd.ntmps45
          go_wp2
          go_ret
          exact ⟨by rw [HS.out]; rfl, rfl⟩
      · have HS : Hid (sgB x y = false) := decide_eq_false (fun h => h3 h.2.2.1)
        go_enter Tryd.func45, Tryd.ntmps45
        go_wp2
        go_ret
        exact ⟨by rw [HS.out]; rfl, rfl⟩
    · have HS : Hid (sgB x y = false) := decide_eq_false (fun h => h2 h.2.1)
      go_enter Tryd.func45, Tryd.ntmps45
      go_wp2
      go_ret
      exact ⟨by rw [HS.out]; rfl, rfl⟩
  · have HS : Hid (sgB x y = false) := decide_eq_false (fun h => h1 h.1)
    go_enter Tryd.func45, Tryd.ntmps45
    go_wp2
    go_ret
    exact ⟨by rw [HS.out]; rfl, rfl⟩
end Go.Proofs.YtfnkhpijcbpeoaaDoor
