/- What the reference's Encode answers. -/
import Derived.Test.YtifackbilmkjlaaMkR
import Derived.Test.YtifackbilmkjlaaMkm
import Derived.Test.YtifackbilmkjlaaRenc
import Derived.Deep.Onto
namespace Go.Proofs.Ytifackbilmkjlaa
open Go.ChangeShapes Go.WideShapes Go.ChangeAt Go.RowKit
set_option linter.unusedVariables false
theorem flat_pair (U : List Nat) (x y : Nat) : flat (U ++ [x, y]) = (flat U ++ enc x) ++ enc y := by
  rw [show U ++ [x, y] = (U ++ [x]) ++ [y] from by simp, flat_snoc, flat_snoc]
theorem getD_app {A B : List Nat} (hA : ∀ i, A.getD i 0 < 256) (hB : ∀ i, B.getD i 0 < 256) : ∀ i, (A ++ B).getD i 0 < 256 := by
  intro i
  have h1 := hA i
  have h2 := hB (i - A.length)
  rw [List.getD_eq_getElem?_getD] at h1 h2 ⊢
  rw [List.getElem?_append]
  split <;> assumption
theorem own3 {w : World} {base N : Nat} {v : Value} {X A B : List Nat} (hX : ∀ i, X.getD i 0 < 256) (hA : ∀ i, A.getD i 0 < 256) (hB : ∀ i, B.getD i 0 < 256) (hN : X.length = N) (h : w.ownsRow base 5 1 v (N + A.length + B.length) (B8 X ++ B8 A ++ B8 B)) : Own w base v (X ++ A ++ B) := by
  subst hN
  refine Own.append (getD_app hX hA) hB ?_
  rw [List.length_append, B8_append]
  exact h
theorem renc_int (x : Int) (u : Nat) (w : World) (hx : x = (u : Int)) (hu : u ≤ 18446744073709551615) :
    Calls Try.prog 32 #[.int .u64 x] w fun e w' => ∃ v, e = .returned v ∧ Own w' w.heap.size v (enc u) ∧ Below w.heap.size w w' := by
  subst hx
  exact renc_any 9 u w hu (lt_pow10 u hu)
set_option maxRecDepth 20000 in
set_option maxHeartbeats 4000000 in
theorem renc2_any (L : List Mk) (n : Nat) (a : Option Addr) (cap : Nat) (w : World) (hn : L.length = n) (hm : Marks w a L) (hl : n ≤ maxLen) :
    Calls Try.prog 21 #[.slice a n cap] w fun e w' => ∃ v, e = .returned (.tuple #[v, .int .i64 (if validB L = true then 0 else 70)]) ∧ Own w' w.heap.size v (if validB L = true then mEnc L else []) ∧ Below w.heap.size w w' := by
  have HM : Hid (Marks w a L) := hm
  have HN : Hid (L.length = n) := hn
  have HLM : Hid (n ≤ maxLen) := hl
  by_cases hV : validB L = true
  · rw [if_pos hV, if_pos hV]
    obtain ⟨i0, hi, hz0, hz1, hz2⟩ := info_parts Try.info5
    have hle := valid_len hV
    rw [hn] at hle
    have HVF : Hid (vfrom 0 (-1) (L.drop 0) = true) := valid_from hV
    have HV : Hid (validB L = true) := hV
    have hnI : (n : Int) ≤ 512 := by omega
    have HEN : Hid (mEnc L = enc (2 * n) ++ flat (dls 0 0 L)) := by show _ = _; unfold mEnc encAll; rw [dls_length, hn]
    obtain ⟨e21, e22⟩ := enc_length_le (2 * n) (by omega)
    clear hm hn hl hV
    go_enter Try.func21, Try.ntmps21
    go_wp2_with (first
      | (go_at_call 18; refine (rvalid_any L _ _ _ _ HN.out HM.out HLM.out).mono ?_; rw [HV.out]; rintro e w1 ⟨rfl, hb1⟩; have hs1 := hb1.size)
      | (go_at_call 32; refine (renc_int _ (2 * n) _ (by omega) (by omega)).mono ?_; rintro e w2 ⟨v2, rfl, ho2, hb2⟩; have hb2w : Below w.heap.size w w2 := below_next hb1 hb2; have hs2 := hb2w.size; have HO2 : Hid (Own w2 w.heap.size v2 (enc (2 * n))) := ⟨ho2.1, ho2.2.mono hs1⟩; clear ho2))
    go_loopw [4, 18] (fun vb vi wr => ∃ (v0 : Value) (k : Nat) (s y y' : Int) (U : List Nat), v0 = vb ∧ k ≤ n ∧ vi = .int .i64 k ∧ Own wr w.heap.size v0 (enc (2 * n) ++ flat U) ∧ U ++ dls s y (L.drop k) = dls 0 0 L ∧ U.length = 2 * k ∧ (flat U).length ≤ 20 * k ∧ 0 ≤ s ∧ 0 ≤ y ∧ s ≤ 1099511627776 ∧ y ≤ 1099511627776 ∧ y ≤ y' + 1 ∧ (k = 0 ∧ s = 0 ∧ y = 0 ∨ ∃ j, k = j + 1 ∧ L[j]? = some (s, y)) ∧ vfrom s y' (L.drop k) = true ∧ Below w.heap.size w wr) (fun _ vi _ => n - (intOf vi).toNat)
    case atStart => exact ⟨_, 0, 0, 0, -1, [], rfl, Nat.zero_le _, rfl, by simpa [flat] using HO2.out, rfl, rfl, by simp [flat], by omega, by omega, by omega, by omega, by omega, .inl ⟨rfl, rfl, rfl⟩, HVF.out, hb2w⟩
    case round =>
      obtain ⟨v0, k, s, y, y', U, rfl, hk, rfl, hO, hd, hUl, hfl, hs0, hy0, hs40, hy40, hyy, hpre, hv, hbe⟩ := hrel
      have HO : Hid (Own wr w.heap.size v0 (enc (2 * n) ++ flat U)) := hO
      have HD : Hid (U ++ dls s y (L.drop k) = dls 0 0 L) := hd
      have HUL : Hid (U.length = 2 * k) := hUl
      have hbs := hbe.size
      by_cases hkn : k < n
      · obtain ⟨⟨x, z⟩, hp⟩ := get_of_lt (L := L) (k := k) (by rw [HN.out]; exact hkn)
        rcases HM.out with h0 | ⟨b, off, rfl, hlt, hc⟩
        · exfalso; have := HN.out; rw [h0] at this; simp at this; omega
        obtain ⟨c0, c1⟩ := Marks.cells hc k (x, z) hp
        rw [← hbe.cell (p := ⟨b, off + k * 2, none⟩) hlt] at c0
        rw [← hbe.cell (p := ⟨b, off + k * 2 + 1, none⟩) hlt] at c1
        simp only at c0 c1
        have HP : Hid (L[k]? = some (x, z)) := hp
        rw [drop_get L k _ hp] at hv hd
        obtain ⟨g1, g2, g3, g4, g5⟩ := vfrom_head hv
        simp only at g1 g2 g3 g4 g5
        obtain ⟨d1, hxs⟩ : ∃ d1 : Nat, x - s = (d1 : Int) := ⟨(x - s).toNat, by omega⟩
        obtain ⟨d2, hzy⟩ : ∃ d2 : Nat, z - y = (d2 : Int) := ⟨(z - y).toNat, by omega⟩
        have hdd : dls s y ((x, z) :: L.drop (k + 1)) = d1 :: d2 :: dls x z (L.drop (k + 1)) := by
          simp only [dls]
          rw [show (x - s).toNat = d1 from by omega, show (z - y).toNat = d2 from by omega]
        rw [hdd] at hd
        have HD2 : Hid (U ++ [d1, d2] ++ dls x z (L.drop (k + 1)) = dls 0 0 L) := by show _ = _; rw [← hd]; simp
        have HG5 : Hid (vfrom x z (L.drop (k + 1)) = true) := g5
        have hd1 : (d1 : Int) ≤ 1099511627776 := by omega
        have hd2 : (d2 : Int) ≤ 1099511627776 := by omega
        have HDN : Hid (d1 ≤ 18446744073709551615 ∧ d2 ≤ 18446744073709551615) := ⟨by omega, by omega⟩
        obtain ⟨e11, e12⟩ := enc_length_le d1 HDN.out.1
        obtain ⟨e31, e32⟩ := enc_length_le d2 HDN.out.2
        have HNE1 : Hid (enc d1 ≠ []) := by intro h; rw [h] at e11; simp at e11
        have HNE2 : Hid (enc d2 ≠ []) := by intro h; rw [h] at e31; simp at e31
        have HFL : Hid ((flat (U ++ [d1, d2])).length ≤ 20 * (k + 1)) := by show _ ≤ _; rw [flat_pair, List.length_append, List.length_append]; omega
        have HFE : Hid (enc (2 * n) ++ flat (U ++ [d1, d2]) = (enc (2 * n) ++ flat U ++ enc d1) ++ enc d2) := by show _ = _; rw [flat_pair]; simp
        obtain ⟨N0, hN0⟩ : ∃ N0, (enc (2 * n) ++ flat U).length = N0 := ⟨_, rfl⟩
        have HN0 : Hid ((enc (2 * n) ++ flat U).length = N0) := hN0
        have hN0b : N0 ≤ 10 + 20 * 512 := by rw [← hN0, List.length_append]; omega
        have HOR : Hid (wr.ownsRow w.heap.size 5 1 v0 N0 (B8 (enc (2 * n) ++ flat U))) := by have h := HO.out.2; rw [hN0] at h; exact h
        clear hd hdd hp hv hO hUl g1 g2 g5 HVF HO2 hb1 hb2 hyy hN0 hfl
        have T1 : Hid True := trivial
        have T2 : Hid True := trivial
        have T3 : Hid True := trivial
        rcases hpre with ⟨rfl, rfl, rfl⟩ | ⟨j, rfl, hj⟩
        · simp only [Nat.zero_mul, Nat.add_zero] at c0 c1
          clear hc
          go_wp2_with (first
            | (go_at_call 32; clear T1; refine (renc_int _ d1 _ (by omega) HDN.out.1).mono ?_; rintro e w3 ⟨v3, rfl, ho3, hb3⟩; obtain ⟨g3, cap3, rfl, hcap3, hby3⟩ := ho3.row HNE1.out; have HB1 : Hid (∀ i, (enc d1).getD i 0 < 256) := ho3.1; clear ho3; have HOJ : Hid (w3.ownsRow w.heap.size 5 1 v0 N0 (B8 (enc (2 * n) ++ flat U))) := own_below HOR.out hb3; have hb3w : Below w.heap.size w w3 := hbe.trans (hb3.mono hbs); have hs3 := hb3w.size)
            | (at_builtin; clear T2; refine wpList_append_own _ rfl _ _ 39 rfl w.heap.size 5 i0 (.int .u8 0) 1 1 Try.underlying39 hi hz0 hz1 hz2 rfl (by decide) _ _ _ rfl HOJ.out ⟨g3, 0, none⟩ (enc d1).length cap3 (B8 (enc d1)) rfl (B8_length _) (bytes_cells hby3) (B8_one _) (by unfold maxLen; omega) (by omega) hs3 ?_; intro v4 w4 ho4 hg4 _; have hb4 := grown_row hb3w HOJ.out hs3 hg4; have HO4 : Hid (w4.ownsRow w.heap.size 5 1 v4 (N0 + (enc d1).length) (B8 (enc (2 * n) ++ flat U) ++ B8 (enc d1))) := ho4; clear hg4 ho4; have hs4 := hb4.size)
            | (go_at_call 32; clear T3; refine (renc_int _ d2 _ (by omega) HDN.out.2).mono ?_; rintro e w5 ⟨v5, rfl, ho5, hb5⟩; obtain ⟨g5, cap5, rfl, hcap5, hby5⟩ := ho5.row HNE2.out; have HB2 : Hid (∀ i, (enc d2).getD i 0 < 256) := ho5.1; clear ho5; have HO5 : Hid (w5.ownsRow w.heap.size 5 1 v4 (N0 + (enc d1).length) (B8 (enc (2 * n) ++ flat U) ++ B8 (enc d1))) := own_below HO4.out hb5; have hb5w : Below w.heap.size w w5 := hb4.trans (hb5.mono hs4); have hs5 := hb5w.size)
            | (at_builtin; refine wpList_append_own _ rfl _ _ 39 rfl w.heap.size 5 i0 (.int .u8 0) 1 1 Try.underlying39 hi hz0 hz1 hz2 rfl (by decide) _ _ _ rfl HO5.out ⟨g5, 0, none⟩ (enc d2).length cap5 (B8 (enc d2)) rfl (B8_length _) (bytes_cells hby5) (B8_one _) (by unfold maxLen; omega) (by omega) hs5 ?_; intro v6 w6 ho6 hg6 _; have hb6 := grown_row hb5w HO5.out hs5 hg6; have HO6 : Hid (Own w6 w.heap.size v6 (enc (2 * n) ++ flat U ++ enc d1 ++ enc d2)) := own3 HO.out.1 HB1.out HB2.out HN0.out ho6; clear hg6 ho6))
          go_roundw
          case rel => exact ⟨v6, 1, x, z, z, U ++ [d1, d2], rfl, by omega, by go_num, by rw [HFE.out]; exact HO6.out, HD2.out, by rw [List.length_append, HUL.out]; rfl, HFL.out, by omega, by omega, by omega, by omega, by omega, .inr ⟨0, rfl, HP.out⟩, HG5.out, hb6⟩
          case measure => simp [intOf]; omega
        · obtain ⟨d0, d3⟩ := Marks.cells hc j (s, y) hj
          rw [← hbe.cell (p := ⟨b, off + j * 2, none⟩) hlt] at d0
          rw [← hbe.cell (p := ⟨b, off + j * 2 + 1, none⟩) hlt] at d3
          simp only at d0 d3
          clear hc hj
          go_wp2_with (first
            | (go_at_call 32; clear T1; refine (renc_int _ d1 _ (by omega) HDN.out.1).mono ?_; rintro e w3 ⟨v3, rfl, ho3, hb3⟩; obtain ⟨g3, cap3, rfl, hcap3, hby3⟩ := ho3.row HNE1.out; have HB1 : Hid (∀ i, (enc d1).getD i 0 < 256) := ho3.1; clear ho3; have HOJ : Hid (w3.ownsRow w.heap.size 5 1 v0 N0 (B8 (enc (2 * n) ++ flat U))) := own_below HOR.out hb3; have hb3w : Below w.heap.size w w3 := hbe.trans (hb3.mono hbs); have hs3 := hb3w.size)
            | (at_builtin; clear T2; refine wpList_append_own _ rfl _ _ 39 rfl w.heap.size 5 i0 (.int .u8 0) 1 1 Try.underlying39 hi hz0 hz1 hz2 rfl (by decide) _ _ _ rfl HOJ.out ⟨g3, 0, none⟩ (enc d1).length cap3 (B8 (enc d1)) rfl (B8_length _) (bytes_cells hby3) (B8_one _) (by unfold maxLen; omega) (by omega) hs3 ?_; intro v4 w4 ho4 hg4 _; have hb4 := grown_row hb3w HOJ.out hs3 hg4; have HO4 : Hid (w4.ownsRow w.heap.size 5 1 v4 (N0 + (enc d1).length) (B8 (enc (2 * n) ++ flat U) ++ B8 (enc d1))) := ho4; clear hg4 ho4; have hs4 := hb4.size)
            | (go_at_call 32; clear T3; refine (renc_int _ d2 _ (by omega) HDN.out.2).mono ?_; rintro e w5 ⟨v5, rfl, ho5, hb5⟩; obtain ⟨g5, cap5, rfl, hcap5, hby5⟩ := ho5.row HNE2.out; have HB2 : Hid (∀ i, (enc d2).getD i 0 < 256) := ho5.1; clear ho5; have HO5 : Hid (w5.ownsRow w.heap.size 5 1 v4 (N0 + (enc d1).length) (B8 (enc (2 * n) ++ flat U) ++ B8 (enc d1))) := own_below HO4.out hb5; have hb5w : Below w.heap.size w w5 := hb4.trans (hb5.mono hs4); have hs5 := hb5w.size)
            | (at_builtin; refine wpList_append_own _ rfl _ _ 39 rfl w.heap.size 5 i0 (.int .u8 0) 1 1 Try.underlying39 hi hz0 hz1 hz2 rfl (by decide) _ _ _ rfl HO5.out ⟨g5, 0, none⟩ (enc d2).length cap5 (B8 (enc d2)) rfl (B8_length _) (bytes_cells hby5) (B8_one _) (by unfold maxLen; omega) (by omega) hs5 ?_; intro v6 w6 ho6 hg6 _; have hb6 := grown_row hb5w HO5.out hs5 hg6; have HO6 : Hid (Own w6 w.heap.size v6 (enc (2 * n) ++ flat U ++ enc d1 ++ enc d2)) := own3 HO.out.1 HB1.out HB2.out HN0.out ho6; clear hg6 ho6))
          go_roundw
          case rel => exact ⟨v6, j + 1 + 1, x, z, z, U ++ [d1, d2], rfl, by omega, by go_num, by rw [HFE.out]; exact HO6.out, HD2.out, by rw [List.length_append, HUL.out]; rfl, HFL.out, by omega, by omega, by omega, by omega, by omega, .inr ⟨j + 1, rfl, HP.out⟩, HG5.out, hb6⟩
          case measure => simp [intOf]; omega
      · have hkn2 : k = n := by omega
        subst hkn2
        have HUE : Hid (U = dls 0 0 L) := by
          show U = _
          have h := HD.out
          rw [List.drop_eq_nil_of_le (by rw [HN.out]; omega)] at h
          simpa [dls] using h
        clear hO hd hUl hv HD HVF HM hb1 hb2 hyy hpre
        go_wp2
        go_ret2
        refine ⟨_, rfl, ?_, hbe⟩
        rw [HEN.out, ← HUE.out]
        exact HO.out
  · rw [if_neg hV, if_neg hV]
    have HV : Hid (validB L = false) := by show _ = _; simpa using hV
    clear hm hn hl hV
    go_enter Try.func21, Try.ntmps21
    go_wp2_with (go_at_call 18; refine (rvalid_any L _ _ _ _ HN.out HM.out HLM.out).mono ?_; rw [HV.out]; rintro e w1 ⟨rfl, hb1⟩)
    go_ret2
    exact ⟨_, rfl, own_nil _ _, hb1⟩
end Go.Proofs.Ytifackbilmkjlaa
