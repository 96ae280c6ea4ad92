/- Own texts, joined: Sg4, MkR, MkF, Sg13. -/
import Derived.Test.YtaegmeilhdbnnaaDoorJ13
import Derived.Test.YtaegmeilhdbnnaaDoorJ15
import Derived.Test.YtaegmeilhdbnnaaDoorJ07
import Derived.Test.YtaegmeilhdbnnaaDoorJ06
import Derived.Test.YtaegmeilhdbnnaaDoorJ05
import Derived.Test.YtaegmeilhdbnnaaDoorJ09
import Derived.Test.YtaegmeilhdbnnaaDoorJ11
import Derived.Deep.Onto
import Derived.Test.YtaegmeilhdbnnaaDoorJ12
namespace Go.Proofs.YtaegmeilhdbnnaaDoor
open Go.ChangeShapes Go.WideShapes Go.ChangeAt Go.RowKit
set_option linter.unusedVariables false
theorem renc_at (x : Int) (u : Nat) (hx : x = u) (w : World) (hu : u ≤ 18446744073709551615) :
    Calls Tryd.prog 57 #[.int .u64 x] w fun e w' => ∃ v, e = .returned v ∧ Own w' w.heap.size v (enc u) ∧ Below w.heap.size w w' := by
  subst hx
  exact renc_any 9 u w hu (lt_pow10 u hu)
set_option maxRecDepth 20000 in
set_option maxHeartbeats 2000000 in
theorem rtwo_any (x y : Nat) (w : World) (hx : x ≤ 2199023255552) (hy : y ≤ 2199023255552) : Calls Tryd.prog 30 #[.int .i64 (x : Int), .int .i64 (y : Int)] w fun e w' => ∃ v, e = .returned v ∧ Own w' w.heap.size v (nencs [x, y]) ∧ Below w.heap.size w w' := by
  obtain ⟨i0, hi, hz0, hz1, hz2⟩ := info_parts Tryd.info5
  have hxI : (x : Int) ≤ 2199023255552 := by omega
  have hyI : (y : Int) ≤ 2199023255552 := by omega
  obtain ⟨p, hp⟩ : ∃ p, (enc x).length = p := ⟨_, rfl⟩
  obtain ⟨q, hq⟩ : ∃ q, (enc y).length = q := ⟨_, rfl⟩
  have hp1 := enc_length_le x (by omega)
  have hq1 := enc_length_le y (by omega)
  rw [hp] at hp1
  rw [hq] at hq1
  have HE : Hid ((enc x).length = p ∧ (enc y).length = q ∧ enc y ≠ []) := ⟨hp, hq, enc_ne y (by omega)⟩
  clear hp hq
  go_enter Tryd.func30, Tryd.ntmps30
  go_wp2_with (first
    | (go_at_call 57; refine (renc_at _ y rfl w1 (by omega)).mono ?_; rintro e w2 ⟨v2, rfl, ho2, hb2⟩; obtain ⟨g2, c2, hv2, hc2, hy2⟩ := ho2.row HE.out.2.2; rw [HE.out.2.1] at hv2 hc2; subst hv2; have HY2 : Hid (Bytes w2 (some ⟨g2, 0, none⟩) (enc y) ∧ ∀ i, (enc y).getD i 0 < 256) := ⟨hy2, ho2.1⟩; have HO2 : Hid (w2.ownsRow w.heap.size 5 1 v1 p (B8 (enc x))) := (by have h := own_below HO1.out.1.2 hb2; rw [HE.out.1] at h; exact h); have HB2 : Hid (Below w.heap.size w w2) := below_next HO1.out.2 hb2; have hs2 : w.heap.size ≤ w2.heap.size := HB2.out.size; clear ho2 hb2 hy2)
    | (go_at_call 57; refine (renc_at _ x rfl w (by omega)).mono ?_; rintro e w1 ⟨v1, rfl, ho1, hb1⟩; have HO1 : Hid (Own w1 w.heap.size v1 (enc x) ∧ Below w.heap.size w w1) := ⟨ho1, hb1⟩; clear ho1 hb1)
    | (at_builtin; refine wpList_append_own _ rfl _ _ 22 rfl w.heap.size 5 i0 (.int .u8 0) 1 1 Tryd.underlying22 hi hz0 hz1 hz2 rfl (by decide) _ _ _ rfl HO2.out ⟨g2, 0, none⟩ q c2 (B8 (enc y)) rfl (by rw [B8_length, HE.out.2.1, Nat.mul_one]) (bytes_cells HY2.out.1) (B8_one _) (by unfold maxLen; omega) (by omega) hs2 ?_; intro v5 w5 ho5 hg5 _; have HW5 : Hid (Below w.heap.size w w5) := grown_row HB2.out HO2.out hs2 hg5; have HO5 : Hid (Own w5 w.heap.size v5 (nencs [x, y])) := (by show Own _ _ _ _; rw [show nencs [x, y] = enc x ++ enc y from by simp [nencs]]; exact Own.append HO1.out.1.1 HY2.out.2 (by rw [HE.out.1, HE.out.2.1]; exact ho5)); clear ho5 hg5))
  go_ret
  exact ⟨v5, rfl, HO5.out, HW5.out⟩
set_option maxRecDepth 20000 in
set_option maxHeartbeats 2000000 in
theorem rheader_any (num first : Int) (w : World) : Calls Tryd.prog 10 #[.int .i64 num, .int .i64 first] w fun e w' => ∃ v, e = .returned (.tuple #[v, .int .i64 (hdE num first : Nat)]) ∧ Own w' w.heap.size v (hdV num first) ∧ Below w.heap.size w w' := by
  by_cases hB : sgB num first = true
  · have HV : Hid (hdE num first = 0 ∧ hdV num first = hdrL num.toNat first.toNat) := ⟨by unfold hdE; rw [if_pos hB], by unfold hdV; rw [if_pos hB]⟩
    obtain ⟨x, y, rfl, rfl, hx1, hx2, hy1, hy2⟩ := sgB_nat hB
    clear hB
    have hxI : (x : Int) ≤ 999999 := by omega
    have hyI : (y : Int) ≤ 1099511627777 := by omega
    have hx1I : (1 : Int) ≤ (x : Int) := by omega
    have hy1I : (1 : Int) ≤ (y : Int) := by omega
    obtain ⟨q1, q2⟩ := hdr_body x y hx2 hy2
    obtain ⟨m, hm⟩ : ∃ m, (nencs [x, y]).length = m := ⟨_, rfl⟩
    have hm2 : 2 ≤ m := by rw [← hm]; exact (nencs_len [x, y] (by intro z hz; simp at hz; omega)).2
    have hm20 : m ≤ 20 := by omega
    have HM : Hid ((nencs [x, y]).length = m ∧ nencs [x, y] ≠ []) := ⟨hm, fun h => by rw [h] at hm; simp at hm; omega⟩
    have HE : Hid (encE (2 : Int) (x : Int) m = 0 ∧ encL (2 : Int) (x : Int) (nencs [x, y]) = hdrL x y) := by
      have h := enc_frame 2 x m (by omega) (by omega) (by omega) (by omega)
      refine ⟨h, ?_⟩
      unfold encL
      rw [hm]
      rw [show encE (2 : Int) (x : Int) m = 0 from h, if_pos rfl]
      rfl
    clear hm q1 q2
    go_enter Tryd.func10, Tryd.ntmps10
    go_wp2_with (first
      | (go_at_call 30; refine (rtwo_any x y w (by omega) (by omega)).mono ?_; rintro e w2 ⟨v2, rfl, ho2, hb2⟩; obtain ⟨g2, c2, hv2, hc2, hy2'⟩ := ho2.row HM.out.2; rw [HM.out.1] at hv2 hc2; subst hv2; have HY2 : Hid (Bytes w2 (some ⟨g2, 0, none⟩) (nencs [x, y])) := hy2'; have HB2 : Hid (Below w.heap.size w w2) := hb2; clear ho2 hb2 hy2')
      | (go_at_call 29; refine (rfenc_any 2 x (nencs [x, y]) m (some ⟨g2, 0, none⟩) c2 w2 HM.out.1 HY2.out (fun h => by cases h) (by omega)).mono ?_; rw [HE.out.1, HE.out.2]; rintro e w3 ⟨v3, rfl, ho3, hb3⟩; have HO3 : Hid (Own w3 w.heap.size v3 (hdrL x y)) := ⟨ho3.1, World.ownsRow.mono (base' := w.heap.size) ho3.2 HB2.out.size⟩; have HB3 : Hid (Below w.heap.size w w3) := below_next HB2.out hb3; clear ho3 hb3))
    go_ret2
    exact ⟨v3, by rw [HV.out.1]; rfl, by rw [HV.out.2]; exact HO3.out, HB3.out⟩
  · have HV : Hid (hdE num first = 1 ∧ hdV num first = []) := ⟨by unfold hdE; rw [if_neg hB], by unfold hdV; rw [if_neg hB]⟩
    have hnot : ¬ (1 ≤ num ∧ num ≤ 999999 ∧ 1 ≤ first ∧ first ≤ 1099511627777) := fun h => hB (decide_eq_true h)
    clear hB
    by_cases q1 : num < 1
    · go_enter Tryd.func10, Tryd.ntmps10
      go_wp2
      go_ret2
      exact ⟨.slice none 0 0, by rw [HV.out.1]; rfl, by rw [HV.out.2]; exact ownNil _ _, Below.refl _ _⟩
    by_cases q2 : 999999 < num
    · go_enter Tryd.func10, Tryd.ntmps10
      go_wp2
      go_ret2
      exact ⟨.slice none 0 0, by rw [HV.out.1]; rfl, by rw [HV.out.2]; exact ownNil _ _, Below.refl _ _⟩
    by_cases q3 : first < 1
    · go_enter Tryd.func10, Tryd.ntmps10
      go_wp2
      go_ret2
      exact ⟨.slice none 0 0, by rw [HV.out.1]; rfl, by rw [HV.out.2]; exact ownNil _ _, Below.refl _ _⟩
    have q4 : 1099511627777 < first := by omega
    clear hnot
    go_enter Tryd.func10, Tryd.ntmps10
    go_wp2
    go_ret2
    exact ⟨.slice none 0 0, by rw [HV.out.1]; rfl, by rw [HV.out.2]; exact ownNil _ _, Below.refl _ _⟩
theorem hdr_case (l : List Nat) (h0 : decE l = 0) (hK : pk l = 2) (x k y k2 e2 : Nat) (h1 : dec 0 0 (decB l) = (x, k, 0)) (h2 : dec 0 0 ((decB l).drop k) = (y, k2, e2)) (hn : ¬ (e2 = 0 ∧ 1 ≤ x ∧ x ≤ 999999 ∧ 1 ≤ y ∧ y ≤ 1099511627777)) : hdr l = none := by
  by_cases hc : e2 = 0 ∧ y ≤ 1099511627777
  · by_cases hx : x ≤ 1099511627777
    · have hrd : nrd 2 (decB l) = some ([x, y], ((decB l).drop k).drop k2) := by
        rw [nrd_step 1 _ x k 0 h1, if_pos ⟨rfl, hx⟩, nrd_step 0 _ y k2 e2 h2, if_pos hc]
        rfl
      rw [hdr_of l h0 hK x y _ hrd, if_neg]
      rintro ⟨_, _, j1, j2, j3⟩
      exact hn ⟨hc.1, j1, j2, j3, hc.2⟩
    · exact hdr_none_rd l (by rw [nrd_step 1 _ x k 0 h1, if_neg (fun h => hx h.2)])
  · refine hdr_none_rd l ?_
    rw [nrd_step 1 _ x k 0 h1, nrd_step 0 _ y k2 e2 h2, if_neg hc]
    split <;> rfl
end Go.Proofs.YtaegmeilhdbnnaaDoor
namespace Go.Proofs.YtaegmeilhdbnnaaDoor
open Go.ChangeShapes Go.WideShapes Go.ChangeAt Go.RowKit
set_option linter.unusedVariables false
set_option maxRecDepth 20000 in
set_option maxHeartbeats 4000000 in
theorem rvalid_any (L : List Mk) (n : Nat) (a : Option Addr) (cap : Nat) (w : World) (hn : L.length = n) (hm : Marks w a L) (hl : n ≤ maxLen) :
    Calls Tryd.prog 78 #[.slice a n cap] w fun e w' => e = .returned (.bool (validB L)) ∧ Below w.heap.size w w' := by
  unfold maxLen at hl
  by_cases h5 : n ≤ 512
  · have HV : Hid (validB L = vfrom 0 (-1) (L.drop 0)) := by show _ = _; rw [validB_short (by omega)]; rfl
    have HN : Hid (L.length = n) := hn
    have h5I : (n : Int) ≤ 512 := by omega
    rcases hm with rfl | ⟨b, off, rfl, hlt, hc⟩
    · obtain rfl : n = 0 := by simpa using hn.symm
      have HF : Hid (validB [] = true) := HV.out
      clear HV hn
      go_enter Tryd.func78, Tryd.ntmps78
      go_wp2
      refine wp_loop_rounds 1 ?_
      rw [rounds_succ]
      go_wp2
      go_ret
      exact ⟨ret_bool (by rw [HF.out]), Below.refl _ _⟩
    · clear hn hl
      go_enter Tryd.func78, Tryd.ntmps78
      go_wp2
      go_loopw [9] (fun vi wr => ∃ (k n0 : Nat) (s y : Int), k ≤ n ∧ vi = .int .i64 k ∧ wr = w.drewN n0 ∧ 0 ≤ s ∧ -1 ≤ y ∧ (k = 0 ∧ s = 0 ∧ y = -1 ∨ ∃ j, k = j + 1 ∧ L[j]? = some (s, y)) ∧ validB L = vfrom s y (L.drop k)) (fun vi _ => n - (intOf vi).toNat)
      case atStart => exact ⟨0, 0, 0, -1, Nat.zero_le _, rfl, rfl, by omega, by omega, .inl ⟨rfl, rfl, rfl⟩, HV.out⟩
      case round =>
        obtain ⟨k, n0, s, y, hk, rfl, rfl, hs, hy, hpre, hv⟩ := hrel
        have HVK : Hid (validB L = vfrom s y (L.drop k)) := hv
        clear hv HV
        by_cases hkn : k < n
        · obtain ⟨⟨x, z⟩, hp⟩ := get_of_lt (L := L) (k := k) (by rw [HN.out]; exact hkn)
          obtain ⟨c0, c1⟩ := Marks.cells hc k (x, z) hp
          have HVN : Hid (validB L = if x ≤ s ∨ z ≤ y ∨ 1099511627776 < x ∨ 1099511627776 < z then false else vfrom x z (L.drop (k + 1))) := by show _ = _; rw [HVK.out, drop_get L k _ hp, vfrom_cons]
          simp only at c0 c1
          have HP : Hid (L[k]? = some (x, z)) := hp
          rcases hpre with ⟨rfl, rfl, rfl⟩ | ⟨j, rfl, hj⟩
          · clear hp hc HVK
            simp only [Nat.zero_mul, Nat.add_zero] at c0 c1
            go_wp2
            all_goals first
              | (go_ret; exact ⟨ret_bool (by rw [HVN.out, if_pos (by omega)]), below_drewN (Below.refl _ _) _⟩)
              | skip
            go_quiet (fail)
            go_wp2
            refine ⟨⟨1, n0 + nq, x, z, by omega, by go_num, by first | rfl | exact drewN_add _ _ _, by omega, by omega, .inr ⟨0, rfl, HP.out⟩, by rw [HVN.out, if_neg (by omega)]⟩, by simp [intOf]; omega⟩
          · obtain ⟨d0, d1⟩ := Marks.cells hc j (s, y) hj
            simp only at d0 d1
            clear hp hc HVK hj
            go_wp2
            all_goals first
              | (go_ret; exact ⟨ret_bool (by rw [HVN.out, if_pos (by omega)]), below_drewN (Below.refl _ _) _⟩)
              | skip
            by_cases hx : x ≤ s
            · go_quiet (fail)
              go_wp2
              go_ret
              exact ⟨ret_bool (by rw [HVN.out, if_pos (by omega)]), by first | exact below_drewN (Below.refl _ _) _ | exact below_drewN (below_drewN (Below.refl _ _) _) _⟩
            · by_cases hz : z ≤ y
              · go_quiet (fail)
                go_wp2
                go_ret
                exact ⟨ret_bool (by rw [HVN.out, if_pos (by omega)]), by first | exact below_drewN (Below.refl _ _) _ | exact below_drewN (below_drewN (Below.refl _ _) _) _⟩
              · go_quiet (fail)
                go_wp2
                refine ⟨⟨j + 1 + 1, n0 + nq, x, z, by omega, by go_num, by first | rfl | exact drewN_add _ _ _, by omega, by omega, .inr ⟨j + 1, rfl, HP.out⟩, by rw [HVN.out, if_neg (by omega)]⟩, by simp [intOf]; omega⟩
        · have HT : Hid (validB L = true) := by show _ = _; rw [HVK.out, List.drop_eq_nil_of_le (by rw [HN.out]; omega)]; rfl
          clear HVK hc hpre
          go_wp2
          go_ret
          exact ⟨ret_bool (by rw [HT.out]), below_drewN (Below.refl _ _) _⟩
  · have HF : Hid (validB L = false) := validB_long (by omega)
    clear hm hn
    go_enter Tryd.func78, Tryd.ntmps78
    go_wp2
    go_ret
    exact ⟨ret_bool (by rw [HF.out]), Below.refl _ _⟩
end Go.Proofs.YtaegmeilhdbnnaaDoor
namespace Go.Proofs.YtaegmeilhdbnnaaDoor
open Go.ChangeShapes Go.WideShapes Go.ChangeAt Go.RowKit
set_option linter.unusedVariables false
theorem flat_pair (U : List Nat) (x y : Nat) : flat (U ++ [x, y]) = (flat U ++ enc x) ++ enc y := by
  rw [show U ++ [x, y] = (U ++ [x]) ++ [y] from by simp, flat_snoc, flat_snoc]
theorem getD_app {A B : List Nat} (hA : ∀ i, A.getD i 0 < 256) (hB : ∀ i, B.getD i 0 < 256) : ∀ i, (A ++ B).getD i 0 < 256 := by
  intro i
  have h1 := hA i
  have h2 := hB (i - A.length)
  rw [List.getD_eq_getElem?_getD] at h1 h2 ⊢
  rw [List.getElem?_append]
  split <;> assumption
theorem own3 {w : World} {base N : Nat} {v : Value} {X A B : List Nat} (hX : ∀ i, X.getD i 0 < 256) (hA : ∀ i, A.getD i 0 < 256) (hB : ∀ i, B.getD i 0 < 256) (hN : X.length = N) (h : w.ownsRow base 5 1 v (N + A.length + B.length) (B8 X ++ B8 A ++ B8 B)) : Own w base v (X ++ A ++ B) := by
  subst hN
  refine Own.append (getD_app hX hA) hB ?_
  rw [List.length_append, B8_append]
  exact h
theorem renc_int (x : Int) (u : Nat) (w : World) (hx : x = (u : Int)) (hu : u ≤ 18446744073709551615) :
    Calls Tryd.prog 57 #[.int .u64 x] w fun e w' => ∃ v, e = .returned v ∧ Own w' w.heap.size v (enc u) ∧ Below w.heap.size w w' := by
  subst hx
  exact renc_any 9 u w hu (lt_pow10 u hu)
set_option maxRecDepth 20000 in
set_option maxHeartbeats 4000000 in
theorem renc2_any (L : List Mk) (n : Nat) (a : Option Addr) (cap : Nat) (w : World) (hn : L.length = n) (hm : Marks w a L) (hl : n ≤ maxLen) :
    Calls Tryd.prog 69 #[.slice a n cap] w fun e w' => ∃ v, e = .returned (.tuple #[v, .int .i64 (if validB L = true then 0 else 70)]) ∧ Own w' w.heap.size v (if validB L = true then mEnc L else []) ∧ Below w.heap.size w w' := by
  have HM : Hid (Marks w a L) := hm
  have HN : Hid (L.length = n) := hn
  have HLM : Hid (n ≤ maxLen) := hl
  by_cases hV : validB L = true
  · rw [if_pos hV, if_pos hV]
    obtain ⟨i0, hi, hz0, hz1, hz2⟩ := info_parts Tryd.info5
    have hle := valid_len hV
    rw [hn] at hle
    have HVF : Hid (vfrom 0 (-1) (L.drop 0) = true) := valid_from hV
    have HV : Hid (validB L = true) := hV
    have hnI : (n : Int) ≤ 512 := by omega
    have HEN : Hid (mEnc L = enc (2 * n) ++ flat (dls 0 0 L)) := by show _ = _; unfold mEnc encAll; rw [dls_length, hn]
    obtain ⟨e21, e22⟩ := enc_length_le (2 * n) (by omega)
    clear hm hn hl hV
    go_enter Tryd.func69, Tryd.ntmps69
    go_wp2_with (first
      | (go_at_call 78; refine (rvalid_any L _ _ _ _ HN.out HM.out HLM.out).mono ?_; rw [HV.out]; rintro e w1 ⟨rfl, hb1⟩; have hs1 := hb1.size)
      | (go_at_call 57; refine (renc_int _ (2 * n) _ (by omega) (by omega)).mono ?_; rintro e w2 ⟨v2, rfl, ho2, hb2⟩; have hb2w : Below w.heap.size w w2 := below_next hb1 hb2; have hs2 := hb2w.size; have HO2 : Hid (Own w2 w.heap.size v2 (enc (2 * n))) := ⟨ho2.1, ho2.2.mono hs1⟩; clear ho2))
    go_loopw [4, 18] (fun vb vi wr => ∃ (v0 : Value) (k : Nat) (s y y' : Int) (U : List Nat), v0 = vb ∧ k ≤ n ∧ vi = .int .i64 k ∧ Own wr w.heap.size v0 (enc (2 * n) ++ flat U) ∧ U ++ dls s y (L.drop k) = dls 0 0 L ∧ U.length = 2 * k ∧ (flat U).length ≤ 20 * k ∧ 0 ≤ s ∧ 0 ≤ y ∧ s ≤ 1099511627776 ∧ y ≤ 1099511627776 ∧ y ≤ y' + 1 ∧ (k = 0 ∧ s = 0 ∧ y = 0 ∨ ∃ j, k = j + 1 ∧ L[j]? = some (s, y)) ∧ vfrom s y' (L.drop k) = true ∧ Below w.heap.size w wr) (fun _ vi _ => n - (intOf vi).toNat)
    case atStart => exact ⟨_, 0, 0, 0, -1, [], rfl, Nat.zero_le _, rfl, by simpa [flat] using HO2.out, rfl, rfl, by simp [flat], by omega, by omega, by omega, by omega, by omega, .inl ⟨rfl, rfl, rfl⟩, HVF.out, hb2w⟩
    case round =>
      obtain ⟨v0, k, s, y, y', U, rfl, hk, rfl, hO, hd, hUl, hfl, hs0, hy0, hs40, hy40, hyy, hpre, hv, hbe⟩ := hrel
      have HO : Hid (Own wr w.heap.size v0 (enc (2 * n) ++ flat U)) := hO
      have HD : Hid (U ++ dls s y (L.drop k) = dls 0 0 L) := hd
      have HUL : Hid (U.length = 2 * k) := hUl
      have hbs := hbe.size
      by_cases hkn : k < n
      · obtain ⟨⟨x, z⟩, hp⟩ := get_of_lt (L := L) (k := k) (by rw [HN.out]; exact hkn)
        rcases HM.out with h0 | ⟨b, off, rfl, hlt, hc⟩
        · exfalso; have := HN.out; rw [h0] at this; simp at this; omega
        obtain ⟨c0, c1⟩ := Marks.cells hc k (x, z) hp
        rw [← hbe.cell (p := ⟨b, off + k * 2, none⟩) hlt] at c0
        rw [← hbe.cell (p := ⟨b, off + k * 2 + 1, none⟩) hlt] at c1
        simp only at c0 c1
        have HP : Hid (L[k]? = some (x, z)) := hp
        rw [drop_get L k _ hp] at hv hd
        obtain ⟨g1, g2, g3, g4, g5⟩ := vfrom_head hv
        simp only at g1 g2 g3 g4 g5
        obtain ⟨d1, hxs⟩ : ∃ d1 : Nat, x - s = (d1 : Int) := ⟨(x - s).toNat, by omega⟩
        obtain ⟨d2, hzy⟩ : ∃ d2 : Nat, z - y = (d2 : Int) := ⟨(z - y).toNat, by omega⟩
        have hdd : dls s y ((x, z) :: L.drop (k + 1)) = d1 :: d2 :: dls x z (L.drop (k + 1)) := by
          simp only [dls]
          rw [show (x - s).toNat = d1 from by omega, show (z - y).toNat = d2 from by omega]
        rw [hdd] at hd
        have HD2 : Hid (U ++ [d1, d2] ++ dls x z (L.drop (k + 1)) = dls 0 0 L) := by show _ = _; rw [← hd]; simp
        have HG5 : Hid (vfrom x z (L.drop (k + 1)) = true) := g5
        have hd1 : (d1 : Int) ≤ 1099511627776 := by omega
        have hd2 : (d2 : Int) ≤ 1099511627776 := by omega
        have HDN : Hid (d1 ≤ 18446744073709551615 ∧ d2 ≤ 18446744073709551615) := ⟨by omega, by omega⟩
        obtain ⟨e11, e12⟩ := enc_length_le d1 HDN.out.1
        obtain ⟨e31, e32⟩ := enc_length_le d2 HDN.out.2
        have HNE1 : Hid (enc d1 ≠ []) := by intro h; rw [h] at e11; simp at e11
        have HNE2 : Hid (enc d2 ≠ []) := by intro h; rw [h] at e31; simp at e31
        have HFL : Hid ((flat (U ++ [d1, d2])).length ≤ 20 * (k + 1)) := by show _ ≤ _; rw [flat_pair, List.length_append, List.length_append]; omega
        have HFE : Hid (enc (2 * n) ++ flat (U ++ [d1, d2]) = (enc (2 * n) ++ flat U ++ enc d1) ++ enc d2) := by show _ = _; rw [flat_pair]; simp
        obtain ⟨N0, hN0⟩ : ∃ N0, (enc (2 * n) ++ flat U).length = N0 := ⟨_, rfl⟩
        have HN0 : Hid ((enc (2 * n) ++ flat U).length = N0) := hN0
        have hN0b : N0 ≤ 10 + 20 * 512 := by rw [← hN0, List.length_append]; omega
        have HOR : Hid (wr.ownsRow w.heap.size 5 1 v0 N0 (B8 (enc (2 * n) ++ flat U))) := by have h := HO.out.2; rw [hN0] at h; exact h
        clear hd hdd hp hv hO hUl g1 g2 g5 HVF HO2 hb1 hb2 hyy hN0 hfl
        have T1 : Hid True := trivial
        have T2 : Hid True := trivial
        have T3 : Hid True := trivial
        rcases hpre with ⟨rfl, rfl, rfl⟩ | ⟨j, rfl, hj⟩
        · simp only [Nat.zero_mul, Nat.add_zero] at c0 c1
          clear hc
          go_wp2_with (first
            | (go_at_call 57; clear T1; refine (renc_int _ d1 _ (by omega) HDN.out.1).mono ?_; rintro e w3 ⟨v3, rfl, ho3, hb3⟩; obtain ⟨g3, cap3, rfl, hcap3, hby3⟩ := ho3.row HNE1.out; have HB1 : Hid (∀ i, (enc d1).getD i 0 < 256) := ho3.1; clear ho3; have HOJ : Hid (w3.ownsRow w.heap.size 5 1 v0 N0 (B8 (enc (2 * n) ++ flat U))) := own_below HOR.out hb3; have hb3w : Below w.heap.size w w3 := hbe.trans (hb3.mono hbs); have hs3 := hb3w.size)
            | (at_builtin; clear T2; refine wpList_append_own _ rfl _ _ 22 rfl w.heap.size 5 i0 (.int .u8 0) 1 1 Tryd.underlying22 hi hz0 hz1 hz2 rfl (by decide) _ _ _ rfl HOJ.out ⟨g3, 0, none⟩ (enc d1).length cap3 (B8 (enc d1)) rfl (B8_length _) (bytes_cells hby3) (B8_one _) (by unfold maxLen; omega) (by omega) hs3 ?_; intro v4 w4 ho4 hg4 _; have hb4 := grown_row hb3w HOJ.out hs3 hg4; have HO4 : Hid (w4.ownsRow w.heap.size 5 1 v4 (N0 + (enc d1).length) (B8 (enc (2 * n) ++ flat U) ++ B8 (enc d1))) := ho4; clear hg4 ho4; have hs4 := hb4.size)
            | (go_at_call 57; clear T3; refine (renc_int _ d2 _ (by omega) HDN.out.2).mono ?_; rintro e w5 ⟨v5, rfl, ho5, hb5⟩; obtain ⟨g5, cap5, rfl, hcap5, hby5⟩ := ho5.row HNE2.out; have HB2 : Hid (∀ i, (enc d2).getD i 0 < 256) := ho5.1; clear ho5; have HO5 : Hid (w5.ownsRow w.heap.size 5 1 v4 (N0 + (enc d1).length) (B8 (enc (2 * n) ++ flat U) ++ B8 (enc d1))) := own_below HO4.out hb5; have hb5w : Below w.heap.size w w5 := hb4.trans (hb5.mono hs4); have hs5 := hb5w.size)
            | (at_builtin; refine wpList_append_own _ rfl _ _ 22 rfl w.heap.size 5 i0 (.int .u8 0) 1 1 Tryd.underlying22 hi hz0 hz1 hz2 rfl (by decide) _ _ _ rfl HO5.out ⟨g5, 0, none⟩ (enc d2).length cap5 (B8 (enc d2)) rfl (B8_length _) (bytes_cells hby5) (B8_one _) (by unfold maxLen; omega) (by omega) hs5 ?_; intro v6 w6 ho6 hg6 _; have hb6 := grown_row hb5w HO5.out hs5 hg6; have HO6 : Hid (Own w6 w.heap.size v6 (enc (2 * n) ++ flat U ++ enc d1 ++ enc d2)) := own3 HO.out.1 HB1.out HB2.out HN0.out ho6; clear hg6 ho6))
          go_roundw
          case rel => exact ⟨v6, 1, x, z, z, U ++ [d1, d2], rfl, by omega, by go_num, by rw [HFE.out]; exact HO6.out, HD2.out, by rw [List.length_append, HUL.out]; rfl, HFL.out, by omega, by omega, by omega, by omega, by omega, .inr ⟨0, rfl, HP.out⟩, HG5.out, hb6⟩
          case measure => simp [intOf]; omega
        · obtain ⟨d0, d3⟩ := Marks.cells hc j (s, y) hj
          rw [← hbe.cell (p := ⟨b, off + j * 2, none⟩) hlt] at d0
          rw [← hbe.cell (p := ⟨b, off + j * 2 + 1, none⟩) hlt] at d3
          simp only at d0 d3
          clear hc hj
          go_wp2_with (first
            | (go_at_call 57; clear T1; refine (renc_int _ d1 _ (by omega) HDN.out.1).mono ?_; rintro e w3 ⟨v3, rfl, ho3, hb3⟩; obtain ⟨g3, cap3, rfl, hcap3, hby3⟩ := ho3.row HNE1.out; have HB1 : Hid (∀ i, (enc d1).getD i 0 < 256) := ho3.1; clear ho3; have HOJ : Hid (w3.ownsRow w.heap.size 5 1 v0 N0 (B8 (enc (2 * n) ++ flat U))) := own_below HOR.out hb3; have hb3w : Below w.heap.size w w3 := hbe.trans (hb3.mono hbs); have hs3 := hb3w.size)
            | (at_builtin; clear T2; refine wpList_append_own _ rfl _ _ 22 rfl w.heap.size 5 i0 (.int .u8 0) 1 1 Tryd.underlying22 hi hz0 hz1 hz2 rfl (by decide) _ _ _ rfl HOJ.out ⟨g3, 0, none⟩ (enc d1).length cap3 (B8 (enc d1)) rfl (B8_length _) (bytes_cells hby3) (B8_one _) (by unfold maxLen; omega) (by omega) hs3 ?_; intro v4 w4 ho4 hg4 _; have hb4 := grown_row hb3w HOJ.out hs3 hg4; have HO4 : Hid (w4.ownsRow w.heap.size 5 1 v4 (N0 + (enc d1).length) (B8 (enc (2 * n) ++ flat U) ++ B8 (enc d1))) := ho4; clear hg4 ho4; have hs4 := hb4.size)
            | (go_at_call 57; clear T3; refine (renc_int _ d2 _ (by omega) HDN.out.2).mono ?_; rintro e w5 ⟨v5, rfl, ho5, hb5⟩; obtain ⟨g5, cap5, rfl, hcap5, hby5⟩ := ho5.row HNE2.out; have HB2 : Hid (∀ i, (enc d2).getD i 0 < 256) := ho5.1; clear ho5; have HO5 : Hid (w5.ownsRow w.heap.size 5 1 v4 (N0 + (enc d1).length) (B8 (enc (2 * n) ++ flat U) ++ B8 (enc d1))) := own_below HO4.out hb5; have hb5w : Below w.heap.size w w5 := hb4.trans (hb5.mono hs4); have hs5 := hb5w.size)
            | (at_builtin; refine wpList_append_own _ rfl _ _ 22 rfl w.heap.size 5 i0 (.int .u8 0) 1 1 Tryd.underlying22 hi hz0 hz1 hz2 rfl (by decide) _ _ _ rfl HO5.out ⟨g5, 0, none⟩ (enc d2).length cap5 (B8 (enc d2)) rfl (B8_length _) (bytes_cells hby5) (B8_one _) (by unfold maxLen; omega) (by omega) hs5 ?_; intro v6 w6 ho6 hg6 _; have hb6 := grown_row hb5w HO5.out hs5 hg6; have HO6 : Hid (Own w6 w.heap.size v6 (enc (2 * n) ++ flat U ++ enc d1 ++ enc d2)) := own3 HO.out.1 HB1.out HB2.out HN0.out ho6; clear hg6 ho6))
          go_roundw
          case rel => exact ⟨v6, j + 1 + 1, x, z, z, U ++ [d1, d2], rfl, by omega, by go_num, by rw [HFE.out]; exact HO6.out, HD2.out, by rw [List.length_append, HUL.out]; rfl, HFL.out, by omega, by omega, by omega, by omega, by omega, .inr ⟨j + 1, rfl, HP.out⟩, HG5.out, hb6⟩
          case measure => simp [intOf]; omega
      · have hkn2 : k = n := by omega
        subst hkn2
        have HUE : Hid (U = dls 0 0 L) := by
          show U = _
          have h := HD.out
          rw [List.drop_eq_nil_of_le (by rw [HN.out]; omega)] at h
          simpa [dls] using h
        clear hO hd hUl hv HD HVF HM hb1 hb2 hyy hpre
        go_wp2
        go_ret2
        refine ⟨_, rfl, ?_, hbe⟩
        rw [HEN.out, ← HUE.out]
        exact HO.out
  · rw [if_neg hV, if_neg hV]
    have HV : Hid (validB L = false) := by show _ = _; simpa using hV
    clear hm hn hl hV
    go_enter Tryd.func69, Tryd.ntmps69
    go_wp2_with (go_at_call 78; refine (rvalid_any L _ _ _ _ HN.out HM.out HLM.out).mono ?_; rw [HV.out]; rintro e w1 ⟨rfl, hb1⟩)
    go_ret2
    exact ⟨_, rfl, own_nil _ _, hb1⟩
end Go.Proofs.YtaegmeilhdbnnaaDoor
namespace Go.Proofs.YtaegmeilhdbnnaaDoor
open Go.ChangeShapes Go.WideShapes Go.ChangeAt Go.RowKit
set_option linter.unusedVariables false
set_option maxRecDepth 20000 in
set_option maxHeartbeats 2000000 in
theorem rfoot_any (y n st : Nat) (M : List Mk) (m : Nat) (a : Option Addr) (cap : Nat) (w : World) (hm : M.length = m) (hM : Marks w a M) (hv : validB M = true) (hy : y ≤ 1099511627777) (hn : n ≤ 512) (hst : st ≤ 64) :
    Calls Tryd.prog 40 #[.int .i64 (y : Int), .int .i64 (n : Int), .int .i64 (st : Int), .slice a m cap] w fun e w' => ∃ v, e = .returned v ∧ Own w' w.heap.size v (nencs [y, n, st] ++ mEnc M) ∧ Below w.heap.size w w' := by
  obtain ⟨i0, hi, hz0, hz1, hz2⟩ := info_parts Tryd.info5
  have hm5 : m ≤ 512 := by rw [← hm]; exact valid_len hv
  have hq2 := mEnc_len M hv
  obtain ⟨q, hq⟩ : ∃ q, (mEnc M).length = q := ⟨_, rfl⟩
  obtain ⟨t, htl⟩ : ∃ t, (nencs [y, n]).length = t := ⟨_, rfl⟩
  obtain ⟨p, hp⟩ : ∃ p, (enc st).length = p := ⟨_, rfl⟩
  have ht3 := nencs_len [y, n] (fun z hz => by simp at hz; omega)
  rw [htl] at ht3
  simp only [List.length_cons, List.length_nil] at ht3
  have hp1 := enc_length_le st (by omega)
  rw [hp] at hp1
  rw [hq] at hq2
  have hne : mEnc M ≠ [] := by
    intro he
    have h3 := (enc_length_le (dls 0 0 M).length (by rw [dls_length, hm]; omega)).1
    unfold mEnc encAll at he
    have := congrArg List.length he
    rw [List.length_append] at this
    simp only [List.length_nil] at this
    omega
  have HM : Hid (M.length = m ∧ Marks w a M ∧ validB M = true ∧ (mEnc M).length = q ∧ mEnc M ≠ []) := ⟨hm, hM, hv, hq, hne⟩
  have HE : Hid ((nencs [y, n]).length = t ∧ (enc st).length = p ∧ enc st ≠ [] ∧ nencs [y, n, st] = nencs [y, n] ++ enc st) := ⟨htl, hp, enc_ne st (by omega), by rw [← nencs_snoc]; rfl⟩
  have hstI : (st : Int) ≤ 64 := by omega
  have hst0 : (0 : Int) ≤ (st : Int) := by omega
  clear hm hM hv hq htl hp hne
  have T1 : Hid True := trivial
  go_enter Tryd.func40, Tryd.ntmps40
  go_wp2_with (first
    | (go_at_call 69; refine (renc2_any M m a cap w HM.out.1 HM.out.2.1 (by unfold maxLen; omega)).mono ?_; rw [if_pos HM.out.2.2.1, if_pos HM.out.2.2.1]; rintro e w2 ⟨v2, rfl, ho2, hb2⟩; obtain ⟨g2, c2, hv2, hc2, hy2⟩ := ho2.row HM.out.2.2.2.2; rw [HM.out.2.2.2.1] at hv2 hc2; subst hv2; have HB2 : Hid (Below w.heap.size w w2 ∧ Bytes w2 (some ⟨g2, 0, none⟩) (mEnc M) ∧ ∀ i, (mEnc M).getD i 0 < 256) := ⟨hb2, hy2, ho2.1⟩; clear ho2 hb2 hy2 hc2)
    | (go_at_call 30; refine (rtwo_any y n w2 (by omega) (by omega)).mono ?_; rintro e w3 ⟨v3, rfl, ho3, hb3⟩; have HO3 : Hid (w3.ownsRow w2.heap.size 5 1 v3 t (B8 (nencs [y, n])) ∧ (∀ i, (nencs [y, n]).getD i 0 < 256) ∧ Below w2.heap.size w2 w3) := ⟨(by have h := ho3.2; rw [HE.out.1] at h; exact h), ho3.1, hb3⟩; clear ho3 hb3)
    | (go_at_call 57; refine (renc_at _ st rfl w3 (by omega)).mono ?_; rintro e w4 ⟨v4, rfl, ho4, hb4⟩; obtain ⟨g4, c4, hv4, hc4, hy4⟩ := ho4.row HE.out.2.2.1; rw [HE.out.2.1] at hv4 hc4; subst hv4; have HO4 : Hid (w4.ownsRow w2.heap.size 5 1 v3 t (B8 (nencs [y, n])) ∧ Below w2.heap.size w2 w4 ∧ Bytes w4 (some ⟨g4, 0, none⟩) (enc st) ∧ ∀ i, (enc st).getD i 0 < 256) := ⟨own_below HO3.out.1 hb4, below_next HO3.out.2.2 hb4, hy4, ho4.1⟩; have hs4 : w2.heap.size ≤ w4.heap.size := HO4.out.2.1.size; clear ho4 hb4 hy4 hc4)
    | (at_builtin; clear T1; refine wpList_append_own _ rfl _ _ 22 rfl w2.heap.size 5 i0 (.int .u8 0) 1 1 Tryd.underlying22 hi hz0 hz1 hz2 rfl (by decide) _ _ _ rfl HO4.out.1 ⟨g4, 0, none⟩ p c4 (B8 (enc st)) rfl (by rw [B8_length, HE.out.2.1, Nat.mul_one]) (bytes_cells HO4.out.2.2.1) (B8_one _) (by unfold maxLen; omega) (by omega) hs4 ?_; intro v5 w5 ho5 hg5 _; have HO5 : Hid (w5.ownsRow w2.heap.size 5 1 v5 (t + p) (B8 (nencs [y, n]) ++ B8 (enc st)) ∧ Below w2.heap.size w2 w5) := ⟨ho5, grown_row HO4.out.2.1 HO4.out.1 hs4 hg5⟩; have hs5 : w2.heap.size ≤ w5.heap.size := HO5.out.2.size; clear ho5 hg5)
    | (at_builtin; refine wpList_append_own _ rfl _ _ 22 rfl w2.heap.size 5 i0 (.int .u8 0) 1 1 Tryd.underlying22 hi hz0 hz1 hz2 rfl (by decide) _ _ _ rfl HO5.out.1 ⟨g2, 0, none⟩ q c2 (B8 (mEnc M)) rfl (by rw [B8_length, HM.out.2.2.2.1, Nat.mul_one]) (bytes_cells (HB2.out.2.1.keep HO5.out.2)) (B8_one _) (by unfold maxLen; omega) (by omega) hs5 ?_; intro v6 w6 ho6 hg6 _; have HO6 : Hid (w6.ownsRow w2.heap.size 5 1 v6 (t + p + q) (B8 (nencs [y, n]) ++ B8 (enc st) ++ B8 (mEnc M)) ∧ Below w2.heap.size w2 w6) := ⟨ho6, grown_row HO5.out.2 HO5.out.1 hs5 hg6⟩; clear ho6 hg6))
  go_ret
  have hlt : ∀ z ∈ nencs [y, n, st] ++ mEnc M, z < 256 := by
    intro z hz
    rw [HE.out.2.2.2] at hz
    rcases List.mem_append.1 hz with h | h
    · rcases List.mem_append.1 h with h | h
      · exact nencs_lt [y, n] (fun z hz => by simp at hz; omega) z h
      · exact enc_lt 9 st (lt_pow10 st (by omega)) z h
    · exact HB2.out.2.1.mem z h
  refine ⟨v6, rfl, ⟨fun i => getD_lt hlt i, ?_⟩, below_next HB2.out.1 HO6.out.2⟩
  have h := World.ownsRow.mono (base' := w.heap.size) HO6.out.1 HB2.out.1.size
  rw [HE.out.2.2.2, List.length_append, List.length_append, HE.out.1, HE.out.2.1, HM.out.2.2.2.1, B8_append, B8_append]
  exact h
end Go.Proofs.YtaegmeilhdbnnaaDoor
