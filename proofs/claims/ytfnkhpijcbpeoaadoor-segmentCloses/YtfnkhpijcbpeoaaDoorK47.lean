/- Own texts, joined: Renc, Sg4. -/
import Derived.Test.YtfnkhpijcbpeoaaDoorRows
import Derived.Test.YtfnkhpijcbpeoaaDoorK00
import Derived.Test.YtfnkhpijcbpeoaaDoorK34
import Derived.Test.YtfnkhpijcbpeoaaDoorK44
import Derived.Test.YtfnkhpijcbpeoaaDoorK21
import Derived.Test.YtfnkhpijcbpeoaaDoorK19
import Derived.Test.YtfnkhpijcbpeoaaDoorK16
namespace Go.Proofs.YtfnkhpijcbpeoaaDoor
open Go.ChangeShapes Go.WideShapes Go.ChangeAt Go.RowKit
theorem Tryd.info5r : (Tryd.prog.info? 5).map (fun i => (i.zero, i.size, i.bytes)) = some (some (.int .u8 0), 1, 1) := by kernel_rfl
theorem encF_succ (f u : Nat) : encF (f + 1) u = if u < 128 then [u] else (128 + u % 128) :: encF f (u / 128) := rfl
theorem own_one (w : World) (c : Nat) (h : c < 256) : Own (w.alloc (.cells #[.int .u8 (c : Int)] 5)) w.heap.size (.slice (some ⟨w.heap.size, 0, none⟩) 1 1) [c] := by
  refine ⟨getD_lt (by simpa using h), ?_⟩
  exact World.ownsRow_lit w #[.int .u8 (c : Int)] 1 (Nat.le_refl _) (by unfold maxLen; omega) rfl
theorem own_keep {w w' : World} {o : Obj} {v : Value} {l : List Nat} (h : Own (w.alloc o) w.heap.size v l) (hb : Below (w.heap.size + 1) (w.alloc o) w') : w'.ownsRow w.heap.size 5 1 v l.length (B8 l) := by
  obtain ⟨_, h1, h2⟩ := h
  refine ⟨h1, ?_⟩
  rcases h2 with h2 | ⟨g, cap, cur, h3, h4, h5, h6, h7, h8, h9⟩
  · exact .inl h2
  · refine .inr ⟨g, cap, cur, h3, h4, ?_, h6, h7, h8, h9⟩
    have hlt : g < w.heap.size + 1 := by
      by_cases hh : g < (w.alloc o).heap.size
      · rw [World.size_alloc] at hh; exact hh
      · rw [Array.getElem?_eq_none (by omega)] at h5; cases h5
    rw [hb.block g hlt]; exact h5
set_option maxRecDepth 20000 in
set_option maxHeartbeats 1000000 in
theorem renc_any (f u : Nat) (w : World) (h64 : u ≤ 18446744073709551615) (hp : u < 128 ^ (f + 1)) :
    Calls Tryd.prog 56 #[.int .u64 u] w fun e w' => ∃ v, e = .returned v ∧ Own w' w.heap.size v (encF (f + 1) u) ∧ Below w.heap.size w w' := by
  obtain ⟨i0, hi, hz0, hz1, hz2⟩ := info_parts Tryd.info5r
  induction f generalizing u w with
  | zero =>
    have hlt : u < 128 := by simpa using hp
    have HE : Hid (encF 1 u = [u]) := by show _ = _; unfold encF; rw [if_pos hlt]
    have HO : Hid (_) := own_one w u (by omega)
    have hu8 : (u : Int) ≤ 255 := by omega
    clear hp
    go_enter Tryd.func56, Tryd.ntmps56
    go_wp2
    go_ret
    exact ⟨_, rfl, by rw [HE.out]; exact HO.out, (Below.refl _ _).alloc (Nat.le_refl _) _⟩
  | succ f ih =>
    by_cases hlt : u < 128
    · have HE : Hid (encF (f + 1 + 1) u = [u]) := by show _ = _; unfold encF; rw [if_pos hlt]
      have HO : Hid (_) := own_one w u (by omega)
      have hu8 : (u : Int) ≤ 255 := by omega
      clear hp ih
      go_enter Tryd.func56, Tryd.ntmps56
      go_wp2
      go_ret
      exact ⟨_, rfl, by rw [HE.out]; exact HO.out, (Below.refl _ _).alloc (Nat.le_refl _) _⟩
    · have HE : Hid (encF (f + 1 + 1) u = [128 + u % 128] ++ encF (f + 1) (u / 128)) := by
        show _ = _
        rw [encF_succ, if_neg hlt]
        rfl
      have HO : Hid (Own (w.alloc (.cells #[.int .u8 (128 + (u : Int) % 128)] 5)) w.heap.size (.slice (some ⟨w.heap.size, 0, none⟩) 1 1) [128 + u % 128]) := by
        have h := own_one w (128 + u % 128) (by omega)
        rw [show ((128 + u % 128 : Nat) : Int) = 128 + (u : Int) % 128 from by omega] at h
        exact h
      have hp2 : u / 128 < 128 ^ (f + 1) := by rw [Nat.pow_succ] at hp; exact Nat.div_lt_of_lt_mul (by rw [Nat.mul_comm]; exact hp)
      have IH : Hid (Calls Tryd.prog 56 #[.int .u64 ((u : Int) / 128)] (w.alloc (.cells #[.int .u8 (128 + (u : Int) % 128)] 5)) fun e w' => ∃ v, e = .returned v ∧ Own w' (w.heap.size + 1) v (encF (f + 1) (u / 128)) ∧ Below (w.heap.size + 1) (w.alloc (.cells #[.int .u8 (128 + (u : Int) % 128)] 5)) w') := by
        have h := ih (u / 128) (w.alloc (.cells #[.int .u8 (128 + (u : Int) % 128)] 5)) (by omega) hp2
        rw [show ((u / 128 : Nat) : Int) = (u : Int) / 128 from by omega, World.size_alloc] at h
        exact h
      have hlen : (encF (f + 1) (u / 128)).length ≤ 10 := by
        rw [encF_length f _ hp2]
        have h2 : bitLen (u / 128 ||| 1) ≤ 64 := bitLen_lt _ 64 (by rw [or_one]; omega)
        omega
      have HNE : Hid (encF (f + 1) (u / 128) ≠ []) := by
        show _ ≠ _
        unfold encF
        split <;> simp
      have hge : ¬ (u : Int) < 128 := by omega
      clear hp ih hp2 hlt
      generalize hL : encF (f + 1) (u / 128) = L at *
      clear hL
      go_enter Tryd.func56, Tryd.ntmps56
      go_wp2_with (first
        | (go_at_call 56; refine (IH.out).mono ?_; rintro e w2 ⟨v, rfl, ho, hb⟩; have HBY : Hid (∀ i, L.getD i 0 < 256) := ho.1; obtain ⟨g, cap, rfl, hcap, hby⟩ := ho.row HNE.out; clear ho; have HO2 : Hid (w2.ownsRow w.heap.size 5 1 (.slice (some ⟨w.heap.size, 0, none⟩) 1 1) 1 (B8 [128 + u % 128])) := own_keep HO.out hb; have hs2 : w.heap.size ≤ w2.heap.size := by have := hb.size; rw [World.size_alloc] at this; omega)
        | (at_builtin; refine wpList_append_own _ rfl _ _ 22 rfl w.heap.size 5 i0 (.int .u8 0) 1 1 Tryd.underlying22 hi hz0 hz1 hz2 rfl (by decide) _ _ _ rfl HO2.out ⟨g, 0, none⟩ L.length cap (B8 L) rfl (B8_length L) (bytes_cells hby) (B8_one L) (by unfold maxLen; omega) (by omega) hs2 ?_; intro v4 w4 ho4 hg4 _))
      have hb4 := grown_row (Below.refl w.heap.size w2) HO2.out hs2 hg4
      clear hg4
      go_wp2
      go_ret
      refine ⟨v4, rfl, ?_, ((Below.refl _ _).alloc (Nat.le_refl _) _).trans ((hb.mono (by omega)).trans hb4)⟩
      rw [HE.out]
      refine Own.append (getD_lt (by intro x hx; simp at hx; omega)) HBY.out ?_
      exact ho4
end Go.Proofs.YtfnkhpijcbpeoaaDoor
namespace Go.Proofs.YtfnkhpijcbpeoaaDoor
open Go.ChangeShapes Go.WideShapes Go.ChangeAt Go.RowKit
set_option linter.unusedVariables false
theorem renc_at (x : Int) (u : Nat) (hx : x = u) (w : World) (hu : u ≤ 18446744073709551615) :
    Calls Tryd.prog 56 #[.int .u64 x] w fun e w' => ∃ v, e = .returned v ∧ Own w' w.heap.size v (enc u) ∧ Below w.heap.size w w' := by
  subst hx
  exact renc_any 9 u w hu (lt_pow10 u hu)
set_option maxRecDepth 20000 in
set_option maxHeartbeats 2000000 in
theorem rtwo_any (x y : Nat) (w : World) (hx : x ≤ 2199023255552) (hy : y ≤ 2199023255552) : Calls Tryd.prog 30 #[.int .i64 (x : Int), .int .i64 (y : Int)] w fun e w' => ∃ v, e = .returned v ∧ Own w' w.heap.size v (nencs [x, y]) ∧ Below w.heap.size w w' := by
  obtain ⟨i0, hi, hz0, hz1, hz2⟩ := info_parts Tryd.info5
  have hxI : (x : Int) ≤ 2199023255552 := by omega
  have hyI : (y : Int) ≤ 2199023255552 := by omega
  obtain ⟨p, hp⟩ : ∃ p, (enc x).length = p := ⟨_, rfl⟩
  obtain ⟨q, hq⟩ : ∃ q, (enc y).length = q := ⟨_, rfl⟩
  have hp1 := enc_length_le x (by omega)
  have hq1 := enc_length_le y (by omega)
  rw [hp] at hp1
  rw [hq] at hq1
  have HE : Hid ((enc x).length = p ∧ (enc y).length = q ∧ enc y ≠ []) := ⟨hp, hq, enc_ne y (by omega)⟩
  clear hp hq
  go_enter Tryd.func30, Tryd.ntmps30
  go_wp2_with (first
    | (go_at_call 56; refine (renc_at _ y rfl w1 (by omega)).mono ?_; rintro e w2 ⟨v2, rfl, ho2, hb2⟩; obtain ⟨g2, c2, hv2, hc2, hy2⟩ := ho2.row HE.out.2.2; rw [HE.out.2.1] at hv2 hc2; subst hv2; have HY2 : Hid (Bytes w2 (some ⟨g2, 0, none⟩) (enc y) ∧ ∀ i, (enc y).getD i 0 < 256) := ⟨hy2, ho2.1⟩; have HO2 : Hid (w2.ownsRow w.heap.size 5 1 v1 p (B8 (enc x))) := (by have h := own_below HO1.out.1.2 hb2; rw [HE.out.1] at h; exact h); have HB2 : Hid (Below w.heap.size w w2) := below_next HO1.out.2 hb2; have hs2 : w.heap.size ≤ w2.heap.size := HB2.out.size; clear ho2 hb2 hy2)
    | (go_at_call 56; refine (renc_at _ x rfl w (by omega)).mono ?_; rintro e w1 ⟨v1, rfl, ho1, hb1⟩; have HO1 : Hid (Own w1 w.heap.size v1 (enc x) ∧ Below w.heap.size w w1) := ⟨ho1, hb1⟩; clear ho1 hb1)
    | (at_builtin; refine wpList_append_own _ rfl _ _ 22 rfl w.heap.size 5 i0 (.int .u8 0) 1 1 Tryd.underlying22 hi hz0 hz1 hz2 rfl (by decide) _ _ _ rfl HO2.out ⟨g2, 0, none⟩ q c2 (B8 (enc y)) rfl (by rw [B8_length, HE.out.2.1, Nat.mul_one]) (bytes_cells HY2.out.1) (B8_one _) (by unfold maxLen; omega) (by omega) hs2 ?_; intro v5 w5 ho5 hg5 _; have HW5 : Hid (Below w.heap.size w w5) := grown_row HB2.out HO2.out hs2 hg5; have HO5 : Hid (Own w5 w.heap.size v5 (nencs [x, y])) := (by show Own _ _ _ _; rw [show nencs [x, y] = enc x ++ enc y from by simp [nencs]]; exact Own.append HO1.out.1.1 HY2.out.2 (by rw [HE.out.1, HE.out.2.1]; exact ho5)); clear ho5 hg5))
  go_ret
  exact ⟨v5, rfl, HO5.out, HW5.out⟩
set_option maxRecDepth 20000 in
set_option maxHeartbeats 2000000 in
theorem rheader_any (num first : Int) (w : World) : Calls Tryd.prog 13 #[.int .i64 num, .int .i64 first] w fun e w' => ∃ v, e = .returned (.tuple #[v, .int .i64 (hdE num first : Nat)]) ∧ Own w' w.heap.size v (hdV num first) ∧ Below w.heap.size w w' := by
  by_cases hB : sgB num first = true
  · have HV : Hid (hdE num first = 0 ∧ hdV num first = hdrL num.toNat first.toNat) := ⟨by unfold hdE; rw [if_pos hB], by unfold hdV; rw [if_pos hB]⟩
    obtain ⟨x, y, rfl, rfl, hx1, hx2, hy1, hy2⟩ := sgB_nat hB
    clear hB
    have hxI : (x : Int) ≤ 999999 := by omega
    have hyI : (y : Int) ≤ 1099511627777 := by omega
    have hx1I : (1 : Int) ≤ (x : Int) := by omega
    have hy1I : (1 : Int) ≤ (y : Int) := by omega
    obtain ⟨q1, q2⟩ := hdr_body x y hx2 hy2
    obtain ⟨m, hm⟩ : ∃ m, (nencs [x, y]).length = m := ⟨_, rfl⟩
    have hm2 : 2 ≤ m := by rw [← hm]; exact (nencs_len [x, y] (by intro z hz; simp at hz; omega)).2
    have hm20 : m ≤ 20 := by omega
    have HM : Hid ((nencs [x, y]).length = m ∧ nencs [x, y] ≠ []) := ⟨hm, fun h => by rw [h] at hm; simp at hm; omega⟩
    have HE : Hid (encE (2 : Int) (x : Int) m = 0 ∧ encL (2 : Int) (x : Int) (nencs [x, y]) = hdrL x y) := by
      have h := enc_frame 2 x m (by omega) (by omega) (by omega) (by omega)
      refine ⟨h, ?_⟩
      unfold encL
      rw [hm]
      rw [show encE (2 : Int) (x : Int) m = 0 from h, if_pos rfl]
      rfl
    clear hm q1 q2
    go_enter Tryd.func13, Tryd.ntmps13
    go_wp2_with (first
      | (go_at_call 30; refine (rtwo_any x y w (by omega) (by omega)).mono ?_; rintro e w2 ⟨v2, rfl, ho2, hb2⟩; obtain ⟨g2, c2, hv2, hc2, hy2'⟩ := ho2.row HM.out.2; rw [HM.out.1] at hv2 hc2; subst hv2; have HY2 : Hid (Bytes w2 (some ⟨g2, 0, none⟩) (nencs [x, y])) := hy2'; have HB2 : Hid (Below w.heap.size w w2) := hb2; clear ho2 hb2 hy2')
      | (go_at_call 14; refine (rfenc_any 2 x (nencs [x, y]) m (some ⟨g2, 0, none⟩) c2 w2 HM.out.1 HY2.out (fun h => by cases h) (by omega)).mono ?_; rw [HE.out.1, HE.out.2]; rintro e w3 ⟨v3, rfl, ho3, hb3⟩; have HO3 : Hid (Own w3 w.heap.size v3 (hdrL x y)) := ⟨ho3.1, World.ownsRow.mono (base' := w.heap.size) ho3.2 HB2.out.size⟩; have HB3 : Hid (Below w.heap.size w w3) := below_next HB2.out hb3; clear ho3 hb3))
    go_ret2
    exact ⟨v3, by rw [HV.out.1]; rfl, by rw [HV.out.2]; exact HO3.out, HB3.out⟩
  · have HV : Hid (hdE num first = 1 ∧ hdV num first = []) := ⟨by unfold hdE; rw [if_neg hB], by unfold hdV; rw [if_neg hB]⟩
    have hnot : ¬ (1 ≤ num ∧ num ≤ 999999 ∧ 1 ≤ first ∧ first ≤ 1099511627777) := fun h => hB (decide_eq_true h)
    clear hB
    by_cases q1 : num < 1
    · go_enter Tryd.func13, Tryd.ntmps13
      go_wp2
      go_ret2
      exact ⟨.slice none 0 0, by rw [HV.out.1]; rfl, by rw [HV.out.2]; exact ownNil _ _, Below.refl _ _⟩
    by_cases q2 : 999999 < num
    · go_enter Tryd.func13, Tryd.ntmps13
      go_wp2
      go_ret2
      exact ⟨.slice none 0 0, by rw [HV.out.1]; rfl, by rw [HV.out.2]; exact ownNil _ _, Below.refl _ _⟩
    by_cases q3 : first < 1
    · go_enter Tryd.func13, Tryd.ntmps13
      go_wp2
      go_ret2
      exact ⟨.slice none 0 0, by rw [HV.out.1]; rfl, by rw [HV.out.2]; exact ownNil _ _, Below.refl _ _⟩
    have q4 : 1099511627777 < first := by omega
    clear hnot
    go_enter Tryd.func13, Tryd.ntmps13
    go_wp2
    go_ret2
    exact ⟨.slice none 0 0, by rw [HV.out.1]; rfl, by rw [HV.out.2]; exact ownNil _ _, Below.refl _ _⟩
theorem hdr_case (l : List Nat) (h0 : decE l = 0) (hK : pk l = 2) (x k y k2 e2 : Nat) (h1 : dec 0 0 (decB l) = (x, k, 0)) (h2 : dec 0 0 ((decB l).drop k) = (y, k2, e2)) (hn : ¬ (e2 = 0 ∧ 1 ≤ x ∧ x ≤ 999999 ∧ 1 ≤ y ∧ y ≤ 1099511627777)) : hdr l = none := by
  by_cases hc : e2 = 0 ∧ y ≤ 1099511627777
  · by_cases hx : x ≤ 1099511627777
    · have hrd : nrd 2 (decB l) = some ([x, y], ((decB l).drop k).drop k2) := by
        rw [nrd_step 1 _ x k 0 h1, if_pos ⟨rfl, hx⟩, nrd_step 0 _ y k2 e2 h2, if_pos hc]
        rfl
      rw [hdr_of l h0 hK x y _ hrd, if_neg]
      rintro ⟨_, _, j1, j2, j3⟩
      exact hn ⟨hc.1, j1, j2, j3, hc.2⟩
    · exact hdr_none_rd l (by rw [nrd_step 1 _ x k 0 h1, if_neg (fun h => hx h.2)])
  · refine hdr_none_rd l ?_
    rw [nrd_step 1 _ x k 0 h1, nrd_step 0 _ y k2 e2 h2, if_neg hc]
    split <;> rfl
end Go.Proofs.YtfnkhpijcbpeoaaDoor
