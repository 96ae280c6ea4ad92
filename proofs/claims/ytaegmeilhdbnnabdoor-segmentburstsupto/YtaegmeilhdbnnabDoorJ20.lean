/- Own texts, joined: Sg23, Sgb. -/
import Derived.Test.YtaegmeilhdbnnabDoorJ19
import Derived.Deep.AppendLies
namespace Go.Proofs.YtaegmeilhdbnnabDoor.segmentBursts
open Go.ChangeShapes Go.WideShapes Go.ChangeAt Go.RowKit
set_option linter.unusedVariables false
theorem own_bts {w : World} {base n c : Nat} {a : Option Addr} {l : List Nat} (h : Own w base (.slice a n c) l) : Bytes w a l := by
  obtain ⟨a2, c2, h1, _, _, h2, _⟩ := h.shape
  simp only [Value.slice.injEq] at h1
  rw [h1.1]
  exact h2
theorem bts_of {w : World} {base n c : Nat} {a : Option Addr} {l : List Nat} (h : w.ownsRow base 5 1 (.slice a n c) n (B8 l)) (hn : l.length = n) (hl : ∀ x ∈ l, x < 256) : Bytes w a l := own_bts (base := base) (n := n) (c := c) ⟨fun i => getD_lt hl i, by rw [hn]; exact h⟩
theorem row_capB {w : World} {base n c size : Nat} {e : TypeId} {a : Option Addr} {xs : List Value} (h : w.ownsRow base e size (.slice a n c) n xs) : n ≤ c := by
  rcases h.2 with ⟨h1, h2⟩ | ⟨g, cap, cur, h1, _, _, h2, _⟩
  · omega
  · cases h1; exact h2
theorem endW_len (h y : Nat) (A : Nat → Option Addr) (L : Nat → List Nat) (C : Nat → Nat) (n : Nat) : (endW h y A L C n).length = n := by simp [endW]
theorem endW_one (h y : Nat) (A : Nat → Option Addr) (L : Nat → List Nat) (C : Nat → Nat) (n : Nat) : ∀ u ∈ endW h y A L C n, u.oneCell' = true := by
  intro u hu
  unfold endW at hu
  obtain ⟨i, _, rfl⟩ := List.mem_map.1 hu
  rfl
theorem lit_two (w : World) (u v : Value) : (w.alloc (.cells #[u, v] 3)).ownsRow w.heap.size 3 1 (.slice (some ⟨w.heap.size, 0, none⟩) 2 2) 2 [u, v] := World.ownsRow_lit (base := w.heap.size) (e := 3) (size := 1) w #[u, v] 2 (Nat.le_refl _) (by simp [maxLen]) rfl
theorem row_cells {w : World} {base n c : Nat} {e : TypeId} {g : Nat} {xs : List Value} (h : w.ownsRow base e 1 (.slice (some ⟨g, 0, none⟩) n c) n xs) : ∀ j u, xs[j]? = some u → w.cell? ((⟨g, 0, none⟩ : Addr).add j) = some u := by
  intro j u hj
  have hlt : j < n * 1 := by have := (List.getElem?_eq_some_iff.1 hj).1; rw [h.1] at this; exact this
  rw [show (⟨g, 0, none⟩ : Addr).add j = ⟨g, j, none⟩ from by by_cases h : j = 0 <;> simp [Addr.add, h], World.ownsRow.cellAt h j hlt]
  exact hj
theorem cases_of (f : Fi) (t : List Nat) (at0 P : Nat) (h : Fok f.k.toNat f.s.toNat f.body) (ht : ∀ x ∈ t, x < 256) (htl : t.length = (fL f).length) (hP : P < 4294967296) (hat : at0 < 8 * (fL f).length) (hv : Crcm.val t = Crcm.val (fL f) ^^^ turned at0 P (8 * (fL f).length - at0) 32) :
    decide (t = fL f) = true ∨ (decide (t = fL f) = false ∧ (decE t = 61 ∨ decE t = 62)) := scanBursts.cases_of f t at0 P h ht htl hP hat hv
theorem layF_lt : ∀ M : List Fi, (∀ f ∈ M, Fok f.k.toNat f.s.toNat f.body) → ∀ z ∈ layF M, z < 256 := by
  intro M
  induction M with
  | nil => intro _ z hz; cases hz
  | cons f r ih =>
    intro hM z hz
    rcases List.mem_append.1 hz with h | h
    · have hfo := hM f (List.mem_cons_self ..)
      exact frameL_lt _ _ _ (by have := hfo.k7; omega) hfo.byt z h
    · exact ih (fun g hg => hM g (List.mem_cons_of_mem _ hg)) z h
end Go.Proofs.YtaegmeilhdbnnabDoor.segmentBursts
namespace Go.Proofs.YtaegmeilhdbnnabDoor.segmentBursts
open Go.ChangeShapes Go.WideShapes Go.ChangeAt Go.RowKit
set_option linter.unusedVariables false
set_option maxRecDepth 20000 in
set_option maxHeartbeats 8000000 in
theorem bursts_any (x y n : Nat) (a : Option Addr) (cap : Nat) (A : Nat → Option Addr) (L : Nat → List Nat) (Cp : Nat → Nat) (st : Nat) (at1 : Int) (P : Nat) (w : World) (HP : Hid (Pieces w a n A L Cp ∧ EvB n L ∧ Tab w ∧ FewP (x : Int) (y : Int) n L)) (hx1 : 1 ≤ x) (hx : x ≤ 999999) (hy1 : 1 ≤ y) (hy : y ≤ 549755813888) (hn1 : 1 ≤ n) (hn : n ≤ 512) (hst1 : 1 ≤ st) (hst : st ≤ 64) (hP : P < 4294967296) :
    Calls Tryd.prog 3 #[.int .i64 (x : Int), .int .i64 (y : Int), .slice a n cap, .int .i64 (st : Int), .int .i64 at1, .int .u32 (P : Int)] w fun e w' => e = .returned (.bool true) ∧ Below w.heap.size w w' := by
  obtain ⟨i0, hi, hz0, hz1, hz2⟩ := info_parts Tryd.info5
  obtain ⟨j0, ji, jz0, jz1, jz2⟩ := info_parts Tryd.infoSg
  obtain ⟨h, hh⟩ : ∃ h, (hdrL x y).length = h := ⟨_, rfl⟩
  have hh42 : h ≤ 42 := by rw [← hh, hdrL_len]; have := (hdr_body x y hx (by omega)).2; omega
  have hh20 : 20 ≤ h := by rw [← hh, hdrL_len]; omega
  have hTn : (layF (evF y n A L Cp)).length ≤ 16404 * n := by
    rw [layF_evF]
    have : ∀ j, j ≤ n → tot L j ≤ 16384 * j := by
      intro j
      induction j with
      | zero => intro _; simp [tot]
      | succ j ih => intro hj; have h1 := ih (by omega); have h2 := (HP.out.2.1 j (by omega)).2; rw [tot]; omega
    have := this n (Nat.le_refl _)
    omega
  obtain ⟨D, hD⟩ : ∃ D, (hdrL x y ++ layF (evF y n A L Cp)).length = D := ⟨_, rfl⟩
  have hD2 : D ≤ 8400000 := by rw [← hD, List.length_append, hh]; omega
  have hDh : h ≤ D := by rw [← hD, List.length_append, hh]; omega
  obtain ⟨hE0, EV, hEok, hFV⟩ := foot_ok x y n A L Cp st hx1 hx hy1 hy hn1 hn HP.out.2.1 hst1 hst (by rw [hD]; omega)
  obtain ⟨fb, hfb⟩ : ∃ fb, footB y EV st = fb := ⟨_, rfl⟩
  obtain ⟨ff1, ff2, _⟩ := foot_facts y EV st hEok (by omega) hst
  rw [hfb] at ff1 ff2
  obtain ⟨Z, hZ⟩ : ∃ Z, (frameL 3 x fb).length = Z := ⟨_, rfl⟩
  have hZb : 20 ≤ Z ∧ Z ≤ 10300 := by rw [← hZ, frameL_length]; omega
  have hFV2 : ftV (hdrL x y ++ layF (evF y n A L Cp)) (st : Int) = frameL 3 x fb := by rw [hFV, ← hfb]; rfl
  obtain ⟨SF, hSF⟩ : ∃ SF, segF x y n A L Cp fb = SF := ⟨_, rfl⟩
  obtain ⟨B, hB⟩ : ∃ B, D + Z = B := ⟨_, rfl⟩
  have hlay : layF SF = (hdrL x y ++ layF (evF y n A L Cp)) ++ frameL 3 x fb := by rw [← hSF]; exact segF_lay x y n A L Cp fb
  have hlayl : (layF SF).length = B := by rw [hlay, List.length_append, hD, hZ, hB]
  have hSFl : SF.length = n + 2 := by rw [← hSF]; exact segF_len x y n A L Cp fb
  have hSFok := segF_ok x y n A L Cp fb hx hy hn HP.out.2.1 ff1 (by omega)
  rw [hSF] at hSFok
  have HL0 : Hid ((hdrL x y ++ layF (evF y n A L Cp)).length = D ∧ hdrL x y ++ layF (evF y n A L Cp) ≠ [] ∧ (frameL 3 x fb).length = Z ∧ frameL 3 x fb ≠ [] ∧ layF SF = (hdrL x y ++ layF (evF y n A L Cp)) ++ frameL 3 x fb ∧ (layF SF).length = B) := ⟨hD, fun he => by rw [he] at hD; simp at hD; omega, hZ, fun he => by rw [he] at hZ; simp at hZ; omega, hlay, hlayl⟩
  have HFT : Hid (ftE (hdrL x y ++ layF (evF y n A L Cp)) (st : Int) = 0 ∧ ftV (hdrL x y ++ layF (evF y n A L Cp)) (st : Int) = frameL 3 x fb) := ⟨hE0, hFV2⟩
  have hsB : sgB (x : Int) (y : Int) = true := decide_eq_true ⟨by omega, by omega, by omega, by omega⟩
  have HV : Hid (hdE (x : Int) (y : Int) = 0 ∧ hdV (x : Int) (y : Int) = hdrL x y ∧ (hdrL x y).length = h) := ⟨by unfold hdE; rw [if_pos hsB], by unfold hdV; rw [if_pos hsB]; rfl, hh⟩
  have HLW : Hid (∀ j, j ≤ n + 2 → ([.int .i64 0, .int .i64 (h : Int)] ++ endW h y A L Cp n ++ [.int .i64 (B : Int)])[j]? = some (.int .i64 ((lowN SF j : Nat) : Int))) := fun j hj => by rw [← hSF]; exact lows_get x y n A L Cp fb h B hh (by rw [hSF]; exact hlayl) j hj
  have HFW : Hid (∀ w1, Below w.heap.size w w1 → Calls Tryd.prog 5 #[.int .i64 (x : Int), .int .i64 (y : Int), .slice a n cap] w1 fun e w' => e = .returned (.bool true) ∧ w1 = w') := fun w1 hb1 =>
    (few_any (x : Int) (y : Int) n a cap A L Cp w1 (HP.out.1.keep hb1) (by omega) (fun i hi => by have := (HP.out.2.1 i hi).2; omega)).mono (by
      rintro e w' ⟨⟨_, h1⟩ | ⟨h1, _⟩, h2⟩
      · exact ⟨h1, h2⟩
      · exact absurd HP.out.2.2.2 h1)
  have HLD : Hid (∀ w1, Below w.heap.size w w1 → Calls Tryd.prog 6 #[.int .i64 (x : Int), .int .i64 (y : Int), .slice a n cap] w1 fun e w' => ∃ g2 c2 ge ce, e = .returned (.tuple #[.slice (some ⟨g2, 0, none⟩) D c2, .slice (some ⟨ge, 0, none⟩) n ce, .bool true]) ∧ Own w' w1.heap.size (.slice (some ⟨g2, 0, none⟩) D c2) (hdrL x y ++ layF (evF y n A L Cp)) ∧ w'.ownsRow w1.heap.size 3 1 (.slice (some ⟨ge, 0, none⟩) n ce) n (endW h y A L Cp n) ∧ D ≤ c2 ∧ Below w1.heap.size w1 w') := fun w1 hb1 =>
    (laid14_any x y n a cap A L Cp w1 (HP.out.1.keep hb1) hx1 hx hy1 hy hn1 hn HP.out.2.1 (HP.out.2.2.1.keep hb1)).mono (by
      rintro e w' ⟨vb, ve, rfl, h2, h3, hb⟩
      obtain ⟨g2, c2, hv2, hc2, hy2⟩ := h2.row HL0.out.2.1
      rw [HL0.out.1] at hv2 hc2
      obtain ⟨ge, ce, hv, _, hlt⟩ := World.ownsRow.form h3 (by omega)
      subst hv hv2
      rw [HV.out.2.2] at h3
      exact ⟨g2, c2, ge, ce, rfl, h2, h3, hc2, hb⟩)
  have hxI : (x : Int) ≤ 999999 := by omega
  have hyI : (y : Int) ≤ 549755813888 := by omega
  have hnI : (n : Int) ≤ 512 := by omega
  have hBb : B ≤ 8410300 := by omega
  have hBI : (B : Int) ≤ 8410300 := by omega
  have hhI : (h : Int) ≤ 42 := by omega
  have hDI : (D : Int) ≤ 8400000 := by omega
  have hst1I : ¬ (st : Int) < 1 := by omega
  have hst64I : ¬ (64 : Int) < (st : Int) := by omega
  have hB20 : 40 ≤ B := by omega
  have hDZ : (D : Int) + (Z : Int) = (B : Int) := by omega
  have HDZ : Hid (D + Z = B) := hB
  have T1 : Hid True := trivial
  have HPP : Hid (P < 4294967296) := hP
  have HSO : Hid ((∀ f ∈ SF, Fok f.k.toNat f.s.toNat f.body) ∧ SF.length = n + 2 ∧ segF x y n A L Cp fb = SF) := ⟨hSFok, hSFl, hSF⟩
  have HBY : Hid (∀ z ∈ layF SF, z < 256) := layF_lt SF hSFok
  clear hh hTn hD hE0 hEok hFV hfb ff1 ff2 hZ hFV2 hSF hlay hlayl hSFok hsB hP hB
  by_cases hneg : at1 < 0
  · go_enter Tryd.func3, Tryd.ntmps3
    go_wp2_with (first
      | (go_at_call 4; refine (head14_any w HP.out.2.2.1).mono ?_; rintro e w1 ⟨rfl, hb1⟩; have HB1 : Hid (Below w.heap.size w w1) := hb1; clear hb1)
      | (go_at_call 5; refine (HFW.out w1 HB1.out).mono ?_; rintro e w9 ⟨rfl, rfl⟩)
      | (go_at_call 6; refine (HLD.out w1 HB1.out).mono ?_; rintro e w2 ⟨g2, c2, ge, ce, rfl, ho2, he2, hc2, hb2⟩; have HB2 : Hid (Below w.heap.size w w2 ∧ Own w2 w1.heap.size (.slice (some ⟨g2, 0, none⟩) D c2) (hdrL x y ++ layF (evF y n A L Cp)) ∧ w2.ownsRow w1.heap.size 3 1 (.slice (some ⟨ge, 0, none⟩) n ce) n (endW h y A L Cp n)) := ⟨below_next HB1.out hb2, ho2, he2⟩; clear hb2 ho2 he2)
      | (go_at_call 7; refine (header_any (x : Int) (y : Int) w2 (HP.out.2.2.1.keep HB2.out.1)).mono ?_; rw [HV.out.1, HV.out.2.1]; rintro r w3 ⟨v3, rfl, ho3, hb3⟩; obtain ⟨a3, c3, hv3, _⟩ := ho3.shape; rw [HV.out.2.2] at hv3; subst hv3; have HB3 : Hid (Below w.heap.size w w3 ∧ Own w3 w1.heap.size (.slice (some ⟨g2, 0, none⟩) D c2) (hdrL x y ++ layF (evF y n A L Cp)) ∧ w3.ownsRow w1.heap.size 3 1 (.slice (some ⟨ge, 0, none⟩) n ce) n (endW h y A L Cp n)) := ⟨below_next HB2.out.1 hb3, ⟨HB2.out.2.1.1, own_below HB2.out.2.1.2 hb3⟩, own_below HB2.out.2.2 hb3⟩; clear ho3 hb3)
      | (go_at_call 8; refine (footer14_any (hdrL x y ++ layF (evF y n A L Cp)) D (some ⟨g2, 0, none⟩) c2 (st : Int) w3 HL0.out.1 (own_bts HB3.out.2.1) hc2 (by omega) (HP.out.2.2.1.keep HB3.out.1)).mono ?_; rw [HFT.out.1, HFT.out.2]; rintro r w4 ⟨v4, rfl, ho4, hb4⟩; obtain ⟨g4, c4, hv4, _, hy4⟩ := ho4.row HL0.out.2.2.2.1; rw [HL0.out.2.2.1] at hv4; subst hv4; have HB4 : Hid (Below w.heap.size w w4 ∧ w4.ownsRow w1.heap.size 5 1 (.slice (some ⟨g2, 0, none⟩) D c2) D (B8 (hdrL x y ++ layF (evF y n A L Cp))) ∧ w4.ownsRow w1.heap.size 3 1 (.slice (some ⟨ge, 0, none⟩) n ce) n (endW h y A L Cp n) ∧ Bytes w4 (some ⟨g4, 0, none⟩) (frameL 3 x fb)) := ⟨below_next HB3.out.1 hb4, by have h := own_below HB3.out.2.1.2 hb4; rw [HL0.out.1] at h; exact h, own_below HB3.out.2.2 hb4, hy4⟩; have hs14 : w1.heap.size ≤ w4.heap.size := (by have h1 := (World.ownsRow.lt HB4.out.2.1 g2 rfl); omega); clear ho4 hb4 hy4)
      | (at_builtin; refine wpList_append_own _ rfl _ _ 26 rfl w1.heap.size 5 i0 (.int .u8 0) 1 1 Tryd.underlying26 hi hz0 hz1 hz2 rfl (by decide) _ _ _ rfl HB4.out.2.1 ⟨g4, 0, none⟩ Z c4 (B8 (frameL 3 x fb)) rfl (by rw [B8_length, HL0.out.2.2.1, Nat.mul_one]) (bytes_cells HB4.out.2.2.2) (B8_one _) (by unfold maxLen; omega) (by omega) hs14 ?_; intro v5 w5 ho5 hg5 _; have HB5 : Hid (Below w.heap.size w w5 ∧ w5.ownsRow w1.heap.size 5 1 v5 B (B8 (layF SF)) ∧ w5.ownsRow w1.heap.size 3 1 (.slice (some ⟨ge, 0, none⟩) n ce) n (endW h y A L Cp n)) := ⟨HB4.out.1.grown hg5 HB4.out.1.size (fun k hk => Nat.le_trans HB1.out.size ((World.ownsRow.lt HB4.out.2.1 k hk).1)), (by rw [HL0.out.2.2.2.2.1, B8_append, ← HDZ.out]; exact ho5), row_apart HB4.out.2.1 hg5 HB4.out.2.2.1 (by decide)⟩; obtain ⟨g5, c5, hv5, hg5a, hg5l⟩ := World.ownsRow.form HB5.out.2.1 (by omega); subst hv5; have hc5 : B ≤ c5 := row_capB HB5.out.2.1; have hle5 : w1.heap.size ≤ w5.heap.size := (by omega); clear ho5 hg5)
      | (at_builtin; clear T1; refine wpList_append_own _ rfl _ _ 27 rfl w5.heap.size 3 j0 (.int .i64 0) 1 8 Tryd.underlying27 ji jz0 jz1 jz2 rfl (by decide) _ _ _ rfl (lit_two w5 (.int .i64 0) (.int .i64 (h : Int))) ⟨ge, 0, none⟩ n ce (endW h y A L Cp n) rfl (by rw [endW_len, Nat.mul_one]) (row_cells (World.ownsRow.alloc HB5.out.2.2 _)) (endW_one h y A L Cp n) (by unfold maxLen; omega) (by omega) (by simp) ?_; intro v6 w6 ho6 hg6 _; have HB6 : Hid (Below w5.heap.size w5 w6 ∧ w6.ownsRow w5.heap.size 3 1 v6 (2 + n) ([.int .i64 0, .int .i64 (h : Int)] ++ endW h y A L Cp n)) := ⟨grown_row ((Below.refl w5.heap.size w5).alloc (Nat.le_refl _) _) (lit_two w5 (.int .i64 0) (.int .i64 (h : Int))) (by simp) hg6, ho6⟩; have hs6 : w5.heap.size ≤ w6.heap.size := HB6.out.1.size; clear ho6 hg6)
      | (at_builtin; refine wpList_append_own _ rfl _ _ 27 rfl w5.heap.size 3 j0 (.int .i64 0) 1 8 Tryd.underlying27 ji jz0 jz1 jz2 rfl (by decide) _ _ _ rfl (World.ownsRow.alloc HB6.out.2 _) ⟨w6.heap.size, 0, none⟩ 1 1 [.int .i64 (B : Int)] rfl rfl (cell_new _ _ _) (one_new _) (by unfold maxLen; omega) (by omega) (by simp; omega) ?_; intro v7 w7 ho7 hg7 _; have HB7 : Hid (Below w5.heap.size w5 w7 ∧ w7.ownsRow w5.heap.size 3 1 v7 (n + 3) ([.int .i64 0, .int .i64 (h : Int)] ++ endW h y A L Cp n ++ [.int .i64 (B : Int)])) := ⟨grown_row (HB6.out.1.alloc hs6 _) (World.ownsRow.alloc HB6.out.2 _) (by simp; omega) hg7, (by rw [show n + 3 = 2 + n + 1 from by omega]; exact ho7)⟩; obtain ⟨gl, cl, hv7, hgla, hgl⟩ := World.ownsRow.form HB7.out.2 (by omega); subst hv7; have HCL : Hid (∀ j, j ≤ n + 2 → w7.cell? ⟨gl, j, none⟩ = some (.int .i64 ((lowN SF j : Nat) : Int))) := (fun j hj => by rw [World.ownsRow.cellAt HB7.out.2 j (by omega)]; exact HLW.out j hj); have HO7 : Hid (Bytes w7 (some ⟨g5, 0, none⟩) (layF SF) ∧ Below w.heap.size w w7) := ⟨bts_of (own_below HB5.out.2.1 HB7.out.1) HL0.out.2.2.2.2.2 HBY.out, below_next HB5.out.1 HB7.out.1⟩; clear ho7 hg7)
      | fail)
    go_ret
    exact ⟨rfl, HO7.out.2⟩
  by_cases hbig : 8 * (B : Int) ≤ at1
  · go_enter Tryd.func3, Tryd.ntmps3
    go_wp2_with (first
      | (go_at_call 4; refine (head14_any w HP.out.2.2.1).mono ?_; rintro e w1 ⟨rfl, hb1⟩; have HB1 : Hid (Below w.heap.size w w1) := hb1; clear hb1)
      | (go_at_call 5; refine (HFW.out w1 HB1.out).mono ?_; rintro e w9 ⟨rfl, rfl⟩)
      | (go_at_call 6; refine (HLD.out w1 HB1.out).mono ?_; rintro e w2 ⟨g2, c2, ge, ce, rfl, ho2, he2, hc2, hb2⟩; have HB2 : Hid (Below w.heap.size w w2 ∧ Own w2 w1.heap.size (.slice (some ⟨g2, 0, none⟩) D c2) (hdrL x y ++ layF (evF y n A L Cp)) ∧ w2.ownsRow w1.heap.size 3 1 (.slice (some ⟨ge, 0, none⟩) n ce) n (endW h y A L Cp n)) := ⟨below_next HB1.out hb2, ho2, he2⟩; clear hb2 ho2 he2)
      | (go_at_call 7; refine (header_any (x : Int) (y : Int) w2 (HP.out.2.2.1.keep HB2.out.1)).mono ?_; rw [HV.out.1, HV.out.2.1]; rintro r w3 ⟨v3, rfl, ho3, hb3⟩; obtain ⟨a3, c3, hv3, _⟩ := ho3.shape; rw [HV.out.2.2] at hv3; subst hv3; have HB3 : Hid (Below w.heap.size w w3 ∧ Own w3 w1.heap.size (.slice (some ⟨g2, 0, none⟩) D c2) (hdrL x y ++ layF (evF y n A L Cp)) ∧ w3.ownsRow w1.heap.size 3 1 (.slice (some ⟨ge, 0, none⟩) n ce) n (endW h y A L Cp n)) := ⟨below_next HB2.out.1 hb3, ⟨HB2.out.2.1.1, own_below HB2.out.2.1.2 hb3⟩, own_below HB2.out.2.2 hb3⟩; clear ho3 hb3)
      | (go_at_call 8; refine (footer14_any (hdrL x y ++ layF (evF y n A L Cp)) D (some ⟨g2, 0, none⟩) c2 (st : Int) w3 HL0.out.1 (own_bts HB3.out.2.1) hc2 (by omega) (HP.out.2.2.1.keep HB3.out.1)).mono ?_; rw [HFT.out.1, HFT.out.2]; rintro r w4 ⟨v4, rfl, ho4, hb4⟩; obtain ⟨g4, c4, hv4, _, hy4⟩ := ho4.row HL0.out.2.2.2.1; rw [HL0.out.2.2.1] at hv4; subst hv4; have HB4 : Hid (Below w.heap.size w w4 ∧ w4.ownsRow w1.heap.size 5 1 (.slice (some ⟨g2, 0, none⟩) D c2) D (B8 (hdrL x y ++ layF (evF y n A L Cp))) ∧ w4.ownsRow w1.heap.size 3 1 (.slice (some ⟨ge, 0, none⟩) n ce) n (endW h y A L Cp n) ∧ Bytes w4 (some ⟨g4, 0, none⟩) (frameL 3 x fb)) := ⟨below_next HB3.out.1 hb4, by have h := own_below HB3.out.2.1.2 hb4; rw [HL0.out.1] at h; exact h, own_below HB3.out.2.2 hb4, hy4⟩; have hs14 : w1.heap.size ≤ w4.heap.size := (by have h1 := (World.ownsRow.lt HB4.out.2.1 g2 rfl); omega); clear ho4 hb4 hy4)
      | (at_builtin; refine wpList_append_own _ rfl _ _ 26 rfl w1.heap.size 5 i0 (.int .u8 0) 1 1 Tryd.underlying26 hi hz0 hz1 hz2 rfl (by decide) _ _ _ rfl HB4.out.2.1 ⟨g4, 0, none⟩ Z c4 (B8 (frameL 3 x fb)) rfl (by rw [B8_length, HL0.out.2.2.1, Nat.mul_one]) (bytes_cells HB4.out.2.2.2) (B8_one _) (by unfold maxLen; omega) (by omega) hs14 ?_; intro v5 w5 ho5 hg5 _; have HB5 : Hid (Below w.heap.size w w5 ∧ w5.ownsRow w1.heap.size 5 1 v5 B (B8 (layF SF)) ∧ w5.ownsRow w1.heap.size 3 1 (.slice (some ⟨ge, 0, none⟩) n ce) n (endW h y A L Cp n)) := ⟨HB4.out.1.grown hg5 HB4.out.1.size (fun k hk => Nat.le_trans HB1.out.size ((World.ownsRow.lt HB4.out.2.1 k hk).1)), (by rw [HL0.out.2.2.2.2.1, B8_append, ← HDZ.out]; exact ho5), row_apart HB4.out.2.1 hg5 HB4.out.2.2.1 (by decide)⟩; obtain ⟨g5, c5, hv5, hg5a, hg5l⟩ := World.ownsRow.form HB5.out.2.1 (by omega); subst hv5; have hc5 : B ≤ c5 := row_capB HB5.out.2.1; have hle5 : w1.heap.size ≤ w5.heap.size := (by omega); clear ho5 hg5)
      | (at_builtin; clear T1; refine wpList_append_own _ rfl _ _ 27 rfl w5.heap.size 3 j0 (.int .i64 0) 1 8 Tryd.underlying27 ji jz0 jz1 jz2 rfl (by decide) _ _ _ rfl (lit_two w5 (.int .i64 0) (.int .i64 (h : Int))) ⟨ge, 0, none⟩ n ce (endW h y A L Cp n) rfl (by rw [endW_len, Nat.mul_one]) (row_cells (World.ownsRow.alloc HB5.out.2.2 _)) (endW_one h y A L Cp n) (by unfold maxLen; omega) (by omega) (by simp) ?_; intro v6 w6 ho6 hg6 _; have HB6 : Hid (Below w5.heap.size w5 w6 ∧ w6.ownsRow w5.heap.size 3 1 v6 (2 + n) ([.int .i64 0, .int .i64 (h : Int)] ++ endW h y A L Cp n)) := ⟨grown_row ((Below.refl w5.heap.size w5).alloc (Nat.le_refl _) _) (lit_two w5 (.int .i64 0) (.int .i64 (h : Int))) (by simp) hg6, ho6⟩; have hs6 : w5.heap.size ≤ w6.heap.size := HB6.out.1.size; clear ho6 hg6)
      | (at_builtin; refine wpList_append_own _ rfl _ _ 27 rfl w5.heap.size 3 j0 (.int .i64 0) 1 8 Tryd.underlying27 ji jz0 jz1 jz2 rfl (by decide) _ _ _ rfl (World.ownsRow.alloc HB6.out.2 _) ⟨w6.heap.size, 0, none⟩ 1 1 [.int .i64 (B : Int)] rfl rfl (cell_new _ _ _) (one_new _) (by unfold maxLen; omega) (by omega) (by simp; omega) ?_; intro v7 w7 ho7 hg7 _; have HB7 : Hid (Below w5.heap.size w5 w7 ∧ w7.ownsRow w5.heap.size 3 1 v7 (n + 3) ([.int .i64 0, .int .i64 (h : Int)] ++ endW h y A L Cp n ++ [.int .i64 (B : Int)])) := ⟨grown_row (HB6.out.1.alloc hs6 _) (World.ownsRow.alloc HB6.out.2 _) (by simp; omega) hg7, (by rw [show n + 3 = 2 + n + 1 from by omega]; exact ho7)⟩; obtain ⟨gl, cl, hv7, hgla, hgl⟩ := World.ownsRow.form HB7.out.2 (by omega); subst hv7; have HCL : Hid (∀ j, j ≤ n + 2 → w7.cell? ⟨gl, j, none⟩ = some (.int .i64 ((lowN SF j : Nat) : Int))) := (fun j hj => by rw [World.ownsRow.cellAt HB7.out.2 j (by omega)]; exact HLW.out j hj); have HO7 : Hid (Bytes w7 (some ⟨g5, 0, none⟩) (layF SF) ∧ Below w.heap.size w w7) := ⟨bts_of (own_below HB5.out.2.1 HB7.out.1) HL0.out.2.2.2.2.2 HBY.out, below_next HB5.out.1 HB7.out.1⟩; clear ho7 hg7)
      | fail)
    go_ret
    exact ⟨rfl, HO7.out.2⟩
  obtain ⟨at0, rfl⟩ := Int.eq_ofNat_of_zero_le (show 0 ≤ at1 by omega)
  have hat8 : at0 / 8 < B := by omega
  obtain ⟨i, hiN, hi1, hi2⟩ := low_find SF (at0 / 8) (by rw [show lowN SF SF.length = B from by unfold lowN; rw [List.take_of_length_le (Nat.le_refl _)]; exact HL0.out.2.2.2.2.2]; exact hat8)
  obtain ⟨f0, hf0⟩ := lt_get (L := SF) (k := i) hiN
  obtain ⟨F, hF⟩ : ∃ F, lowN SF i = F := ⟨_, rfl⟩
  obtain ⟨E, hE⟩ : ∃ E, lowN SF (i + 1) = E := ⟨_, rfl⟩
  obtain ⟨M, hM⟩ : ∃ M, (fL f0).length = M := ⟨_, rfl⟩
  have hstep := lowN_step SF i f0 hf0
  rw [hE, hF, hM] at hstep
  rw [hF] at hi1
  rw [hE] at hi2
  have hM20 : 20 ≤ M := by rw [← hM]; unfold fL; rw [frameL_length]; omega
  obtain ⟨hsp, _⟩ := lay_split SF i f0 hf0
  have hFl : (layF (SF.take i)).length = F := hF
  have hEB : E ≤ B := by rw [← hE, ← HL0.out.2.2.2.2.2, show (layF SF).length = lowN SF SF.length from by unfold lowN; rw [List.take_of_length_le (Nat.le_refl _)]]; exact lowN_mono SF (by omega)
  have HSP : Hid (E = F + M ∧ (layF (SF.take i)).length = F ∧ (layF SF).take F = layF (SF.take i) ∧ (layF SF).drop E = layF (SF.drop (i + 1)) ∧ (layF (SF.drop (i + 1))).length = B - E) := by
    have hdr : (layF SF).drop E = layF (SF.drop (i + 1)) := by rw [hsp, hstep, ← hFl, ← hM, ← List.drop_drop, List.drop_left, List.drop_left]
    refine ⟨hstep, hFl, by rw [hsp, ← hFl, List.take_left], hdr, by rw [← hdr, List.length_drop, HL0.out.2.2.2.2.2]⟩
  have HFF : Hid (Fok f0.k.toNat f0.s.toNat f0.body ∧ (fL f0).length = M ∧ fL f0 ≠ []) := ⟨HSO.out.1 f0 (List.mem_of_getElem? hf0), hM, fun h => by rw [h] at hM; simp at hM; omega⟩
  have HDF : Hid (((layF SF).drop F).take M = fL f0) := by show _ = _; rw [hsp, ← hFl, List.drop_left, ← hM, List.take_left]
  have HLO : Hid (lowN SF i = F ∧ lowN SF (i + 1) = E ∧ i < n + 2 ∧ SF[i]? = some f0) := ⟨hF, hE, by have := HSO.out.2.1; omega, hf0⟩
  obtain ⟨I1, hI1⟩ : ∃ I1, i + 1 = I1 := ⟨_, rfl⟩
  have hI1I : (i : Int) + 1 = (I1 : Int) := by omega
  have hiI : (i : Int) ≤ 513 := by have := HLO.out.2.2.1; omega
  obtain ⟨qa, hqa⟩ : ∃ qa, at0 - 8 * F = qa := ⟨_, rfl⟩
  have hqaI : (at0 : Int) - 8 * (F : Int) = (qa : Int) := by omega
  have hqM : qa < 8 * M := by omega
  have hF0I : (0 : Int) ≤ (F : Int) := by omega
  have hFE : F < E := by omega
  have hFEI : (F : Int) ≤ (E : Int) := by omega
  have hE0I : (0 : Int) ≤ (E : Int) := by omega
  have hEBI : (E : Int) ≤ (B : Int) := by omega
  have hFB : F ≤ 8410300 := by omega
  have hFBI : (F : Int) ≤ 8410300 := by omega
  have hat0I : ¬ 8 * (B : Int) ≤ (at0 : Int) := hbig
  clear hF hE hM hstep hsp hFl hf0 hqa
  go_enter Tryd.func3, Tryd.ntmps3
  go_wp2_with (first
    | (go_at_call 4; refine (head14_any w HP.out.2.2.1).mono ?_; rintro e w1 ⟨rfl, hb1⟩; have HB1 : Hid (Below w.heap.size w w1) := hb1; clear hb1)
    | (go_at_call 5; refine (HFW.out w1 HB1.out).mono ?_; rintro e w9 ⟨rfl, rfl⟩)
    | (go_at_call 6; refine (HLD.out w1 HB1.out).mono ?_; rintro e w2 ⟨g2, c2, ge, ce, rfl, ho2, he2, hc2, hb2⟩; have HB2 : Hid (Below w.heap.size w w2 ∧ Own w2 w1.heap.size (.slice (some ⟨g2, 0, none⟩) D c2) (hdrL x y ++ layF (evF y n A L Cp)) ∧ w2.ownsRow w1.heap.size 3 1 (.slice (some ⟨ge, 0, none⟩) n ce) n (endW h y A L Cp n)) := ⟨below_next HB1.out hb2, ho2, he2⟩; clear hb2 ho2 he2)
    | (go_at_call 7; refine (header_any (x : Int) (y : Int) w2 (HP.out.2.2.1.keep HB2.out.1)).mono ?_; rw [HV.out.1, HV.out.2.1]; rintro r w3 ⟨v3, rfl, ho3, hb3⟩; obtain ⟨a3, c3, hv3, _⟩ := ho3.shape; rw [HV.out.2.2] at hv3; subst hv3; have HB3 : Hid (Below w.heap.size w w3 ∧ Own w3 w1.heap.size (.slice (some ⟨g2, 0, none⟩) D c2) (hdrL x y ++ layF (evF y n A L Cp)) ∧ w3.ownsRow w1.heap.size 3 1 (.slice (some ⟨ge, 0, none⟩) n ce) n (endW h y A L Cp n)) := ⟨below_next HB2.out.1 hb3, ⟨HB2.out.2.1.1, own_below HB2.out.2.1.2 hb3⟩, own_below HB2.out.2.2 hb3⟩; clear ho3 hb3)
    | (go_at_call 8; refine (footer14_any (hdrL x y ++ layF (evF y n A L Cp)) D (some ⟨g2, 0, none⟩) c2 (st : Int) w3 HL0.out.1 (own_bts HB3.out.2.1) hc2 (by omega) (HP.out.2.2.1.keep HB3.out.1)).mono ?_; rw [HFT.out.1, HFT.out.2]; rintro r w4 ⟨v4, rfl, ho4, hb4⟩; obtain ⟨g4, c4, hv4, _, hy4⟩ := ho4.row HL0.out.2.2.2.1; rw [HL0.out.2.2.1] at hv4; subst hv4; have HB4 : Hid (Below w.heap.size w w4 ∧ w4.ownsRow w1.heap.size 5 1 (.slice (some ⟨g2, 0, none⟩) D c2) D (B8 (hdrL x y ++ layF (evF y n A L Cp))) ∧ w4.ownsRow w1.heap.size 3 1 (.slice (some ⟨ge, 0, none⟩) n ce) n (endW h y A L Cp n) ∧ Bytes w4 (some ⟨g4, 0, none⟩) (frameL 3 x fb)) := ⟨below_next HB3.out.1 hb4, by have h := own_below HB3.out.2.1.2 hb4; rw [HL0.out.1] at h; exact h, own_below HB3.out.2.2 hb4, hy4⟩; have hs14 : w1.heap.size ≤ w4.heap.size := (by have h1 := (World.ownsRow.lt HB4.out.2.1 g2 rfl); omega); clear ho4 hb4 hy4)
    | (at_builtin; refine wpList_append_own _ rfl _ _ 26 rfl w1.heap.size 5 i0 (.int .u8 0) 1 1 Tryd.underlying26 hi hz0 hz1 hz2 rfl (by decide) _ _ _ rfl HB4.out.2.1 ⟨g4, 0, none⟩ Z c4 (B8 (frameL 3 x fb)) rfl (by rw [B8_length, HL0.out.2.2.1, Nat.mul_one]) (bytes_cells HB4.out.2.2.2) (B8_one _) (by unfold maxLen; omega) (by omega) hs14 ?_; intro v5 w5 ho5 hg5 _; have HB5 : Hid (Below w.heap.size w w5 ∧ w5.ownsRow w1.heap.size 5 1 v5 B (B8 (layF SF)) ∧ w5.ownsRow w1.heap.size 3 1 (.slice (some ⟨ge, 0, none⟩) n ce) n (endW h y A L Cp n)) := ⟨HB4.out.1.grown hg5 HB4.out.1.size (fun k hk => Nat.le_trans HB1.out.size ((World.ownsRow.lt HB4.out.2.1 k hk).1)), (by rw [HL0.out.2.2.2.2.1, B8_append, ← HDZ.out]; exact ho5), row_apart HB4.out.2.1 hg5 HB4.out.2.2.1 (by decide)⟩; obtain ⟨g5, c5, hv5, hg5a, hg5l⟩ := World.ownsRow.form HB5.out.2.1 (by omega); subst hv5; have hc5 : B ≤ c5 := row_capB HB5.out.2.1; have hle5 : w1.heap.size ≤ w5.heap.size := (by omega); clear ho5 hg5)
    | (at_builtin; clear T1; refine wpList_append_own _ rfl _ _ 27 rfl w5.heap.size 3 j0 (.int .i64 0) 1 8 Tryd.underlying27 ji jz0 jz1 jz2 rfl (by decide) _ _ _ rfl (lit_two w5 (.int .i64 0) (.int .i64 (h : Int))) ⟨ge, 0, none⟩ n ce (endW h y A L Cp n) rfl (by rw [endW_len, Nat.mul_one]) (row_cells (World.ownsRow.alloc HB5.out.2.2 _)) (endW_one h y A L Cp n) (by unfold maxLen; omega) (by omega) (by simp) ?_; intro v6 w6 ho6 hg6 _; have HB6 : Hid (Below w5.heap.size w5 w6 ∧ w6.ownsRow w5.heap.size 3 1 v6 (2 + n) ([.int .i64 0, .int .i64 (h : Int)] ++ endW h y A L Cp n)) := ⟨grown_row ((Below.refl w5.heap.size w5).alloc (Nat.le_refl _) _) (lit_two w5 (.int .i64 0) (.int .i64 (h : Int))) (by simp) hg6, ho6⟩; have hs6 : w5.heap.size ≤ w6.heap.size := HB6.out.1.size; clear ho6 hg6)
    | (at_builtin; refine wpList_append_own _ rfl _ _ 27 rfl w5.heap.size 3 j0 (.int .i64 0) 1 8 Tryd.underlying27 ji jz0 jz1 jz2 rfl (by decide) _ _ _ rfl (World.ownsRow.alloc HB6.out.2 _) ⟨w6.heap.size, 0, none⟩ 1 1 [.int .i64 (B : Int)] rfl rfl (cell_new _ _ _) (one_new _) (by unfold maxLen; omega) (by omega) (by simp; omega) ?_; intro v7 w7 ho7 hg7 _; have HB7 : Hid (Below w5.heap.size w5 w7 ∧ w7.ownsRow w5.heap.size 3 1 v7 (n + 3) ([.int .i64 0, .int .i64 (h : Int)] ++ endW h y A L Cp n ++ [.int .i64 (B : Int)])) := ⟨grown_row (HB6.out.1.alloc hs6 _) (World.ownsRow.alloc HB6.out.2 _) (by simp; omega) hg7, (by rw [show n + 3 = 2 + n + 1 from by omega]; exact ho7)⟩; obtain ⟨gl, cl, hv7, hgla, hgl⟩ := World.ownsRow.form HB7.out.2 (by omega); subst hv7; have HCL : Hid (∀ j, j ≤ n + 2 → w7.cell? ⟨gl, j, none⟩ = some (.int .i64 ((lowN SF j : Nat) : Int))) := (fun j hj => by rw [World.ownsRow.cellAt HB7.out.2 j (by omega)]; exact HLW.out j hj); have HO7 : Hid (Bytes w7 (some ⟨g5, 0, none⟩) (layF SF) ∧ Below w.heap.size w w7) := ⟨bts_of (own_below HB5.out.2.1 HB7.out.1) HL0.out.2.2.2.2.2 HBY.out, below_next HB5.out.1 HB7.out.1⟩; clear ho7 hg7)
    | fail)
  have hBc5 : (B : Int) ≤ (c5 : Int) := by omega
  have hEc5 : (E : Int) ≤ (c5 : Int) := by omega
  have hFc5 : (F : Int) ≤ (c5 : Int) := by omega
  have hnF : ¬ c5 = F := by omega
  have hMM : E - F = M := by have := HSP.out.1; omega
  have HI1 : Hid (i + 1 = I1) := hI1
  clear hI1
  go_loopw [21] (fun vi wr => ∃ j : Nat, j ≤ i ∧ vi = .int .i64 j ∧ w7 = wr) (fun vi _ => i - (intOf vi).toNat)
  case atStart => exact ⟨0, Nat.zero_le _, rfl, rfl⟩
  case round =>
    obtain ⟨j, hji, rfl, hwr⟩ := hrel
    subst hwr
    obtain ⟨J1, hJ1⟩ : ∃ J1, j + 1 = J1 := ⟨_, rfl⟩
    have hJ1I : (j : Int) + 1 = (J1 : Int) := by omega
    have cj := HCL.out J1 (by have := HLO.out.2.2.1; omega)
    obtain ⟨Lj, hLj⟩ : ∃ Lj, lowN SF J1 = Lj := ⟨_, rfl⟩
    rw [hLj] at cj
    have hJn : (J1 : Int) < (n : Int) + 3 := by have := HLO.out.2.2.1; omega
    by_cases hlt : j < i
    · have hle : Lj ≤ F := by rw [← hLj, ← HLO.out.1]; exact lowN_mono SF (by omega)
      have hleI : (Lj : Int) ≤ (at0 : Int) / 8 := by omega
      have d1 : decide ((Lj : Int) ≤ (at0 : Int) / 8) = true := by simp; omega
      clear hJ1 hLj
      go_wp2
      go_roundw
      case rel => exact ⟨J1, by omega, by go_num, by first | rfl | trivial⟩
      case measure => simp [intOf]; omega
    · obtain rfl : i = j := by omega
      obtain rfl : I1 = J1 := by have := HI1.out; omega
      obtain rfl : E = Lj := by rw [← hLj, ← HLO.out.2.1, hJ1]
      have hgtI : ¬ (E : Int) ≤ (at0 : Int) / 8 := by omega
      have d1 : decide ((E : Int) ≤ (at0 : Int) / 8) = false := by simp; omega
      have q0 : w7.cell? ⟨gl, i, none⟩ = some (.int .i64 (F : Int)) := by have h2 := HCL.out i (by have := HLO.out.2.2.1; omega); rw [HLO.out.1] at h2; exact h2
      have q1 : w7.cell? ⟨gl, I1, none⟩ = some (.int .i64 (E : Int)) := cj
      have HYF : Hid (Bytes w7 (some ⟨g5, F, none⟩) (fL f0)) := by have h2 := (HO7.out.1.drop F).take M; rw [HDF.out, Nat.zero_add] at h2; exact h2
      have hiJ : (i : Int) < (n : Int) + 3 := by omega
      have hi0 : (0 : Int) ≤ (i : Int) := by omega
      have hI10 : (0 : Int) ≤ (I1 : Int) := by omega
      have hw1 : IntKind.i64.wrap ((i : Int) + 1) = (I1 : Int) := by rw [wrap_i64]; omega
      have hwI : IntKind.i64.wrap (I1 : Int) = (I1 : Int) := by rw [wrap_i64]; omega
      have hw2 : IntKind.i64.wrap (8 * (F : Int)) = 8 * (F : Int) := by rw [wrap_i64]; omega
      have hw3 : IntKind.i64.wrap ((at0 : Int) - 8 * (F : Int)) = (qa : Int) := by rw [wrap_i64]; omega
      have hw4 : IntKind.i64.wrap (qa : Int) = (qa : Int) := by rw [wrap_i64]; omega
      clear hJ1 hLj cj hJ1I hji hlt
      go_wp2
      go_region_held3 (fun w' => w'.cell? ⟨gl, i, none⟩ = some (.int .i64 (F : Int)) ∧ w'.cell? ⟨gl, I1, none⟩ = some (.int .i64 (E : Int))) (go_keep) (first
        | (go_at_call 9; refine (turn_any (fL f0) qa P M g5 F _ _ HFF.out.2.1 (HYF.out.keep (below_drewN (Below.refl _ _) _)) HFF.out.2.2 (by rw [HFF.out.2.1]; omega) (by rw [HFF.out.2.1]; omega) HPP.out).mono ?_; rintro r w8 ⟨v8, t, rfl, htl, ho8, hval, hb8⟩; obtain ⟨g8, c8, hv8, hc8, hy8⟩ := ho8.row (fun h => by rw [h, HFF.out.2.1] at htl; simp at htl; omega); rw [htl, HFF.out.2.1] at hv8 hc8; subst hv8; have hb8q := (below_drewN (Below.refl w7.heap.size w7) _).trans hb8; have HT8 : Hid (t.length = M ∧ (∀ i, t.getD i 0 < 256) ∧ Bytes w8 (some ⟨g8, 0, none⟩) t ∧ Below w7.heap.size w7 w8) := ⟨htl.trans HFF.out.2.1, ho8.1, hy8, hb8q⟩; have hcs := cases_of f0 t qa P HFF.out.1 hy8.mem htl HPP.out (by rw [HFF.out.2.1]; omega) hval; have r0 : w8.cell? ⟨gl, i, none⟩ = some (.int .i64 (F : Int)) := (hb8q.cell (p := ⟨gl, i, none⟩) hgl).trans q0; have r1 : w8.cell? ⟨gl, I1, none⟩ = some (.int .i64 (E : Int)) := (hb8q.cell (p := ⟨gl, I1, none⟩) hgl).trans q1; have hgl8 : gl < w8.heap.size := Nat.lt_of_lt_of_le hgl hb8q.size; clear ho8 hb8 hy8 hval htl hb8q)
        | fail)
      rcases hcs with hd | ⟨hd, hz⟩
      · have HDT : Hid (decide (t = fL f0) = true) := hd
        clear hd
        go_wp2
        go_region_held3 (fun w' => w'.cell? ⟨gl, i, none⟩ = some (.int .i64 (F : Int)) ∧ w'.cell? ⟨gl, I1, none⟩ = some (.int .i64 (E : Int))) (go_keep) (first
          | (go_at_call 10; refine (same_at t (fL f0) M _ (some ⟨g8, 0, none⟩) (some ⟨g5, F, none⟩) _ _ _ HT8.out.1 HFF.out.2.1 (HT8.out.2.2.1.keep (below_drewN (Below.refl _ _) _)) ((HYF.out.keep HT8.out.2.2.2).keep (below_drewN (Below.refl _ _) _)) (by rw [HT8.out.1]; unfold maxLen; omega) (by rw [HFF.out.2.1]; unfold maxLen; omega)).mono ?_; rw [HDT.out]; rintro r w9 ⟨rfl, nq, hq9⟩; have HB9 : Hid (Below w8.heap.size w8 w9) := (by rw [hq9]; exact below_drewN (below_drewN (Below.refl _ _) _) nq); have s0 : w9.cell? ⟨gl, i, none⟩ = some (.int .i64 (F : Int)) := (HB9.out.cell (p := ⟨gl, i, none⟩) hgl8).trans r0; have s1 : w9.cell? ⟨gl, I1, none⟩ = some (.int .i64 (E : Int)) := (HB9.out.cell (p := ⟨gl, I1, none⟩) hgl8).trans r1; have hgl9 : gl < w9.heap.size := Nat.lt_of_lt_of_le hgl8 HB9.out.size; clear hq9)
          | fail)
        all_goals (
          go_wp2
          go_ret
          exact ⟨rfl, below_next HO7.out.2 (HT8.out.2.2.2.trans (HB9.out.mono HT8.out.2.2.2.size))⟩)
      · have HDT : Hid (decide (t = fL f0) = false) := hd
        have HZZ : Hid (decE t = 61 ∨ decE t = 62) := hz
        clear hd hz
        go_wp2
        go_region_held3 (fun w' => w'.cell? ⟨gl, i, none⟩ = some (.int .i64 (F : Int)) ∧ w'.cell? ⟨gl, I1, none⟩ = some (.int .i64 (E : Int))) (go_keep) (first
          | (go_at_call 10; refine (same_at t (fL f0) M _ (some ⟨g8, 0, none⟩) (some ⟨g5, F, none⟩) _ _ _ HT8.out.1 HFF.out.2.1 (HT8.out.2.2.1.keep (below_drewN (Below.refl _ _) _)) ((HYF.out.keep HT8.out.2.2.2).keep (below_drewN (Below.refl _ _) _)) (by rw [HT8.out.1]; unfold maxLen; omega) (by rw [HFF.out.2.1]; unfold maxLen; omega)).mono ?_; rw [HDT.out]; rintro r w9 ⟨rfl, nq, hq9⟩; have HB9 : Hid (Below w8.heap.size w8 w9) := (by rw [hq9]; exact below_drewN (below_drewN (Below.refl _ _) _) nq); have s0 : w9.cell? ⟨gl, i, none⟩ = some (.int .i64 (F : Int)) := (HB9.out.cell (p := ⟨gl, i, none⟩) hgl8).trans r0; have s1 : w9.cell? ⟨gl, I1, none⟩ = some (.int .i64 (E : Int)) := (HB9.out.cell (p := ⟨gl, I1, none⟩) hgl8).trans r1; have hgl9 : gl < w9.heap.size := Nat.lt_of_lt_of_le hgl8 HB9.out.size; clear hq9)
          | fail)
        go_wp2
        have HB79 : Hid (Below w7.heap.size w7 w9) := HT8.out.2.2.2.trans (HB9.out.mono HT8.out.2.2.2.size)
        have HCP : Hid (∀ w', Below w7.heap.size w7 w' → Calls Tryd.prog 11 #[.slice (some ⟨g5, 0, none⟩) F c5] w' fun e w'' => ∃ aa ca, e = .returned (.slice aa F ca) ∧ w''.ownsRow w'.heap.size 5 1 (.slice aa F ca) F (B8 (layF (SF.take i))) ∧ Below w'.heap.size w' w'') := fun w' hw' => by
          have hy := (HO7.out.1.take F).keep hw'
          rw [HSP.out.2.2.1] at hy
          have := copy_any (layF (SF.take i)) _ c5 w' hy (by rw [HSP.out.2.1]; omega)
          rw [HSP.out.2.1] at this
          refine this.mono ?_
          rintro e w'' ⟨v, rfl, ho, hb⟩
          obtain ⟨aa, ca, hv, _⟩ := ho.shape
          rw [HSP.out.2.1] at hv
          subst hv
          exact ⟨aa, ca, rfl, by have h := ho.2; rw [HSP.out.2.1] at h; exact h, hb⟩
        obtain ⟨O, hO⟩ : ∃ O, (if c5 = E then 0 else E) = O := ⟨_, rfl⟩
        have HYO : Hid (Bytes w9 (some ⟨g5, O, none⟩) (layF (SF.drop (i + 1)))) := by
          by_cases hcE : c5 = E
          · have h0 : layF (SF.drop (i + 1)) = [] := List.length_eq_zero_iff.1 (by rw [HSP.out.2.2.2.2]; omega)
            show Bytes _ _ _
            rw [h0]
            exact Bytes.none _ _
          · have h := (HO7.out.1.keep HB79.out).drop E
            rw [HSP.out.2.2.2.1, Nat.zero_add] at h
            rw [← hO, if_neg hcE]
            exact h
        have hOA : (if c5 = E then (some ⟨g5, 0, none⟩ : Option Addr) else some ⟨g5, E, none⟩) = some ⟨g5, O, none⟩ := by rw [← hO]; split <;> rfl
        clear hO
        go_region_held3 (fun w' => w'.cell? ⟨gl, i, none⟩ = some (.int .i64 (F : Int)) ∧ w'.cell? ⟨gl, I1, none⟩ = some (.int .i64 (E : Int))) (go_keep) (first
          | (go_at_call 11; refine (HCP.out _ ?_).mono ?_; exact below_drewN HB79.out _; rintro e wa ⟨aa, ca, rfl, hoa, hba⟩; have HBa : Hid (Below w9.heap.size w9 wa) := (below_drewN (Below.refl w9.heap.size w9) _).trans hba; have HOa : Hid (wa.ownsRow w9.heap.size 5 1 (.slice aa F ca) F (B8 (layF (SF.take i)))) := hoa; have ka0 : wa.cell? ⟨gl, i, none⟩ = some (.int .i64 (F : Int)) := (HBa.out.cell (p := ⟨gl, i, none⟩) hgl9).trans s0; have ka1 : wa.cell? ⟨gl, I1, none⟩ = some (.int .i64 (E : Int)) := (HBa.out.cell (p := ⟨gl, I1, none⟩) hgl9).trans s1; have hsa : w9.heap.size ≤ wa.heap.size := HBa.out.size; clear hoa hba)
          | ((refine step_append_lies _ (by rfl) _ _ 26 (by rfl) w9.heap.size 5 i0 (.int .u8 0) 1 1 Tryd.underlying26 hi hz0 hz1 hz2 rfl (by decide) (.slice aa F ca) F (B8 (layF (SF.take i))) (by rfl) HOa.out ⟨g8, 0, none⟩ M c8 (B8 t) (by rfl) (by rw [B8_length, HT8.out.1, Nat.mul_one]) (bytes_cells ((HT8.out.2.2.1.keep HB9.out).keep HBa.out)) (B8_one _) (by omega) (by unfold maxLen; omega) (by omega) hsa wa.heap.size rfl ?_; intro gb cb wb hob hgb hatb hltb; have HOb : Hid (wb.ownsRow w9.heap.size 5 1 (.slice (some ⟨gb, 0, none⟩) (F + M) cb) (F + M) (B8 (layF (SF.take i)) ++ B8 t)) := hob; have HBb : Hid (Below w9.heap.size w9 wb) := grown_row HBa.out HOa.out hsa hgb; have kb0 : wb.cell? ⟨gl, i, none⟩ = some (.int .i64 (F : Int)) := (HBb.out.cell (p := ⟨gl, i, none⟩) hgl9).trans s0; have kb1 : wb.cell? ⟨gl, I1, none⟩ = some (.int .i64 (E : Int)) := (HBb.out.cell (p := ⟨gl, I1, none⟩) hgl9).trans s1; have hsb : w9.heap.size ≤ wb.heap.size := HBb.out.size; clear hob hgb hatb hltb))
          | ((refine step_append_any _ (by rfl) _ _ 26 (by rfl) w9.heap.size i0 Tryd.underlying26 hi hz0 hz1 hz2 (.slice (some ⟨gb, 0, none⟩) (F + M) cb) (F + M) (B8 (layF (SF.take i)) ++ B8 t) (by rfl) HOb.out (by omega) (some ⟨g5, O, none⟩) (B - E) _ (layF (SF.drop (i + 1))) (by rfl) HSP.out.2.2.2.2 (HYO.out.keep HBb.out) (fun h => by cases h) (by omega) hsb ?_; intro gc cc wc hoc hgc; have HOc : Hid (wc.ownsRow w9.heap.size 5 1 (.slice (some ⟨gc, 0, none⟩) (F + M + (B - E)) cc) (F + M + (B - E)) (B8 (layF (SF.take i)) ++ B8 t ++ B8 (layF (SF.drop (i + 1))))) := hoc; have HBc : Hid (Below w9.heap.size w9 wc) := grown_row HBb.out HOb.out hsb hgc; have kc0 : wc.cell? ⟨gl, i, none⟩ = some (.int .i64 (F : Int)) := (HBc.out.cell (p := ⟨gl, i, none⟩) hgl9).trans s0; have kc1 : wc.cell? ⟨gl, I1, none⟩ = some (.int .i64 (E : Int)) := (HBc.out.cell (p := ⟨gl, I1, none⟩) hgl9).trans s1; have hcc : F + M + (B - E) ≤ cc := row_capB hoc; clear hoc hgc)))
        have HYA : Hid (Bytes wc (some ⟨gc, 0, none⟩) (layF (SF.take i) ++ (t ++ layF (SF.drop (i + 1)))) ∧ (layF (SF.take i) ++ (t ++ layF (SF.drop (i + 1)))).length = F + M + (B - E)) := by
          have hl : (layF (SF.take i) ++ (t ++ layF (SF.drop (i + 1)))).length = F + M + (B - E) := by rw [List.length_append, List.length_append, HSP.out.2.1, HT8.out.1, HSP.out.2.2.2.2]; omega
          have hmem : ∀ z ∈ layF (SF.take i) ++ (t ++ layF (SF.drop (i + 1))), z < 256 := by
            intro z hz
            rcases List.mem_append.1 hz with h | h
            · exact layF_lt _ (fun f hf => HSO.out.1 f (List.mem_of_mem_take hf)) z h
            · rcases List.mem_append.1 h with h | h
              · exact HT8.out.2.2.1.mem z h
              · exact layF_lt _ (fun f hf => HSO.out.1 f (List.mem_of_mem_drop hf)) z h
          exact ⟨bts_of (by rw [B8_append, B8_append, ← List.append_assoc]; exact HOc.out) hl hmem, hl⟩
        have HBW : Hid (Below w.heap.size w wc) := below_next HO7.out.2 (HB79.out.trans (HBc.out.mono HB79.out.size))
        obtain ⟨TL, hTL⟩ : ∃ TL, F + M + (B - E) = TL := ⟨_, rfl⟩
        rw [hTL] at HYA hcc ⊢
        have hTLb : TL ≤ 8410300 := by omega
        by_cases hi00 : i = 0
        · have hi0I : ((i : Int) == 0) = true := by simp; omega
          have HNN : Hid (∀ base e w', ScanP (layF (SF.take i) ++ (t ++ layF (SF.drop (i + 1)))) base e w' → e = .returned (.tuple #[SgV 0 0 0 false 0 (.slice none 0 0) 0, .slice none 0 0, .int .i64 71])) := by
            have hnone : hdr (layF (SF.take i) ++ (t ++ layF (SF.drop (i + 1)))) = none := by
              rw [hi00, List.take_zero]
              refine hdr_none_e _ (.inl ?_)
              show decE (t ++ layF (SF.drop (0 + 1))) ≠ 0
              rw [dec_more t _ HZZ.out]
              have := HZZ.out
              omega
            rintro base e w' (⟨_, h⟩ | ⟨h, _⟩)
            · exact h
            · rw [hnone] at h; cases h
          clear hi00
          go_wp2_with (first
            | (go_at_call 12; refine (scan14_any (layF (SF.take i) ++ (t ++ layF (SF.drop (i + 1)))) TL (some ⟨gc, 0, none⟩) cc wc HYA.out.2 HYA.out.1 hcc (by omega) (HP.out.2.2.1.keep HBW.out)).mono ?_; rintro r wd ⟨hsd, hbd⟩; obtain rfl := HNN.out _ _ _ hsd; have HWD : Hid (Below w.heap.size w wd) := below_next HBW.out hbd; clear hsd hbd)
            | fail)
          go_ret
          exact ⟨rfl, HWD.out.alloc HWD.out.size _⟩
        · obtain ⟨k, hk⟩ : ∃ k, i = k + 1 := ⟨i - 1, by omega⟩
          have hkn : k ≤ n := by have := HLO.out.2.2.1; omega
          have hik1 : (i : Int) - 1 = (k : Int) := by omega
          have hi0I : ((i : Int) == 0) = false := by simp; omega
          have htk : layF (SF.take i) = hdrL x y ++ layF (evF y k A L Cp) := by rw [hk, ← HSO.out.2.2]; exact segF_take x y n A L Cp fb k hkn
          have hFk : F = h + (layF (evF y k A L Cp)).length := by rw [← HSP.out.2.1, htk, List.length_append, HV.out.2.2]
          obtain ⟨t1, t2, t3, t4, t5, t6, t7⟩ := seg_turned x y k A L Cp hx1 hx hy1 hy (by omega) (fun j hj => HP.out.2.1 j (by omega)) t (layF (SF.drop (i + 1))) HZZ.out (layF (SF.take i) ++ (t ++ layF (SF.drop (i + 1)))) (by rw [htk, List.append_assoc])
          rw [HV.out.2.2] at t4 t5
          rw [← hFk] at t5
          have HNN : Hid (∀ base e w', ScanP (layF (SF.take i) ++ (t ++ layF (SF.drop (i + 1)))) base e w' → ∃ (xs : List It) (a1 a2 : Option Addr) (c1 c2 k2 : Nat), e = .returned (.tuple #[SgV (x : Int) (y : Int) (k : Int) false 0 (.slice a2 k2 c2) (F : Int), .slice a1 k c1, .int .i64 0]) ∧ xs.map It.fm = plF h (evF y k A L Cp) ∧ xs.length = k ∧ PlcA w' a1 xs) := by
            rintro base e w' (⟨hn, _⟩ | ⟨_, xs, v, mv, z1, z2, z3, z4⟩)
            · rw [t1] at hn; cases hn
            · obtain ⟨a1, c1, hv, hpl⟩ := z3.plc
              obtain ⟨a2, c2, hv2, _⟩ := z4.shape
              have hxk : xs.length = k := by have h2 := congrArg List.length z1; rw [List.length_map, t4, plF_len, evF_len] at h2; exact h2
              rw [hxk] at hv
              subst hv hv2
              refine ⟨xs, a1, a2, c1, c2, (sgM (layF (SF.take i) ++ (t ++ layF (SF.drop (i + 1))))).length, ?_, by rw [z1, t4], hxk, hpl⟩
              rw [z2, t2, t3, t5, t6, t7, t4, plF_len, evF_len]
              simp only [Int.add_zero, Int.natCast_zero, Nat.lt_irrefl, decide_false]
          have hkI : (k : Int) ≤ 512 := by omega
          have HLT : Hid (Below w9.heap.size w9 wc) := HBc.out
          clear hk t1 t2 t3 t4 t5 t6 t7 htk hFk hi00
          go_wp2_with (first
            | (go_at_call 12; refine (scan14_any (layF (SF.take i) ++ (t ++ layF (SF.drop (i + 1)))) TL (some ⟨gc, 0, none⟩) cc wc HYA.out.2 HYA.out.1 hcc (by omega) (HP.out.2.2.1.keep HBW.out)).mono ?_; rintro r wd ⟨hsd, hbd⟩; obtain ⟨xs, a1, a2, c1, c2', k2, rfl, hx1', hx2', hx3'⟩ := HNN.out _ _ _ hsd; have HWD : Hid (Below w.heap.size w wd) := below_next HBW.out hbd; have HXD : Hid (xs.map It.fm = plF h (evF y k A L Cp) ∧ xs.length = k ∧ PlcA wd a1 xs) := ⟨hx1', hx2', hx3'⟩; have hglc : gl < wc.heap.size := Nat.lt_of_lt_of_le hgl9 HLT.out.size; have kd0 : wd.cell? ⟨gl, i, none⟩ = some (.int .i64 (F : Int)) := (hbd.cell (p := ⟨gl, i, none⟩) hglc).trans kc0; have hgld : gl < wd.heap.size := Nat.lt_of_lt_of_le hglc hbd.size; clear hsd hbd hx1' hx2' hx3')
            | fail)
          go_quiet (fail)
          go_wp2
          go_loopw [195] (fun vj wq => ∃ j : Nat, j ≤ k ∧ vj = .int .i64 j ∧ Below wd.heap.size wd wq) (fun vj _ => k - (intOf vj).toNat)
          case atStart => exact ⟨0, Nat.zero_le _, rfl, below_drewN ((Below.refl _ _).alloc (Nat.le_refl _) _) _⟩
          case round =>
            rename World => wq
            obtain ⟨j, hjk, rfl, hbq⟩ := hrel
            have hsq := hbq.size
            by_cases hjl : j < k
            · obtain ⟨z, hz⟩ := lt_get (L := xs) (k := j) (by rw [HXD.out.2.1]; exact hjl)
              obtain ⟨q, hq⟩ := plF_get (evF y k A L Cp) h j _ (evF_get y k A L Cp j hjl)
              have hfm : z.fm = ⟨q, (1 : Int).toNat, ((y + j : Nat) : Int).toNat, L j⟩ := by
                have h := congrArg (fun M => M[j]?) HXD.out.1
                simp only [List.getElem?_map, hz, hq, Option.map_some, Option.some.injEq] at h
                exact h
              obtain ⟨bx, ox, rfl, hltx, _, _, _, _, d4⟩ := (HXD.out.2.2.keep hbq).at j z hz
              obtain ⟨a5, s5, e5, hy5, hm5⟩ := (HXD.out.2.2.keep hbq).byt z (List.mem_of_getElem? hz)
              rw [hfm] at e5 hy5 hm5
              simp only at e5 hy5 hm5
              rw [e5] at d4
              have hjn : j < n := by omega
              have hpc := (HP.out.1.keep HWD.out).keep hbq
              rcases hpc.1 with h0 | ⟨bp, op, hap, hltp, hcp⟩
              · omega
              subst hap
              have p0 := hcp j hjn
              have hyp := (hpc.2 j hjn).1
              obtain ⟨ml, hml⟩ : ∃ m, (L j).length = m := ⟨_, rfl⟩
              rw [hml] at d4 p0 hm5
              have HSM : Hid (∀ w', Below wq.heap.size wq w' → Calls Tryd.prog 10 #[.slice a5 ml s5, .slice (A j) ml (Cp j)] w' fun e w'' => e = .returned (.bool true) ∧ Below w'.heap.size w' w'') := fun w' hw' => (same_at (L j) (L j) ml ml a5 (A j) s5 (Cp j) w' hml hml (hy5.keep hw') (hyp.keep hw') (by rw [hml]; exact hm5) (by rw [hml]; exact hm5)).mono (by rw [decide_eq_true (rfl : L j = L j)]; rintro e w'' ⟨rfl, nn, rfl⟩; exact ⟨rfl, below_drewN (Below.refl _ _) nn⟩)
              have hjI : (j : Int) < (k : Int) := by omega
              have hjnI : (j : Int) < (n : Int) := by omega
              clear hz hq hfm hy5 hm5 hpc hcp hyp hml e5
              go_wp2
              go_region_held3 (fun w' => w'.cell? ⟨bx, ox + j * 5 + 4, none⟩ = some (.slice a5 ml s5) ∧ w'.cell? ⟨bp, op + j, none⟩ = some (.slice (A j) ml (Cp j))) (go_keep) (first
                | (go_at_call 10; refine (HSM.out _ (below_drewN (Below.refl _ _) 1)).mono ?_; rintro e wz ⟨rfl, hbz⟩; have zz0 : wz.cell? ⟨bx, ox + j * 5 + 4, none⟩ = some (.slice a5 ml s5) := (hbz.cell (p := ⟨bx, ox + j * 5 + 4, none⟩) hltx).trans d4; have zz1 : wz.cell? ⟨bp, op + j, none⟩ = some (.slice (A j) ml (Cp j)) := (hbz.cell (p := ⟨bp, op + j, none⟩) hltp).trans p0; have HBz : Hid (Below wq.heap.size wq wz) := (below_drewN (Below.refl wq.heap.size wq) _).trans hbz; clear hbz)
                | fail)
              all_goals go_wp2
              all_goals exact ⟨⟨j + 1, by omega, by go_num, hbq.trans (HBz.out.mono hsq)⟩, by simp [intOf]; omega⟩
            · go_wp2
              go_ret
              exact ⟨rfl, below_next HWD.out hbq⟩
end Go.Proofs.YtaegmeilhdbnnabDoor.segmentBursts
