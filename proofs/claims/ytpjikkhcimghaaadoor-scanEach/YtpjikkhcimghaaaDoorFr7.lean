/- daybookref11: Encode. -/
import Derived.Test.YtpjikkhcimghaaaDoorFr6
import Derived.Test.YtpjikkhcimghaaaDoorApn
import Derived.Deep.RegionHeld3
import Derived.Deep.Onto
namespace Go.Proofs.YtpjikkhcimghaaaDoor
open Go.ChangeShapes Go.WideShapes Go.ChangeAt Go.RowKit
set_option linter.unusedVariables false
theorem FrmAt.drew {w : World} {k : Nat} {kind seq : Int} {bv : Value} (h : FrmAt w k kind seq bv) : FrmAt w.drew k kind seq bv := h
theorem FrmAt.grown {w w' : World} {base n k : Nat} {v : Value} {xs : List Value} {kind seq : Int} {bv : Value} (h : FrmAt w k kind seq bv) (ho : w.ownsRow base 5 1 v n xs) (hg : w.grownBy w' v.ownBlock) : FrmAt w' k kind seq bv := h.nb (NB.of_grown ho hg)
theorem own_mono {w : World} {base base2 : Nat} {v : Value} {l : List Nat} (h : Own w base v l) (hb : base2 ≤ base) : Own w base2 v l := ⟨h.1, World.ownsRow.mono (base' := base2) h.2 hb⟩
set_option maxRecDepth 20000 in
set_option maxHeartbeats 1000000 in
theorem rfenc_ok (k s : Nat) (body : List Nat) (a : Option Addr) (n cap : Nat) (w : World) (hk1 : 1 ≤ k) (hk7 : k ≤ 7) (hs : s ≤ 1099511627776) (hN : body.length = n) (hn : n ≤ 16384) (hb : Bytes w a body) (hc : a = none → cap = 0) :
    Calls Tryd.prog 16 #[FrV (k : Int) (s : Int) (.slice a n cap)] w fun r w' => ∃ v, r = .returned (.tuple #[v, .int .i64 0]) ∧ Own w' w.heap.size v (frameL k s body) ∧ Below w.heap.size w w' := by
  obtain ⟨i0, hi, hz0, hz1, hz2⟩ := info_parts Tryd.info5f
  have hkI : (k : Int) ≤ 7 := by omega
  have hk1I : (1 : Int) ≤ (k : Int) := by omega
  have hnI : (n : Int) ≤ 16384 := by omega
  have hsI : (s : Int) ≤ 1099511627776 := by omega
  have HN : Hid (body.length = n) := hN
  have HC : Hid (a = none → cap = 0) := hc
  have HB : Hid (Bytes w a body) := hb
  have HSB : Hid (Crcm.sum body < 4294967296) := Crcm.sum_lt _ hb.mem
  have HSF : Hid (∀ y ∈ frameL k s body, y < 256) := frameL_lt k s body (by omega) hb.mem
  obtain ⟨W, hW⟩ : ∃ W, w.alloc (.cells #[.int .i64 (k : Int), .int .i64 (s : Int), .slice a n cap] 32) = W := ⟨_, rfl⟩
  have HF : Hid (FrmAt W w.heap.size k s (.slice a n cap) ∧ Below w.heap.size w W ∧ w.heap.size < W.heap.size) := by rw [← hW]; exact ⟨FrmAt.new _ _ _ _, (Below.refl _ _).alloc (Nat.le_refl _) _, by simp⟩
  have HW : Hid (_ = W) := hW
  clear hW hb hc hN
  go_enter Tryd.func16, Tryd.ntmps16
  go_wp2
  rw [HW.out]
  obtain ⟨c0, c1, c2⟩ := HF.out.1.cells
  go_region_held3 (fun w' => w'.cell? ⟨w.heap.size, 0, none⟩ = some (.int .i64 (k : Int)) ∧ w'.cell? ⟨w.heap.size, 1, none⟩ = some (.int .i64 (s : Int)) ∧ w'.cell? ⟨w.heap.size, 2, none⟩ = some (.slice a n cap)) (go_keep) (first
    | (go_at_call 23; refine (rhead_any k n s _ hk7 hn hs).mono ?_; rintro r w1 ⟨g1, p1, rfl, ho1, hb1⟩; have hf1 : FrmAt w1 w.heap.size k s (.slice a n cap) := (show FrmAt W.drew w.heap.size k s (.slice a n cap) from HF.out.1).keep hb1; obtain ⟨d0, d1, d2⟩ := hf1.cells; have HB1 : Hid (Below W.heap.size W.drew w1) := hb1; have HBw : Hid (Below w.heap.size w w1) := HF.out.2.1.trans ((((Below.refl W.heap.size W).drew).trans hb1).mono (Nat.le_of_lt HF.out.2.2)); have HO1 : Hid (Own w1 W.heap.size (.slice (some ⟨g1, 0, none⟩) 16 p1) (headL k n s)) := ho1; have HF1 : Hid (FrmAt w1 w.heap.size k s (.slice a n cap)) := hf1; have hs1 : W.heap.size ≤ w1.heap.size := hb1.size; clear hb1 ho1 hf1)
    | ((refine step_append_any _ (by rfl) _ _ 22 (by rfl) W.heap.size i0 Tryd.underlying22 hi hz0 hz1 hz2 (.slice (some ⟨g1, 0, none⟩) 16 p1) 16 (B8 (headL k n s)) (by rfl) (by have h := HO1.out.2; rw [headL_length] at h; exact h) (by omega) a n cap body (by rfl) HN.out (HB.out.keep HBw.out) HC.out (by omega) hs1 ?_; intro g3 p3 w3 hown3 hgrow3; have hf3 : FrmAt w3 w.heap.size k s (.slice a n cap) := HF1.out.grown HO1.out.2 hgrow3; obtain ⟨y0, y1, y2⟩ := hf3.cells; have HB3 : Hid (Below w.heap.size w w3) := HBw.out.grown hgrow3 (by have := HBw.out.size; omega) (fun k hk => Nat.le_trans (Nat.le_of_lt HF.out.2.2) ((HO1.out.2.lt k hk).1)); have HO3 : Hid (w3.ownsRow W.heap.size 5 1 (.slice (some ⟨g3, 0, none⟩) (16 + n) p3) (16 + n) (B8 (headL k n s) ++ B8 body)) := hown3; have HF3 : Hid (FrmAt w3 w.heap.size k s (.slice a n cap)) := hf3; have hs3 : W.heap.size ≤ w3.heap.size := Nat.le_trans hs1 hgrow3.size; clear hf3 hown3 hgrow3)))
  go_wp2_with (first
    | (go_at_call 20; refine (rsum_any body n _ _ _ HN.out (HB.out.keep HB3.out) (by rw [HN.out]; unfold maxLen; omega)).mono ?_; rintro r w4 ⟨rfl, rfl⟩)
    | (go_at_call 19; refine (rfour_any _ _ HSB.out).mono ?_; rintro r w5 ⟨g5, rfl, hy5, hb5⟩; have HO5 : Hid (w5.ownsRow W.heap.size 5 1 (.slice (some ⟨g3, 0, none⟩) (16 + n) p3) (16 + n) (B8 (headL k n s) ++ B8 body)) := own_below HO3.out hb5; have HB5 : Hid (Below w.heap.size w w5) := below_next HB3.out hb5; have HY5 : Hid (Bytes w5 (some ⟨g5, 0, none⟩) (Crcm.four (Crcm.sum body))) := hy5; have hs5 : W.heap.size ≤ w5.heap.size := Nat.le_trans hs3 hb5.size; clear hb5 hy5)
    | (at_builtin; refine wpList_append_any _ rfl _ _ 22 rfl W.heap.size i0 Tryd.underlying22 hi hz0 hz1 hz2 _ _ _ rfl HO5.out (by omega) _ 4 4 (Crcm.four (Crcm.sum body)) rfl rfl HY5.out (fun h => by cases h) (by omega) hs5 ?_; intro g6 p6 w6 hown6 hgrow6; have HB6 : Hid (Below w.heap.size w w6) := HB5.out.grown hgrow6 (by have := HB5.out.size; omega) (fun k hk => Nat.le_trans (Nat.le_of_lt HF.out.2.2) ((HO5.out.lt k hk).1)); have HO6 : Hid (w6.ownsRow W.heap.size 5 1 (.slice (some ⟨g6, 0, none⟩) (16 + n + 4) p6) (16 + n + 4) (B8 (headL k n s) ++ B8 body ++ B8 (Crcm.four (Crcm.sum body)))) := hown6; clear hown6 hgrow6))
  go_ret2
  refine ⟨.slice (some ⟨g6, 0, none⟩) (16 + n + 4) p6, rfl, ⟨fun i => getD_lt HSF.out i, World.ownsRow.mono (base' := w.heap.size) (base := W.heap.size) ?_ (Nat.le_of_lt HF.out.2.2)⟩, HB6.out⟩
  have h := HO6.out
  have e : frameL k s body = headL k n s ++ body ++ Crcm.four (Crcm.sum body) := by unfold frameL; rw [HN.out, List.append_assoc]
  rw [frameL_length, HN.out, e, B8_append, B8_append, show n + 20 = 16 + n + 4 from by omega]
  exact h
set_option maxRecDepth 20000 in
set_option maxHeartbeats 1000000 in
theorem rfenc_bad (kind seq : Int) (a : Option Addr) (n cap : Nat) (w : World) (hn : n ≤ 281474976710656) (hE : encE kind seq n ≠ 0) :
    Calls Tryd.prog 16 #[FrV kind seq (.slice a n cap)] w fun r w' => r = .returned (.tuple #[.slice none 0 0, .int .i64 (encE kind seq n : Nat)]) ∧ Below w.heap.size w w' := by
  by_cases h1 : inB kind seq = false
  · have HE : Hid (encE kind seq n = 63) := by show _ = _; unfold encE; rw [if_pos h1]
    clear hE
    have hnot : ¬ (1 ≤ kind ∧ kind ≤ 7 ∧ 0 ≤ seq ∧ seq ≤ 1099511627776) := of_decide_eq_false h1
    clear h1
    by_cases q1 : kind < 1
    · go_enter Tryd.func16, Tryd.ntmps16
      go_wp2
      go_ret2
      exact ⟨by rw [HE.out]; rfl, (Below.refl _ _).alloc (Nat.le_refl _) _⟩
    by_cases q2 : 7 < kind
    · go_enter Tryd.func16, Tryd.ntmps16
      go_wp2
      go_ret2
      exact ⟨by rw [HE.out]; rfl, (Below.refl _ _).alloc (Nat.le_refl _) _⟩
    by_cases q3 : seq < 0
    · go_enter Tryd.func16, Tryd.ntmps16
      go_wp2
      go_ret2
      exact ⟨by rw [HE.out]; rfl, (Below.refl _ _).alloc (Nat.le_refl _) _⟩
    have q4 : 1099511627776 < seq := by omega
    clear hnot
    go_enter Tryd.func16, Tryd.ntmps16
    go_wp2
    go_ret2
    exact ⟨by rw [HE.out]; rfl, (Below.refl _ _).alloc (Nat.le_refl _) _⟩
  · have h2 : 16384 < n := by
      unfold encE at hE
      rw [if_neg h1] at hE
      by_cases h : 16384 < n
      · exact h
      · rw [if_neg h] at hE; exact absurd rfl hE
    have HE : Hid (encE kind seq n = 24) := by show _ = _; unfold encE; rw [if_neg h1, if_pos h2]
    have hnI : (16384 : Int) < (n : Int) := by omega
    have hn2 : (n : Int) ≤ 281474976710656 := by omega
    obtain ⟨k1, k7, s0, s1⟩ := of_decide_eq_true (show inB kind seq = true by simpa using h1)
    clear h1 hE h2
    go_enter Tryd.func16, Tryd.ntmps16
    go_wp2
    go_ret2
    exact ⟨by rw [HE.out]; rfl, (Below.refl _ _).alloc (Nat.le_refl _) _⟩
theorem encE_ok {kind seq : Int} {n : Nat} (hE : encE kind seq n = 0) : ∃ k s : Nat, kind = k ∧ seq = s ∧ 1 ≤ k ∧ k ≤ 7 ∧ s ≤ 1099511627776 ∧ n ≤ 16384 := by
  have hx := hE
  unfold encE at hx
  have h1 : inB kind seq = true := by
    by_cases h : inB kind seq = false
    · rw [if_pos h] at hx; omega
    · simpa using h
  rw [if_neg (by rw [h1]; simp)] at hx
  have h2 : ¬ 16384 < n := fun h => by rw [if_pos h] at hx; omega
  obtain ⟨k1, k7, s0, s1⟩ := of_decide_eq_true h1
  obtain ⟨k, rfl⟩ := Int.eq_ofNat_of_zero_le (show 0 ≤ kind by omega)
  obtain ⟨s, rfl⟩ := Int.eq_ofNat_of_zero_le s0
  exact ⟨k, s, rfl, rfl, by omega, by omega, by omega, by omega⟩
theorem rfenc_any (kind seq : Int) (body : List Nat) (n : Nat) (a : Option Addr) (cap : Nat) (w : World) (hn : body.length = n) (hb : Bytes w a body) (hc : a = none → cap = 0) (hl : n ≤ 281474976710656) :
    Calls Tryd.prog 16 #[FrV kind seq (.slice a n cap)] w fun r w' => ∃ v, r = .returned (.tuple #[v, .int .i64 (encE kind seq n : Nat)]) ∧ Own w' w.heap.size v (encL kind seq body) ∧ Below w.heap.size w w' := by
  by_cases hE : encE kind seq n = 0
  · obtain ⟨k, s, rfl, rfl, h1, h2, h3, h4⟩ := encE_ok hE
    unfold encL
    rw [hn, hE, if_pos rfl]
    simp only [Int.toNat_natCast]
    exact rfenc_ok k s body a n cap w h1 h2 h3 hn h4 hb hc
  · refine (rfenc_bad kind seq a n cap w hl hE).mono ?_
    rintro r w' ⟨rfl, hb'⟩
    refine ⟨_, rfl, ?_, hb'⟩
    unfold encL
    rw [hn, if_neg hE]
    exact own_none _ _
end Go.Proofs.YtpjikkhcimghaaaDoor
