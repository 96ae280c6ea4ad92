/- Own texts, joined: Oa1. -/
import Derived.Test.YtmjppeljpifjpaaGreatM22
import Derived.Test.YtmjppeljpifjpaaGreatK26
import Derived.Test.YtmjppeljpifjpaaGreatM73
import Derived.Deep.AppendLies
namespace Go.Proofs.YtmjppeljpifjpaaGreat
open Go.ChangeShapes Go.WideShapes Go.ChangeAt Go.RowKit
set_option linter.unusedVariables false
set_option linter.unusedSimpArgs false
/-- of the first j kinds those for which the order has a use -/
def alw (s : St) : Nat → List Int
  | 0 => []
  | j + 1 => alw s j ++ (if stdR s ((j : Int) + 1) = 0 then [(j : Int) + 1] else [])
theorem alw_len (s : St) : ∀ j, (alw s j).length ≤ j
  | 0 => Nat.le_refl _
  | j + 1 => by
    have := alw_len s j
    unfold alw
    rw [List.length_append]
    split <;> simp <;> omega
/-- kinds as values -/
def kvs (L : List Int) : List Value := L.map fun k => Value.int .i64 k
theorem kvs_append (L M : List Int) : kvs (L ++ M) = kvs L ++ kvs M := List.map_append
/-- a row of the call's own that holds the kinds L -/
def OwnK (w : World) (base : Nat) (v : Value) (L : List Int) : Prop := w.ownsRow base 35 1 v L.length (kvs L)
theorem OwnK.shape {w : World} {base : Nat} {v : Value} {L : List Int} (h : OwnK w base v L) : ∃ a cap, v = .slice a L.length cap ∧ L.length ≤ cap ∧ cap ≤ maxLen ∧ ((a = none ∧ L = []) ∨ ∃ g, a = some ⟨g, 0, none⟩ ∧ base ≤ g ∧ g < w.heap.size ∧ ∀ k x, L[k]? = some x → w.cell? ⟨g, k, none⟩ = some (.int .i64 x)) := by
  have h' := h
  obtain ⟨h1, h2⟩ := h
  rcases h2 with ⟨rfl, hn⟩ | ⟨g, cap, cur, rfl, hb, hg, hnc, hcm, hcs, htake⟩
  · have : L = [] := List.length_eq_zero_iff.1 hn
    subst this
    exact ⟨none, 0, rfl, Nat.le_refl _, by simp, .inl ⟨rfl, rfl⟩⟩
  · refine ⟨some ⟨g, 0, none⟩, cap, rfl, hnc, hcm, .inr ⟨g, rfl, hb, lt_of_heap hg, fun k x hx => ?_⟩⟩
    have hk := ln_lt hx
    have := World.ownsRow.cellAt h' k (by simpa using hk)
    rw [this]
    simp [kvs, hx]
set_option maxRecDepth 20000 in
set_option maxHeartbeats 4000000 in
theorem allowed_any (s : St) (a : Option Addr) (n cap : Nat) (w : World) (hn : s.lines.length = n) (hl : Lns w a s.lines) (hm : n ≤ maxLen) :
    Calls Tryz.prog 27 #[.agg (stA s (.slice a n cap))] w fun r w' => ∃ v, r = .returned v ∧ OwnK w' w.heap.size v (if vldB s = true then alw s 10 else []) ∧ Below w.heap.size w w' := by
  obtain ⟨i0, hi, hz0, hz1, hz2⟩ := info_parts Tryz.infoK
  have HN : Hid (s.lines.length = n) := hn
  have HC0 : Hid (StC w w.heap.size s a n cap (w.alloc (.cells (stA s (.slice a n cap)) 25))) := StC.new w s a n cap hl
  cases hv : vldB s with
  | false =>
    rw [if_neg (by decide)]
    have HV : Hid (vldB s = false) := hv
    clear hn hl hv
    go_enter Tryz.func27, Tryz.ntmps27
    go_wp2_with (first
      | ((with_reducible refine guard_load 25 ?_); refine wpList_load_st rfl _ rfl HC0.out.1 rfl ?_)
      | (go_at_call 17; refine (valid_st s a n cap _ HN.out HC0.out.2.1 hm).mono ?_; rw [HV.out]; rintro _ x1 ⟨rfl, hb1⟩; have HC1 : Hid (StC w w.heap.size s a n cap x1) := StC.keep HC0.out hb1; clear hb1))
    go_ret
    exact ⟨_, rfl, World.ownsRow_nil _ _ _ _, HC1.out.2.2⟩
  | true =>
    rw [if_pos rfl]
    have HV : Hid (vldB s = true) := hv
    clear hn hl hv
    go_enter Tryz.func27, Tryz.ntmps27
    go_wp2_with (first
      | ((with_reducible refine guard_load 25 ?_); refine wpList_load_st rfl _ rfl HC0.out.1 rfl ?_)
      | (go_at_call 17; refine (valid_st s a n cap _ HN.out HC0.out.2.1 hm).mono ?_; rw [HV.out]; rintro _ x1 ⟨rfl, hb1⟩; have HC1 : Hid (StC w w.heap.size s a n cap x1) := StC.keep HC0.out hb1; clear hb1)
      | (go_at_call 44; refine (deeds_any _).mono ?_; rintro _ x2 ⟨b, rfl, hd2, hb2⟩; have HD2 : Hid (DeedsAt x1.heap.size x2 b) := hd2; have HC2 : Hid (StC w w.heap.size s a n cap x2) := StC.keep HC1.out hb2; clear hd2 hb2)
      | (go_at_call 50; refine (kinds5 _).mono ?_; rintro _ x3 ⟨v3, rfl, ho3, hb3⟩; obtain ⟨g3, c3, rfl, hg3, hg3'⟩ := ho3.form (by decide); have HK3 : Hid (x3.ownsRow x2.heap.size 35 1 (.slice (some ⟨g3, 0, none⟩) 10 c3) 10 (KV 10)) := ho3; have HB3 : Hid (Below x2.heap.size x2 x3) := hb3; have HC3 : Hid (StC w w.heap.size s a n cap x3) := StC.keep HC2.out hb3; clear ho3 hb3))
    have HD3 : Hid (DeedsAt x1.heap.size x3 b) := HD2.out.same ⟨HB3.out.size, fun k h1 h2 => HB3.out.block k h2⟩
    have HX3 : Hid (x3.heap.size = x3.heap.size) := rfl
    go_loopw [13, 4] (fun vi vo wr => ∃ (j : Nat) (v0 : Value), j ≤ 10 ∧ vi = .int .i64 j ∧ v0 = vo ∧ Hid (OwnK wr x3.heap.size v0 (alw s j) ∧ Below x3.heap.size x3 wr)) (fun vi _ _ => 10 - (intOf vi).toNat)
    case atStart => exact ⟨0, _, Nat.zero_le _, rfl, rfl, World.ownsRow_nil _ _ _ _, Below.refl _ _⟩
    case round =>
      obtain ⟨j, v0, hj, rfl, rfl, HI⟩ := hrel
      by_cases hj10 : j < 10
      · have HO : Hid (OwnK wr x3.heap.size v0 (alw s j)) := HI.out.1
        have HB : Hid (Below x3.heap.size x3 wr) := HI.out.2
        have kc : wr.cell? ⟨g3, j, none⟩ = some (.int .i64 ((j : Int) + 1)) := by
          have h1 := World.ownsRow.cellAt HK3.out j (by simpa using hj10)
          rw [KV_get 10 j hj10] at h1
          exact (HB.out.cell (p := ⟨g3, j, none⟩) hg3').trans h1
        have HC : Hid (StC w w.heap.size s a n cap wr) := StC.keep HC3.out HB.out
        have HDr : Hid (DeedsAt x1.heap.size wr b) := HD3.out.same ⟨HB.out.size, fun k h1 h2 => HB.out.block k h2⟩
        have hlen := alw_len s j
        obtain ⟨c, hcc⟩ : ∃ c, stdR s ((j : Int) + 1) = c := ⟨_, rfl⟩
        have HSC : Hid (stdR s (((j + 1 : Nat)) : Int) = c) := by show _ = _; rw [← hcc]; rfl
        clear HI
        have ST : Hid (∀ x : World, DeedsAt x1.heap.size x b → Lns x a s.lines → Calls Tryz.prog 51 #[.slice (some ⟨b, 0, none⟩) 11 11, .agg (stA s (.slice a n cap)), .int .i64 ((j : Int) + 1)] x fun r w' => r = .returned (.int .i64 c) ∧ Below x.heap.size x w') := fun x hx hlx => by
          have h1 := standing_any x1.heap.size b (j + 1) s a n cap x hx (by omega) (by omega) HN.out hlx hm
          rw [HSC.out] at h1
          exact h1
        by_cases h0 : c = 0
        · have hcb : (c == 0) = true := by simpa using h0
          have HST : Hid (alw s (j + 1) = alw s j ++ [(j : Int) + 1]) := by show alw s j ++ (if stdR s ((j : Int) + 1) = 0 then [(j : Int) + 1] else []) = _; rw [hcc, if_pos h0]
          obtain ⟨L, hL⟩ : ∃ L, alw s j = L := ⟨_, rfl⟩
          rw [hL] at HST hlen HO
          clear hcc h0 hL
          go_wp2_with (first
            | ((with_reducible refine guard_load 25 ?_); refine wpList_load_st rfl _ rfl HC.out.1 rfl ?_)
            | (go_at_call 51; refine (ST.out _ HDr.out HC.out.2.1).mono ?_; rintro _ x5 ⟨rfl, hb5⟩; have HB5 : Hid (Below x3.heap.size x3 x5) := below_next HB.out hb5; have HO5 : Hid (OwnK x5 x3.heap.size v0 L) := own_below HO.out hb5; clear hb5)
            | (at_builtin; refine wpList_append_own _ rfl _ _ 50 rfl x3.heap.size 35 i0 (.int .i64 0) 1 8 Tryz.underlying50 hi hz0 hz1 hz2 rfl (by decide) v0 L.length (kvs L) rfl (World.ownsRow.alloc HO5.out _) ⟨x5.heap.size, 0, none⟩ 1 1 [.int .i64 ((j : Int) + 1)] rfl rfl (cell_new _ _ _) (one_new _) (by unfold maxLen; omega) (by omega) (by have := HB5.out.size; simp; omega) ?_; intro v6 x6 ho6 hg6 _; have HO6 : Hid (OwnK x6 x3.heap.size v6 (L ++ [(j : Int) + 1])) := (by unfold OwnK; rw [List.length_append, kvs_append]; exact ho6); have HB6 : Hid (Below x3.heap.size x3 x6) := grown_row (HB5.out.alloc HB5.out.size _) (World.ownsRow.alloc HO5.out _) (by have := HB5.out.size; simp; omega) hg6; clear ho6 hg6))
          go_roundw
          case rel => exact ⟨j + 1, _, by omega, by go_num, rfl, by rw [HST.out]; exact HO6.out, HB6.out⟩
          case measure => simp [intOf]; omega
        · have hcb : (c == 0) = false := by simpa using h0
          have HST : Hid (alw s (j + 1) = alw s j) := by show alw s j ++ (if stdR s ((j : Int) + 1) = 0 then [(j : Int) + 1] else []) = _; rw [hcc, if_neg h0, List.append_nil]
          clear hcc h0
          go_wp2_with (first
            | ((with_reducible refine guard_load 25 ?_); refine wpList_load_st rfl _ rfl HC.out.1 rfl ?_)
            | (go_at_call 51; refine (ST.out _ HDr.out HC.out.2.1).mono ?_; rintro _ x5 ⟨rfl, hb5⟩; have HB5 : Hid (Below x3.heap.size x3 x5) := below_next HB.out hb5; have HO5 : Hid (OwnK x5 x3.heap.size v0 (alw s j)) := own_below HO.out hb5; clear hb5))
          go_roundw
          case rel => exact ⟨j + 1, _, by omega, by go_num, rfl, by rw [HST.out]; exact HO5.out, HB5.out⟩
          case measure => simp [intOf]; omega
      · obtain rfl : j = 10 := by omega
        obtain ⟨ho, hb⟩ := HI.out
        have HO : Hid (OwnK wr x3.heap.size v0 (alw s 10)) := ho
        have HB : Hid (Below w.heap.size w wr) := below_next HC3.out.2.2 hb
        clear HI ho hb
        go_wp2
        go_ret
        exact ⟨_, rfl, World.ownsRow.mono HO.out HC3.out.2.2.size, HB.out⟩
end Go.Proofs.YtmjppeljpifjpaaGreat
