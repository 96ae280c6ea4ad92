/- Own texts, joined: Cn2. -/
import Derived.Test.YtfcgcpfckbmgnaaGreatK43
namespace Go.Proofs.YtfcgcpfckbmgnaaGreat
open Go.ChangeShapes Go.WideShapes Go.ChangeAt Go.RowKit
set_option linter.unusedVariables false
def lnT (l : Ln) : List Nat := lnL l.item.toNat l.price.toNat l.qty.toNat l.shipped.toNat
def lnFs : Nat → List Ln → List Fld
  | _, [] => []
  | k, l :: r => ⟨12 + (k : Int), true, 0, lnT l⟩ :: lnFs (k + 1) r
theorem lnFs_snoc : ∀ (L : List Ln) (k : Nat) (l : Ln), lnFs k (L ++ [l]) = lnFs k L ++ [⟨12 + ((k + L.length : Nat) : Int), true, 0, lnT l⟩]
  | [], k, l => rfl
  | x :: r, k, l => by
    simp only [List.cons_append, lnFs, lnFs_snoc r (k + 1) l, List.length_cons]
    rw [show k + 1 + r.length = k + (r.length + 1) from by omega]
abbrev tenS (o st pr c t p rf ev rd sp : Nat) (who : ByteArray) : List Fld := [⟨1, false, o, []⟩, ⟨2, false, st, []⟩, ⟨3, false, pr, []⟩, ⟨4, false, c, []⟩, ⟨5, false, t, []⟩, ⟨6, false, p, []⟩, ⟨7, false, rf, []⟩, ⟨8, false, ev, []⟩, ⟨9, false, rd, []⟩, ⟨10, false, sp, []⟩, ⟨11, true, 0, nums8 who⟩]
theorem wputs_append (S : List Fld × Int × Nat) (F G : List Fld) : wputs S (F ++ G) = wputs (wputs S F) G := by simp [wputs]
theorem stc {w : World} {b : Nat} {E : St} {v : Value} {o st pr c t p rf ev rd sp : Nat} {L : List Ln} {who : ByteArray} (h : StAt w b E v) (hE : E = ⟨o, st, pr, c, t, L, p, rf, ev, rd, sp, who⟩) : w.cell? ⟨b, 0, none⟩ = some (.int .i64 (o : Int)) ∧ w.cell? ⟨b, 1, none⟩ = some (.int .i64 (st : Int)) ∧ w.cell? ⟨b, 2, none⟩ = some (.int .i64 (pr : Int)) ∧ w.cell? ⟨b, 3, none⟩ = some (.int .i64 (c : Int)) ∧ w.cell? ⟨b, 4, none⟩ = some (.int .i64 (t : Int)) ∧ w.cell? ⟨b, 6, none⟩ = some (.int .i64 (p : Int)) ∧ w.cell? ⟨b, 7, none⟩ = some (.int .i64 (rf : Int)) ∧ w.cell? ⟨b, 8, none⟩ = some (.int .i64 (ev : Int)) ∧ w.cell? ⟨b, 9, none⟩ = some (.int .i64 (rd : Int)) ∧ w.cell? ⟨b, 10, none⟩ = some (.int .i64 (sp : Int)) ∧ w.cell? ⟨b, 11, none⟩ = some (.string who) ∧ w.cell? ⟨b, 5, none⟩ = some v := by
  subst hE
  exact ⟨h.cell 0 _ rfl, h.cell 1 _ rfl, h.cell 2 _ rfl, h.cell 3 _ rfl, h.cell 4 _ rfl, h.cell 6 _ rfl, h.cell 7 _ rfl, h.cell 8 _ rfl, h.cell 9 _ rfl, h.cell 10 _ rfl, h.cell 11 _ rfl, h.cell 5 _ rfl⟩
set_option maxRecDepth 20000 in
set_option maxHeartbeats 8000000 in
theorem cenc_g (o st pr c t p rf ev rd sp : Nat) (L : List Ln) (who : ByteArray) (E : St) (a : Option Addr) (n cap : Nat) (w : World) (hE : E = ⟨o, st, pr, c, t, L, p, rf, ev, rd, sp, who⟩) (hn : L.length = n) (hl : Lns w a L) (hv : vldB E = true)
    (hk : o ≤ 18446744073709551615 ∧ st ≤ 18446744073709551615 ∧ pr ≤ 18446744073709551615 ∧ c ≤ 18446744073709551615 ∧ t ≤ 18446744073709551615 ∧ p ≤ 18446744073709551615 ∧ rf ≤ 18446744073709551615 ∧ ev ≤ 18446744073709551615 ∧ rd ≤ 18446744073709551615 ∧ sp ≤ 18446744073709551615) (hw : who.size ≤ 16) (hL : linesB L = true)
    (h0 : (wputs ([], 0, 0) (tenS o st pr c t p rf ev rd sp who ++ lnFs 0 L)).2.2 = 0) :
    Calls Tryz.prog 10 #[.agg (stA E (.slice a n cap))] w fun r w' => EncPost w (wputs ([], 0, 0) (tenS o st pr c t p rf ev rd sp who ++ lnFs 0 L)).1 r w' := by
  rw [wputs_append] at h0 ⊢
  obtain ⟨S11, hS11⟩ : ∃ S, wputs ([], 0, 0) (tenS o st pr c t p rf ev rd sp who) = S := ⟨_, rfl⟩
  rw [hS11] at h0 ⊢
  simp only [tenS, wputs, List.foldl_cons, List.foldl_nil] at hS11
  have HS11 : Hid (_) := hS11
  have HV : Hid (_) := hv
  have HK : Hid (_) := hk
  have H0 : Hid (_) := h0
  have HN : Hid (L.length = n) := hn
  have HLN : Hid (Lns w a L) := hl
  have HLB : Hid (linesB L = true) := hL
  have hn16 : n ≤ 16 := by rw [← hn]; exact (linesB_facts hL).1
  have HWN : Hid ((nums8 who).length = who.size ∧ who.size ≤ 1000) := ⟨nums8_len _, by omega⟩
  have e0 := wrapN hk.1
  have e1 := wrapN hk.2.1
  have e2 := wrapN hk.2.2.1
  have e3 := wrapN hk.2.2.2.1
  have e4 := wrapN hk.2.2.2.2.1
  have e5 := wrapN hk.2.2.2.2.2.1
  have e6 := wrapN hk.2.2.2.2.2.2.1
  have e7 := wrapN hk.2.2.2.2.2.2.2.1
  have e8 := wrapN hk.2.2.2.2.2.2.2.2.1
  have e9 := wrapN hk.2.2.2.2.2.2.2.2.2
  have hcv := cv_run
  have HE : Hid (_) := hE
  have HEL : Hid (E.lines = L) := by show _ = _; rw [hE]
  have HC0 : Hid (StC w w.heap.size E a n cap (w.alloc (.cells (stA E (.slice a n cap)) 28))) := StC.new w E a n cap (by rw [HEL.out]; exact hl)
  clear hE hn hl hv hk hw hL h0 hS11
  have hnm : n ≤ maxLen := by unfold maxLen; omega
  have HNM : Hid (n ≤ maxLen) := hnm
  clear hnm
  go_enter Tryz.func10, Tryz.ntmps10
  go_wp2_with (first
    | ((with_reducible refine guard_load 28 ?_); refine wpList_load_st rfl _ rfl HC0.out.1 rfl ?_)
    | (go_at_call 21; refine (valid_st E a n cap _ (by rw [HEL.out]; exact HN.out) HC0.out.2.1 HNM.out).mono ?_; rw [HV.out]; rintro _ w1 ⟨rfl, hb1⟩; have HC1 : Hid (StC w w.heap.size E a n cap w1) := StC.keep HC0.out hb1; clear hb1)
    | (go_at_call 22; refine (neww_any _).mono ?_; rintro _ w3 ⟨rfl, hw3, hb3⟩; have hs3 : Wss w w3 w1.heap.size w.heap.size (E, .slice a n cap) ([], 0, 0) 0 [] := Wss.new hw3 (StAt.after HC1.out.1 hb3) (below_next HC1.out.2.2 hb3) (StAt.lt HC1.out.1); obtain ⟨q, hqe⟩ : ∃ q, w1.heap.size = q := ⟨_, rfl⟩; rw [hqe] at hs3 ⊢; have HS : Hid (Wss w w3 q w.heap.size (E, .slice a n cap) ([], 0, 0) 0 []) := hs3; clear hw3 hb3 hs3 hqe))
  obtain ⟨s0z0, s0z1, s0z2, -, -, -, -, -, -, -, -, -⟩ := stc HS.out.ev HE.out
  go_region_held3 (fun w' => w'.cell? ⟨w.heap.size, 0, none⟩ = some (.int .i64 (o : Int)) ∧ w'.cell? ⟨w.heap.size, 1, none⟩ = some (.int .i64 (st : Int)) ∧ w'.cell? ⟨w.heap.size, 2, none⟩ = some (.int .i64 (pr : Int))) (go_keep) (first
    | (go_at_call_of 23 (Value.int IntKind.i64 1); refine (num_ss 1 o w _ q w.heap.size (E, .slice a n cap) _ _ _ (by with_reducible first | exact HS.out | exact HS.out.drew) HK.out.1 (by decide)).mono ?_; rintro r x4 ⟨rfl, hs1⟩; clear HS; have HS : Hid (_) := hs1; obtain ⟨r0z0, r0z1, r0z2, -, -, -, -, -, -, -, -, -⟩ := stc hs1.ev HE.out; clear hs1)
    | (go_at_call_of 23 (Value.int IntKind.i64 2); refine (num_ss 2 st w _ q w.heap.size (E, .slice a n cap) _ _ _ (by with_reducible first | exact HS.out | exact HS.out.drew) HK.out.2.1 (by decide)).mono ?_; rintro r x5 ⟨rfl, hs1⟩; clear HS; have HS : Hid (_) := hs1; obtain ⟨r1z0, r1z1, r1z2, -, -, -, -, -, -, -, -, -⟩ := stc hs1.ev HE.out; clear hs1)
    | (go_at_call_of 23 (Value.int IntKind.i64 3); refine (num_ss 3 pr w _ q w.heap.size (E, .slice a n cap) _ _ _ (by with_reducible first | exact HS.out | exact HS.out.drew) HK.out.2.2.1 (by decide)).mono ?_; rintro r x6 ⟨rfl, hs1⟩; clear HS; have HS : Hid (_) := hs1; obtain ⟨r2z0, r2z1, r2z2, -, -, -, -, -, -, -, -, -⟩ := stc hs1.ev HE.out; clear hs1))
  clear s0z0 s0z1 s0z2 r0z0 r0z1 r0z2 r1z0 r1z1 r1z2 r2z0 r2z1 r2z2
  go_wp2_with fail
  obtain ⟨-, -, -, s1z3, s1z4, -, -, -, -, -, -, -⟩ := stc HS.out.ev HE.out
  go_region_held3 (fun w' => w'.cell? ⟨w.heap.size, 3, none⟩ = some (.int .i64 (c : Int)) ∧ w'.cell? ⟨w.heap.size, 4, none⟩ = some (.int .i64 (t : Int))) (go_keep) (first
    | (go_at_call_of 23 (Value.int IntKind.i64 4); refine (num_ss 4 c w _ q w.heap.size (E, .slice a n cap) _ _ _ (by with_reducible first | exact HS.out | exact HS.out.drew) HK.out.2.2.2.1 (by decide)).mono ?_; rintro r x7 ⟨rfl, hs1⟩; clear HS; have HS : Hid (_) := hs1; obtain ⟨-, -, -, r3z3, r3z4, -, -, -, -, -, -, -⟩ := stc hs1.ev HE.out; clear hs1)
    | (go_at_call_of 23 (Value.int IntKind.i64 5); refine (num_ss 5 t w _ q w.heap.size (E, .slice a n cap) _ _ _ (by with_reducible first | exact HS.out | exact HS.out.drew) HK.out.2.2.2.2.1 (by decide)).mono ?_; rintro r x8 ⟨rfl, hs1⟩; clear HS; have HS : Hid (_) := hs1; obtain ⟨-, -, -, r4z3, r4z4, -, -, -, -, -, -, -⟩ := stc hs1.ev HE.out; clear hs1))
  clear s1z3 s1z4 r3z3 r3z4 r4z3 r4z4
  go_wp2_with fail
  obtain ⟨-, -, -, -, -, s2z5, s2z6, -, -, -, -, -⟩ := stc HS.out.ev HE.out
  go_region_held3 (fun w' => w'.cell? ⟨w.heap.size, 6, none⟩ = some (.int .i64 (p : Int)) ∧ w'.cell? ⟨w.heap.size, 7, none⟩ = some (.int .i64 (rf : Int))) (go_keep) (first
    | (go_at_call_of 23 (Value.int IntKind.i64 6); refine (num_ss 6 p w _ q w.heap.size (E, .slice a n cap) _ _ _ (by with_reducible first | exact HS.out | exact HS.out.drew) HK.out.2.2.2.2.2.1 (by decide)).mono ?_; rintro r x9 ⟨rfl, hs1⟩; clear HS; have HS : Hid (_) := hs1; obtain ⟨-, -, -, -, -, r5z5, r5z6, -, -, -, -, -⟩ := stc hs1.ev HE.out; clear hs1)
    | (go_at_call_of 23 (Value.int IntKind.i64 7); refine (num_ss 7 rf w _ q w.heap.size (E, .slice a n cap) _ _ _ (by with_reducible first | exact HS.out | exact HS.out.drew) HK.out.2.2.2.2.2.2.1 (by decide)).mono ?_; rintro r x10 ⟨rfl, hs1⟩; clear HS; have HS : Hid (_) := hs1; obtain ⟨-, -, -, -, -, r6z5, r6z6, -, -, -, -, -⟩ := stc hs1.ev HE.out; clear hs1))
  clear s2z5 s2z6 r5z5 r5z6 r6z5 r6z6
  go_wp2_with fail
  obtain ⟨-, -, -, -, -, -, -, s3z7, s3z8, -, -, -⟩ := stc HS.out.ev HE.out
  go_region_held3 (fun w' => w'.cell? ⟨w.heap.size, 8, none⟩ = some (.int .i64 (ev : Int)) ∧ w'.cell? ⟨w.heap.size, 9, none⟩ = some (.int .i64 (rd : Int))) (go_keep) (first
    | (go_at_call_of 23 (Value.int IntKind.i64 8); refine (num_ss 8 ev w _ q w.heap.size (E, .slice a n cap) _ _ _ (by with_reducible first | exact HS.out | exact HS.out.drew) HK.out.2.2.2.2.2.2.2.1 (by decide)).mono ?_; rintro r x11 ⟨rfl, hs1⟩; clear HS; have HS : Hid (_) := hs1; obtain ⟨-, -, -, -, -, -, -, r7z7, r7z8, -, -, -⟩ := stc hs1.ev HE.out; clear hs1)
    | (go_at_call_of 23 (Value.int IntKind.i64 9); refine (num_ss 9 rd w _ q w.heap.size (E, .slice a n cap) _ _ _ (by with_reducible first | exact HS.out | exact HS.out.drew) HK.out.2.2.2.2.2.2.2.2.1 (by decide)).mono ?_; rintro r x12 ⟨rfl, hs1⟩; clear HS; have HS : Hid (_) := hs1; obtain ⟨-, -, -, -, -, -, -, r8z7, r8z8, -, -, -⟩ := stc hs1.ev HE.out; clear hs1))
  clear s3z7 s3z8 r7z7 r7z8 r8z7 r8z8
  go_wp2_with fail
  obtain ⟨-, -, -, -, -, -, -, -, -, s4z9, s4z10, -⟩ := stc HS.out.ev HE.out
  go_region_held (fun w' => w'.cell? ⟨w.heap.size, 10, none⟩ = some (.int .i64 (sp : Int)) ∧ w'.cell? ⟨w.heap.size, 11, none⟩ = some (.string who)) (simp [*, cv_cell]) (first
    | (go_at_call_of 23 (Value.int IntKind.i64 10); refine (num_ss 10 sp w _ q w.heap.size (E, .slice a n cap) _ _ _ (by with_reducible first | exact HS.out | exact HS.out.drew | exact Wss.cv HS.out _ | exact Wss.cv (Wss.drew HS.out) _ | exact Wss.cv (Wss.cv HS.out _) _ | exact Wss.cv (Wss.cv (Wss.drew HS.out) _) _) HK.out.2.2.2.2.2.2.2.2.2 (by decide)).mono ?_; rintro r x20 ⟨rfl, hs1⟩; clear HS; have HS : Hid (_) := hs1; obtain ⟨-, -, -, -, -, -, -, -, -, r9z9, r9z10, -⟩ := stc hs1.ev HE.out; clear hs1)
    | (go_at_call_of 24 (Value.int IntKind.i64 11); refine (text_ss 11 (nums8 who) _ _ _ w _ q w.heap.size (E, .slice a n cap) _ _ _ (by with_reducible first | exact HS.out | exact HS.out.drew | exact Wss.cv HS.out _ | exact Wss.cv (Wss.drew HS.out) _ | exact Wss.cv (Wss.cv HS.out _) _ | exact Wss.cv (Wss.cv (Wss.drew HS.out) _) _) (by first | exact List.mem_cons_self .. | exact List.mem_cons_of_mem _ (List.mem_cons_self ..)) HWN.out.1 HWN.out.2 (by decide)).mono ?_; rintro r x21 ⟨rfl, hs1⟩; clear HS; have HS : Hid (_) := hs1; obtain ⟨-, -, -, -, -, -, -, -, -, r10z9, r10z10, -⟩ := stc hs1.ev HE.out; clear hs1))
  all_goals
    have HT : Hid (Wss w x21 q w.heap.size (E, .slice a n cap) (wputs S11 (lnFs 0 (L.take 0))) (11 + 0) []) := by
      have h := HS.out.forget
      rw [List.take_zero]
      show Wss w x21 q w.heap.size (E, .slice a n cap) S11 11 []
      rw [← HS11.out]
      exact h
    clear HS
    obtain ⟨-, -, -, -, -, -, -, -, -, -, -, t11⟩ := stc HT.out.ev HE.out
    go_wp2_with fail
    go_loopw [63] (fun vi wr => ∃ k : Nat, k ≤ n ∧ vi = .int .i64 k ∧ Hid (Wss w wr q w.heap.size (E, .slice a n cap) (wputs S11 (lnFs 0 (L.take k))) (11 + k) [])) (fun vi _ => n - (intOf vi).toNat)
    case atStart => exact ⟨0, Nat.zero_le _, rfl, HT.out⟩
    case round =>
      clear HT t11
      obtain ⟨k, hkn, rfl, HI⟩ := hrel
      by_cases hkl : k < n
      · obtain ⟨l, hp⟩ := ln_get (L := L) (k := k) (by rw [HN.out]; exact hkl)
        obtain ⟨b, off, rfl, hlt, q0, q1, q2, q3⟩ := (HLN.out.keep HI.out.bel).cells k l hp
        have f := (linesB_facts HLB.out).2 k l hp
        have HF : Hid (_) := f
        obtain ⟨i1, hi1⟩ := Int.eq_ofNat_of_zero_le (show 0 ≤ l.item by omega)
        obtain ⟨i2, hi2⟩ := Int.eq_ofNat_of_zero_le (show 0 ≤ l.price by omega)
        obtain ⟨i3, hi3⟩ := Int.eq_ofNat_of_zero_le (show 0 ≤ l.qty by omega)
        obtain ⟨i4, hi4⟩ := Int.eq_ofNat_of_zero_le (show 0 ≤ l.shipped by omega)
        have HT4 : Hid (lnT l = lnL i1 i2 i3 i4) := by show _ = _; unfold lnT; rw [hi1, hi2, hi3, hi4]; rfl
        have HM4 : Hid (i1 ≤ 18446744073709551615 ∧ i2 ≤ 18446744073709551615 ∧ i3 ≤ 18446744073709551615 ∧ i4 ≤ 18446744073709551615) := by show _ ∧ _ ∧ _ ∧ _; omega
        have HLL : Hid ((lnL i1 i2 i3 i4).length ≤ 1000) := by
          show _ ≤ _
          rw [← encU_four]
          have := encU_len [i1, i2, i3, i4] (by intro u hu; simp only [List.mem_cons, List.not_mem_nil, or_false] at hu; have := HM4.out; rcases hu with rfl | rfl | rfl | rfl <;> omega)
          simp only [List.length_cons, List.length_nil] at this
          omega
        have HSN : Hid (lnFs 0 (L.take (k + 1)) = lnFs 0 (L.take k) ++ [⟨12 + (k : Int), true, 0, lnL i1 i2 i3 i4⟩]) := by
          show _ = _
          rw [ln_take _ _ _ hp, lnFs_snoc, HT4.out, List.length_take, Nat.min_eq_left (by rw [HN.out]; omega), Nat.zero_add]
        rw [hi1] at q0
        rw [hi2] at q1
        rw [hi3] at q2
        rw [hi4] at q3
        clear f hi1 hi2 hi3 hi4 hp
        go_wp2_with (first
          | (go_at_call 25; refine (lineText_any i1 i2 i3 i4 _ HM4.out.1 HM4.out.2.1 HM4.out.2.2.1 HM4.out.2.2.2).mono ?_; rintro _ x30 ⟨v2, rfl, ho2, hb2⟩; obtain ⟨a2, c2, hv2, hc2, _, hy2, hn2⟩ := ho2.shape; subst hv2; have HY2 : Hid (Bytes x30 a2 (lnL i1 i2 i3 i4)) := hy2; have HS2 : Hid (Wss w x30 q w.heap.size (E, .slice (some ⟨b, off, none⟩) n cap) (wputs S11 (lnFs 0 (L.take k))) (11 + k) []) := (HI.out.keep ((Below.refl _ _).alloc (Nat.le_refl _) _)).keep hb2; clear ho2 hb2 hy2 hn2)
          | (go_at_call 24; refine (textb_ss (12 + (k : Int)) (lnL i1 i2 i3 i4) a2 _ c2 w _ q w.heap.size _ _ (11 + k) HS2.out HY2.out rfl HLL.out (by omega)).mono ?_; rintro _ x31 ⟨rfl, hs3⟩; have HS3 : Hid (_) := hs3; clear hs3))
        go_roundw
        case rel =>
          refine ⟨k + 1, by omega, by go_num, ?_⟩
          show Wss _ _ _ _ _ _ _ _
          rw [HSN.out, wputs_append, ← Nat.add_assoc]
          exact HS3.out
        case measure => simp [intOf]; omega
      · obtain rfl : k = n := by omega
        have HD : Hid (Wss w wr q w.heap.size (E, .slice a k cap) (wputs S11 (lnFs 0 L)) (11 + k) []) := by
          have h := HI.out
          rw [List.take_of_length_le (by rw [HN.out]; exact Nat.le_refl _)] at h
          exact h
        go_wp2_with (go_at_call 26; refine (done_ss w _ q w.heap.size _ _ _ _ HD.out H0.out (by omega)).mono ?_; rintro r x11 ⟨vv, rfl, ho, hb⟩; have HO : Hid (_) := ho; have HB : Hid (_) := hb; clear ho hb)
        go_ret2
        exact ⟨_, rfl, HO.out, HB.out⟩
end Go.Proofs.YtfcgcpfckbmgnaaGreat
