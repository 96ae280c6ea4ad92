/- For every list, every text and every bound, where they hold together at most 1048576 values: EncodeAll and DecodeAll answer as the reference, and what was handed in stays as it was. -/
import Derived.Test.YtenekcnccmghhacHead02
import Derived.Test.YtenekcnccmghhacCopy
import Derived.Test.YtenekcnccmghhacSame
import Derived.Test.YtenekcnccmghhacSameN
import Derived.Test.YtenekcnccmghhacLmath
import Derived.Test.YtenekcnccmghhacRdecAll
import Derived.Test.YtenekcnccmghhacBulk
import Derived.SizedLaws
import Derived.ChangeOld
import Derived.JoinedCond
import Derived.Deep.CondSized
import Derived.Laws.AppendOwnNone
import Derived.Deep.RegionWith
namespace Go.Proofs.Ytenekcnccmghhac.varintLists
open Go.ChangeShapes Go.WideShapes Go.ChangeAt Go.RowKit
set_option linter.unusedVariables false
theorem below_next {w a b : World} (h : Below w.heap.size w a) (k : Below a.heap.size a b) : Below w.heap.size w b := h.trans (k.mono h.size)
theorem same_b (l m : List Nat) (n1 n2 : Nat) (a1 a2 : Option Addr) (c1 c2 : Nat) (w : World) (e1 : l.length = n1) (e2 : m.length = n2) (hb1 : Bytes w a1 l) (hb2 : Bytes w a2 m) (hl : l.length ≤ maxLen) (hm : m.length ≤ maxLen) :
    Calls Try.prog 8 #[.slice a1 n1 c1, .slice a2 n2 c2] w fun e w' => e = .returned (.bool (decide (l = m))) ∧ Below w.heap.size w w' := by
  refine (same_at l m n1 n2 a1 a2 c1 c2 w e1 e2 hb1 hb2 hl hm).mono ?_
  rintro e w' ⟨h, n, rfl⟩
  exact ⟨h, below_drewN (Below.refl _ _) n⟩
theorem sameN_b (l m : List Nat) (n1 n2 : Nat) (a1 a2 : Option Addr) (c1 c2 : Nat) (w : World) (e1 : l.length = n1) (e2 : m.length = n2) (hb1 : Nums w a1 l) (hb2 : Nums w a2 m) (hl : l.length ≤ maxLen) (hm : m.length ≤ maxLen) :
    Calls Try.prog 10 #[.slice a1 n1 c1, .slice a2 n2 c2] w fun e w' => e = .returned (.bool (decide (l = m))) ∧ Below w.heap.size w w' := by
  refine (sameN_at l m n1 n2 a1 a2 c1 c2 w e1 e2 hb1 hb2 hl hm).mono ?_
  rintro e w' ⟨h, n, rfl⟩
  exact ⟨h, below_drewN (Below.refl _ _) n⟩
theorem own64_le {w : World} {base : Nat} {v : Value} {l : List Nat} (h : Own64 w base v l) : l.length ≤ maxLen := by
  obtain ⟨_, _, h2⟩ := h
  rcases h2 with ⟨_, hn⟩ | ⟨g, cap, cur, _, _, _, hnc, hcm, _⟩
  · rw [hn]; exact Nat.zero_le _
  · exact Nat.le_trans hnc hcm
set_option maxRecDepth 20000 in
set_option maxHeartbeats 2000000 in
theorem walk (l : List Nat) (a : Option Addr) (cap : Nat) (m : List Nat) (a2 : Option Addr) (cap2 : Nat) (most : Int) (w : World) (hb : Nums w a l) (hc : Came w a l.length cap 8) (hm : Bytes w a2 m) (hc2 : Came w a2 m.length cap2 1) (w2 : (Lit.int .i64 most).wf = true) (hsum : cap + cap2 ≤ 1048576) :
    Calls Try.prog 3 #[.slice a l.length cap, .slice a2 m.length cap2, .int .i64 most] w fun e w' => e = .returned (.bool true) ∧ Below w.heap.size w w' := by
  obtain ⟨i0, hi, hz0, hz1, hz2⟩ := info_parts Try.info64
  obtain ⟨hf, hr, hn⟩ := hc
  obtain ⟨hf2, hr2, hn2⟩ := hc2
  obtain ⟨hm0, hm1⟩ : -9223372036854775808 ≤ most ∧ most ≤ 9223372036854775807 := by simpa [Lit.wf, IntKind.min, IntKind.max, IntKind.signed, IntKind.bits] using w2
  have hmem := nums_mem hb
  obtain ⟨hE1, hE2⟩ := encAll_length l (by omega) hmem
  have HN : Hid (Nums w a l) := hb
  have HM : Hid (Bytes w a2 m) := hm
  obtain ⟨E, hEE⟩ : ∃ E, E = encAll l := ⟨_, rfl⟩
  rw [← hEE] at hE1 hE2
  have HEE : Hid (E = encAll l) := hEE
  have HENE : Hid (E ≠ []) := hE2
  obtain ⟨R1, n1, e1, hR1⟩ : ∃ R1 n1 e1, decAll m most = (R1, n1, e1) := ⟨_, _, _, rfl⟩
  obtain ⟨R2, n2, e2, hR2⟩ : ∃ R2 n2 e2, decAll E most = (R2, n2, e2) := ⟨_, _, _, rfl⟩
  have HR1 : Hid (decAll m most = (R1, n1, e1)) := hR1
  have HR2 : Hid (decAll E most = (R2, n2, e2)) := hR2
  have hlI : (l.length : Int) ≤ 1048576 := by omega
  have ha : (a = none ∧ cap = 0 ∧ l = []) ∨ ∃ x, a = some x := by
    cases a with
    | none => have h := hn rfl; exact .inl ⟨rfl, h, List.length_eq_zero_iff.1 (by omega)⟩
    | some x => exact .inr ⟨x, rfl⟩
  clear hb hm hmem hEE hE2 hR1 hR2 w2 hn hn2
  rcases ha with ⟨rfl, rfl, hnil⟩ | ⟨x, rfl⟩
  · subst hnil
    clear hlI
    go_enter Try.func3, Try.ntmps3
    go_wp2_with (first
      | (go_at_call 6; refine (head02_any w).mono ?_; rintro e w1 ⟨rfl, hb1⟩)
      | (at_builtin; refine wpList_append_own_none rfl _ _ 22 rfl w1.heap.size 36 i0 1 Try.underlying22 hi _ _ _ rfl (litq w1).2 rfl ?_; obtain ⟨w2, hw2⟩ : ∃ w2, w2 = w1.alloc (.cells #[] 36) := ⟨_, rfl⟩; rw [← hw2]; have hb2 : Below w1.heap.size w1 w2 := (by rw [hw2]; exact (Below.refl w1.heap.size w1).alloc (Nat.le_refl _) _); clear hw2; obtain ⟨a3, ha3⟩ : ∃ a3 : Option Addr, a3 = some ⟨w1.heap.size, 0, none⟩ := ⟨_, rfl⟩; rw [← ha3]; clear ha3; obtain ⟨cap3, hc3⟩ : ∃ cap3 : Nat, cap3 = 0 := ⟨_, rfl⟩; have hnm3 : Nums w2 a3 [] := ⟨by simp, .inl rfl⟩; have hbw2 := below_next hb1 hb2; clear hc3)
      | (go_at_call 7; refine (rencAll_any [] _ _ _ _ rfl (HN.out.keep hbw2) (by omega)).mono ?_; rw [← HEE.out]; rintro e w4 ⟨v4, rfl, ho4, hb4⟩; obtain ⟨g4, cap4, rfl, hcap4, hby4⟩ := ho4.row HENE.out; clear ho4; have hbw4 := below_next hbw2 hb4)
      | (go_at_call 9; refine (encAll_any [] _ _ _ _ rfl (hnm3.keep hb4) (by omega)).mono ?_; rw [← HEE.out]; rintro e w5 ⟨v5, rfl, ho5, hb5⟩; obtain ⟨g5, cap5, rfl, hcap5, hby5⟩ := ho5.row HENE.out; clear ho5; have hbw5 := below_next hbw4 hb5; have HE5 : Hid (Bytes w5 (some ⟨g4, 0, none⟩) E) := hby4.keep hb5; have HN5 : Hid (Nums w5 a3 []) := (hnm3.keep hb4).keep hb5)
      | (go_at_call_of 8 (cap5); refine (same_b E E _ _ _ _ _ _ _ rfl rfl hby5 HE5.out (by unfold maxLen; omega) (by unfold maxLen; omega)).mono ?_; rw [decide_eq_true (rfl : E = E)]; rintro e w6 ⟨rfl, hb6⟩; have hbw6 := below_next hbw5 hb6; have HE6 : Hid (Bytes w6 (some ⟨g4, 0, none⟩) E) := HE5.out.keep hb6)
      | (go_at_call_of 10 (a3); refine (sameN_b [] [] _ _ _ _ _ _ _ rfl rfl (HN5.out.keep hb6) (HN.out.keep hbw6) (by unfold maxLen; simp; try omega) (by unfold maxLen; simp; try omega)).mono ?_; rw [decide_eq_true (rfl : [] = [])]; rintro e w7 ⟨rfl, hb7⟩; have hbw7 := below_next hbw6 hb7; have HE7 : Hid (Bytes w7 (some ⟨g4, 0, none⟩) E) := HE6.out.keep hb7)
      | (go_at_call 11; refine (copy_any m _ _ _ (HM.out.keep hbw7) (by omega)).mono ?_; rintro e w8 ⟨v8, rfl, ho8, hb8⟩; obtain ⟨a8, cap8, rfl, hcap8, _, hby8, _⟩ := ho8.shape; clear ho8; have hbw8 := below_next hbw7 hb8; have HE8 : Hid (Bytes w8 (some ⟨g4, 0, none⟩) E) := HE7.out.keep hb8)
      | (go_at_call_of 12 (cap2); refine (rdecAll_any m most _ _ _ _ rfl (HM.out.keep hbw8) hf2 (by omega) hm0 hm1).mono ?_; rw [HR1.out]; rintro e w9 ⟨v9, rfl, ho9, hb9⟩; have HL9 : Hid (R1.length ≤ maxLen) := own64_le ho9; obtain ⟨a9, cap9, rfl, hnm9⟩ := ho9.slice; clear ho9; have hbw9 := below_next hbw8 hb9; have HE9 : Hid (Bytes w9 (some ⟨g4, 0, none⟩) E) := HE8.out.keep hb9)
      | (go_at_call_of 13 (cap8); refine (decAll_any m most _ _ _ _ rfl (hby8.keep hb9) hcap8 (by omega) hm0 hm1).mono ?_; rw [HR1.out]; rintro e w10 ⟨v10, rfl, ho10, hb10⟩; obtain ⟨a10, cap10, rfl, hnm10⟩ := ho10.slice; clear ho10; have hbw10 := below_next hbw9 hb10; have HE10 : Hid (Bytes w10 (some ⟨g4, 0, none⟩) E) := HE9.out.keep hb10)
      | (go_at_call_of 10 (cap10); refine (sameN_b R1 R1 _ _ _ _ _ _ _ rfl rfl (hnm9.keep hb10) hnm10 HL9.out HL9.out).mono ?_; rw [decide_eq_true (rfl : R1 = R1)]; rintro e w11 ⟨rfl, hb11⟩; have hbw11 := below_next hbw10 hb11; have HE11 : Hid (Bytes w11 (some ⟨g4, 0, none⟩) E) := HE10.out.keep hb11)
      | (go_at_call_of 8 (cap8); refine (same_b m m _ _ _ _ _ _ _ rfl rfl (HM.out.keep hbw11) (((hby8.keep hb9).keep hb10).keep hb11) (by unfold maxLen; omega) (by unfold maxLen; omega)).mono ?_; rw [decide_eq_true (rfl : m = m)]; rintro e w12 ⟨rfl, hb12⟩; have hbw12 := below_next hbw11 hb12; have HE12 : Hid (Bytes w12 (some ⟨g4, 0, none⟩) E) := HE11.out.keep hb12)
      | (go_at_call_of 12 (cap4); refine (rdecAll_any E most _ _ _ _ rfl HE12.out hcap4 (by omega) hm0 hm1).mono ?_; rw [HR2.out]; rintro e w13 ⟨v13, rfl, ho13, hb13⟩; have HL13 : Hid (R2.length ≤ maxLen) := own64_le ho13; obtain ⟨a13, cap13, rfl, hnm13⟩ := ho13.slice; clear ho13; have hbw13 := below_next hbw12 hb13)
      | (go_at_call_of 13 (cap4); refine (decAll_any E most _ _ _ _ rfl (HE12.out.keep hb13) hcap4 (by omega) hm0 hm1).mono ?_; rw [HR2.out]; rintro e w14 ⟨v14, rfl, ho14, hb14⟩; obtain ⟨a14, cap14, rfl, hnm14⟩ := ho14.slice; clear ho14; have hbw14 := below_next hbw13 hb14)
      | (go_at_call_of 10 (cap14); refine (sameN_b R2 R2 _ _ _ _ _ _ _ rfl rfl (hnm13.keep hb14) hnm14 HL13.out HL13.out).mono ?_; rw [decide_eq_true (rfl : R2 = R2)]; rintro e w15 ⟨rfl, hb15⟩))
    go_ret
    exact ⟨ret_bool (by simp), below_next hbw14 hb15⟩
  · skip
    go_enter Try.func3, Try.ntmps3
    go_wp2_with (first
      | (go_at_call 6; refine (head02_any w).mono ?_; rintro e w1 ⟨rfl, hb1⟩; have hN1 : Nums (w1.alloc (.cells #[] 36)) (some x) l := (HN.out.keep hb1).keep ((Below.refl _ _).alloc (Nat.le_refl _) _); have HN1 : Hid (Nums (w1.alloc (.cells #[] 36)) (some x) l) := hN1; clear hN1)
      | (at_builtin; refine wpList_append_own _ rfl _ _ 22 rfl w1.heap.size 36 i0 (.int .u64 0) 1 8 Try.underlying22 hi hz0 hz1 hz2 rfl (by decide) _ _ _ rfl (litq w1).2 x l.length cap (B64 l) rfl (B64_length l) (nums_cells HN1.out) (B64_one l) (by unfold maxLen; simp; try omega) (by simp; try omega) (by simp) ?_; intro v2 w2 ho2 hg2 _; have hb2 : Below w1.heap.size w1 w2 := ((Below.refl w1.heap.size w1).alloc (Nat.le_refl _) _).grown hg2 (by simp) (fun k hk => by cases hk; exact Nat.le_refl _); obtain ⟨a3, cap3, rfl, hnm3⟩ := (show Own64 w2 w1.heap.size v2 l from ⟨HN.out.1, by simpa [B64] using ho2⟩).slice; clear ho2 hg2; have hbw2 := below_next hb1 hb2)
      | (go_at_call 7; refine (rencAll_any l _ _ _ _ rfl (HN.out.keep hbw2) (by omega)).mono ?_; rw [← HEE.out]; rintro e w4 ⟨v4, rfl, ho4, hb4⟩; obtain ⟨g4, cap4, rfl, hcap4, hby4⟩ := ho4.row HENE.out; clear ho4; have hbw4 := below_next hbw2 hb4)
      | (go_at_call 9; refine (encAll_any l _ _ _ _ rfl (hnm3.keep hb4) (by omega)).mono ?_; rw [← HEE.out]; rintro e w5 ⟨v5, rfl, ho5, hb5⟩; obtain ⟨g5, cap5, rfl, hcap5, hby5⟩ := ho5.row HENE.out; clear ho5; have hbw5 := below_next hbw4 hb5; have HE5 : Hid (Bytes w5 (some ⟨g4, 0, none⟩) E) := hby4.keep hb5; have HN5 : Hid (Nums w5 a3 l) := (hnm3.keep hb4).keep hb5)
      | (go_at_call_of 8 (cap5); refine (same_b E E _ _ _ _ _ _ _ rfl rfl hby5 HE5.out (by unfold maxLen; omega) (by unfold maxLen; omega)).mono ?_; rw [decide_eq_true (rfl : E = E)]; rintro e w6 ⟨rfl, hb6⟩; have hbw6 := below_next hbw5 hb6; have HE6 : Hid (Bytes w6 (some ⟨g4, 0, none⟩) E) := HE5.out.keep hb6)
      | (go_at_call_of 10 (a3); refine (sameN_b l l _ _ _ _ _ _ _ rfl rfl (HN5.out.keep hb6) (HN.out.keep hbw6) (by unfold maxLen; simp; try omega) (by unfold maxLen; simp; try omega)).mono ?_; rw [decide_eq_true (rfl : l = l)]; rintro e w7 ⟨rfl, hb7⟩; have hbw7 := below_next hbw6 hb7; have HE7 : Hid (Bytes w7 (some ⟨g4, 0, none⟩) E) := HE6.out.keep hb7)
      | (go_at_call 11; refine (copy_any m _ _ _ (HM.out.keep hbw7) (by omega)).mono ?_; rintro e w8 ⟨v8, rfl, ho8, hb8⟩; obtain ⟨a8, cap8, rfl, hcap8, _, hby8, _⟩ := ho8.shape; clear ho8; have hbw8 := below_next hbw7 hb8; have HE8 : Hid (Bytes w8 (some ⟨g4, 0, none⟩) E) := HE7.out.keep hb8)
      | (go_at_call_of 12 (cap2); refine (rdecAll_any m most _ _ _ _ rfl (HM.out.keep hbw8) hf2 (by omega) hm0 hm1).mono ?_; rw [HR1.out]; rintro e w9 ⟨v9, rfl, ho9, hb9⟩; have HL9 : Hid (R1.length ≤ maxLen) := own64_le ho9; obtain ⟨a9, cap9, rfl, hnm9⟩ := ho9.slice; clear ho9; have hbw9 := below_next hbw8 hb9; have HE9 : Hid (Bytes w9 (some ⟨g4, 0, none⟩) E) := HE8.out.keep hb9)
      | (go_at_call_of 13 (cap8); refine (decAll_any m most _ _ _ _ rfl (hby8.keep hb9) hcap8 (by omega) hm0 hm1).mono ?_; rw [HR1.out]; rintro e w10 ⟨v10, rfl, ho10, hb10⟩; obtain ⟨a10, cap10, rfl, hnm10⟩ := ho10.slice; clear ho10; have hbw10 := below_next hbw9 hb10; have HE10 : Hid (Bytes w10 (some ⟨g4, 0, none⟩) E) := HE9.out.keep hb10)
      | (go_at_call_of 10 (cap10); refine (sameN_b R1 R1 _ _ _ _ _ _ _ rfl rfl (hnm9.keep hb10) hnm10 HL9.out HL9.out).mono ?_; rw [decide_eq_true (rfl : R1 = R1)]; rintro e w11 ⟨rfl, hb11⟩; have hbw11 := below_next hbw10 hb11; have HE11 : Hid (Bytes w11 (some ⟨g4, 0, none⟩) E) := HE10.out.keep hb11)
      | (go_at_call_of 8 (cap8); refine (same_b m m _ _ _ _ _ _ _ rfl rfl (HM.out.keep hbw11) (((hby8.keep hb9).keep hb10).keep hb11) (by unfold maxLen; omega) (by unfold maxLen; omega)).mono ?_; rw [decide_eq_true (rfl : m = m)]; rintro e w12 ⟨rfl, hb12⟩; have hbw12 := below_next hbw11 hb12; have HE12 : Hid (Bytes w12 (some ⟨g4, 0, none⟩) E) := HE11.out.keep hb12)
      | (go_at_call_of 12 (cap4); refine (rdecAll_any E most _ _ _ _ rfl HE12.out hcap4 (by omega) hm0 hm1).mono ?_; rw [HR2.out]; rintro e w13 ⟨v13, rfl, ho13, hb13⟩; have HL13 : Hid (R2.length ≤ maxLen) := own64_le ho13; obtain ⟨a13, cap13, rfl, hnm13⟩ := ho13.slice; clear ho13; have hbw13 := below_next hbw12 hb13)
      | (go_at_call_of 13 (cap4); refine (decAll_any E most _ _ _ _ rfl (HE12.out.keep hb13) hcap4 (by omega) hm0 hm1).mono ?_; rw [HR2.out]; rintro e w14 ⟨v14, rfl, ho14, hb14⟩; obtain ⟨a14, cap14, rfl, hnm14⟩ := ho14.slice; clear ho14; have hbw14 := below_next hbw13 hb14)
      | (go_at_call_of 10 (cap14); refine (sameN_b R2 R2 _ _ _ _ _ _ _ rfl rfl (hnm13.keep hb14) hnm14 HL13.out HL13.out).mono ?_; rw [decide_eq_true (rfl : R2 = R2)]; rintro e w15 ⟨rfl, hb15⟩))
    go_ret
    exact ⟨ret_bool (by simp), below_next hbw14 hb15⟩
theorem own : ownKnob Try.prog.godebug = none := by kernel_rfl
theorem laidOut : laidOutB Try.prog = true := by kernel_rfl
set_option maxRecDepth 100000 in
theorem contract (H : Type) (enc : TypeId × Value → H) (W : World) (base : Nat) (args : Array Value) (ds gs : List (DataW H)) (before : List MemPlace)
    (hval : ∀ (j : Nat) t v, Try.f3.params[j]? = some t → args[j]? = some v → Value.okWide Try.prog W .any base t v)
    (hW : DataW.Whole enc Try.prog Try.f3.params.toList Rows.varintListsSpec.vars false W args.toList ds gs before)
    (hsz : (DataW.weightsEach Try.prog (Try.f3.params.toList ++ Rows.varintListsSpec.plain.varTypes Try.prog) (ds ++ gs)).all (· ≤ reachBytes) = true) (hk : Rows.uptoSmall H (ds ++ gs) = true) :
    Calls Try.prog 3 args W fun e W' => ∃ v, e = .returned v ∧ Rows.varintListsSpec.post enc Try.prog Try.f3 false true false false W args v W' := by
  have hW' := hW
  obtain ⟨p, q, hA0, hV, rfl, hfz, hnd⟩ := hW
  have hA : DataW.TrodAll enc Try.prog W 0 (fun _ => true) true Try.f3.params.toList args.toList ds p := hA0
  rw [Try.params3] at hA hval hsz
  obtain ⟨v0, vs0, d0, ds0, p0, q0, hargs, rfl, rfl, h0, r0⟩ := trodAll_cons hA
  obtain ⟨v1, vs1, d1, ds1, p1, q1, rfl, rfl, rfl, h1, r1⟩ := trodAll_cons r0
  obtain ⟨v2, vs2, d2, ds2, p2, q2, rfl, rfl, rfl, h2, r2⟩ := trodAll_cons r1
  obtain ⟨rfl, rfl, rfl⟩ := trodAll_nil r2
  obtain rfl : args = #[v0, v1, v2] := by cases args; simp_all
  obtain ⟨rfl, rfl⟩ := trodVars_none hV
  obtain ⟨a0, len0, cap0, rfl⟩ := okWide_slice Try.underlying22 (hval 0 22 v0 rfl rfl)
  have k0 := h0
  have lt0 : ∀ x ∈ p0, x.block < W.heap.size := by obtain ⟨m, hm⟩ := k0; exact DataW.trod_lt m _ _ _ hm
  obtain ⟨l0, hlen0, w0, c0, u0⟩ : ∃ l : List Nat, l.length = len0 ∧ Nums W a0 l ∧ Came W a0 len0 cap0 8 ∧ cap0 + 1 ≤ Rows.uptoBulk d0 := by
    obtain ⟨fuel, hf⟩ := h0
    rcases open_ints Try.underlying22 Try.underlying36 (by kernel_rfl) hf with ⟨hcs, hx⟩ | ⟨x, l, c, zs, hcs, _, hl, hm, hz, hx, hcell, hwz⟩
    · simp [Value.cells] at hcs
      obtain ⟨rfl, rfl, rfl⟩ := hcs
      obtain ⟨rfl, rfl⟩ := Prod.mk.inj hx
      exact ⟨[], rfl, ⟨by simp, .inl rfl⟩, ⟨Nat.le_refl _, by simp, fun _ => rfl⟩, by simp [Rows.uptoBulk]⟩
    · simp [Value.cells] at hcs
      obtain ⟨rfl, rfl, rfl⟩ := hcs
      have hz2 : zs.length = cap0 := by simpa using hz
      obtain ⟨ll, e1, e2, e3⟩ := row_nats .u64 18446744073709551616 (by decide) wf_u64 W x zs len0 (by omega) hcell hwz
      have hd : d0 = .slice (lits .u64 (zs.take len0)) (lits .u64 (zs.drop len0)) := (Prod.mk.inj hx).1
      have hreach : cap0 * 8 ≤ 140737488351232 := by
        have := sized_slice hsz (j := 0) (t := 22) (e := 36) rfl (by rw [hd]; rfl) Try.underlying22
        rw [show Try.prog.bytesOf 36 = 8 from by kernel_rfl] at this
        simp only [lits, List.length_map, List.length_take, List.length_drop, reachBytes] at this
        have hmin : min len0 zs.length = len0 := Nat.min_eq_left (by omega)
        rw [hmin] at this
        have hcap : len0 + (zs.length - len0) = cap0 := by omega
        rw [hcap] at this
        exact this
      refine ⟨ll, e1, ⟨e2, e3⟩, ⟨hl, hreach, fun h => by cases h⟩, ?_⟩
      rw [hd]
      have := bulks.slice_le (lits (H := H) .u64 (zs.take len0)) (lits .u64 (zs.drop len0))
      simp only [lits, List.length_map, List.length_take, List.length_drop] at this ⊢
      omega
  subst hlen0
  obtain ⟨a1, len1, cap1, rfl⟩ := okWide_slice Try.underlying23 (hval 1 23 v1 rfl rfl)
  have k1 := h1
  have lt1 : ∀ x ∈ p1, x.block < W.heap.size := by obtain ⟨m, hm⟩ := k1; exact DataW.trod_lt m _ _ _ hm
  obtain ⟨l1, hlen1, w1, c1, u1⟩ : ∃ l : List Nat, l.length = len1 ∧ Bytes W a1 l ∧ Came W a1 len1 cap1 1 ∧ cap1 + 1 ≤ Rows.uptoBulk d1 := by
    obtain ⟨fuel, hf⟩ := h1
    rcases open_ints Try.underlying23 Try.underlying5 (by kernel_rfl) hf with ⟨hcs, hx⟩ | ⟨x, l, c, zs, hcs, _, hl, hm, hz, hx, hcell, hwz⟩
    · simp [Value.cells] at hcs
      obtain ⟨rfl, rfl, rfl⟩ := hcs
      obtain ⟨rfl, rfl⟩ := Prod.mk.inj hx
      exact ⟨[], rfl, ⟨by simp, .inl rfl⟩, ⟨Nat.le_refl _, by simp, fun _ => rfl⟩, by simp [Rows.uptoBulk]⟩
    · simp [Value.cells] at hcs
      obtain ⟨rfl, rfl, rfl⟩ := hcs
      have hz2 : zs.length = cap1 := by simpa using hz
      obtain ⟨ll, e1, e2, e3⟩ := row_nats .u8 256 (by decide) wf_u8 W x zs len1 (by omega) hcell hwz
      have hd : d1 = .slice (lits .u8 (zs.take len1)) (lits .u8 (zs.drop len1)) := (Prod.mk.inj hx).1
      have hreach : cap1 * 1 ≤ 140737488351232 := by
        have := sized_slice hsz (j := 1) (t := 23) (e := 5) rfl (by rw [hd]; rfl) Try.underlying23
        rw [show Try.prog.bytesOf 5 = 1 from by kernel_rfl] at this
        simp only [lits, List.length_map, List.length_take, List.length_drop, reachBytes] at this
        have hmin : min len1 zs.length = len1 := Nat.min_eq_left (by omega)
        rw [hmin] at this
        have hcap : len1 + (zs.length - len1) = cap1 := by omega
        rw [hcap] at this
        exact this
      refine ⟨ll, e1, ⟨e2, e3⟩, ⟨hl, hreach, fun h => by cases h⟩, ?_⟩
      rw [hd]
      have := bulks.slice_le (lits (H := H) .u8 (zs.take len1)) (lits .u8 (zs.drop len1))
      simp only [lits, List.length_map, List.length_take, List.length_drop] at this ⊢
      omega
  subst hlen1
  obtain ⟨a2, rfl, rfl, rfl, w2⟩ := open_int Try.underlying3 (hval 2 3 v2 rfl rfl) h2
  have hbk := bulks.bound hk
  simp only [List.append_nil, Rows.uptoBulkAll] at hbk
  have hsum : cap0 + cap1 ≤ 1048576 := by omega
  clear hA0
  refine (walk l0 a0 cap0 l1 a1 cap1 a2 W w0 c0 w1 c1 w2 hsum).mono fun e W' ⟨he, bel⟩ => ?_
  subst he
  exact ⟨_, rfl, _, _, _, [], _, [], hW', trodAll_mk1 (shut_bool Try.underlying4 _), (trodAll_cons_mk (Below.trod laidOut (by kernel_rfl) (of_decide_eq_true (by kernel_rfl)) k0 bel lt0) (trodAll_cons_mk (Below.trod laidOut (by kernel_rfl) (of_decide_eq_true (by kernel_rfl)) k1 bel lt1) (trodAll_cons_mk (shut_int Try.underlying3 w2) trodAll_mk0))), rfl, bel.frame _, fun h => by cases h⟩
set_option maxRecDepth 100000 in
theorem lifted (os : Os) (started : os.Started) (H : Type) (enc : TypeId × Value → H) (F : Stop.Interp) :
    ReturnsInHanded {} Try.checked os 3 .any ((Rows.OpenSpec.upto Rows.varintListsSpec).pre6 enc Try.prog Try.f3 Rows.varintListsUptoRow.domain false) (((Rows.OpenSpec.upto Rows.varintListsSpec).at F).post enc Try.prog Try.f3 false true false false) := by
  refine returnsInHanded_of_cond_sized (C := Try.checked) (s := Rows.OpenSpec.upto Rows.varintListsSpec) (k := Rows.uptoSmall) rfl own started (by kernel_rfl) Try.func3
    (OpenSpec.witness (enc := enc) (C := Try.checked) (s := Rows.OpenSpec.upto Rows.varintListsSpec) (k := Rows.uptoSmall) rfl false ⟨#[], #[.slice none 0 0, .slice none 0 0, .int .i64 0], []⟩ 8 (by kernel_rfl) (by kernel_rfl) (by kernel_rfl)
      (x := ([.nil, .nil, .lit (.int .i64 0)], [], [])) (by kernel_rfl) rfl (by kernel_rfl)) ?_
  intro W base args ds gs before hval hW _ hk hsz _
  exact contract H enc W base args ds gs before hval hW hsz hk
theorem over : Rows.varintListsUptoRow.holds Try.pinned (Rows.OpenSpec.upto Rows.varintListsSpec) :=
  OpenClaim.holds_of_cond 3 Try.f3 rfl rfl rfl rfl rfl rfl rfl ⟨rfl, rfl, rfl, rfl, rfl⟩ rfl rfl rfl rfl rfl (by kernel_rfl) Try.func3 (by kernel_rfl)
    (of_decide_eq_true (by kernel_rfl)) (by unfold Func.isWrapper; first | (rw [if_pos (by decide +kernel)]; kernel_rfl) | (rw [if_neg (by decide +kernel)]; exact ⟨rfl, rfl⟩))
    (fun os started H enc _ F => lifted os started H enc F)
theorem proved : Rows.VarintListsUptoSaid := over
end Go.Proofs.Ytenekcnccmghhac.varintLists
