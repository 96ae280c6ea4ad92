/- Own texts, joined: Mf8. -/
import Derived.Test.YtnfkdgjgglnniaaDoorK20
namespace Go.Proofs.YtnfkdgjgglnniaaDoor
open Go.ChangeShapes Go.WideShapes Go.ChangeAt Go.RowKit Go.Shelf
set_option linter.unusedVariables false
attribute [local go_sem] Oper.semAt_some
set_option maxRecDepth 100000 in
set_option maxHeartbeats 8000000 in
theorem mdec_some (l : List Nat) (n : Nat) (a : Option Addr) (cap : Nat) (w : World) (hn : l.length = n) (hb : Bytes w a l) (hcap : n ≤ cap) (hl : n ≤ 140737488351232) (ht : Tab w) (hE : whE l 4 = 0) (hN : nbB (decB l) = true) :
    Calls Tryd.prog 15 #[.slice a n cap] w fun e w' => ∃ v, e = .returned (.tuple #[MfV (if mvB (mdC l) = true then mdC l else zeroM) v, .int .i64 (if mvB (mdC l) = true then 0 else 80)]) ∧ OwnSm w' w.heap.size v (if mvB (mdC l) = true then mdC l else zeroM).segs ∧ Below w.heap.size w w' := by
  obtain ⟨RM, hRM⟩ : ∃ RM, (if mvB (mdC l) = true then mdC l else zeroM) = RM := ⟨_, rfl⟩
  obtain ⟨RE, hRE⟩ : ∃ RE : Int, (if mvB (mdC l) = true then (0 : Int) else 80) = RE := ⟨_, rfl⟩
  rw [hRM, hRE]
  have HRM : Hid ((if mvB (mdC l) = true then mdC l else zeroM) = RM ∧ (if mvB (mdC l) = true then (0 : Int) else 80) = RE) := ⟨hRM, hRE⟩
  clear hRM hRE
  have HX : Hid (l.length = n ∧ Bytes w a l ∧ l.length ≤ cap ∧ l.length ≤ 281474976710656 ∧ Tab w) := ⟨hn, hb, by omega, by omega, ht⟩
  have HM0 : Hid (MfAt (w.alloc (.cells (mfA zeroM (.slice none 0 0)) 24)) w.heap.size zeroM (.slice none 0 0)) := MfAt.new w zeroM _
  have HB0 : Hid (Below w.heap.size w (w.alloc (.cells (mfA zeroM (.slice none 0 0)) 24))) := (Below.refl _ _).alloc (Nat.le_refl _) _
  have HWV : Hid (∀ v, WV l 4 v = .tuple #[FrV (pk l : Int) (ps l : Int) v, .int .i64 0] ∧ whB l 4 = decB l) := fun v => wv_good l 4 v hE
  obtain ⟨K, hK⟩ : ∃ K, pk l = K := ⟨_, rfl⟩
  obtain ⟨S, hS⟩ : ∃ S, ps l = S := ⟨_, rfl⟩
  rw [hK, hS] at HWV
  obtain ⟨B, hB⟩ : ∃ B, (decB l).length = B := ⟨_, rfl⟩
  have hBl : B ≤ n := by rw [← hB, ← hn]; unfold decB; split <;> simp; omega
  have HBL : Hid ((decB l).length = B ∧ B ≤ 140737488351232) := ⟨hB, by omega⟩
  have HNB : Hid (nbB (decB l) = true) := hN
  obtain ⟨U, hU⟩ : ∃ U, (decAll (decB l) 1028).1 = U := ⟨_, rfl⟩
  have HU : Hid ((decAll (decB l) 1028).1 = U) := hU
  obtain ⟨g1, g2, g3, g4⟩ : (decAll (decB l) 1028).2.2 = 0 ∧ (decAll (decB l) 1028).2.1 = (decB l).length ∧ 4 ≤ (decAll (decB l) 1028).1.length ∧ ((decAll (decB l) 1028).1.length - 4) % 4 = 0 := of_decide_eq_true hN
  rw [hU] at g3 g4
  have g5 : U.length ≤ 1028 := decAll_lenM (l := decB l) (U := U) (p := (decAll (decB l) 1028).2.1) (by rw [← hU, ← g1])
  obtain ⟨u0, u1, u2, u3, r, rfl⟩ := four_of g3
  have HMC : Hid (mdC l = ⟨(S : Int), toI u0, toI u1, toI u2, toI u3, smsOf r⟩) := by show _ = _; unfold mdC; rw [hU, hS]
  obtain ⟨N, hNN⟩ : ∃ N, (u0 :: u1 :: u2 :: u3 :: r).length = N := ⟨_, rfl⟩
  have hN4 : 4 ≤ N := by omega
  have hN28 : N ≤ 1028 := by omega
  have HNL : Hid ((u0 :: u1 :: u2 :: u3 :: r).length = N ∧ r.length = N - 4) := ⟨hNN, by rw [← hNN]; simp⟩
  have hN4I : (4 : Int) ≤ (N : Int) := by omega
  have hN28I : (N : Int) ≤ 1028 := by omega
  have e0 := toI_eq u0
  have e1 := toI_eq u1
  have e2 := toI_eq u2
  have e3 := toI_eq u3
  have T1 : Hid True := trivial
  have f1 : Fence.wide.fn 34 := trivial
  have f2 : Fence.wide.fn 35 := trivial
  have f3 : Fence.wide.fn 36 := trivial
  have f4 : Fence.wide.fn 8 := trivial
  clear hn hb hcap hl ht hE hK hS hB hN hBl hU g1 g2 g3 g4 g5 hNN
  refine (callsIn_wide (n := 5)).1 ?_
  refine callsIn_of_wp_marks Tryd.func15 rfl trivial ?_ rfl
  simp only [Tryd.ntmps15, List.size_toArray, List.length_cons, List.length_nil, Nat.reduceAdd, Nat.reduceSub, Array.replicate_succ, Array.replicate_zero, List.push_toArray, List.append_toArray, List.nil_append, List.cons_append]
  refine wpIn_mono ?_ (fun _ _ _ h => noPanic_le h)
  refine wpIn_wide.2 ?_
  go_wp2_with (first
    | (go_at_call 34; refine ((fwhole_any l 4 n a cap _ HX.out.1 (HX.out.2.1.keep HB0.out) HX.out.2.2.2.1 HX.out.2.2.1 (HX.out.2.2.2.2.keep HB0.out))).mono ?_; rintro _ w1 ⟨v1, rfl, ho1, hb1⟩; rw [(HWV.out v1).1]; rw [(HWV.out v1).2] at ho1; obtain ⟨a1, c1, hv1, hc1, _, hy1, _⟩ := ho1.shape; rw [HBL.out.1] at hv1 hc1; subst hv1; have HY1 : Hid (Bytes w1 a1 (decB l) ∧ B ≤ c1) := ⟨hy1, hc1⟩; have HM1 : Hid (MfAt w1 w.heap.size zeroM (.slice none 0 0)) := HM0.out.after hb1; have HB1 : Hid (Below w.heap.size w w1) := below_next HB0.out hb1; have HL1 : Hid (w.heap.size < w1.heap.size) := HM1.out.lt; clear ho1 hb1 hy1 hc1)
    | (go_at_call 35; refine ((numbers_any (decB l) B a1 c1 _ HBL.out.1 (HY1.out.1.keep ((Below.refl _ _).alloc (Nat.le_refl _) _)) HY1.out.2 HBL.out.2)).mono ?_; rw [HNB.out, HU.out]; rintro _ w3 ⟨v3, rfl, ho3, hb3⟩; have hm3 : MfAt w3 w.heap.size zeroM (.slice none 0 0) := (HM1.out.after ((Below.refl _ _).alloc (Nat.le_refl _) _)).after hb3; have HM3 : Hid (MfAt w3 w.heap.size zeroM (.slice none 0 0)) := hm3; have HB3 : Hid (Below w.heap.size w w3) := below_next (HB1.out.alloc HB1.out.size _) hb3; obtain ⟨a3, c3, hv3, hn3⟩ := ho3.slice; obtain ⟨b3, o3, rfl, hl3, k0, k1, k2, k3⟩ := nums_four hn3; have HN3 : Hid (Nums w3 (some ⟨b3, o3, none⟩) (u0 :: u1 :: u2 :: u3 :: r)) := hn3; rw [HNL.out.1] at hv3; subst hv3; have HC3 : Hid (N ≤ c3) := own64_cap ho3; obtain ⟨_, kf, _⟩ := ((FrmAt.new w1 (K : Int) (S : Int) (.slice a1 B c1)).keep hb3).cells; have hlf : w1.heap.size < w3.heap.size := Nat.lt_of_lt_of_le (by simp) hb3.size; clear ho3 hb3 hn3 hm3))
  go_region
  go_wp2_with (first
    | ((with_reducible refine at_sliceN ?_); refine wpList_slice_n rfl _ _ rfl rfl rfl (by have := HNL.out.2; omega) HC3.out (u0 := u0) (u1 := u1) (u2 := u2) (u3 := u3) (r := r) ?_; intro xa hxa hxb)
    | (go_at_call 36; refine (callsIn_wide.1 (segs_in 5 _ _ _ _)).mono ?_; rintro _ _ ⟨rfl, rfl⟩))
  obtain ⟨W0, hW0⟩ : ∃ W0, ((w3.alloc (.cells #[.int .i64 (S : Int), .int .i64 (toI u0), .int .i64 (toI u1), .int .i64 (toI u2), .int .i64 (toI u3), .slice none 0 0] 24)).alloc (.cells #[.slice xa (N - 4) (c3 - 4)] 66)).drew = W0 := ⟨_, rfl⟩
  have hb0 : Below w3.heap.size w3 W0 := by rw [← hW0]; exact (((Below.refl _ _).alloc (Nat.le_refl _) _).alloc (by simp) _).drew
  have hs0 : w3.heap.size + 2 ≤ W0.heap.size := by rw [← hW0]; simp
  have hm0 : MfAt W0 w3.heap.size ⟨(S : Int), toI u0, toI u1, toI u2, toI u3, []⟩ (.slice none 0 0) := by rw [← hW0]; exact (Below.heap_alloc _ _ _ (by simp)).trans (heap_alloc_new w3 _)
  have hk0 : W0.heap[w3.heap.size + 1]? = some (.cells #[.slice xa (N - 4) (c3 - 4)] 66) := by
    rw [← hW0]
    have h := heap_alloc_new (w3.alloc (.cells #[.int .i64 (S : Int), .int .i64 (toI u0), .int .i64 (toI u1), .int .i64 (toI u2), .int .i64 (toI u3), .slice none 0 0] 24)) (.cells #[.slice xa (N - 4) (c3 - 4)] 66)
    rw [World.size_alloc] at h
    exact h
  have hne : NumsE W0.heap.size w3.heap.size W0 xa r := NumsE.of (hxa W0 (HN3.out.keep hb0)) (fun b2 o2 h => by have := hxb b2 o2 h; omega)
  have HI0 : Hid (DI w w.heap.size w3.heap.size W0.heap.size ⟨(S : Int), toI u0, toI u1, toI u2, toI u3, []⟩ [] W0) := ⟨⟨_, hm0, OwnSm.nil _ _⟩, HM3.out.after hb0, below_next HB3.out hb0, Nat.le_refl _⟩
  have hws : w.heap.size < w3.heap.size := HM3.out.lt
  have HC4 : Hid (N - 4 ≤ c3 - 4) := by have := HC3.out; show _ ≤ _; omega
  obtain ⟨i0, hi, hz0, hz1, hz2⟩ := info_parts Tryd.infoSm
  rw [hW0]
  clear hW0
  refine (wpIn_wide (n := 5)).1 ?_
  refine range_w rfl (by omega) (gf := 55) (lb := #[.pointer (some ⟨w3.heap.size + 1, 0, none⟩)]) rfl trivial (enters_of Tryd.func55 (by kernel_rfl) rfl)
    (segs_stops _ (by omega) r (N - 4) (w3.heap.size + 1) w3.heap.size xa (c3 - 4) W0 HNL.out.2 hne HC4.out (by omega) hk0) (fun _ => rfl) KE.trans (fun W lp o o' hlp h _ _ => KE.put W lp o' (by omega))
    (DI w w.heap.size w3.heap.size W0.heap.size ⟨(S : Int), toI u0, toI u1, toI u2, toI u3, []⟩) (fun _ _ _ => False) (DI.own w _ _ _ _ _ (by omega)) (fun _ _ _ _ _ hs _ _ => hs) HI0.out
    (fun pre x a' W => ∃ Bx : Nat, SmAt W Bx x ∧ (pre ++ [x]) <+: smsOf r ∧ a' = { tmps := #[.slice a n cap, undef, .pointer (some ⟨w.heap.size, 0, none⟩), .int .i64 0, .pointer (some ⟨w1.heap.size, 0, none⟩), .int .i64 0, .slice (some ⟨b3, o3, none⟩) N c3, .bool true, .pointer (some ⟨w3.heap.size, 0, none⟩), .pointer (some ⟨Bx, 0, none⟩), .tuple #[FrV (K : Int) (S : Int) (.slice a1 B c1), .int .i64 0], .slice a n cap, .tuple #[FrV (K : Int) (S : Int) (.slice a1 B c1), .int .i64 0], FrV (K : Int) (S : Int) (.slice a1 B c1), .int .i64 0, .int .i64 0, .bool false, undef, .tuple #[.slice (some ⟨b3, o3, none⟩) N c3, .bool true], .pointer (some ⟨w1.heap.size, 2, none⟩), .slice a1 B c1, .tuple #[.slice (some ⟨b3, o3, none⟩) N c3, .bool true], .slice (some ⟨b3, o3, none⟩) N c3, .bool true, .bool true, .bool false, undef, .pointer (some ⟨w1.heap.size, 1, none⟩), .int .i64 (S : Int), .slice (some ⟨b3, o3, none⟩) N c3, .pointer (some ⟨b3, o3, none⟩), .int .u64 (u0 : Int), .int .i64 (toI u0), .slice (some ⟨b3, o3, none⟩) N c3, .pointer (some ⟨b3, o3 + 1, none⟩), .int .u64 (u1 : Int), .int .i64 (toI u1), .slice (some ⟨b3, o3, none⟩) N c3, .pointer (some ⟨b3, o3 + 2, none⟩), .int .u64 (u2 : Int), .int .i64 (toI u2), .slice (some ⟨b3, o3, none⟩) N c3, .pointer (some ⟨b3, o3 + 3, none⟩), .int .u64 (u3 : Int), .int .i64 (toI u3), .agg #[.int .i64 (S : Int), .int .i64 (toI u0), .int .i64 (toI u1), .int .i64 (toI u2), .int .i64 (toI u3), .slice none 0 0], .slice (some ⟨b3, o3, none⟩) N c3, .slice xa (N - 4) (c3 - 4), .func (.func 55) #[] #[.pointer (some ⟨w3.heap.size + 1, 0, none⟩)], SmV x, undef, undef, undef, undef, undef, undef, undef, undef, undef, undef, undef], defers := [] })
    ?hax ?assign ?body ?done ?stop
  case hax =>
    rintro pre x a' _ X Y row ⟨Bx, h1, h2, h3⟩ hg hr
    exact ⟨Bx, cells_keptM h1 hg (fun r e => (hr r e).2), h2, h3⟩
  case assign =>
    rintro lp pre ⟨p, q, c, f⟩ W K hI hX hK
    gi_wp2
    exact hK _ _ ((KeepsOthers.alloc _ _).from _) (KE.below ((Below.refl _ W).alloc (Nat.le_refl _) _)) (hI.below ((Below.refl _ W).alloc (Nat.le_refl _) _)) ⟨W.heap.size, SmAt.new W ⟨p, q, c, f⟩, hX, rfl⟩
  case body =>
    rintro lp pre ⟨p, q, c, f⟩ a' W hI ⟨Bx, h2, h4, rfl⟩
    obtain ⟨g0, g1, g2, g3⟩ := h2.cells
    obtain ⟨v, hv, hrow⟩ := hI.mf
    have HI : Hid (DI w w.heap.size w3.heap.size W0.heap.size ⟨(S : Int), toI u0, toI u1, toI u2, toI u3, []⟩ pre W) := hI
    have HROW : Hid (MfAt W w3.heap.size ⟨(S : Int), toI u0, toI u1, toI u2, toI u3, []⟩ v ∧ OwnSm W W0.heap.size v pre) := ⟨hv, hrow⟩
    have hlm := hv.lt
    have hlB : Bx < W.heap.size := lt_of_heap h2
    have k5 := hv.cell 5 _ rfl
    have hcnt : pre.length + 1 ≤ 257 := by
      have q1 := h4.length_le
      have q2 := smsOf_length r
      have q3 := HNL.out.2
      simp at q1
      omega
    have HO4 : Hid ((W.alloc (.cells #[.int .i64 p, .int .i64 q, .int .i64 c, .int .i64 f] 55)).ownsRow W0.heap.size 55 4 v pre.length (sfl pre)) := World.ownsRow.alloc hrow _
    have HB4 : Hid (Below W.heap.size W (W.alloc (.cells #[.int .i64 p, .int .i64 q, .int .i64 c, .int .i64 f] 55))) := (Below.refl _ _).alloc (Nat.le_refl _) _
    have HSZ : Hid (W0.heap.size ≤ (W.alloc (.cells #[.int .i64 p, .int .i64 q, .int .i64 c, .int .i64 f] 55)).heap.size) := by have := hI.siz; show _ ≤ _; simp; omega
    clear hv hrow hI h2 h4
    gi_wp2_with (gi_at_builtin; refine wpListIn_append_own _ rfl _ _ 22 rfl W0.heap.size 55 i0 (.agg #[.int .i64 0, .int .i64 0, .int .i64 0, .int .i64 0]) 4 32 Tryd.underlying22 hi hz0 hz1 hz2 rfl (by decide) _ _ _ rfl HO4.out ⟨W.heap.size, 0, none⟩ 1 1 [.int .i64 p, .int .i64 q, .int .i64 c, .int .i64 f] rfl rfl (cell_newS W ⟨p, q, c, f⟩) (one_new4 _ _ _ _) (by unfold maxLen; omega) (by omega) HSZ.out ?_; intro v' w5 ho5 hg5 _; obtain ⟨g', cap', rfl⟩ := ownsRow_succ ho5; have HG5 : Hid (_) := hg5; have HO5 : Hid (_) := ho5; have hp5 : MfAt w5 w3.heap.size ⟨(S : Int), toI u0, toI u1, toI u2, toI u3, []⟩ v := grown_boxM HO4.out hg5 (HROW.out.1.after HB4.out) (by decide); have y0 := hp5.cell 5 _ rfl; have y1 := frozen_of_row _ _ 5 _ _ hp5; clear hp5 hg5 ho5)
    exact DI.step (x := ⟨p, q, c, f⟩) HI.out HB4.out HROW.out.1 HO4.out HG5.out HO5.out (by omega) (by omega) (by omega) _
  case done =>
    rintro D xs W hD hS hI hK
    subst hS
    obtain ⟨v, hv, hrow⟩ := hI.mf
    have HZ : Hid (MfAt W w.heap.size zeroM (.slice none 0 0)) := hI.zero
    have HBW : Hid (Below w.heap.size w W) := hI.bel
    obtain ⟨a5, c5, hv5, hc5, hm5, hl5, _⟩ := hrow.shape
    obtain ⟨M, hM⟩ : ∃ M, (smsOf r).length = M := ⟨_, rfl⟩
    rw [hM] at hv5 hc5
    subst hv5
    have HML : Hid ((smsOf r).length = M ∧ Sms W a5 (smsOf r) ∧ M ≤ maxLen) := ⟨hM, hl5, by omega⟩
    have HV : Hid (MfAt W w3.heap.size ⟨(S : Int), toI u0, toI u1, toI u2, toI u3, smsOf r⟩ (.slice a5 M c5)) := hv
    have HRW : Hid (OwnSm W W0.heap.size (.slice a5 M c5) (smsOf r)) := hrow
    have HD : Hid (W.heap[D]? = some (.deferred (some [])) ∧ w.heap.size < D ∧ w.heap.size < W0.heap.size) := ⟨hK, by omega, by omega⟩
    have T2 : Hid True := trivial
    clear hv hrow hI hK hl5 hm5 hM hc5
    cases hval : mvB ⟨(S : Int), toI u0, toI u1, toI u2, toI u3, smsOf r⟩ with
    | true =>
      have HVL : Hid (mvB ⟨(S : Int), toI u0, toI u1, toI u2, toI u3, smsOf r⟩ = true) := hval
      clear hval
      have HRES : Hid (RM = ⟨(S : Int), toI u0, toI u1, toI u2, toI u3, smsOf r⟩ ∧ RE = 0) := by rw [← HRM.out.1, ← HRM.out.2, HMC.out, HVL.out]; exact ⟨rfl, rfl⟩
      go_wp2_with (first
        | ((with_reducible refine frm_load 24 ?_); clear T2; refine wpList_load_mf rfl _ rfl HV.out rfl ?_)
        | ((with_reducible refine frm_load 24 ?_); refine wpList_load_mf rfl _ rfl HV6.out rfl ?_)
        | (go_at_call 8; refine (mvalid_any ⟨(S : Int), toI u0, toI u1, toI u2, toI u3, smsOf r⟩ M a5 c5 _ HML.out.1 HML.out.2.1 HML.out.2.2).mono ?_; rw [HVL.out]; rintro _ w6 ⟨rfl, hb6⟩; have HZ6 : Hid (MfAt w6 w.heap.size zeroM (.slice none 0 0)) := HZ.out.after hb6; have HV6 : Hid (MfAt w6 w3.heap.size ⟨(S : Int), toI u0, toI u1, toI u2, toI u3, smsOf r⟩ (.slice a5 M c5)) := HV.out.after hb6; have HR6 : Hid (OwnSm w6 W0.heap.size (.slice a5 M c5) (smsOf r)) := HRW.out.keep hb6; have HB6 : Hid (Below w.heap.size w w6) := below_next HBW.out hb6; have HD6 : Hid (w6.heap[D]? = some (.deferred (some []))) := (hb6.block D (lt_of_heap HD.out.1)).trans HD.out.1; clear hb6)
        | ((with_reducible refine frm_store 24 ?_); refine wpList_store_mf rfl _ _ rfl rfl HZ6.out rfl (m2 := ⟨(S : Int), toI u0, toI u1, toI u2, toI u3, smsOf r⟩) (a2 := a5) (n2 := M) (c2 := c5) rfl ?_; intro w7 hf7 ho7 hh7 hs7; have HM7 : Hid (MfAt w7 w.heap.size ⟨(S : Int), toI u0, toI u1, toI u2, toI u3, smsOf r⟩ (.slice a5 M c5)) := hf7; have HR7 : Hid (OwnSm w7 W0.heap.size (.slice a5 M c5) (smsOf r)) := OwnSm.otherM HR6.out HD.out.2.2 hh7; have HB7 : Hid (Below w.heap.size w w7) := ho7 _ _ HB6.out (Nat.le_refl _); have HD7 : Hid (w7.heap[D]? = some (.deferred (some []))) := (hh7 D (Nat.ne_of_gt HD.out.2.1)).trans HD6.out; clear hf7 ho7 hh7 hs7))
      obtain ⟨q1, q2, q3⟩ := dec_end HM7.out HR7.out HB7.out HD7.out (Nat.le_of_lt HD.out.2.1) (Nat.ne_of_lt HD.out.2.1) (Nat.le_of_lt HD.out.2.2)
      refine ⟨by simp, .inl ⟨_, _, rfl, run_takeDeferred HD7.out, ?_⟩⟩
      exact ⟨_, results_mf2 rfl _ _ w.heap.size _ rfl rfl q1, .slice a5 M c5, by rw [HRES.out.1, HRES.out.2]; rfl, by rw [HRES.out.1]; exact q2, q3⟩
    | false =>
      have HVL : Hid (mvB ⟨(S : Int), toI u0, toI u1, toI u2, toI u3, smsOf r⟩ = false) := hval
      clear hval
      have HRES : Hid (RM = zeroM ∧ RE = 80) := by rw [← HRM.out.1, ← HRM.out.2, HMC.out, HVL.out]; exact ⟨rfl, rfl⟩
      go_wp2_with (first
        | ((with_reducible refine frm_load 24 ?_); clear T2; refine wpList_load_mf rfl _ rfl HV.out rfl ?_)
        | (go_at_call 8; refine (mvalid_any ⟨(S : Int), toI u0, toI u1, toI u2, toI u3, smsOf r⟩ M a5 c5 _ HML.out.1 HML.out.2.1 HML.out.2.2).mono ?_; rw [HVL.out]; rintro _ w6 ⟨rfl, hb6⟩; have HZ6 : Hid (MfAt w6 w.heap.size zeroM (.slice none 0 0)) := HZ.out.after hb6; have HB6 : Hid (Below w.heap.size w w6) := below_next HBW.out hb6; have HD6 : Hid (w6.heap[D]? = some (.deferred (some []))) := (hb6.block D (lt_of_heap HD.out.1)).trans HD.out.1; clear hb6)
        | ((with_reducible refine frm_store 24 ?_); refine wpList_store_mf rfl _ _ rfl rfl HZ6.out rfl (m2 := zeroM) (a2 := none) (n2 := 0) (c2 := 0) rfl ?_; intro w7 hf7 ho7 hh7 hs7; have HM7 : Hid (MfAt w7 w.heap.size zeroM (.slice none 0 0)) := hf7; have HB7 : Hid (Below w.heap.size w w7) := ho7 _ _ HB6.out (Nat.le_refl _); have HD7 : Hid (w7.heap[D]? = some (.deferred (some []))) := (hh7 D (Nat.ne_of_gt HD.out.2.1)).trans HD6.out; clear hf7 ho7 hh7 hs7))
      obtain ⟨q1, q2, q3⟩ := dec_end HM7.out (OwnSm.nil w7 W0.heap.size) HB7.out HD7.out (Nat.le_of_lt HD.out.2.1) (Nat.ne_of_lt HD.out.2.1) (Nat.le_of_lt HD.out.2.2)
      refine ⟨by simp, .inl ⟨_, _, rfl, run_takeDeferred HD7.out, ?_⟩⟩
      exact ⟨_, results_mf2 rfl _ _ w.heap.size _ rfl rfl q1, .slice none 0 0, by rw [HRES.out.1, HRES.out.2]; rfl, by rw [HRES.out.1]; exact q2, q3⟩
  case stop =>
    rintro D c pre W _ _ h _
    exact h.elim
/-- what manifest.Decode answers, whatever it is given -/
theorem mdec_any (l : List Nat) (n : Nat) (a : Option Addr) (cap : Nat) (w : World) (hn : l.length = n) (hb : Bytes w a l) (hcap : n ≤ cap) (hl : n ≤ 140737488351232) (ht : Tab w) :
    Calls Tryd.prog 15 #[.slice a n cap] w fun e w' => ∃ v, e = .returned (.tuple #[MfV (mdM l) v, .int .i64 (mdE l : Nat)]) ∧ OwnSm w' w.heap.size v (mdM l).segs ∧ Below w.heap.size w w' := by
  by_cases hE : whE l 4 = 0
  · cases hN : nbB (decB l) with
    | true =>
      refine (mdec_some l n a cap w hn hb hcap hl ht hE hN).mono ?_
      by_cases hv : mvB (mdC l) = true
      · obtain ⟨h1, h2⟩ := md_some ⟨hE, hN, hv⟩
        rw [h1, h2, if_pos hv, if_pos hv]
        exact fun _ _ h => h
      · obtain ⟨h1, h2⟩ := md_none (l := l) (fun h => hv h.2.2)
        rw [h1, h2, if_neg hv, if_neg hv]
        exact fun _ _ h => h
    | false =>
      obtain ⟨h1, h2⟩ := md_none (l := l) (fun h => by rw [hN] at h; exact absurd h.2.1 (by simp))
      rw [h1, h2]
      refine (mdec_bad2 l n a cap w hn hb hcap hl ht hE hN).mono ?_
      rintro _ w' ⟨rfl, h⟩
      exact ⟨_, rfl, OwnSm.nil _ _, h⟩
  · obtain ⟨h1, h2⟩ := md_none (l := l) (fun h => hE h.1)
    rw [h1, h2]
    refine (mdec_bad1 l n a cap w hn hb hcap hl ht hE).mono ?_
    rintro _ w' ⟨rfl, h⟩
    exact ⟨_, rfl, OwnSm.nil _ _, h⟩
end Go.Proofs.YtnfkdgjgglnniaaDoor
