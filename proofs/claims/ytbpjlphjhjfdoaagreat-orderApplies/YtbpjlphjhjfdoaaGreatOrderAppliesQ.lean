/- Every state behind an event is the document's; the state handed in stays, and shares nothing with the answer: for every state and every event. -/
import Derived.Test.YtbpjlphjhjfdoaaGreatM84
import Derived.Test.YtbpjlphjhjfdoaaGreatK41
import Derived.Deep.AppendLies
import Derived.SizedLaws
import Derived.ChangeOld
namespace Go.Proofs.YtbpjlphjhjfdoaaGreat.orderApplies
open Go.ChangeShapes Go.WideShapes Go.ChangeAt Go.RowKit
set_option linter.unusedVariables false
set_option linter.unusedSimpArgs false
theorem next_lenA (s : St) (e : Ev) (n : Nat) (hn : s.lines.length = n) (hm : n * 32 ≤ 140737488351232) : (nextS s e).lines.length * 32 ≤ 140737488351232 := by
  cases hv : vldB s with
  | false =>
    have h1 : judS s e = 1 := by unfold judS; rw [if_pos (.inl hv)]
    unfold nextS
    rw [if_pos (.inl h1), hn]; exact hm
  | true => have := (linesB_from (vl_of (next_valid (e := e) hv)).lines).1; omega
set_option maxRecDepth 20000 in
set_option maxHeartbeats 8000000 in
theorem walk (s : St) (a : Option Addr) (n cap : Nat) (e : Ev) (w : World) (hn : s.lines.length = n) (hl : Lns w a s.lines) (hc : n ≤ cap) (hm : n * 32 ≤ 140737488351232) (hfit : e.Fit) :
    Calls Tryz.prog 3 #[.agg (stA s (.slice a n cap)), .agg (evA e)] w fun r w' => r = .returned (.bool true) ∧ Below w.heap.size w w' := by
  have HN : Hid (s.lines.length = n) := hn
  have hlm : n ≤ maxLen := by unfold maxLen; omega
  have HS0 : Hid (SE w s e a n cap ((w.alloc (.cells (stA s (.slice a n cap)) 25)).alloc (.cells (evA e) 28))) := SE.new w s e a n cap hl
  obtain ⟨S2, hS2⟩ : ∃ S2, nextS s e = S2 := ⟨_, rfl⟩
  obtain ⟨j, hj⟩ : ∃ j, judS s e = j := ⟨_, rfl⟩
  have HA : Hid (nextS s e = S2 ∧ judS s e = j) := ⟨hS2, hj⟩
  have HM2 : Hid (S2.lines.length * 32 ≤ 140737488351232) := by show _ ≤ _; rw [← hS2]; exact next_lenA s e n hn hm
  obtain ⟨i0, hi, hz0, hz1, hz2⟩ := info_parts Tryz.infoLn
  have T1 : Hid True := trivial
  have T2 : Hid True := trivial
  have T3 : Hid True := trivial
  have T4 : Hid True := trivial
  have T5 : Hid True := trivial
  have T6 : Hid True := trivial
  have T7 : Hid True := trivial
  have T8 : Hid True := trivial
  have T9 : Hid True := trivial
  have hnj : (j != j) = false := by simp
  clear hn hl hfit hS2 hj
  go_enter Tryz.func3, Tryz.ntmps3
  go_wp2_with (first
    | (go_at_call 5; refine (head08_any _).mono ?_; rintro _ x1 ⟨rfl, hb1⟩; have HS1 : Hid (SE w s e a n cap x1) := SE.keep HS0.out hb1; clear hb1)
    | ((with_reducible refine guard_load 25 ?_); clear T1; refine wpList_load_st rfl _ rfl HS1.out.st rfl ?_)
    | (go_at_call 6; refine (scopy_any s a n cap _ HN.out HS1.out.ln hm).mono ?_; rintro _ x2 ⟨v2, rfl, ho2, hb2⟩; obtain ⟨a2, c2, hv2, _, _, hl2, _⟩ := ho2.shape; simp only [HN.out] at hv2; subst hv2; have HX2 : Hid (SE w s e a n cap x2 ∧ OwnL x2 w.heap.size (.slice a2 n c2) s.lines) := ⟨SE.keep HS1.out hb2, ho2.mono HS1.out.bel.size⟩; clear hb2 ho2 hl2)
    | ((with_reducible refine guard_store 25 ?_); clear T2; refine wpList_store_st (s := zeroS) (s2 := s) (a2 := a2) (n2 := n) (c2 := c2) rfl _ _ rfl (StAt.new x2 zeroS (.slice none 0 0)) rfl rfl ?_; intro x3 z1 z2 z3 z4; have hu : Below x2.heap.size x2 x3 := z2 _ _ ((Below.refl x2.heap.size x2).alloc (Nat.le_refl _) _) (Nat.le_refl _); have HX3 : Hid (SE w s e a n cap x3 ∧ OwnL x3 w.heap.size (.slice a2 n c2) s.lines ∧ StAt x3 x2.heap.size s (.slice a2 n c2)) := ⟨SE.keep HX2.out.1 hu, HX2.out.2.keep hu, z1⟩; clear z1 z2 z3 z4 hu)
    | ((with_reducible refine guard_load 25 ?_); clear T3; refine wpList_load_st rfl _ rfl HX3.out.1.st rfl ?_)
    | ((with_reducible refine guard_load 28 ?_); clear T4; refine wpList_load_ev rfl _ rfl HX3.out.1.ev rfl ?_)
    | (go_at_call 7; refine (rapply_any s e a n cap _ HN.out HX3.out.1.ln hm).mono ?_; rw [HA.out.1, HA.out.2]; rintro _ x4 ⟨a3, n3, c3, rfl, ho4, hb4⟩; have HX4 : Hid (SE w s e a n cap x4 ∧ OwnL x4 w.heap.size (.slice a2 n c2) s.lines ∧ StAt x4 x2.heap.size s (.slice a2 n c2) ∧ OwnL x4 w.heap.size (.slice a3 n3 c3) S2.lines ∧ (∀ g, (Value.slice a3 n3 c3).ownBlock = some g → (Value.slice a2 n c2).ownBlock ≠ some g)) := ⟨SE.keep HX3.out.1 hb4, HX3.out.2.1.keep hb4, HX3.out.2.2.after hb4, ho4.mono HX3.out.1.bel.size, fun g hg h2 => by have q1 := (ho4.ob g hg).1; have q2 := (HX3.out.2.1.ob g h2).2.1; omega⟩; clear ho4 hb4)
    | ((with_reducible refine guard_store 25 ?_); clear T5; refine wpList_store_st (s := zeroS) (s2 := S2) (a2 := a3) (n2 := n3) (c2 := c3) rfl _ _ rfl (StAt.new x4 zeroS (.slice none 0 0)) rfl rfl ?_; intro x5 z1 z2 z3 z4; have hu : Below x4.heap.size x4 x5 := z2 _ _ ((Below.refl x4.heap.size x4).alloc (Nat.le_refl _) _) (Nat.le_refl _); have HX5 : Hid (SE w s e a n cap x5 ∧ OwnL x5 w.heap.size (.slice a2 n c2) s.lines ∧ StAt x5 x2.heap.size s (.slice a2 n c2) ∧ OwnL x5 w.heap.size (.slice a3 n3 c3) S2.lines ∧ StAt x5 x4.heap.size S2 (.slice a3 n3 c3) ∧ x4.heap.size ≠ x2.heap.size) := ⟨SE.keep HX4.out.1 hu, HX4.out.2.1.keep hu, HX4.out.2.2.1.after hu, HX4.out.2.2.2.1.keep hu, z1, (by have := HX4.out.2.2.1.lt; omega)⟩; clear z1 z2 z3 z4 hu)
    | ((with_reducible refine guard_load 25 ?_); clear T6; refine wpList_load_st rfl _ rfl HX5.out.2.2.1 rfl ?_)
    | ((with_reducible refine guard_load 28 ?_); clear T7; refine wpList_load_ev rfl _ rfl HX5.out.1.ev rfl ?_)
    | (go_at_call 8; refine (apply_any s e a2 n c2 _ HN.out (ownl_lns HX5.out.2.1) hm).mono ?_; rw [HA.out.1, HA.out.2]; rintro _ x6 ⟨a4, n4, c4, rfl, ho6, hb6⟩; have HX6 : Hid (SE w s e a n cap x6 ∧ OwnL x6 w.heap.size (.slice a2 n c2) s.lines ∧ StAt x6 x2.heap.size s (.slice a2 n c2) ∧ OwnL x6 w.heap.size (.slice a3 n3 c3) S2.lines ∧ StAt x6 x4.heap.size S2 (.slice a3 n3 c3) ∧ OwnL x6 w.heap.size (.slice a4 n4 c4) S2.lines ∧ (∀ g, (Value.slice a4 n4 c4).ownBlock = some g → (Value.slice a2 n c2).ownBlock ≠ some g)) := ⟨SE.keep HX5.out.1 hb6, HX5.out.2.1.keep hb6, HX5.out.2.2.1.after hb6, HX5.out.2.2.2.1.keep hb6, HX5.out.2.2.2.2.1.after hb6, ho6.mono HX5.out.1.bel.size, fun g hg h2 => by have q1 := (ho6.ob g hg).1; have q2 := (HX5.out.2.1.ob g h2).2.1; omega⟩; clear ho6 hb6)
    | ((with_reducible refine guard_store 25 ?_); clear T8; refine wpList_store_st (s := zeroS) (s2 := S2) (a2 := a4) (n2 := n4) (c2 := c4) rfl _ _ rfl (StAt.new x6 zeroS (.slice none 0 0)) rfl rfl ?_; intro x7 z1 z2 z3 z4; have hu : Below x6.heap.size x6 x7 := z2 _ _ ((Below.refl x6.heap.size x6).alloc (Nat.le_refl _) _) (Nat.le_refl _); obtain rfl : n3 = n4 := HX6.out.2.2.2.1.len.symm.trans HX6.out.2.2.2.2.2.1.len; have HX7 : Hid (SE w s e a n cap x7 ∧ Oap w S2 x2.heap.size x4.heap.size x6.heap.size (.slice a3 n3 c3) (.slice a4 n3 c4) s (.slice a2 n c2) x7) := ⟨SE.keep HX6.out.1 hu, (SE.keep HX6.out.1 hu).bel, HX6.out.2.2.1.after hu, HX6.out.2.2.2.2.1.after hu, z1, HX6.out.2.1.keep hu, HX6.out.2.2.2.1.keep hu, HX6.out.2.2.2.2.2.1.keep hu, HX4.out.2.2.2.2, HX6.out.2.2.2.2.2.2, HX5.out.2.2.2.2.2, (by have := HX6.out.2.2.1.lt; omega), HX2.out.1.bel.size⟩; have HN3 : Hid (S2.lines.length = n3 ∧ n3 ≤ maxLen) := ⟨HX6.out.2.2.2.1.len, by have h1 := HX6.out.2.2.2.1.len; have h2 := HM2.out; unfold maxLen; omega⟩; clear z1 z2 z3 z4 hu)
    | ((with_reducible refine guard_loadg 25 ?_); first | refine wpList_load_stg rfl _ rfl HX7.out.2.r8 rfl ?_ | refine wpList_load_stg rfl _ rfl HX7.out.2.r6 rfl ?_)
    | (go_at_call 9; clear T9; refine (ssame_yes S2 a4 a3 n3 c4 c3 _ HN3.out.1 (ownl_lns HX7.out.2.o8) (ownl_lns HX7.out.2.o6) HN3.out.2).mono ?_; rintro _ x8 ⟨rfl, hb8⟩; have HX8 : Hid (SE w s e a n cap x8 ∧ Oap w S2 x2.heap.size x4.heap.size x6.heap.size (.slice a3 n3 c3) (.slice a4 n3 c4) s (.slice a2 n c2) x8) := ⟨SE.keep HX7.out.1 hb8, HX7.out.2.keep hb8⟩; clear hb8 HX7)
    | ((with_reducible refine guard_loadg 25 ?_); first | refine wpList_load_stg rfl _ rfl HX8.out.2.m5 rfl ?_ | refine wpList_load_stg rfl _ rfl HX8.out.1.st rfl ?_)
    | (go_at_call 9; refine (ssame_yes s a2 a n c2 cap _ HN.out (ownl_lns HX8.out.2.o5) HX8.out.1.ln hlm).mono ?_; rintro _ x9 ⟨rfl, hb9⟩; have HX9 : Hid (Oap w S2 x2.heap.size x4.heap.size x6.heap.size (.slice a3 n3 c3) (.slice a4 n3 c4) s (.slice a2 n c2) x9) := HX8.out.2.keep hb9; have k5 := HX9.out.m5.cell 5 (.slice a2 n c2) rfl; clear hb9 HX8))
  go_loopw [46] (fun vi wr => ∃ (k : Nat), k ≤ n ∧ vi = .int .i64 k ∧ Hid (∃ L : List Ln, L.length = n ∧ Oap w S2 x2.heap.size x4.heap.size x6.heap.size (.slice a3 n3 c3) (.slice a4 n3 c4) { s with lines := L } (.slice a2 n c2) wr)) (fun vi _ => n - (intOf vi).toNat)
  case atStart => exact ⟨0, Nat.zero_le _, rfl, s.lines, HN.out, HX9.out⟩
  case round =>
    clear HX9 k5
    obtain ⟨k, hk, rfl, HI⟩ := hrel
    obtain ⟨L, hL, hO⟩ := HI.out
    by_cases hkn : k < n
    · obtain ⟨p, hp⟩ := ln_get (L := L) (k := k) (by rw [hL]; exact hkn)
      obtain ⟨g, rfl, _⟩ := hO.o5.block hp
      have HT : Hid (Oap w S2 x2.heap.size x4.heap.size x6.heap.size (.slice a3 n3 c3) (.slice a4 n3 c4) { s with lines := L.set k (turnL p 0 (-5)) } (.slice (some ⟨g, 0, none⟩) n c2) (wr.setCell ⟨g, k * 4 + 0, none⟩ (.int .i64 (-5)))) := hO.turn k 0 p (-5) hp (by omega)
      have q5 := hO.m5.cell 5 (.slice (some ⟨g, 0, none⟩) n c2) rfl
      obtain ⟨m0, m1, m2, m3⟩ := hO.o5.cells hp
      have mf := frozen_own hO.o5 (k * 4)
      have HL2 : Hid ((L.set k (turnL p 0 (-5))).length = n) := by show _ = _; rw [List.length_set]; exact hL
      clear HI hO hL hp
      go_wp2
      go_roundw
      case rel => exact ⟨k + 1, by omega, by go_num, _, HL2.out, HT.out⟩
      case measure => simp [intOf]; omega
    · have HO0 : Hid (∃ (L : List Ln) (a5 : Option Addr) (c5 : Nat), L.length = n + 0 ∧ Oap w S2 x2.heap.size x4.heap.size x6.heap.size (.slice a3 n3 c3) (.slice a4 n3 c4) { s with lines := L } (.slice a5 (n + 0) c5) wr) := ⟨L, a2, c2, hL, hO⟩
      clear HI hO hL
      rename World => wo
      go_wp2
      go_loopw [11] (fun vi wr => ∃ (k : Nat), k ≤ 4 ∧ vi = .int .i64 k ∧ Hid (∃ (L : List Ln) (a5 : Option Addr) (c5 : Nat), L.length = n + k ∧ Oap w S2 x2.heap.size x4.heap.size x6.heap.size (.slice a3 n3 c3) (.slice a4 n3 c4) { s with lines := L } (.slice a5 (n + k) c5) wr)) (fun vi _ => 4 - (intOf vi).toNat)
      case atStart => exact ⟨0, Nat.zero_le _, rfl, HO0⟩
      case round =>
        obtain ⟨i, hi4, rfl, HI⟩ := hrel
        obtain ⟨L, a5, c5, hL, hO⟩ := HI.out
        by_cases hi3 : i < 4
        · have hB := hO.bel.size
          have HO1 : Hid (Oap w S2 x2.heap.size x4.heap.size x6.heap.size (.slice a3 n3 c3) (.slice a4 n3 c4) { s with lines := L } (.slice a5 (n + i) c5) (wr.alloc (.cells #[.int .i64 (-6), .int .i64 0, .int .i64 0, .int .i64 0] 36))) := hO.keep ((Below.refl _ _).alloc (Nat.le_refl _) _)
          have HRW : Hid ((wr.alloc (.cells #[.int .i64 (-6), .int .i64 0, .int .i64 0, .int .i64 0] 36)).ownsRow w.heap.size 36 4 (.slice a5 (n + i) c5) (n + i) (lfl L)) := by
            have h := HO1.out.o5
            unfold OwnL at h
            simp only [hL] at h
            exact h
          have HNEW : Hid (∀ j u, [Value.int .i64 (-6), .int .i64 0, .int .i64 0, .int .i64 0][j]? = some u → (wr.alloc (.cells #[.int .i64 (-6), .int .i64 0, .int .i64 0, .int .i64 0] 36)).cell? ((⟨wr.heap.size, 0, none⟩ : Addr).add j) = some u) := lncell_new wr ⟨-6, 0, 0, 0⟩ _
          have q5 := hO.m5.cell 5 (.slice a5 (n + i) c5) rfl
          have HL5 : Hid (L.length = n + i) := hL
          clear HI hO hL
          go_wp2_with (at_builtin; refine wpList_append_lies _ rfl _ _ 23 rfl w.heap.size 36 i0 _ 4 32 Tryz.underlying23 hi hz0 hz1 hz2 rfl (by decide) (.slice a5 (n + i) c5) (n + i) (lfl L) rfl HRW.out ⟨wr.heap.size, 0, none⟩ 1 1 [.int .i64 (-6), .int .i64 0, .int .i64 0, .int .i64 0] rfl rfl HNEW.out (by intro u hu; simp only [List.mem_cons, List.not_mem_nil, or_false] at hu; rcases hu with rfl | rfl | rfl | rfl <;> rfl) (by omega) (by unfold maxLen; omega) (by omega) (by simp; omega) (wr.heap.size + 1) (by simp) ?_; intro g4 c4b w4 ho4 hg4 hat4 hlt4; obtain ⟨hs4, hoo⟩ := HO1.out.app (p := ⟨-6, 0, 0, 0⟩) (k := n + i + 1) (c4 := c4b) (g4 := g4) (by unfold OwnL; rw [List.length_append, HL5.out, lfl_append]; exact ho4) hg4 (by simpa using hat4); have y5 := hs4.cell 5 (.slice a5 (n + i) c5) rfl; have yf := hs4.froz 5; have HO2 : Hid (Oap w S2 x2.heap.size x4.heap.size x6.heap.size (.slice a3 n3 c3) (.slice a4 n3 c4) { s with lines := L ++ [⟨-6, 0, 0, 0⟩] } (.slice (some ⟨g4, 0, none⟩) (n + i + 1) c4b) (w4.setCell ⟨x2.heap.size, 5, none⟩ (.slice (some ⟨g4, 0, none⟩) (n + i + 1) c4b))) := hoo; clear ho4 hg4 hat4 hlt4 hs4 hoo)
          go_roundw
          case rel => exact ⟨i + 1, by omega, by go_num, _, _, _, (by rw [List.length_append, HL5.out]; rfl), HO2.out⟩
          case measure => simp [intOf]; omega
        · have HO9 : Hid (Oap w S2 x2.heap.size x4.heap.size x6.heap.size (.slice a3 n3 c3) (.slice a4 n3 c4) { s with lines := L } (.slice a5 (n + i) c5) wr) := hO
          clear HI hO hL
          go_wp2_with (first
            | ((with_reducible refine guard_load 25 ?_); first | refine wpList_load_st rfl _ rfl HO9.out.r8 rfl ?_ | refine wpList_load_st rfl _ rfl HO9.out.r6 rfl ?_)
            | (go_at_call 9; refine (ssame_yes S2 a4 a3 n3 c4 c3 _ HN3.out.1 (ownl_lns HO9.out.o8) (ownl_lns HO9.out.o6) HN3.out.2).mono ?_; rintro _ xa ⟨rfl, hba⟩))
          go_ret
          exact ⟨rfl, below_next HO9.out.bel hba⟩
theorem own : ownKnob Tryz.prog.godebug = none := by kernel_rfl
theorem laidOut : laidOutB Tryz.prog = true := by kernel_rfl
set_option maxRecDepth 100000 in
theorem contract (H : Type) (enc : TypeId × Value → H) (W : World) (base : Nat) (args : Array Value) (ds gs : List (DataW H)) (before : List MemPlace)
    (hval : ∀ (j : Nat) t v, Tryz.f3.params[j]? = some t → args[j]? = some v → Value.okWide Tryz.prog W .any base t v)
    (hW : DataW.Whole enc Tryz.prog Tryz.f3.params.toList Rows.orderAppliesSpec.vars false W args.toList ds gs before)
    (hsz : (DataW.weightsEach Tryz.prog (Tryz.f3.params.toList ++ Rows.orderAppliesSpec.plain.varTypes Tryz.prog) (ds ++ gs)).all (· ≤ reachBytes) = true) :
    Calls Tryz.prog 3 args W fun e W' => ∃ v, e = .returned v ∧ Rows.orderAppliesSpec.post enc Tryz.prog Tryz.f3 false true false false W args v W' := by
  have hW' := hW
  obtain ⟨p, q, hA0, hV, rfl, hfz, hnd⟩ := hW
  have hA : DataW.TrodAll enc Tryz.prog W 0 (fun _ => true) true Tryz.f3.params.toList args.toList ds p := hA0
  rw [Tryz.params3] at hA hval hsz
  obtain ⟨v0, vs0, d0, ds0, p0, q0, hargs, rfl, rfl, h0, r0⟩ := trodAll_cons hA
  obtain ⟨v1, vs1, d1, ds1, p1, q1, rfl, rfl, rfl, h1, r1⟩ := trodAll_cons r0
  obtain ⟨rfl, rfl, rfl⟩ := trodAll_nil r1
  obtain rfl : args = #[v0, v1] := by cases args; simp_all
  obtain ⟨rfl, rfl⟩ := trodVars_none hV
  have k0 := h0
  have lt0 : ∀ x ∈ p0, x.block < W.heap.size := by obtain ⟨m, hm⟩ := k0; exact DataW.trod_lt m _ _ _ hm
  obtain ⟨st0, a0, n0, cap0, rfl, hlen0, w0, c0, m0⟩ := open_state (hval 0 25 v0 rfl rfl) h0 hsz (j := 0) rfl rfl
  have k1 := h1
  have lt1 : ∀ x ∈ p1, x.block < W.heap.size := by obtain ⟨m, hm⟩ := k1; exact DataW.trod_lt m _ _ _ hm
  obtain ⟨a1, rfl, _, w1⟩ := open_event Tryz.underlying28 (by kernel_rfl) (by kernel_rfl) (by kernel_rfl) (by kernel_rfl) (by kernel_rfl) (by kernel_rfl) (by kernel_rfl) (by kernel_rfl) (by kernel_rfl) (by kernel_rfl) (by kernel_rfl) (by kernel_rfl) (hval 1 28 v1 rfl rfl) h1
  clear hA0
  refine (walk st0 a0 n0 cap0 a1 W hlen0 w0 c0 m0 w1).mono fun e W' ⟨he, bel⟩ => ?_
  subst he
  exact ⟨_, rfl, _, _, _, [], _, [], hW', trodAll_mk1 (shut_bool Tryz.underlying4 _), (trodAll_cons_mk (Below.trod laidOut (by kernel_rfl) (of_decide_eq_true (by kernel_rfl)) k0 bel lt0) (trodAll_cons_mk (Below.trod laidOut (by kernel_rfl) (of_decide_eq_true (by kernel_rfl)) k1 bel lt1) trodAll_mk0)), rfl, bel.frame _, fun h => by cases h⟩
set_option maxRecDepth 100000 in
theorem lifted (os : Os) (started : os.Started) (H : Type) (enc : TypeId × Value → H) :
    ReturnsInHanded {} Tryz.checked os 3 .any (Rows.orderAppliesSpec.pre6 enc Tryz.prog Tryz.f3 Rows.orderAppliesRow.domain false) (Rows.orderAppliesSpec.post enc Tryz.prog Tryz.f3 false true false false) := by
  refine returnsInHanded_of_change_sized (C := Tryz.checked) own started (by kernel_rfl) Tryz.func3
    (ChangeSpec.witness6 (enc := enc) (C := Tryz.checked) false ⟨#[], #[.agg #[.int .i64 0, .int .i64 0, .int .i64 0, .int .i64 0, .int .i64 0, .slice none 0 0, .int .i64 0, .int .i64 0, .int .i64 0, .int .i64 0, .int .i64 0, .string ⟨#[]⟩], .agg #[.int .i64 0, .int .i64 0, .int .i64 0, .int .i64 0, .int .i64 0, .int .i64 0, .int .i64 0, .string ⟨#[]⟩, .int .i64 0, .string ⟨#[]⟩]], []⟩ 8 (by kernel_rfl) (by kernel_rfl) (by kernel_rfl) (by kernel_rfl)) ?_
  intro W base args ds gs before hval hW _ hsz _
  exact contract H enc W base args ds gs before hval hW hsz
theorem over : Rows.orderAppliesRow.holds Tryz.pinned (OpenSpec.ofChange Rows.orderAppliesSpec) :=
  OpenClaim.holds_of_wide 3 Tryz.f3 rfl rfl rfl rfl rfl rfl rfl ⟨rfl, rfl, rfl, rfl, rfl⟩ rfl rfl rfl rfl rfl (by kernel_rfl) Tryz.func3 (by kernel_rfl)
    (of_decide_eq_true (by kernel_rfl)) (by unfold Func.isWrapper; first | (rw [if_pos (by decide +kernel)]; kernel_rfl) | (rw [if_neg (by decide +kernel)]; exact ⟨rfl, rfl⟩))
    (fun os started H enc _ => lifted os started H enc)
theorem proved : Rows.OrderAppliesSaid := over
end Go.Proofs.YtbpjlphjhjfdoaaGreat.orderApplies
