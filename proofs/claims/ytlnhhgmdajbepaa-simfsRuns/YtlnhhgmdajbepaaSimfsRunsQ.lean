/- For every room and every script: every answer of a disk, and every getter's behind it, is what the reference's disk says. No condition. -/
import Derived.Test.YtlnhhgmdajbepaaK42
import Derived.Test.YtlnhhgmdajbepaaK01
namespace Go.Proofs.Ytlnhhgmdajbepaa.simfsRuns
open Go.ChangeShapes Go.WideShapes Go.ChangeAt Go.RowKit
set_option linter.unusedVariables false
set_option maxRecDepth 100000 in
set_option maxHeartbeats 8000000 in
theorem walk (room : Int) (L : List Oa) (a : Option Addr) (cap : Nat) (w : World) (w0 : (Lit.int .i64 room).wf = true) (hL : OpsAt w a L) (hc : L.length ≤ cap ∧ cap * 104 ≤ 140737488351232) :
    Calls Try.prog 3 #[.int .i64 room, .slice a L.length cap] w fun e w' => e = .returned (.bool true) ∧ Below w.heap.size w w' := by
  have hri := wf_i64 room w0
  obtain ⟨n, hn⟩ : ∃ n, L.length = n := ⟨_, rfl⟩
  have HN : Hid (L.length = n) := hn
  have hnI : (n : Int) ≤ 140737488351232 := by omega
  have hn0 : (0 : Int) ≤ (n : Int) := by omega
  rw [hn]
  have HL : Hid (OpsAt w a L) := hL
  have HRI : Hid (inI room) := hri
  have hr1 := hri.1
  have hr2 := hri.2
  clear w0 hL hc hn hri
  go_enter Try.func3, Try.ntmps3
  go_wp2_with (first
    | (go_at_call 13; refine (head10_any w).mono ?_; rintro _ x1 ⟨rfl, hb1⟩; have HB1 : Hid (Below w.heap.size w x1) := hb1; clear hb1)
    | (go_at_call 14; refine (new_A room x1 HRI.out.1 HRI.out.2).mono ?_; rintro _ x2 ⟨q, b, rfl, hd2, hb2⟩; have HD2 : Hid (DA x2 x1.heap.size q b (newD room).ab ∧ AkOk (newD room).ab ∧ Below w.heap.size w x2) := ⟨hd2, newA_ok room, HB1.out.trans (hb2.mono HB1.out.size)⟩; clear hd2 hb2)
    | (go_at_call 15; refine (rnew_any room x2 HRI.out.1 HRI.out.2).mono ?_; rintro _ x3 ⟨rfl, hb3⟩; have HD3 : Hid (DA x3 x1.heap.size q b (newD room).ab ∧ Below w.heap.size w x3) := ⟨HD2.out.1.keep hb3, HD2.out.2.2.trans (hb3.mono HD2.out.2.2.size)⟩; have HZ3 : Hid (RdAt (x3.alloc (.cells #[.slice none 0 0, .int .i64 0, .int .i64 0, .bool false, .int .i64 0, .int .i64 0] 28)) x3.heap.size (.slice none 0 0) ⟨0, 0, false, 0, 0⟩ ∧ Below x3.heap.size x3 (x3.alloc (.cells #[.slice none 0 0, .int .i64 0, .int .i64 0, .bool false, .int .i64 0, .int .i64 0] 28))) := ⟨RdAt.new x3 (.slice none 0 0) ⟨0, 0, false, 0, 0⟩, (Below.refl _ _).alloc (Nat.le_refl _) _⟩; clear hb3)
    | ((with_reducible refine guard_store 28 ?_); refine wpList_store_rd rfl _ _ rfl rfl HZ3.out.1 rfl rfl rfl (v2 := .slice none 0 0) (q2 := (newD room).ab.rn) ?_; intro x4 hr4 hb4 _ _; have HB4 : Hid (Below x3.heap.size x3 x4) := hb4 _ _ HZ3.out.2 (Nat.le_refl _); have HX4 : Hid (RX x4 x1.heap.size q b x3.heap.size (newD room).ab (newD room).ab (fun _ => False) [] none 0 0) := RX.start HD3.out.1 HB4.out hr4 rfl; clear hr4 hb4)
    | ((with_reducible refine guard_loadgd 28 ?_); refine wpList_load_rdg rfl _ rfl HX4.out.rd rfl ?_)
    | (go_at_call 16; refine (told_any x4 _ _ _ _ _ _ _ _ HX4.out.df.da HD2.out.2.1 HX4.out.refD).mono ?_; rintro _ x5 ⟨rfl, hb5⟩; have HX5 : Hid (RX x5 x1.heap.size q b x3.heap.size (newD room).ab (newD room).ab (fun _ => False) [] none 0 0 ∧ Below w.heap.size w x5) := ⟨HX4.out.keep hb5, (HD3.out.2.trans (HB4.out.mono HD3.out.2.size)).trans (hb5.mono (Nat.le_trans HD3.out.2.size HB4.out.size))⟩; clear hb5)
    | go_in)
  have HLOW : Hid (w.heap.size ≤ x3.heap.size) := HD3.out.2.size
  have HBASE : Hid (w.heap.size ≤ x1.heap.size) := HB1.out.size
  go_loopw [32] (fun v32 wr => ∃ (k : Nat) (A : Ak) (G : Nat → Prop) (X : List (Fa × Value)) (a' : Option Addr) (n' c' : Nat), v32 = .int .i64 (k : Int) ∧ k ≤ n ∧ Hid (RX wr x1.heap.size q b x3.heap.size A A G X a' n' c' ∧ AkOk A ∧ Below w.heap.size w wr)) (fun v32 _ => n - (intOf v32).toNat)
  case atStart => exact ⟨0, _, _, _, _, _, _, rfl, Nat.zero_le _, HX5.out.1, HD2.out.2.1, HX5.out.2⟩
  case round =>
    obtain ⟨k, A, G, X, a', n', c', rfl, hk, HRR⟩ := hrel
    rename World => wo
    by_cases hkn : k < n
    · obtain ⟨o, ho⟩ : ∃ o, L[k]? = some o := ⟨_, List.getElem?_eq_getElem (by rw [HN.out]; exact hkn)⟩
      have hops := HL.out.keep HRR.out.2.2
      obtain ⟨b0, off, rfl, hb0, hrg⟩ : ∃ b0 off, a = some ⟨b0, off, none⟩ ∧ b0 < wo.heap.size ∧ wo.rangeAt b0 (off + k * 7) (opL o) := by
        rcases hops.1 with h1 | ⟨b0, off, h1, h2, h3⟩
        · rw [h1] at ho; simp at ho
        · exact ⟨b0, off, h1, h2, h3 k o ho⟩
      have HRNG : Hid (wo.rangeAt b0 (off + k * 7) (opL o)) := hrg
      have HOI : Hid (OpIn w o ∧ OpIn wo o) := ⟨HL.out.2 o (List.mem_of_getElem? ho), hops.2 o (List.mem_of_getElem? ho)⟩
      have HOZ : Hid (OpAt (wo.alloc (.cells #[.int .i64 0, .string ⟨#[]⟩, .string ⟨#[]⟩, .slice none 0 0, .int .i64 0, .int .i64 0, .slice none 0 0] 34)) wo.heap.size opZ) := OpAt.newZ wo
      obtain ⟨R, hR⟩ : ∃ R, doA A o = R := ⟨_, rfl⟩
      have hok2 : AkOk R.1 := by rw [← hR]; exact doA_ok HRR.out.2.1 HOI.out.1.n
      have hln2 : R.2.1.length ≤ 67108864 := by rw [← hR]; exact doA_len HRR.out.2.1 o
      obtain ⟨A2, by2, nn, E⟩ := R
      simp only at hok2 hln2
      have HR : Hid (doA A o = (A2, by2, nn, E)) := hR
      have HOK : Hid (AkOk A2) := hok2
      obtain ⟨LB, hLB⟩ : ∃ LB, by2.length = LB := ⟨_, rfl⟩
      have HLB : Hid (by2.length = LB ∧ LB ≤ 67108864) := ⟨hLB, by rw [← hLB]; exact hln2⟩
      have HKD : Hid (x3.heap.size < wo.heap.size ∧ ¬ G (x3.heap.size)) := ⟨HRR.out.1.rd.lt, HRR.out.1.ng⟩
      have hkI : (k : Int) < (n : Int) := by omega
      have hk0 : (0 : Int) ≤ (k : Int) := by omega
      clear hops hrg ho hR hok2 hln2 hLB hb0
      go_wp2_with (first
        | ((with_reducible refine guard_load 34 ?_); refine wpList_load_opr rfl _ rfl HRNG.out rfl ?_)
        | ((with_reducible refine guard_store 34 ?_); refine wpList_store_op rfl _ _ rfl rfl HOZ.out rfl rfl (p2 := o) ?_; intro x3r ho3 hb3 hs3; have HB3 : Hid (Below wo.heap.size wo x3r) := hb3 _ _ ((Below.refl _ _).alloc (Nat.le_refl _) _) (Nat.le_refl _); have HO3 : Hid (OpAt x3r wo.heap.size o ∧ OpIn x3r o) := ⟨ho3, HOI.out.2.keep HB3.out⟩; have HX3 : Hid (RX x3r x1.heap.size q b (x3.heap.size) A A G X a' n' c') := HRR.out.1.keep HB3.out; have HW3 : Hid (Below w.heap.size w x3r) := HRR.out.2.2.trans (HB3.out.mono HRR.out.2.2.size); clear ho3 hb3 hs3)
        | ((with_reducible refine guard_load 28 ?_); refine wpList_load_rd rfl _ rfl HR5.out.1 rfl ?_)
        | ((with_reducible refine guard_load 28 ?_); refine wpList_load_rd rfl _ rfl HX3.out.rd rfl ?_)
        | ((with_reducible refine guard_load 34 ?_); refine wpList_load_opb rfl _ rfl HO6.out rfl ?_)
        | ((with_reducible refine guard_load 34 ?_); refine wpList_load_opb rfl _ rfl HO3.out.1 rfl ?_)
        | (go_at_call 17; refine (rdo_any x3r A HRR.out.2.1 X a' n' c' HX3.out.refD o HO3.out.2).mono ?_; rw [HR.out]; rintro _ y4 ⟨a4, n4, c4, Y4, v4, rfl, hC4, hl4, hm4, ho4, hf4, hb4⟩; (obtain ⟨g4, d4, rfl⟩ : ∃ g4 d4, v4 = .slice g4 LB d4 := (by obtain ⟨g4, d4, e4⟩ := row_shape ho4.2; exact ⟨g4, d4, by rw [e4]; exact congrArg (fun z => Value.slice g4 z d4) HLB.out.1⟩)); have H4 : Hid (FlsC X a' x3r y4 a4 Y4 ∧ Y4.length = n4 ∧ Y4.map Prod.fst = A2.fs ∧ Own y4 x3r.heap.size (.slice g4 LB d4) by2 ∧ Below x3r.heap.size x3r y4) := ⟨hC4, hl4, hm4, ho4, hb4⟩; have HZ4 : Hid (RdAt (y4.alloc (.cells #[.slice none 0 0, .int .i64 0, .int .i64 0, .bool false, .int .i64 0, .int .i64 0] 28)) y4.heap.size (.slice none 0 0) ⟨0, 0, false, 0, 0⟩ ∧ Below y4.heap.size y4 (y4.alloc (.cells #[.slice none 0 0, .int .i64 0, .int .i64 0, .bool false, .int .i64 0, .int .i64 0] 28))) := ⟨RdAt.new y4 (.slice none 0 0) ⟨0, 0, false, 0, 0⟩, (Below.refl _ _).alloc (Nat.le_refl _) _⟩; clear hC4 hl4 hm4 ho4 hf4 hb4)
        | ((with_reducible refine guard_store 28 ?_); refine wpList_store_rd rfl _ _ rfl rfl HK5.out (slice_one _ _ _) rfl rfl (v2 := .slice a4 n4 c4) (q2 := A2.rn) ?_; intro u6 hr6 hb6 hh6 hs6; have HX6 : Hid (RX u6 x1.heap.size q b (x3.heap.size) A A2 (fun k => G k ∨ (x3r.heap.size ≤ k ∧ k < y4.heap.size)) Y4 a4 n4 c4) := HX3.out.swap H4.out.2.2.2.2 H4.out.1 HR5.out.2 hr6 hh6 hs6 H4.out.2.1 H4.out.2.2.1; have HO6 : Hid (OpAt u6 wo.heap.size o) := ((hh6 _ (by have := HKD.out.1; omega)).trans ((HO3.out.1.keep H4.out.2.2.2.2).keep HR5.out.2)); have HW6 : Hid (Below w.heap.size w u6) := hb6 _ _ ((HW3.out.trans (H4.out.2.2.2.2.mono HW3.out.size)).trans (HR5.out.2.mono (Nat.le_trans HW3.out.size H4.out.2.2.2.2.size))) HLOW.out; have HV6 : Hid (∀ k, x3r.heap.size ≤ k → k < y4.heap.size → u6.heap[k]? = y4.heap[k]?) := (fun k h1 h2 => (hh6 k (by have := HKD.out.1; have := HB3.out.size; omega)).trans (HR5.out.2.block k h2)); clear hr6 hb6 hh6 hs6)
        | ((with_reducible refine guard_store 28 ?_); refine wpList_store_rd rfl _ _ rfl rfl HZ4.out.1 rfl rfl rfl (v2 := .slice a4 n4 c4) (q2 := A2.rn) ?_; intro z5 hr5 hb5 hh5 hs5; have HR5 : Hid (RdAt z5 y4.heap.size (.slice a4 n4 c4) A2.rn ∧ Below y4.heap.size y4 z5) := ⟨hr5, hb5 _ _ HZ4.out.2 (Nat.le_refl _)⟩; have HK5 : Hid (RdAt z5 (x3.heap.size) (.slice a' n' c') A.rn) := (HX3.out.rd.keep H4.out.2.2.2.2).keep HR5.out.2; clear hr5 hb5 hh5 hs5)
        | (go_at_call 18; refine (call_F u6 x1.heap.size q b A _ HX6.out.df HRR.out.2.1 o (HOI.out.1.keep HW6.out)).mono ?_; rw [HR.out]; rintro _ x7 ⟨v7, rfl, ho7, hd7, hk7, hb7⟩; (obtain ⟨g7, d7, rfl⟩ : ∃ g7 d7, v7 = .slice g7 LB d7 := (by obtain ⟨g7, d7, e7⟩ := row_shape ho7.2; exact ⟨g7, d7, by rw [e7]; exact congrArg (fun z => Value.slice g7 z d7) HLB.out.1⟩)); have HBB : Hid (Bytes x7 g4 by2 ∧ Bytes x7 g7 by2) := ⟨(own_bytes (H4.out.2.2.2.1.between (Nat.le_refl _) (fun k h1 h2 => (hk7 k (.inl (.inr ⟨h1, h2⟩))).trans (HV6.out k h1 h2)))).1, (own_bytes ho7).1⟩; have HX7 : Hid (RX x7 x1.heap.size q b (x3.heap.size) A2 A2 (fun k => G k ∨ (x3r.heap.size ≤ k ∧ k < y4.heap.size)) Y4 a4 n4 c4 ∧ Below w.heap.size w x7) := ⟨HX6.out.called hd7 hk7 hb7.size, HW6.out.trans (hb7.mono HBASE.out)⟩; clear hd7 hk7 hb7 ho7)
        | (go_at_call 19; refine (same_yes by2 LB LB g4 g7 d4 d7 x7 HLB.out.1 HLB.out.1 HBB.out.1 HBB.out.2 (by have := HLB.out.2; unfold maxLen; omega)).mono ?_; rintro _ x8 ⟨rfl, hb8⟩; have HX8 : Hid (RX x8 x1.heap.size q b x3.heap.size A2 A2 (fun k => G k ∨ (x3r.heap.size ≤ k ∧ k < y4.heap.size)) Y4 a4 n4 c4 ∧ Below w.heap.size w x8) := ⟨HX7.out.1.keep hb8, HX7.out.2.trans (hb8.mono HX7.out.2.size)⟩; clear hb8)
        | ((with_reducible refine guard_loadgd 28 ?_); refine wpList_load_rdg rfl _ rfl HX8.out.1.rd rfl ?_)
        | (go_at_call 16; refine (told_any x8 _ _ _ _ _ _ _ _ HX8.out.1.df.da HOK.out HX8.out.1.refD).mono ?_; rintro _ x9 ⟨rfl, hb9⟩; have HX9 : Hid (RX x9 x1.heap.size q b x3.heap.size A2 A2 (fun k => G k ∨ (x3r.heap.size ≤ k ∧ k < y4.heap.size)) Y4 a4 n4 c4 ∧ Below w.heap.size w x9) := ⟨HX8.out.1.keep hb9, HX8.out.2.trans (hb9.mono HX8.out.2.size)⟩; clear hb9)
        | go_in)
      all_goals go_roundw
      case rel => exact ⟨k + 1, A2, _, Y4, a4, n4, c4, by go_num, by omega, HX9.out.1, HOK.out, HX9.out.2⟩
      case measure => simp [intOf]; omega
    · obtain rfl : k = n := by omega
      clear hkn hk
      go_wp2
      go_ret
      exact ⟨rfl, HRR.out.2.2⟩
theorem own : ownKnob Try.prog.godebug = none := by kernel_rfl
theorem laidOut : laidOutB Try.prog = true := by kernel_rfl
set_option maxRecDepth 100000 in
theorem contract (H : Type) (enc : TypeId × Value → H) (W : World) (base : Nat) (args : Array Value) (ds gs : List (DataW H)) (before : List MemPlace)
    (hval : ∀ (j : Nat) t v, Try.f3.params[j]? = some t → args[j]? = some v → Value.okWide Try.prog W .any base t v)
    (hW : DataW.Whole enc Try.prog Try.f3.params.toList Rows.simfsRunsSpec.vars false W args.toList ds gs before)
    (hsz : (DataW.weightsEach Try.prog (Try.f3.params.toList ++ Rows.simfsRunsSpec.plain.varTypes Try.prog) (ds ++ gs)).all (· ≤ reachBytes) = true) :
    Calls Try.prog 3 args W fun e W' => ∃ v, e = .returned v ∧ Rows.simfsRunsSpec.post enc Try.prog Try.f3 false true false false W args v W' := by
  have hW' := hW
  obtain ⟨p, q, hA0, hV, rfl, hfz, hnd⟩ := hW
  have hA : DataW.TrodAll enc Try.prog W 0 (fun _ => true) true Try.f3.params.toList args.toList ds p := hA0
  rw [Try.params3] at hA hval hsz
  obtain ⟨v0, vs0, d0, ds0, p0, q0, hargs, rfl, rfl, h0, r0⟩ := trodAll_cons hA
  obtain ⟨v1, vs1, d1, ds1, p1, q1, rfl, rfl, rfl, h1, r1⟩ := trodAll_cons r0
  obtain ⟨rfl, rfl, rfl⟩ := trodAll_nil r1
  obtain rfl : args = #[v0, v1] := by cases args; simp_all
  obtain ⟨rfl, rfl⟩ := trodVars_none hV
  obtain ⟨a0, rfl, rfl, rfl, w0⟩ := open_int Try.underlying3 (hval 0 3 v0 rfl rfl) h0
  obtain ⟨a1, len1, cap1, rfl⟩ := okWide_slice Try.underlying22 (hval 1 22 v1 rfl rfl)
  have k1 := h1
  have lt1 : ∀ x ∈ p1, x.block < W.heap.size := by obtain ⟨m, hm⟩ := k1; exact DataW.trod_lt m _ _ _ hm
  obtain ⟨l1, hlen1, w1, c1⟩ : ∃ L : List Oa, L.length = len1 ∧ OpsAt W a1 L ∧ (len1 ≤ cap1 ∧ cap1 * 104 ≤ 140737488351232) := by
    obtain ⟨fuel, hf⟩ := h1
    rcases open_ops hf with ⟨hcs, hx⟩ | ⟨x, l, c, L, D, hcs, hl, hm, hLl, hfs, hrw, hx, hD⟩
    · simp [Value.cells] at hcs
      obtain ⟨rfl, rfl, rfl⟩ := hcs
      exact ⟨[], rfl, ⟨.inl rfl, fun p hp => by cases hp⟩, Nat.le_refl _, by simp⟩
    · simp [Value.cells] at hcs
      obtain ⟨rfl, rfl, rfl⟩ := hcs
      have hd : d1 = _ := hx
      obtain ⟨s1, s2⟩ := sized_ops hsz (j := 1) rfl (by rw [hd]; rfl) hl hLl hrw hD
      refine ⟨L, hLl, ⟨?_, s2⟩, hl, s1⟩
      rcases hfs with h1 | ⟨b, off, h1, h2, h3⟩
      · exact .inl h1
      · exact .inr ⟨b, off, by rw [h1], h2, h3⟩
  subst hlen1
  clear hA0
  refine (walk a0 l1 a1 cap1 W w0 w1 c1).mono fun e W' ⟨he, bel⟩ => ?_
  subst he
  exact ⟨_, rfl, _, _, _, [], _, [], hW', trodAll_mk1 (shut_bool Try.underlying4 _), (trodAll_cons_mk (shut_int Try.underlying3 w0) (trodAll_cons_mk (Below.trod laidOut (by kernel_rfl) (of_decide_eq_true (by kernel_rfl)) k1 bel lt1) trodAll_mk0)), rfl, bel.frame _, fun h => by cases h⟩
set_option maxRecDepth 100000 in
theorem lifted (os : Os) (started : os.Started) (H : Type) (enc : TypeId × Value → H) :
    ReturnsInHanded {} Try.checked os 3 .any (Rows.simfsRunsSpec.pre6 enc Try.prog Try.f3 Rows.simfsRunsRow.domain false) (Rows.simfsRunsSpec.post enc Try.prog Try.f3 false true false false) := by
  refine returnsInHanded_of_change_sized (C := Try.checked) own started (by kernel_rfl) Try.func3
    (ChangeSpec.witness6 (enc := enc) (C := Try.checked) false ⟨#[], #[.int .i64 0, .slice none 0 0], []⟩ 8 (by kernel_rfl) (by kernel_rfl) (by kernel_rfl) (by kernel_rfl)) ?_
  intro W base args ds gs before hval hW _ hsz _
  exact contract H enc W base args ds gs before hval hW hsz
theorem over : Rows.simfsRunsRow.holds Try.pinned (OpenSpec.ofChange Rows.simfsRunsSpec) :=
  OpenClaim.holds_of_wide 3 Try.f3 rfl rfl rfl rfl rfl rfl rfl ⟨rfl, rfl, rfl, rfl, rfl⟩ rfl rfl rfl rfl rfl (by kernel_rfl) Try.func3 (by kernel_rfl)
    (of_decide_eq_true (by kernel_rfl)) (by unfold Func.isWrapper; first | (rw [if_pos (by decide +kernel)]; kernel_rfl) | (rw [if_neg (by decide +kernel)]; exact ⟨rfl, rfl⟩))
    (fun os started H enc _ => lifted os started H enc)
theorem proved : Rows.SimfsRunsSaid := over
end Go.Proofs.Ytlnhhgmdajbepaa.simfsRuns
