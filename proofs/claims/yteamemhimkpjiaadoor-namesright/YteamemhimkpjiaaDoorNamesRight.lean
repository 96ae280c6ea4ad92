/- For every text and number: the names that are written, and whatever Parse knows, are right names of a disk. No condition. -/
import Derived.Test.YteamemhimkpjiaaDoorNmTie
import Derived.Test.YteamemhimkpjiaaDoorNm5
import Derived.SizedLaws
import Derived.ChangeOld
namespace Go.Proofs.YteamemhimkpjiaaDoor.namesRight
open Go.ChangeShapes Go.WideShapes Go.ChangeAt Go.RowKit
set_option linter.unusedVariables false
theorem seven : nameL segH 7 = [115, 101, 103, 45, 48, 48, 48, 48, 48, 55] := by decide
theorem dg_ok (d : Nat) (h : d ≤ 9) : okc (dg d).toNat = true := by
  rw [dg_toNat d h]
  unfold okc
  rw [decide_eq_true_eq]
  omega
theorem six_ok (n : Nat) (hn : n ≤ 999999) : ∀ c ∈ six n, okc c.toNat = true := by
  intro c hc
  simp only [six, List.mem_cons, List.not_mem_nil, or_false] at hc
  rcases hc with rfl | rfl | rfl | rfl | rfl | rfl <;> exact dg_ok _ (by omega)
theorem name_right (h : List UInt8) (n : Nat) (hn : n ≤ 999999) (hh : h.length ≤ 10) (ho : ∀ c ∈ h, okc c.toNat = true) : rightS (h ++ six n) = true := by
  unfold rightS
  rw [decide_eq_true_eq, List.length_append, six_length]
  refine ⟨by omega, by omega, fun c hc => ?_⟩
  rcases List.mem_append.1 hc with h1 | h1
  · exact ho c h1
  · exact six_ok n hn c h1
theorem seg_right (n : Nat) (hn : n ≤ 999999) : rightS (segH ++ six n) = true := name_right segH n hn (by decide) (by decide)
theorem book_right (n : Nat) (hn : n ≤ 999999) : rightS (bookH ++ six n) = true := name_right bookH n hn (by decide) (by decide)
theorem prs_right (l : List UInt8) (h : prsK l ≠ 0) : rightS l = true := by
  by_cases hm : l = manL
  · subst hm; decide
  by_cases ht : l = tmpL
  · subst ht; decide
  have h1 := numB_spec segH l
  have h2 := numB_spec bookH l
  obtain ⟨hk, _⟩ := prs_of l hm ht _ _ h1 h2
  by_cases c1 : 6 ≤ l.length ∧ 1 ≤ last6 l ∧ last6 l ≤ 999999 ∧ l = nameL segH (last6 l)
  · obtain ⟨_, a, b, c⟩ := c1
    rw [name_range segH _ a b] at c
    rw [c]
    exact seg_right _ (by omega)
  · by_cases c2 : 6 ≤ l.length ∧ 1 ≤ last6 l ∧ last6 l ≤ 999999 ∧ l = nameL bookH (last6 l)
    · obtain ⟨_, a, b, c⟩ := c2
      rw [name_range bookH _ a b] at c
      rw [c]
      exact book_right _ (by omega)
    · exfalso
      apply h
      have e1 : numB segH l = 0 := by rw [h1, if_neg c1]
      have e2 : numB bookH l = 0 := by rw [h2, if_neg c2]
      have := (prs_of l hm ht 0 0 e1 e2).1
      simpa using this
set_option maxRecDepth 20000 in
set_option maxHeartbeats 2000000 in
theorem walk (s : ByteArray) (n : Int) (w : World) (w0 : s.size ≤ maxLen) (hs : s.size ≤ 140737488351232) (w1 : (Lit.int .i64 n).wf = true) (he : Ers w) :
    Calls Tryd.prog 6 #[.string s, .int .i64 n] w fun e w' => e = .returned (.bool true) ∧ Below w.heap.size w w' := by
  obtain ⟨l, rfl⟩ : ∃ l, s = bs l := ⟨_, bs_of s⟩
  rw [bs_size] at hs
  have HE : Hid (Ers w) := he
  have H7 : Hid (nameL segH 7 = [115, 101, 103, 45, 48, 48, 48, 48, 48, 55]) := seven
  have T1 : Hid True := trivial
  have T2 : Hid True := trivial
  have T3 : Hid True := trivial
  have HR1 : Hid (∀ w, Calls Tryd.prog 14 #[.string ⟨#[109, 97, 110, 105, 102, 101, 115, 116]⟩] w fun e w' => e = .returned (.bool true) ∧ w = w') := fun w => right_any manL w (by decide)
  have HR2 : Hid (∀ w, Calls Tryd.prog 14 #[.string ⟨#[109, 97, 110, 105, 102, 101, 115, 116, 46, 116, 109, 112]⟩] w fun e w' => e = .returned (.bool true) ∧ w = w') := fun w => right_any tmpL w (by decide)
  obtain ⟨K, hK⟩ : ∃ K, prsK l = K := ⟨_, rfl⟩
  obtain ⟨M, hM⟩ : ∃ M, prsN l = M := ⟨_, rfl⟩
  have HP : Hid (∀ w, Ers w → Calls Tryd.prog 12 #[.string (bs l)] w fun e w' => e = .returned (.tuple #[.int .i64 K, .int .i64 M]) ∧ Below w.heap.size w w') := fun w h => by rw [← hK, ← hM]; exact parse_any l w (by omega) h
  have HRL : Hid (K ≠ 0 → ∀ w, Calls Tryd.prog 14 #[.string (bs l)] w fun e w' => e = .returned (.bool true) ∧ w = w') := fun h w => by
    have := right_any l w (by omega)
    rw [prs_right l (by rw [hK]; exact h)] at this
    exact this
  obtain ⟨X, hX⟩ : ∃ X, nameL segH n = X := ⟨_, rfl⟩
  obtain ⟨Y, hY⟩ : ∃ Y, nameL bookH n = Y := ⟨_, rfl⟩
  have HX : Hid (nameL segH n = X) := hX
  have HY : Hid (nameL bookH n = Y) := hY
  clear he w0 w1 hs hK hM
  by_cases hr : 1 ≤ n ∧ n ≤ 999999
  · obtain ⟨m, rfl⟩ := Int.eq_ofNat_of_zero_le (show 0 ≤ n by omega)
    have eX : X = segH ++ six m := by rw [← hX, name_range segH _ hr.1 hr.2, Int.toNat_natCast]
    have eY : Y = bookH ++ six m := by rw [← hY, name_range bookH _ hr.1 hr.2, Int.toNat_natCast]
    have hXl : X.length = 10 := by rw [eX, List.length_append, six_length]; rfl
    have hYl : Y.length = 11 := by rw [eY, List.length_append, six_length]; rfl
    have HRX : Hid (∀ w, Calls Tryd.prog 14 #[.string (bs X)] w fun e w' => e = .returned (.bool true) ∧ w = w') := fun w => by
      have := right_any X w (by omega)
      rw [eX, seg_right m (by omega), ← eX] at this
      exact this
    have HRY : Hid (∀ w, Calls Tryd.prog 14 #[.string (bs Y)] w fun e w' => e = .returned (.bool true) ∧ w = w') := fun w => by
      have := right_any Y w (by omega)
      rw [eY, book_right m (by omega), ← eY] at this
      exact this
    have x1 : (X == []) = false := by simp; intro h; rw [h] at hXl; simp at hXl
    have y1 : (Y == []) = false := by simp; intro h; rw [h] at hYl; simp at hYl
    have lx : (X.length : Int) = 10 := by omega
    have ly : (Y.length : Int) = 11 := by omega
    clear hX hY eX eY hr hXl hYl
    by_cases hk0 : K = 0
    · subst hk0
      go_enter Tryd.func6, Tryd.ntmps6
      go_wp2_with (first
          | (go_at_call 14; clear T1; refine (HR1.out _).mono ?_; rintro e wa ⟨rfl, rfl⟩)
          | (go_at_call 14; clear T2; refine (HR2.out _).mono ?_; rintro e wa ⟨rfl, rfl⟩)
          | (go_at_call 8; clear T3; refine (segment_any 7 _ HE.out.1).mono ?_; rw [H7.out]; rintro e w1 ⟨rfl, hb1⟩; have HB1 : Hid (Below w.heap.size w w1) := hb1; clear hb1)
          | (go_at_call 12; refine (HP.out _ (HE.out.keep HB1.out)).mono ?_; rintro e w2 ⟨rfl, hb2⟩; have HB2 : Hid (Below w.heap.size w w2) := HB1.out.trans (hb2.mono HB1.out.size); have T4 : Hid True := trivial; clear hb2)
          | (go_at_call 8; refine (segment_any (m : Int) _ (HE.out.keep HB2.out).1).mono ?_; rw [HX.out]; rintro e w3 ⟨rfl, hb3⟩; have HB3 : Hid (Below w.heap.size w w3) := HB2.out.trans (hb3.mono HB2.out.size); clear hb3)
          | (go_at_call 10; refine (book_any (m : Int) _ (HE.out.keep HB3.out).1).mono ?_; rw [HY.out]; rintro e w4 ⟨rfl, hb4⟩; have HB4 : Hid (Below w.heap.size w w4) := HB3.out.trans (hb4.mono HB3.out.size); have T5 : Hid True := trivial; clear hb4)
          | (go_at_call 14; clear T5; refine (HRX.out _).mono ?_; rintro e wa ⟨rfl, rfl⟩)
          | (go_at_call 14; refine (HRY.out _).mono ?_; rintro e wa ⟨rfl, rfl⟩))
      go_ret
      exact ⟨rfl, HB4.out⟩
    · have hkb : (K != 0) = true := by simp [hk0]
      go_enter Tryd.func6, Tryd.ntmps6
      go_wp2_with (first
          | (go_at_call 14; clear T1; refine (HR1.out _).mono ?_; rintro e wa ⟨rfl, rfl⟩)
          | (go_at_call 14; clear T2; refine (HR2.out _).mono ?_; rintro e wa ⟨rfl, rfl⟩)
          | (go_at_call 8; clear T3; refine (segment_any 7 _ HE.out.1).mono ?_; rw [H7.out]; rintro e w1 ⟨rfl, hb1⟩; have HB1 : Hid (Below w.heap.size w w1) := hb1; clear hb1)
          | (go_at_call 12; refine (HP.out _ (HE.out.keep HB1.out)).mono ?_; rintro e w2 ⟨rfl, hb2⟩; have HB2 : Hid (Below w.heap.size w w2) := HB1.out.trans (hb2.mono HB1.out.size); have T4 : Hid True := trivial; clear hb2)
          | (go_at_call 14; clear T4; refine (HRL.out hk0 _).mono ?_; rintro e wa ⟨rfl, rfl⟩)
          | (go_at_call 8; refine (segment_any (m : Int) _ (HE.out.keep HB2.out).1).mono ?_; rw [HX.out]; rintro e w3 ⟨rfl, hb3⟩; have HB3 : Hid (Below w.heap.size w w3) := HB2.out.trans (hb3.mono HB2.out.size); clear hb3)
          | (go_at_call 10; refine (book_any (m : Int) _ (HE.out.keep HB3.out).1).mono ?_; rw [HY.out]; rintro e w4 ⟨rfl, hb4⟩; have HB4 : Hid (Below w.heap.size w w4) := HB3.out.trans (hb4.mono HB3.out.size); have T5 : Hid True := trivial; clear hb4)
          | (go_at_call 14; clear T5; refine (HRX.out _).mono ?_; rintro e wa ⟨rfl, rfl⟩)
          | (go_at_call 14; refine (HRY.out _).mono ?_; rintro e wa ⟨rfl, rfl⟩))
      go_ret
      exact ⟨rfl, HB4.out⟩
  · have hor : n < 1 ∨ 999999 < n := by omega
    have HX0 := name_out segH n hor
    have HY0 := name_out bookH n hor
    rw [hX] at HX0
    rw [hY] at HY0
    subst HX0
    subst HY0
    clear hX hY hr hor
    by_cases hk0 : K = 0
    · subst hk0
      go_enter Tryd.func6, Tryd.ntmps6
      go_wp2_with (first
          | (go_at_call 14; clear T1; refine (HR1.out _).mono ?_; rintro e wa ⟨rfl, rfl⟩)
          | (go_at_call 14; clear T2; refine (HR2.out _).mono ?_; rintro e wa ⟨rfl, rfl⟩)
          | (go_at_call 8; clear T3; refine (segment_any 7 _ HE.out.1).mono ?_; rw [H7.out]; rintro e w1 ⟨rfl, hb1⟩; have HB1 : Hid (Below w.heap.size w w1) := hb1; clear hb1)
          | (go_at_call 12; refine (HP.out _ (HE.out.keep HB1.out)).mono ?_; rintro e w2 ⟨rfl, hb2⟩; have HB2 : Hid (Below w.heap.size w w2) := HB1.out.trans (hb2.mono HB1.out.size); have T4 : Hid True := trivial; clear hb2)
          | (go_at_call 8; refine (segment_any n _ (HE.out.keep HB2.out).1).mono ?_; rw [HX.out]; rintro e w3 ⟨rfl, hb3⟩; have HB3 : Hid (Below w.heap.size w w3) := HB2.out.trans (hb3.mono HB2.out.size); clear hb3)
          | (go_at_call 10; refine (book_any n _ (HE.out.keep HB3.out).1).mono ?_; rw [HY.out]; rintro e w4 ⟨rfl, hb4⟩; have HB4 : Hid (Below w.heap.size w w4) := HB3.out.trans (hb4.mono HB3.out.size); have T5 : Hid True := trivial; clear hb4))
      go_ret
      exact ⟨rfl, HB4.out⟩
    · have hkb : (K != 0) = true := by simp [hk0]
      go_enter Tryd.func6, Tryd.ntmps6
      go_wp2_with (first
          | (go_at_call 14; clear T1; refine (HR1.out _).mono ?_; rintro e wa ⟨rfl, rfl⟩)
          | (go_at_call 14; clear T2; refine (HR2.out _).mono ?_; rintro e wa ⟨rfl, rfl⟩)
          | (go_at_call 8; clear T3; refine (segment_any 7 _ HE.out.1).mono ?_; rw [H7.out]; rintro e w1 ⟨rfl, hb1⟩; have HB1 : Hid (Below w.heap.size w w1) := hb1; clear hb1)
          | (go_at_call 12; refine (HP.out _ (HE.out.keep HB1.out)).mono ?_; rintro e w2 ⟨rfl, hb2⟩; have HB2 : Hid (Below w.heap.size w w2) := HB1.out.trans (hb2.mono HB1.out.size); have T4 : Hid True := trivial; clear hb2)
          | (go_at_call 14; clear T4; refine (HRL.out hk0 _).mono ?_; rintro e wa ⟨rfl, rfl⟩)
          | (go_at_call 8; refine (segment_any n _ (HE.out.keep HB2.out).1).mono ?_; rw [HX.out]; rintro e w3 ⟨rfl, hb3⟩; have HB3 : Hid (Below w.heap.size w w3) := HB2.out.trans (hb3.mono HB2.out.size); clear hb3)
          | (go_at_call 10; refine (book_any n _ (HE.out.keep HB3.out).1).mono ?_; rw [HY.out]; rintro e w4 ⟨rfl, hb4⟩; have HB4 : Hid (Below w.heap.size w w4) := HB3.out.trans (hb4.mono HB3.out.size); have T5 : Hid True := trivial; clear hb4))
      go_ret
      exact ⟨rfl, HB4.out⟩
theorem own : ownKnob Tryd.prog.godebug = none := by kernel_rfl
theorem laidOut : laidOutB Tryd.prog = true := by kernel_rfl
set_option maxRecDepth 100000 in
theorem contract (H : Type) (enc : TypeId × Value → H) (W : World) (base : Nat) (args : Array Value) (ds gs : List (DataW H)) (before : List MemPlace)
    (hval : ∀ (j : Nat) t v, Tryd.f6.params[j]? = some t → args[j]? = some v → Value.okWide Tryd.prog W .any base t v)
    (hW : DataW.Whole enc Tryd.prog Tryd.f6.params.toList Rows.namesRightSpec.vars false W args.toList ds gs before)
    (hsz : (DataW.weightsEach Tryd.prog (Tryd.f6.params.toList ++ Rows.namesRightSpec.plain.varTypes Tryd.prog) (ds ++ gs)).all (· ≤ reachBytes) = true) (hL : laidMetH Tryd.prog ([("math/bits.deBruijn32tab", Rows.laid_math_bits_deBruijn32tab), ("math/bits.deBruijn64tab", Rows.laid_math_bits_deBruijn64tab), ("internal/strconv.uint64pow10", Rows.laid_internal_strconv_uint64pow10), ("strconv.ErrRange", Rows.laid_strconv_ErrRange), ("strconv.ErrSyntax", Rows.laid_strconv_ErrSyntax)]) W) :
    Calls Tryd.prog 6 args W fun e W' => ∃ v, e = .returned v ∧ Rows.namesRightSpec.post enc Tryd.prog Tryd.f6 false true false false W args v W' := by
  have hW' := hW
  obtain ⟨p, q, hA0, hV, rfl, hfz, hnd⟩ := hW
  have hA : DataW.TrodAll enc Tryd.prog W 0 (fun _ => true) true Tryd.f6.params.toList args.toList ds p := hA0
  rw [Tryd.params6] at hA hval hsz
  obtain ⟨v0, vs0, d0, ds0, p0, q0, hargs, rfl, rfl, h0, r0⟩ := trodAll_cons hA
  obtain ⟨v1, vs1, d1, ds1, p1, q1, rfl, rfl, rfl, h1, r1⟩ := trodAll_cons r0
  obtain ⟨rfl, rfl, rfl⟩ := trodAll_nil r1
  obtain rfl : args = #[v0, v1] := by cases args; simp_all
  obtain ⟨rfl, rfl⟩ := trodVars_none hV
  obtain ⟨a0, rfl, rfl, rfl, w0⟩ := Go.ChangeMaps.open_string Tryd.underlying9 (hval 0 9 v0 rfl rfl) h0
  have s0 : a0.size ≤ 140737488351232 := by have := sized_string hsz (j := 0) (t := 9) rfl rfl; simpa [reachBytes] using this
  obtain ⟨a1, rfl, rfl, rfl, w1⟩ := open_int Tryd.underlying3 (hval 1 3 v1 rfl rfl) h1
  clear hA0
  refine (walk a0 a1 W w0 s0 w1 (ers_of5 hL)).mono fun e W' ⟨he, bel⟩ => ?_
  subst he
  exact ⟨_, rfl, _, _, _, [], _, [], hW', trodAll_mk1 (shut_bool Tryd.underlying4 _), (trodAll_cons_mk (Go.ChangeMaps.shut_string Tryd.underlying9 w0) (trodAll_cons_mk (shut_int Tryd.underlying3 w1) trodAll_mk0)), rfl, bel.frame _, fun h => by cases h⟩
set_option maxRecDepth 100000 in
theorem start (os : Os) : ∃ w0 : World, w0.os = os ∧ (w0.forCall (fun _ _ => 0) ⟨#[], #[.string ⟨#[]⟩, .int .i64 0], []⟩).variablesB Tryd.prog = true ∧
    ((w0.forCall (fun _ _ => 0) ⟨#[], #[.string ⟨#[]⟩, .int .i64 0], []⟩).heap.toList.drop Tryd.prog.globals.size).take ((begin Tryd.prog (fun _ _ => 0) default).world.heap.size - Tryd.prog.globals.size) = (begin Tryd.prog (fun _ _ => 0) default).world.heap.toList.drop Tryd.prog.globals.size ∧
    Input.okWideB Tryd.prog (w0.forCall (fun _ _ => 0) ⟨#[], #[.string ⟨#[]⟩, .int .i64 0], []⟩) 6 ⟨#[], #[.string ⟨#[]⟩, .int .i64 0], []⟩ = true ∧
    laidMet Tryd.prog Rows.namesRightRow.laid (w0.forCall (fun _ _ => 0) ⟨#[], #[.string ⟨#[]⟩, .int .i64 0], []⟩).memory ∧
    ∀ (H : Type) (enc : TypeId × Value → H), DataW.whole enc Tryd.prog (w0.forCall (fun _ _ => 0) ⟨#[], #[.string ⟨#[]⟩, .int .i64 0], []⟩).memory Tryd.f6.params.toList Rows.namesRightSpec.vars false (#[.string ⟨#[]⟩, .int .i64 0] : Array Value).toList 8 = some ([.lit (.string []), .lit (.int .i64 0)], [], []) :=
  ⟨{ World.holding Tryd.prog os ⟨#[.cells #[.string ⟨#[118, 97, 108, 117, 101, 32, 111, 117, 116, 32, 111, 102, 32, 114, 97, 110, 103, 101]⟩] 70, .cells #[.string ⟨#[105, 110, 118, 97, 108, 105, 100, 32, 115, 121, 110, 116, 97, 120]⟩] 70], #[], []⟩ with heap := ((((((World.holding Tryd.prog os ⟨#[.cells #[.string ⟨#[118, 97, 108, 117, 101, 32, 111, 117, 116, 32, 111, 102, 32, 114, 97, 110, 103, 101]⟩] 70, .cells #[.string ⟨#[105, 110, 118, 97, 108, 105, 100, 32, 115, 121, 110, 116, 97, 120]⟩] 70], #[], []⟩).heap).modify 3 fun x => match x with | .cells _ t frozen => .cells #[.int .u8 0, .int .u8 1, .int .u8 28, .int .u8 2, .int .u8 29, .int .u8 14, .int .u8 24, .int .u8 3, .int .u8 30, .int .u8 22, .int .u8 20, .int .u8 15, .int .u8 25, .int .u8 17, .int .u8 4, .int .u8 8, .int .u8 31, .int .u8 27, .int .u8 13, .int .u8 23, .int .u8 21, .int .u8 19, .int .u8 16, .int .u8 7, .int .u8 26, .int .u8 12, .int .u8 18, .int .u8 6, .int .u8 11, .int .u8 5, .int .u8 10, .int .u8 9] t frozen | o => o).modify 4 fun x => match x with | .cells _ t frozen => .cells #[.int .u8 0, .int .u8 1, .int .u8 56, .int .u8 2, .int .u8 57, .int .u8 49, .int .u8 28, .int .u8 3, .int .u8 61, .int .u8 58, .int .u8 42, .int .u8 50, .int .u8 38, .int .u8 29, .int .u8 17, .int .u8 4, .int .u8 62, .int .u8 47, .int .u8 59, .int .u8 36, .int .u8 45, .int .u8 43, .int .u8 51, .int .u8 22, .int .u8 53, .int .u8 39, .int .u8 33, .int .u8 30, .int .u8 24, .int .u8 18, .int .u8 12, .int .u8 5, .int .u8 63, .int .u8 55, .int .u8 48, .int .u8 27, .int .u8 60, .int .u8 41, .int .u8 37, .int .u8 16, .int .u8 46, .int .u8 35, .int .u8 44, .int .u8 21, .int .u8 52, .int .u8 32, .int .u8 23, .int .u8 11, .int .u8 54, .int .u8 26, .int .u8 40, .int .u8 15, .int .u8 34, .int .u8 20, .int .u8 31, .int .u8 10, .int .u8 25, .int .u8 14, .int .u8 19, .int .u8 9, .int .u8 13, .int .u8 8, .int .u8 7, .int .u8 6] t frozen | o => o).modify 2 fun x => match x with | .cells _ t frozen => .cells #[.int .u64 1, .int .u64 10, .int .u64 100, .int .u64 1000, .int .u64 10000, .int .u64 100000, .int .u64 1000000, .int .u64 10000000, .int .u64 100000000, .int .u64 1000000000, .int .u64 10000000000, .int .u64 100000000000, .int .u64 1000000000000, .int .u64 10000000000000, .int .u64 100000000000000, .int .u64 1000000000000000, .int .u64 10000000000000000, .int .u64 100000000000000000, .int .u64 1000000000000000000, .int .u64 10000000000000000000] t frozen | o => o).modify 1 fun x => match x with | .cells _ t frozen => .cells #[.iface 68 (.pointer (some ⟨(World.holding Tryd.prog default ⟨#[], #[], []⟩).heap.size, 0, none⟩))] t frozen | o => o).modify 0 fun x => match x with | .cells _ t frozen => .cells #[.iface 68 (.pointer (some ⟨(World.holding Tryd.prog default ⟨#[], #[], []⟩).heap.size + 1, 0, none⟩))] t frozen | o => o }, rfl, by kernel_rfl, by kernel_rfl, by kernel_rfl, laidMet_of_run' 8 (by kernel_rfl) (by kernel_rfl), fun _ _ => by kernel_rfl⟩
set_option maxRecDepth 100000 in
theorem lifted (os : Os) (started : os.Started) (H : Type) (enc : TypeId × Value → H) (F : Stop.Interp) :
    ReturnsInHanded {} Tryd.checked os 6 .any ((OpenSpec.ofChange Rows.namesRightSpec).preRow enc Tryd.prog Tryd.f6 Rows.namesRightRow.domain false Rows.namesRightRow.laid) (((OpenSpec.ofChange Rows.namesRightSpec).at F).post enc Tryd.prog Tryd.f6 false true false false) := by
  obtain ⟨w0, h1, h2, h3, h4, h5, h6⟩ := start os
  refine returnsInHanded_of_row (C := Tryd.checked) (s := OpenSpec.ofChange Rows.namesRightSpec) own started (by kernel_rfl) Tryd.func6
    (witness_row_at (enc := enc) (C := Tryd.checked) false w0 #[.string ⟨#[]⟩, .int .i64 0] h1 h2 h3 h4
      (OpenSpec.preRow_of_cond 8 (h6 H enc) (by kernel_rfl) (fun k hk => by cases hk) (by kernel_rfl) h5)) ?_
  intro W base args ds gs before hval hW _ hcond hsz hL _ _
  exact contract H enc W base args ds gs before hval hW hsz hL
theorem said : Rows.NamesRightSaid :=
  OpenClaim.holds_of_cond 6 Tryd.f6 rfl rfl rfl rfl rfl rfl rfl ⟨rfl, rfl, rfl, rfl, rfl⟩ rfl rfl rfl rfl rfl (by kernel_rfl) Tryd.func6 (by kernel_rfl)
    (of_decide_eq_true (by kernel_rfl)) (by unfold Func.isWrapper; first | (rw [if_pos (by decide +kernel)]; kernel_rfl) | (rw [if_neg (by decide +kernel)]; exact ⟨rfl, rfl⟩))
    (fun os started H enc _ F => by rw [OpenClaim.pre_eq_preRow]; exact lifted os started H enc F)
theorem plain (f : FuncId) (fn : Func) (hf : Tryd.pinned.checked.prog.funcNamed "daybook/daybooklaw15.NamesRight" = some f) (hfn : Tryd.pinned.checked.prog.funcs[f]? = some fn) :
    true = Tryd.pinned.checked.prog.looks [] ∧ ∀ (j : Nat) t, fn.params[j]? = some t → Tryd.pinned.checked.prog.wantsStandIn t = false := by
  obtain rfl : f = 6 := Option.some.inj ((show Tryd.prog.funcNamed "daybook/daybooklaw15.NamesRight" = some 6 by kernel_rfl).symm.trans hf) |>.symm
  obtain rfl : fn = Tryd.f6 := (Option.some.inj (Tryd.func6.symm.trans hfn)).symm
  refine ⟨by kernel_rfl, fun j t ht => ?_⟩
  rw [Tryd.params6] at ht
  have hm := Array.mem_of_getElem? ht
  have hall : ∀ t ∈ (#[9, 3] : Array TypeId), Tryd.prog.wantsStandIn t = false := by
    intro t ht
    simp only [List.mem_toArray, List.mem_cons, List.not_mem_nil, or_false] at ht
    rcases ht with rfl | rfl <;> kernel_rfl
  exact hall t hm
theorem card : Rows.NamesRightCardSaid :=
  Claim7.holds_tied_plain_at .later [] _ _ _ _ said (fun _ h => by cases h) (by kernel_rfl) (fun _ h => by cases h) namesRight_row_tie rfl ⟨rfl, rfl⟩ (by kernel_rfl) rfl plain (by kernel_rfl)
end Go.Proofs.YteamemhimkpjiaaDoor.namesRight
