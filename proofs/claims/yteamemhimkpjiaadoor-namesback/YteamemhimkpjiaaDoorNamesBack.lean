/- For every two numbers: names and back; no two numbers have one name; segments and books never share one. No condition. -/
import Derived.Test.YteamemhimkpjiaaDoorNmTie
import Derived.Test.YteamemhimkpjiaaDoorNm3
import Derived.SizedLaws
import Derived.ChangeOld
namespace Go.Proofs.YteamemhimkpjiaaDoor.namesBack
open Go.ChangeShapes Go.WideShapes Go.ChangeAt Go.RowKit
set_option linter.unusedVariables false
theorem seven : nameL segH 7 = [115, 101, 103, 45, 48, 48, 48, 48, 48, 55] := by decide
theorem name_inj (h : List UInt8) (m n : Int) (h1 : 1 ≤ n) (h2 : n ≤ 999999) (e : nameL h m = nameL h n) (hh : h ≠ []) : m = n := by
  rw [name_range h n h1 h2] at e
  by_cases hr : m < 1 ∨ 999999 < m
  · rw [name_out h m hr] at e
    have := congrArg List.length e
    rw [List.length_append, six_length, List.length_nil] at this
    omega
  · rw [name_range h m (by omega) (by omega)] at e
    have h3 := last6_six h m.toNat (by omega)
    have h4 := last6_six h n.toNat (by omega)
    rw [e, h4] at h3
    omega
theorem seg_book (m n : Int) (h1 : 1 ≤ n) (h2 : n ≤ 999999) : nameL segH m ≠ nameL bookH n := by
  rw [name_range bookH n h1 h2]
  intro h
  unfold nameL at h
  split at h
  · cases h
  · have := congrArg (fun l => l.head?) h
    simp [segH, bookH] at this
theorem book_seg (m n : Int) (h1 : 1 ≤ n) (h2 : n ≤ 999999) : nameL bookH m ≠ nameL segH n := by
  rw [name_range segH n h1 h2]
  intro h
  unfold nameL at h
  split at h
  · cases h
  · have := congrArg (fun l => l.head?) h
    simp [segH, bookH] at this
theorem head_ne (h : List UInt8) (n : Nat) (hh : h.head? = some 115 ∨ h.head? = some 98) : h ++ six n ≠ manL ∧ h ++ six n ≠ tmpL := by
  have key : ∀ L : List UInt8, L.head? = some 109 → h ++ six n ≠ L := by
    intro L hL e
    rw [← e, List.head?_append] at hL
    rcases hh with h1 | h1 <;> rw [h1] at hL <;> simp at hL
  exact ⟨key _ rfl, key _ rfl⟩
theorem prs_of_seg (n : Int) (h1 : 1 ≤ n) (h2 : n ≤ 999999) : prsK (nameL segH n) = 3 ∧ prsN (nameL segH n) = n := by
  obtain ⟨m, rfl⟩ := Int.eq_ofNat_of_zero_le (show 0 ≤ n by omega)
  rw [name_range segH _ h1 h2, Int.toNat_natCast]
  have hl := last6_six segH m (by omega)
  obtain ⟨e1, e2⟩ := head_ne segH m (.inl rfl)
  have := prs_seg (segH ++ six m) e1 e2 (by rw [List.length_append, six_length]; omega) (by rw [hl]; exact h1) (by rw [hl]; exact h2) (by rw [hl, name_range segH _ h1 h2, Int.toNat_natCast])
  rw [hl] at this
  exact this
theorem prs_of_book (n : Int) (h1 : 1 ≤ n) (h2 : n ≤ 999999) : prsK (nameL bookH n) = 4 ∧ prsN (nameL bookH n) = n := by
  have hsb := seg_book n n h1 h2
  obtain ⟨m, rfl⟩ := Int.eq_ofNat_of_zero_le (show 0 ≤ n by omega)
  rw [name_range bookH _ h1 h2, Int.toNat_natCast] at hsb ⊢
  have hl := last6_six bookH m (by omega)
  obtain ⟨e1, e2⟩ := head_ne bookH m (.inr rfl)
  have := prs_book (bookH ++ six m) e1 e2 (by rw [List.length_append, six_length]; omega) (by rw [hl]; exact h1) (by rw [hl]; exact h2) (by rw [hl]; exact fun h => hsb h.symm) (by rw [hl, name_range bookH _ h1 h2, Int.toNat_natCast])
  rw [hl] at this
  exact this
set_option maxRecDepth 20000 in
set_option maxHeartbeats 2000000 in
theorem walk (n m : Int) (w : World) (w0 : (Lit.int .i64 n).wf = true) (w1 : (Lit.int .i64 m).wf = true) (he : Ers w) :
    Calls Tryd.prog 5 #[.int .i64 n, .int .i64 m] w fun e w' => e = .returned (.bool true) ∧ Below w.heap.size w w' := by
  have HE : Hid (Ers w) := he
  have H7 : Hid (nameL segH 7 = [115, 101, 103, 45, 48, 48, 48, 48, 48, 55]) := seven
  have T1 : Hid True := trivial
  have T2 : Hid True := trivial
  have T3 : Hid True := trivial
  have T4 : Hid True := trivial
  clear he w0 w1
  obtain ⟨X, hX⟩ : ∃ X, nameL segH n = X := ⟨_, rfl⟩
  obtain ⟨Y, hY⟩ : ∃ Y, nameL bookH n = Y := ⟨_, rfl⟩
  have HX : Hid (nameL segH n = X) := hX
  have HY : Hid (nameL bookH n = Y) := hY
  by_cases h1 : 1 ≤ n
  · by_cases h2 : n ≤ 999999
    · have HPX : Hid (prsK X = 3 ∧ prsN X = n) := by rw [← hX]; exact prs_of_seg n h1 h2
      have HPY : Hid (prsK Y = 4 ∧ prsN Y = n) := by rw [← hY]; exact prs_of_book n h1 h2
      have hXl : X.length = 10 := by rw [← hX, name_range segH n h1 h2, List.length_append, six_length]; rfl
      have hYl : Y.length = 11 := by rw [← hY, name_range bookH n h1 h2, List.length_append, six_length]; rfl
      have HXL : Hid (X.length ≤ 281474976710656) := by show _ ≤ _; omega
      have HYL : Hid (Y.length ≤ 281474976710656) := by show _ ≤ _; omega
      have x1 : (X == []) = false := by simp; intro h; rw [h] at hXl; simp at hXl
      have y1 : (Y == []) = false := by simp; intro h; rw [h] at hYl; simp at hYl
      have xy : (X == Y) = false := by simp; intro h; rw [h] at hXl; omega
      obtain ⟨P, hP⟩ : ∃ P, nameL segH m = P := ⟨_, rfl⟩
      obtain ⟨Q, hQ⟩ : ∃ Q, nameL bookH m = Q := ⟨_, rfl⟩
      have HP : Hid (nameL segH m = P) := hP
      have HQ : Hid (nameL bookH m = Q) := hQ
      have py : (P == Y) = false := by simp; rw [← hP, ← hY]; exact seg_book m n h1 h2
      have HPX2 : Hid ((P == X) = (m == n)) := by
        show _ = _
        rw [Bool.eq_iff_iff]
        simp only [beq_iff_eq]
        rw [← hP, ← hX]
        exact ⟨fun h => name_inj segH m n h1 h2 h (by simp [segH]), fun h => by rw [h]⟩
      have HQY2 : Hid ((Q == Y) = (m == n)) := by
        show _ = _
        rw [Bool.eq_iff_iff]
        simp only [beq_iff_eq]
        rw [← hQ, ← hY]
        exact ⟨fun h => name_inj bookH m n h1 h2 h (by simp [bookH]), fun h => by rw [h]⟩
      obtain ⟨q, hq⟩ : ∃ q, (m == n) = q := ⟨_, rfl⟩
      have px := HPX2.out
      have qy := HQY2.out
      rw [hq] at px qy
      clear hX hY hP hQ hXl hYl HPX2 HQY2
      go_enter Tryd.func5, Tryd.ntmps5
      go_wp2_with (first
        | (go_at_call 8; clear T1; refine (segment_any 7 _ HE.out.1).mono ?_; rw [H7.out]; rintro e w1 ⟨rfl, hb1⟩; have HB1 : Hid (Below w.heap.size w w1) := hb1; clear hb1)
        | (go_at_call 8; clear T2; refine (segment_any n _ (HE.out.keep HB1.out).1).mono ?_; rw [HX.out]; rintro e w2 ⟨rfl, hb2⟩; have HB2 : Hid (Below w.heap.size w w2) := HB1.out.trans (hb2.mono HB1.out.size); clear hb2)
        | (go_at_call 10; clear T3; refine (book_any n _ (HE.out.keep HB2.out).1).mono ?_; rw [HY.out]; rintro e w3 ⟨rfl, hb3⟩; have HB3 : Hid (Below w.heap.size w w3) := HB2.out.trans (hb3.mono HB2.out.size); clear hb3)
        | (go_at_call 12; clear T4; refine (parse_any X _ HXL.out (HE.out.keep HB3.out)).mono ?_; rw [HPX.out.1, HPX.out.2]; rintro e w4 ⟨rfl, hb4⟩; have HB4 : Hid (Below w.heap.size w w4) := HB3.out.trans (hb4.mono HB3.out.size); clear hb4)
        | (go_at_call 12; refine (parse_any Y _ HYL.out (HE.out.keep HB4.out)).mono ?_; rw [HPY.out.1, HPY.out.2]; rintro e w5 ⟨rfl, hb5⟩; have HB5 : Hid (Below w.heap.size w w5) := HB4.out.trans (hb5.mono HB4.out.size); have T5 : Hid True := trivial; clear hb5)
        | (go_at_call 8; clear T5; refine (segment_any m _ (HE.out.keep HB5.out).1).mono ?_; rw [HP.out]; rintro e w6 ⟨rfl, hb6⟩; have HB6 : Hid (Below w.heap.size w w6) := HB5.out.trans (hb6.mono HB5.out.size); clear hb6)
        | (go_at_call 10; refine (book_any m _ (HE.out.keep HB6.out).1).mono ?_; rw [HQ.out]; rintro e w7 ⟨rfl, hb7⟩; have HB7 : Hid (Below w.heap.size w w7) := HB6.out.trans (hb7.mono HB6.out.size); clear hb7)
        | (go_at_call 8; refine (segment_any m _ (HE.out.keep HB7.out).1).mono ?_; rw [HP.out]; rintro e w8 ⟨rfl, hb8⟩; have HB8 : Hid (Below w.heap.size w w8) := HB7.out.trans (hb8.mono HB7.out.size); clear hb8))
      go_ret
      exact ⟨rfl, HB8.out⟩
    · have HX0 : Hid (nameL segH n = []) := name_out segH n (.inr (by omega))
      have HY0 : Hid (nameL bookH n = []) := name_out bookH n (.inr (by omega))
      have d2 : decide (n ≤ 999999) = false := by simp; omega
      clear hX hY HX HY
      go_enter Tryd.func5, Tryd.ntmps5
      go_wp2_with (first
        | (go_at_call 8; clear T1; refine (segment_any 7 _ HE.out.1).mono ?_; rw [H7.out]; rintro e w1 ⟨rfl, hb1⟩; have HB1 : Hid (Below w.heap.size w w1) := hb1; clear hb1)
        | (go_at_call 8; clear T2; refine (segment_any n _ (HE.out.keep HB1.out).1).mono ?_; rw [HX0.out]; rintro e w2 ⟨rfl, hb2⟩; have HB2 : Hid (Below w.heap.size w w2) := HB1.out.trans (hb2.mono HB1.out.size); clear hb2)
        | (go_at_call 10; clear T3; refine (book_any n _ (HE.out.keep HB2.out).1).mono ?_; rw [HY0.out]; rintro e w3 ⟨rfl, hb3⟩; have HB3 : Hid (Below w.heap.size w w3) := HB2.out.trans (hb3.mono HB2.out.size); clear hb3))
      go_ret
      exact ⟨rfl, HB3.out⟩
  · have HX0 : Hid (nameL segH n = []) := name_out segH n (.inl (by omega))
    have HY0 : Hid (nameL bookH n = []) := name_out bookH n (.inl (by omega))
    have d1 : decide (1 ≤ n) = false := by simp; omega
    clear hX hY HX HY
    go_enter Tryd.func5, Tryd.ntmps5
    go_wp2_with (first
      | (go_at_call 8; clear T1; refine (segment_any 7 _ HE.out.1).mono ?_; rw [H7.out]; rintro e w1 ⟨rfl, hb1⟩; have HB1 : Hid (Below w.heap.size w w1) := hb1; clear hb1)
      | (go_at_call 8; clear T2; refine (segment_any n _ (HE.out.keep HB1.out).1).mono ?_; rw [HX0.out]; rintro e w2 ⟨rfl, hb2⟩; have HB2 : Hid (Below w.heap.size w w2) := HB1.out.trans (hb2.mono HB1.out.size); clear hb2)
      | (go_at_call 10; clear T3; refine (book_any n _ (HE.out.keep HB2.out).1).mono ?_; rw [HY0.out]; rintro e w3 ⟨rfl, hb3⟩; have HB3 : Hid (Below w.heap.size w w3) := HB2.out.trans (hb3.mono HB2.out.size); clear hb3))
    go_ret
    exact ⟨rfl, HB3.out⟩
theorem own : ownKnob Tryd.prog.godebug = none := by kernel_rfl
theorem laidOut : laidOutB Tryd.prog = true := by kernel_rfl
set_option maxRecDepth 100000 in
theorem contract (H : Type) (enc : TypeId × Value → H) (W : World) (base : Nat) (args : Array Value) (ds gs : List (DataW H)) (before : List MemPlace)
    (hval : ∀ (j : Nat) t v, Tryd.f5.params[j]? = some t → args[j]? = some v → Value.okWide Tryd.prog W .any base t v)
    (hW : DataW.Whole enc Tryd.prog Tryd.f5.params.toList Rows.namesBackSpec.vars false W args.toList ds gs before)
    (hsz : (DataW.weightsEach Tryd.prog (Tryd.f5.params.toList ++ Rows.namesBackSpec.plain.varTypes Tryd.prog) (ds ++ gs)).all (· ≤ reachBytes) = true) (hL : laidMetH Tryd.prog ([("math/bits.deBruijn32tab", Rows.laid_math_bits_deBruijn32tab), ("math/bits.deBruijn64tab", Rows.laid_math_bits_deBruijn64tab), ("internal/strconv.uint64pow10", Rows.laid_internal_strconv_uint64pow10), ("strconv.ErrRange", Rows.laid_strconv_ErrRange), ("strconv.ErrSyntax", Rows.laid_strconv_ErrSyntax)]) W) :
    Calls Tryd.prog 5 args W fun e W' => ∃ v, e = .returned v ∧ Rows.namesBackSpec.post enc Tryd.prog Tryd.f5 false true false false W args v W' := by
  have hW' := hW
  obtain ⟨p, q, hA0, hV, rfl, hfz, hnd⟩ := hW
  have hA : DataW.TrodAll enc Tryd.prog W 0 (fun _ => true) true Tryd.f5.params.toList args.toList ds p := hA0
  rw [Tryd.params5] at hA hval hsz
  obtain ⟨v0, vs0, d0, ds0, p0, q0, hargs, rfl, rfl, h0, r0⟩ := trodAll_cons hA
  obtain ⟨v1, vs1, d1, ds1, p1, q1, rfl, rfl, rfl, h1, r1⟩ := trodAll_cons r0
  obtain ⟨rfl, rfl, rfl⟩ := trodAll_nil r1
  obtain rfl : args = #[v0, v1] := by cases args; simp_all
  obtain ⟨rfl, rfl⟩ := trodVars_none hV
  obtain ⟨a0, rfl, rfl, rfl, w0⟩ := open_int Tryd.underlying3 (hval 0 3 v0 rfl rfl) h0
  obtain ⟨a1, rfl, rfl, rfl, w1⟩ := open_int Tryd.underlying3 (hval 1 3 v1 rfl rfl) h1
  clear hA0
  refine (walk a0 a1 W w0 w1 (ers_of5 hL)).mono fun e W' ⟨he, bel⟩ => ?_
  subst he
  exact ⟨_, rfl, _, _, _, [], _, [], hW', trodAll_mk1 (shut_bool Tryd.underlying4 _), (trodAll_cons_mk (shut_int Tryd.underlying3 w0) (trodAll_cons_mk (shut_int Tryd.underlying3 w1) trodAll_mk0)), rfl, bel.frame _, fun h => by cases h⟩
set_option maxRecDepth 100000 in
theorem start (os : Os) : ∃ w0 : World, w0.os = os ∧ (w0.forCall (fun _ _ => 0) ⟨#[], #[.int .i64 0, .int .i64 0], []⟩).variablesB Tryd.prog = true ∧
    ((w0.forCall (fun _ _ => 0) ⟨#[], #[.int .i64 0, .int .i64 0], []⟩).heap.toList.drop Tryd.prog.globals.size).take ((begin Tryd.prog (fun _ _ => 0) default).world.heap.size - Tryd.prog.globals.size) = (begin Tryd.prog (fun _ _ => 0) default).world.heap.toList.drop Tryd.prog.globals.size ∧
    Input.okWideB Tryd.prog (w0.forCall (fun _ _ => 0) ⟨#[], #[.int .i64 0, .int .i64 0], []⟩) 5 ⟨#[], #[.int .i64 0, .int .i64 0], []⟩ = true ∧
    laidMet Tryd.prog Rows.namesBackRow.laid (w0.forCall (fun _ _ => 0) ⟨#[], #[.int .i64 0, .int .i64 0], []⟩).memory ∧
    ∀ (H : Type) (enc : TypeId × Value → H), DataW.whole enc Tryd.prog (w0.forCall (fun _ _ => 0) ⟨#[], #[.int .i64 0, .int .i64 0], []⟩).memory Tryd.f5.params.toList Rows.namesBackSpec.vars false (#[.int .i64 0, .int .i64 0] : Array Value).toList 8 = some ([.lit (.int .i64 0), .lit (.int .i64 0)], [], []) :=
  ⟨{ World.holding Tryd.prog os ⟨#[.cells #[.string ⟨#[118, 97, 108, 117, 101, 32, 111, 117, 116, 32, 111, 102, 32, 114, 97, 110, 103, 101]⟩] 70, .cells #[.string ⟨#[105, 110, 118, 97, 108, 105, 100, 32, 115, 121, 110, 116, 97, 120]⟩] 70], #[], []⟩ with heap := ((((((World.holding Tryd.prog os ⟨#[.cells #[.string ⟨#[118, 97, 108, 117, 101, 32, 111, 117, 116, 32, 111, 102, 32, 114, 97, 110, 103, 101]⟩] 70, .cells #[.string ⟨#[105, 110, 118, 97, 108, 105, 100, 32, 115, 121, 110, 116, 97, 120]⟩] 70], #[], []⟩).heap).modify 3 fun x => match x with | .cells _ t frozen => .cells #[.int .u8 0, .int .u8 1, .int .u8 28, .int .u8 2, .int .u8 29, .int .u8 14, .int .u8 24, .int .u8 3, .int .u8 30, .int .u8 22, .int .u8 20, .int .u8 15, .int .u8 25, .int .u8 17, .int .u8 4, .int .u8 8, .int .u8 31, .int .u8 27, .int .u8 13, .int .u8 23, .int .u8 21, .int .u8 19, .int .u8 16, .int .u8 7, .int .u8 26, .int .u8 12, .int .u8 18, .int .u8 6, .int .u8 11, .int .u8 5, .int .u8 10, .int .u8 9] t frozen | o => o).modify 4 fun x => match x with | .cells _ t frozen => .cells #[.int .u8 0, .int .u8 1, .int .u8 56, .int .u8 2, .int .u8 57, .int .u8 49, .int .u8 28, .int .u8 3, .int .u8 61, .int .u8 58, .int .u8 42, .int .u8 50, .int .u8 38, .int .u8 29, .int .u8 17, .int .u8 4, .int .u8 62, .int .u8 47, .int .u8 59, .int .u8 36, .int .u8 45, .int .u8 43, .int .u8 51, .int .u8 22, .int .u8 53, .int .u8 39, .int .u8 33, .int .u8 30, .int .u8 24, .int .u8 18, .int .u8 12, .int .u8 5, .int .u8 63, .int .u8 55, .int .u8 48, .int .u8 27, .int .u8 60, .int .u8 41, .int .u8 37, .int .u8 16, .int .u8 46, .int .u8 35, .int .u8 44, .int .u8 21, .int .u8 52, .int .u8 32, .int .u8 23, .int .u8 11, .int .u8 54, .int .u8 26, .int .u8 40, .int .u8 15, .int .u8 34, .int .u8 20, .int .u8 31, .int .u8 10, .int .u8 25, .int .u8 14, .int .u8 19, .int .u8 9, .int .u8 13, .int .u8 8, .int .u8 7, .int .u8 6] t frozen | o => o).modify 2 fun x => match x with | .cells _ t frozen => .cells #[.int .u64 1, .int .u64 10, .int .u64 100, .int .u64 1000, .int .u64 10000, .int .u64 100000, .int .u64 1000000, .int .u64 10000000, .int .u64 100000000, .int .u64 1000000000, .int .u64 10000000000, .int .u64 100000000000, .int .u64 1000000000000, .int .u64 10000000000000, .int .u64 100000000000000, .int .u64 1000000000000000, .int .u64 10000000000000000, .int .u64 100000000000000000, .int .u64 1000000000000000000, .int .u64 10000000000000000000] t frozen | o => o).modify 1 fun x => match x with | .cells _ t frozen => .cells #[.iface 68 (.pointer (some ⟨(World.holding Tryd.prog default ⟨#[], #[], []⟩).heap.size, 0, none⟩))] t frozen | o => o).modify 0 fun x => match x with | .cells _ t frozen => .cells #[.iface 68 (.pointer (some ⟨(World.holding Tryd.prog default ⟨#[], #[], []⟩).heap.size + 1, 0, none⟩))] t frozen | o => o }, rfl, by kernel_rfl, by kernel_rfl, by kernel_rfl, laidMet_of_run' 8 (by kernel_rfl) (by kernel_rfl), fun _ _ => by kernel_rfl⟩
set_option maxRecDepth 100000 in
theorem lifted (os : Os) (started : os.Started) (H : Type) (enc : TypeId × Value → H) (F : Stop.Interp) :
    ReturnsInHanded {} Tryd.checked os 5 .any ((OpenSpec.ofChange Rows.namesBackSpec).preRow enc Tryd.prog Tryd.f5 Rows.namesBackRow.domain false Rows.namesBackRow.laid) (((OpenSpec.ofChange Rows.namesBackSpec).at F).post enc Tryd.prog Tryd.f5 false true false false) := by
  obtain ⟨w0, h1, h2, h3, h4, h5, h6⟩ := start os
  refine returnsInHanded_of_row (C := Tryd.checked) (s := OpenSpec.ofChange Rows.namesBackSpec) own started (by kernel_rfl) Tryd.func5
    (witness_row_at (enc := enc) (C := Tryd.checked) false w0 #[.int .i64 0, .int .i64 0] h1 h2 h3 h4
      (OpenSpec.preRow_of_cond 8 (h6 H enc) (by kernel_rfl) (fun k hk => by cases hk) (by kernel_rfl) h5)) ?_
  intro W base args ds gs before hval hW _ hcond hsz hL _ _
  exact contract H enc W base args ds gs before hval hW hsz hL
theorem said : Rows.NamesBackSaid :=
  OpenClaim.holds_of_cond 5 Tryd.f5 rfl rfl rfl rfl rfl rfl rfl ⟨rfl, rfl, rfl, rfl, rfl⟩ rfl rfl rfl rfl rfl (by kernel_rfl) Tryd.func5 (by kernel_rfl)
    (of_decide_eq_true (by kernel_rfl)) (by unfold Func.isWrapper; first | (rw [if_pos (by decide +kernel)]; kernel_rfl) | (rw [if_neg (by decide +kernel)]; exact ⟨rfl, rfl⟩))
    (fun os started H enc _ F => by rw [OpenClaim.pre_eq_preRow]; exact lifted os started H enc F)
theorem plain (f : FuncId) (fn : Func) (hf : Tryd.pinned.checked.prog.funcNamed "daybook/daybooklaw15.NamesBack" = some f) (hfn : Tryd.pinned.checked.prog.funcs[f]? = some fn) :
    true = Tryd.pinned.checked.prog.looks [] ∧ ∀ (j : Nat) t, fn.params[j]? = some t → Tryd.pinned.checked.prog.wantsStandIn t = false := by
  obtain rfl : f = 5 := Option.some.inj ((show Tryd.prog.funcNamed "daybook/daybooklaw15.NamesBack" = some 5 by kernel_rfl).symm.trans hf) |>.symm
  obtain rfl : fn = Tryd.f5 := (Option.some.inj (Tryd.func5.symm.trans hfn)).symm
  refine ⟨by kernel_rfl, fun j t ht => ?_⟩
  rw [Tryd.params5] at ht
  have hm := Array.mem_of_getElem? ht
  have hall : ∀ t ∈ (#[3, 3] : Array TypeId), Tryd.prog.wantsStandIn t = false := by
    intro t ht
    simp only [List.mem_toArray, List.mem_cons, List.not_mem_nil, or_false] at ht
    rcases ht with rfl | rfl <;> kernel_rfl
  exact hall t hm
theorem card : Rows.NamesBackCardSaid :=
  Claim7.holds_tied_plain_at .later [] _ _ _ _ said (fun _ h => by cases h) (by kernel_rfl) (fun _ h => by cases h) namesBack_row_tie rfl ⟨rfl, rfl⟩ (by kernel_rfl) rfl plain (by kernel_rfl)
end Go.Proofs.YteamemhimkpjiaaDoor.namesBack
