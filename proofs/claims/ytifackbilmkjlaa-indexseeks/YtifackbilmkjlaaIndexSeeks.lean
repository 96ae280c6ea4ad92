/- For every list of marks and every number: index.Valid and index.Seek answer as the reference, and the marks stay as they were. No condition. -/
import Derived.Test.YtifackbilmkjlaaMkH
import Derived.Test.YtifackbilmkjlaaMkQ
import Derived.Test.YtifackbilmkjlaaMkR
import Derived.Test.YtifackbilmkjlaaMky
import Derived.SizedLaws
import Derived.ChangeOld
namespace Go.Proofs.Ytifackbilmkjlaa.indexSeeks
open Go.ChangeShapes Go.WideShapes Go.ChangeAt Go.RowKit
set_option linter.unusedVariables false
set_option maxRecDepth 20000 in
set_option maxHeartbeats 2000000 in
theorem walk (l : List Mk) (a : Option Addr) (cap : Nat) (seq : Int) (w : World) (hm : Marks w a l) (hc : l.length ≤ cap ∧ cap * 16 ≤ 140737488351232 ∧ (a = none → l = [])) (w1 : (Lit.int .i64 seq).wf = true) :
    Calls Try.prog 5 #[.slice a l.length cap, .int .i64 seq] w fun e w' => e = .returned (.bool true) ∧ Below w.heap.size w w' := by
  obtain ⟨n, hn⟩ : ∃ n, l.length = n := ⟨_, rfl⟩
  rw [hn] at hc ⊢
  obtain ⟨hc1, hc2, hc3⟩ := hc
  have HN : Hid (l.length = n) := hn
  have HM : Hid (Marks w a l) := hm
  have H3 : Hid (a = none → l = []) := hc3
  have hl16 : n * 16 ≤ 140737488351232 := by omega
  have hlm : n ≤ maxLen := by unfold maxLen; omega
  have HL : Hid (n * 16 ≤ 140737488351232 ∧ n ≤ maxLen ∧ n ≤ 140737488351232) := ⟨hl16, hlm, by omega⟩
  clear hn hm hc1 hc2 hc3 hl16 hlm w1
  cases hV : validB l with
  | true =>
    have HV : Hid (validB l = true) := hV
    obtain ⟨x, z, f, hq⟩ : ∃ x z f, seekR seq l = ((x, z), f) := ⟨_, _, _, rfl⟩
    have HQ : Hid (seekR seq l = ((x, z), f)) := hq
    clear hV hq
    go_enter Try.func5, Try.ntmps5
    go_wp2_with (first
      | (go_at_call 12; refine (head13_any w).mono ?_; rintro e w1 ⟨rfl, hb1⟩)
      | (go_at_call 18; refine (rvalid_any l _ _ _ _ HN.out (HM.out.keep hb1) HL.out.2.1).mono ?_; rw [HV.out]; rintro e w2 ⟨rfl, hb2⟩; have hb2w := below_next hb1 hb2)
      | (go_at_call 17; refine (copyOf_any l _ _ _ _ HN.out (HM.out.keep hb2w) H3.out HL.out.1).mono ?_; rintro e w3 ⟨v3, rfl, ho3, hb3⟩; obtain ⟨a3, c3, rfl, hm3⟩ := marks_len ho3 n HN.out; clear ho3; have hb3w := below_next hb2w hb3)
      | (go_at_call 19; refine (rseek_any l _ _ _ seq _ HN.out (HM.out.keep hb3w) HL.out.2.2).mono ?_; rw [HQ.out]; rintro e w4 ⟨rfl, hb4⟩; have hb4w := below_next hb3w hb4; have hb5w : Below w.heap.size w (w4.alloc (.cells #[.int .i64 x, .int .i64 z] 34)) := hb4w.alloc hb4w.size _; have HM5 : Hid (Marks (w4.alloc (.cells #[.int .i64 x, .int .i64 z] 34)) a3 l) := (hm3.keep hb4).keep ((Below.refl _ _).alloc (Nat.le_refl _) _); have HX5 : Hid (MkAt (w4.alloc (.cells #[.int .i64 x, .int .i64 z] 34)) w4.heap.size x z) := heap_alloc_new w4 _)
      | (go_at_call 20; refine (seek_any l _ _ _ seq _ HN.out HM5.out (rise_valid HV.out) HL.out.2.2).mono ?_; rw [HQ.out]; rintro e w6 ⟨rfl, hb6⟩; have hb6w := below_next hb5w hb6; have HX6 : Hid (MkAt (w6.alloc (.cells #[.int .i64 x, .int .i64 z] 34)) w4.heap.size x z) := mk_alloc ((hb6.block _ (lt_of_heap HX5.out)).trans HX5.out) _; obtain ⟨y0, y1, _, _⟩ := mk_box HX6.out; have hb7w : Below w.heap.size w (w6.alloc (.cells #[.int .i64 x, .int .i64 z] 34)) := hb6w.alloc hb6w.size _; have HM7 : Hid (Marks (w6.alloc (.cells #[.int .i64 x, .int .i64 z] 34)) a3 l) := (HM5.out.keep hb6).keep ((Below.refl _ _).alloc (Nat.le_refl _) _))
      | (go_at_call 15; refine (msame_any l l _ _ _ _ _ _ _ HN.out HN.out HM7.out (HM.out.keep hb7w) HL.out.2.1 HL.out.2.1).mono ?_; rw [decide_eq_true (rfl : l = l)]; rintro e w8 ⟨rfl, hb8⟩; have hb8w := below_next hb7w hb8))
    go_ret
    exact ⟨ret_bool (by simp), hb8w⟩
  | false =>
    have HV : Hid (validB l = false) := hV
    clear hV
    go_enter Try.func5, Try.ntmps5
    go_wp2_with (first
      | (go_at_call 12; refine (head13_any w).mono ?_; rintro e w1 ⟨rfl, hb1⟩)
      | (go_at_call 18; refine (rvalid_any l _ _ _ _ HN.out (HM.out.keep hb1) HL.out.2.1).mono ?_; rw [HV.out]; rintro e w2 ⟨rfl, hb2⟩; have hb2w := below_next hb1 hb2)
      | (go_at_call 17; refine (copyOf_any l _ _ _ _ HN.out (HM.out.keep hb2w) H3.out HL.out.1).mono ?_; rintro e w3 ⟨v3, rfl, ho3, hb3⟩; obtain ⟨a3, c3, rfl, hm3⟩ := marks_len ho3 n HN.out; clear ho3; have hb3w := below_next hb2w hb3)
      | (go_at_call 16; refine (valid_any l _ _ _ _ HN.out hm3 HL.out.2.1).mono ?_; rw [HV.out]; rintro e w4 ⟨rfl, hb4⟩; have hb4w := below_next hb3w hb4))
    go_ret
    exact ⟨rfl, hb4w⟩
theorem own : ownKnob Try.prog.godebug = none := by kernel_rfl
theorem laidOut : laidOutB Try.prog = true := by kernel_rfl
set_option maxRecDepth 100000 in
theorem contract (H : Type) (enc : TypeId × Value → H) (W : World) (base : Nat) (args : Array Value) (ds gs : List (DataW H)) (before : List MemPlace)
    (hval : ∀ (j : Nat) t v, Try.f5.params[j]? = some t → args[j]? = some v → Value.okWide Try.prog W .any base t v)
    (hW : DataW.Whole enc Try.prog Try.f5.params.toList Rows.indexSeeksSpec.vars false W args.toList ds gs before)
    (hsz : (DataW.weightsEach Try.prog (Try.f5.params.toList ++ Rows.indexSeeksSpec.plain.varTypes Try.prog) (ds ++ gs)).all (· ≤ reachBytes) = true) :
    Calls Try.prog 5 args W fun e W' => ∃ v, e = .returned v ∧ Rows.indexSeeksSpec.post enc Try.prog Try.f5 false true false false W args v W' := by
  have hW' := hW
  obtain ⟨p, q, hA0, hV, rfl, hfz, hnd⟩ := hW
  have hA : DataW.TrodAll enc Try.prog W 0 (fun _ => true) true Try.f5.params.toList args.toList ds p := hA0
  rw [Try.params5] at hA hval hsz
  obtain ⟨v0, vs0, d0, ds0, p0, q0, hargs, rfl, rfl, h0, r0⟩ := trodAll_cons hA
  obtain ⟨v1, vs1, d1, ds1, p1, q1, rfl, rfl, rfl, h1, r1⟩ := trodAll_cons r0
  obtain ⟨rfl, rfl, rfl⟩ := trodAll_nil r1
  obtain rfl : args = #[v0, v1] := by cases args; simp_all
  obtain ⟨rfl, rfl⟩ := trodVars_none hV
  obtain ⟨a0, len0, cap0, rfl⟩ := okWide_slice Try.underlying27 (hval 0 27 v0 rfl rfl)
  have k0 := h0
  have lt0 : ∀ x ∈ p0, x.block < W.heap.size := by obtain ⟨m, hm⟩ := k0; exact DataW.trod_lt m _ _ _ hm
  obtain ⟨l0, hlen0, w0, c0⟩ : ∃ L : List Mk, L.length = len0 ∧ Marks W a0 L ∧ (len0 ≤ cap0 ∧ cap0 * 16 ≤ 140737488351232 ∧ (a0 = none → L = [])) := by
    obtain ⟨fuel, hf⟩ := h0
    rcases open_marks hf with ⟨hcs, hx⟩ | ⟨x, l, c, L, D, hcs, hl, hm, hLl, hfs, hx⟩
    · simp [Value.cells] at hcs
      obtain ⟨rfl, rfl, rfl⟩ := hcs
      exact ⟨[], rfl, .inl rfl, Nat.le_refl _, by simp, fun _ => rfl⟩
    · simp [Value.cells] at hcs
      obtain ⟨rfl, rfl, rfl⟩ := hcs
      have hd : d0 = _ := hx
      exact ⟨L, hLl, hfs, hl, sized_marks hsz (j := 0) rfl (by rw [hd]; rfl) hl, fun h => by cases h⟩
  subst hlen0
  obtain ⟨a1, rfl, rfl, rfl, w1⟩ := open_int Try.underlying3 (hval 1 3 v1 rfl rfl) h1
  clear hA0
  refine (walk l0 a0 cap0 a1 W w0 c0 w1).mono fun e W' ⟨he, bel⟩ => ?_
  subst he
  exact ⟨_, rfl, _, _, _, [], _, [], hW', trodAll_mk1 (shut_bool Try.underlying4 _), (trodAll_cons_mk (Below.trod laidOut (by kernel_rfl) (of_decide_eq_true (by kernel_rfl)) k0 bel lt0) (trodAll_cons_mk (shut_int Try.underlying3 w1) trodAll_mk0)), rfl, bel.frame _, fun h => by cases h⟩
set_option maxRecDepth 100000 in
theorem lifted (os : Os) (started : os.Started) (H : Type) (enc : TypeId × Value → H) :
    ReturnsInHanded {} Try.checked os 5 .any (Rows.indexSeeksSpec.pre6 enc Try.prog Try.f5 Rows.indexSeeksRow.domain false) (Rows.indexSeeksSpec.post enc Try.prog Try.f5 false true false false) := by
  refine returnsInHanded_of_change_sized (C := Try.checked) own started (by kernel_rfl) Try.func5
    (ChangeSpec.witness6 (enc := enc) (C := Try.checked) false ⟨#[], #[.slice none 0 0, .int .i64 0], []⟩ 8 (by kernel_rfl) (by kernel_rfl) (by kernel_rfl) (by kernel_rfl)) ?_
  intro W base args ds gs before hval hW _ hsz _
  exact contract H enc W base args ds gs before hval hW hsz
theorem over : Rows.indexSeeksRow.holds Try.pinned (OpenSpec.ofChange Rows.indexSeeksSpec) :=
  OpenClaim.holds_of_wide 5 Try.f5 rfl rfl rfl rfl rfl rfl rfl ⟨rfl, rfl, rfl, rfl, rfl⟩ rfl rfl rfl rfl rfl (by kernel_rfl) Try.func5 (by kernel_rfl)
    (of_decide_eq_true (by kernel_rfl)) (by unfold Func.isWrapper; first | (rw [if_pos (by decide +kernel)]; kernel_rfl) | (rw [if_neg (by decide +kernel)]; exact ⟨rfl, rfl⟩))
    (fun os started H enc _ => lifted os started H enc)
theorem proved : Rows.IndexSeeksSaid := over
end Go.Proofs.Ytifackbilmkjlaa.indexSeeks
