/- For every text: it is a right name of a disk just where the document says so, and Create takes just those. No condition. -/
import Derived.Test.YtlnhhgmdajbepaaFsh
import Derived.Test.YtlnhhgmdajbepaaFst
import Derived.SizedLaws
import Derived.ChangeOld
namespace Go.Proofs.Ytlnhhgmdajbepaa.simfsRights
open Go.ChangeShapes Go.WideShapes Go.ChangeAt Go.RowKit
set_option linter.unusedVariables false
abbrev segN : List UInt8 := [115, 101, 103, 45, 48, 48, 48, 48, 48, 49]
theorem c_right {l : List UInt8} (h : rightS l = true) : createA (newD 1).ab l = (⟨1, 0, false, 1, 0, [⟨l, [], 0⟩]⟩, 0) := by
  have hb : barA (newD 1).ab [l] = 0 := by
    show (if false = true then 3 else if (rightS l && true) = true then 0 else 50) = 0
    rw [h]; rfl
  unfold createA
  rw [if_neg (by rw [hb]; simp)]
  simp [Dk.ab, getA, stepA, Ak.put, insA, roomI, wrap64]
theorem c_wrong {l : List UInt8} (h : rightS l = false) : createA (newD 1).ab l = ((newD 1).ab, 50) := by
  have hb : barA (newD 1).ab [l] = 50 := by
    show (if false = true then 3 else if (rightS l && true) = true then 0 else 50) = 50
    rw [h]; rfl
  unfold createA
  rw [if_pos (by rw [hb]; simp), hb]
theorem c_again {l : List UInt8} (h : rightS l = true) : createA ⟨1, 0, false, 1, 0, [⟨l, [], 0⟩]⟩ l = (⟨1, 0, false, 1, 0, [⟨l, [], 0⟩]⟩, 52) := by
  have hb : barA ⟨1, 0, false, 1, 0, [⟨l, [], 0⟩]⟩ [l] = 0 := by
    show (if false = true then 3 else if (rightS l && true) = true then 0 else 50) = 0
    rw [h]; rfl
  have hg : getA [⟨l, [], 0⟩] l = some ⟨l, [], 0⟩ := by rw [getA_cons, if_pos rfl]
  unfold createA
  rw [if_neg (by rw [hb]; simp)]
  simp only [hg, Option.isSome_some, if_true]
set_option maxRecDepth 20000 in
set_option maxHeartbeats 2000000 in
theorem walk (s : ByteArray) (w : World) (w0 : s.size ≤ maxLen) (hs : s.size ≤ 140737488351232) :
    Calls Try.prog 5 #[.string s] w fun e w' => e = .returned (.bool true) ∧ Below w.heap.size w w' := by
  obtain ⟨l, rfl⟩ : ∃ l, s = bs l := ⟨s.data.toList, by simp⟩
  have hl : l.length ≤ 281474976710656 := by have : (bs l).size = l.length := by simp [ByteArray.size]
                                             omega
  have HL : Hid (l.length ≤ 281474976710656) := hl
  have HSG : Hid (∀ x : World, Calls Try.prog 25 #[.string ⟨#[115, 101, 103, 45, 48, 48, 48, 48, 48, 49]⟩] x fun e w' => e = .returned (.bool true) ∧ x = w') := fun x => (right_any segN x (by decide)).mono (fun e w' h => by rw [show rightS segN = true by decide] at h; exact h)
  have T1 : Hid True := trivial
  have T2 : Hid True := trivial
  clear w0 hs hl
  cases hR : rightS l with
  | true =>
    have HR : Hid (rightS l = true) := hR
    have HC1 : Hid (createA (newD 1).ab l = (⟨1, 0, false, 1, 0, [⟨l, [], 0⟩]⟩, 0)) := c_right hR
    have HC2 : Hid (createA ⟨1, 0, false, 1, 0, [⟨l, [], 0⟩]⟩ l = (⟨1, 0, false, 1, 0, [⟨l, [], 0⟩]⟩, 52)) := c_again hR
    have HOK : Hid (AkOk ⟨1, 0, false, 1, 0, [⟨l, [], 0⟩]⟩) := by have h := createA_ok (newA_ok 1) l; rw [HC1.out] at h; exact h
    clear hR
    go_enter Try.func5, Try.ntmps5
    go_wp2_with (first
      | (go_at_call 25; clear T1; refine (HSG.out _).mono ?_; rintro _ x0 ⟨rfl, rfl⟩)
      | (go_at_call 13; refine (head10_any w).mono ?_; rintro _ x1 ⟨rfl, hb1⟩; have HB1 : Hid (Below w.heap.size w x1) := hb1; clear hb1)
      | (go_at_call 14; refine (fsnew_any 1 x1 (by decide) (by decide)).mono ?_; rintro _ x2 ⟨q, b, rfl, hd2, hb2⟩; have HD2 : Hid (DkAt x2 x1.heap.size q b (newD 1)) := hd2; have HB2 : Hid (Below x1.heap.size x1 x2) := hb2; clear hd2 hb2)
      | (go_at_call 26; clear T2; refine (create_any x2 x1.heap.size q b (newD 1) HD2.out (newD_ok 1) l HL.out).mono ?_; rw [HC1.out]; rintro _ x3 ⟨rfl, D3, hd3, he3, hc3⟩; have HD3 : Hid (DkAt x3 x1.heap.size q b D3 ∧ D3.ab = ⟨1, 0, false, 1, 0, [⟨l, [], 0⟩]⟩) := ⟨hd3, he3⟩; have HB3 : Hid (Below x1.heap.size x1 x3) := hc3.to_below HD2.out HB2.out HB2.out.size; clear hd3 he3 hc3)
      | (go_at_call 27; refine (rright_any l _ HL.out).mono ?_; rw [HR.out]; rintro _ x4 ⟨rfl, rfl⟩)
      | (go_at_call 25; refine (right_any l _ HL.out).mono ?_; rw [HR.out]; rintro _ x5 ⟨rfl, rfl⟩)
      | (go_at_call 26; refine (create_any x3 x1.heap.size q b D3 HD3.out.1 (AkOk.dk (by rw [HD3.out.2]; exact HOK.out)) l HL.out).mono ?_; rw [HD3.out.2, HC2.out]; rintro _ x6 ⟨rfl, D6, hd6, he6, hc6⟩; have HB6 : Hid (Below x1.heap.size x1 x6) := hc6.to_below HD3.out.1 HB3.out HB3.out.size; clear hd6 he6 hc6)
      | go_in)
    go_ret
    exact ⟨rfl, HB1.out.trans (HB6.out.mono HB1.out.size)⟩
  | false =>
    have HR : Hid (rightS l = false) := hR
    have HC1 : Hid (createA (newD 1).ab l = ((newD 1).ab, 50)) := c_wrong hR
    clear hR
    go_enter Try.func5, Try.ntmps5
    go_wp2_with (first
      | (go_at_call 25; clear T1; refine (HSG.out _).mono ?_; rintro _ x0 ⟨rfl, rfl⟩)
      | (go_at_call 13; refine (head10_any w).mono ?_; rintro _ x1 ⟨rfl, hb1⟩; have HB1 : Hid (Below w.heap.size w x1) := hb1; clear hb1)
      | (go_at_call 14; refine (fsnew_any 1 x1 (by decide) (by decide)).mono ?_; rintro _ x2 ⟨q, b, rfl, hd2, hb2⟩; have HD2 : Hid (DkAt x2 x1.heap.size q b (newD 1)) := hd2; have HB2 : Hid (Below x1.heap.size x1 x2) := hb2; clear hd2 hb2)
      | (go_at_call 26; clear T2; refine (create_any x2 x1.heap.size q b (newD 1) HD2.out (newD_ok 1) l HL.out).mono ?_; rw [HC1.out]; rintro _ x3 ⟨rfl, D3, hd3, he3, hc3⟩; have HB3 : Hid (Below x1.heap.size x1 x3) := hc3.to_below HD2.out HB2.out HB2.out.size; clear hd3 he3 hc3)
      | (go_at_call 27; refine (rright_any l _ HL.out).mono ?_; rw [HR.out]; rintro _ x4 ⟨rfl, rfl⟩)
      | (go_at_call 25; refine (right_any l _ HL.out).mono ?_; rw [HR.out]; rintro _ x5 ⟨rfl, rfl⟩)
      | go_in)
    go_ret
    exact ⟨rfl, HB1.out.trans (HB3.out.mono HB1.out.size)⟩
theorem own : ownKnob Try.prog.godebug = none := by kernel_rfl
theorem laidOut : laidOutB Try.prog = true := by kernel_rfl
set_option maxRecDepth 100000 in
theorem contract (H : Type) (enc : TypeId × Value → H) (W : World) (base : Nat) (args : Array Value) (ds gs : List (DataW H)) (before : List MemPlace)
    (hval : ∀ (j : Nat) t v, Try.f5.params[j]? = some t → args[j]? = some v → Value.okWide Try.prog W .any base t v)
    (hW : DataW.Whole enc Try.prog Try.f5.params.toList Rows.simfsRightsSpec.vars false W args.toList ds gs before)
    (hsz : (DataW.weightsEach Try.prog (Try.f5.params.toList ++ Rows.simfsRightsSpec.plain.varTypes Try.prog) (ds ++ gs)).all (· ≤ reachBytes) = true) :
    Calls Try.prog 5 args W fun e W' => ∃ v, e = .returned v ∧ Rows.simfsRightsSpec.post enc Try.prog Try.f5 false true false false W args v W' := by
  have hW' := hW
  obtain ⟨p, q, hA0, hV, rfl, hfz, hnd⟩ := hW
  have hA : DataW.TrodAll enc Try.prog W 0 (fun _ => true) true Try.f5.params.toList args.toList ds p := hA0
  rw [Try.params5] at hA hval hsz
  obtain ⟨v0, vs0, d0, ds0, p0, q0, hargs, rfl, rfl, h0, r0⟩ := trodAll_cons hA
  obtain ⟨rfl, rfl, rfl⟩ := trodAll_nil r0
  obtain rfl : args = #[v0] := by cases args; simp_all
  obtain ⟨rfl, rfl⟩ := trodVars_none hV
  obtain ⟨a0, rfl, rfl, rfl, w0⟩ := Go.ChangeMaps.open_string Try.underlying9 (hval 0 9 v0 rfl rfl) h0
  have s0 : a0.size ≤ 140737488351232 := by have := sized_string hsz (j := 0) (t := 9) rfl rfl; simpa [reachBytes] using this
  clear hA0
  refine (walk a0 W w0 s0).mono fun e W' ⟨he, bel⟩ => ?_
  subst he
  exact ⟨_, rfl, _, _, _, [], _, [], hW', trodAll_mk1 (shut_bool Try.underlying4 _), (trodAll_cons_mk (Go.ChangeMaps.shut_string Try.underlying9 w0) trodAll_mk0), rfl, bel.frame _, fun h => by cases h⟩
set_option maxRecDepth 100000 in
theorem lifted (os : Os) (started : os.Started) (H : Type) (enc : TypeId × Value → H) :
    ReturnsInHanded {} Try.checked os 5 .any (Rows.simfsRightsSpec.pre6 enc Try.prog Try.f5 Rows.simfsRightsRow.domain false) (Rows.simfsRightsSpec.post enc Try.prog Try.f5 false true false false) := by
  refine returnsInHanded_of_change_sized (C := Try.checked) own started (by kernel_rfl) Try.func5
    (ChangeSpec.witness6 (enc := enc) (C := Try.checked) false ⟨#[], #[.string ⟨#[]⟩], []⟩ 8 (by kernel_rfl) (by kernel_rfl) (by kernel_rfl) (by kernel_rfl)) ?_
  intro W base args ds gs before hval hW _ hsz _
  exact contract H enc W base args ds gs before hval hW hsz
theorem over : Rows.simfsRightsRow.holds Try.pinned (OpenSpec.ofChange Rows.simfsRightsSpec) :=
  OpenClaim.holds_of_wide 5 Try.f5 rfl rfl rfl rfl rfl rfl rfl ⟨rfl, rfl, rfl, rfl, rfl⟩ rfl rfl rfl rfl rfl (by kernel_rfl) Try.func5 (by kernel_rfl)
    (of_decide_eq_true (by kernel_rfl)) (by unfold Func.isWrapper; first | (rw [if_pos (by decide +kernel)]; kernel_rfl) | (rw [if_neg (by decide +kernel)]; exact ⟨rfl, rfl⟩))
    (fun os started H enc _ => lifted os started H enc)
theorem proved : Rows.SimfsRightsSaid := over
end Go.Proofs.Ytlnhhgmdajbepaa.simfsRights
