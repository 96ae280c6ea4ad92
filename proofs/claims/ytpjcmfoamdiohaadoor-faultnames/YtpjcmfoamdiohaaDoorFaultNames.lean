/- For every list of numbers: the word of each that is asked for, and of all numbers up to 110, is the document's. No condition. -/
import Derived.Test.YtpjcmfoamdiohaaDoorSenTie
import Derived.Test.YtpjcmfoamdiohaaDoorSenR
import Derived.Test.YtpjcmfoamdiohaaDoorIntsA
import Derived.SizedLaws
import Derived.ChangeOld
namespace Go.Proofs.YtpjcmfoamdiohaaDoor.faultNames
open Go.ChangeShapes Go.WideShapes Go.ChangeAt Go.RowKit
set_option linter.unusedVariables false
theorem below_next {w a b : World} (h : Below w.heap.size w a) (k : Below a.heap.size a b) : Below w.heap.size w b := h.trans (k.mono h.size)
set_option maxRecDepth 100000 in
set_option maxHeartbeats 4000000 in
theorem walk (l : List Int) (a : Option Addr) (cap : Nat) (w : World) (hb : Ints w a l) (hc : Came w a l.length cap 8) (hs : ∃ pa, Sen w pa) :
    Calls Tryd.prog 3 #[.slice a l.length cap] w fun e w' => e = .returned (.bool true) ∧ Below w.heap.size w w' := by
  obtain ⟨pa, hs⟩ := hs
  have HS : Hid (Sen w pa) := hs
  have HI : Hid (Ints w a l) := hb
  have hl : (l.length : Int) ≤ 140737488351232 := by have h1 := hc.1; have h2 := hc.2; omega
  clear hs hb hc
  go_enter Tryd.func3, Tryd.ntmps3
  go_wp2
  go_loopw [3] (fun ve wr => ∃ e : Int, -3 ≤ e ∧ e ≤ 111 ∧ ve = .int .i64 e ∧ Hid (Below w.heap.size w wr)) (fun ve _ => (111 - intOf ve).toNat)
  case atStart => exact ⟨-3, by omega, by omega, rfl, Below.refl _ _⟩
  case round =>
    obtain ⟨e, h1, h2, rfl, HB⟩ := hrel
    by_cases he : e < 111
    · go_wp2_with (first
        | (go_at_call 8; refine (name_any pa e _ (HS.out.keep HB.out)).mono ?_; rintro r w1 ⟨s1, rfl, hn1, hb1⟩; have HB1 : Hid (Below w.heap.size w w1) := below_next HB.out hb1; have HN1 : Hid (NameIs e s1) := hn1; clear hb1 hn1)
        | (go_at_call 9; refine (rname_any e _).mono ?_; rintro r w2 ⟨s2, rfl, hn2, hb2⟩; have HB2 : Hid (Below w.heap.size w w2) := below_next HB1.out hb2; obtain rfl := HN1.out.one hn2; clear hb2 hn2))
      go_roundw
      case rel => exact ⟨e + 1, by omega, by omega, by go_num, HB2⟩
      case measure => simp [intOf]; omega
    · obtain rfl : e = 111 := by omega
      clear he h1 h2
      go_wp2
      go_loopw [5, 17] (fun _ vi wr => ∃ k : Nat, k ≤ l.length ∧ vi = .int .i64 k ∧ Hid (Below w.heap.size w wr)) (fun _ vi _ => l.length - (intOf vi).toNat)
      case atStart => exact ⟨0, by omega, rfl, HB⟩
      case round =>
        obtain ⟨k, hk, rfl, HB2⟩ := hrel
        clear HB
        by_cases hkl : k < l.length
        · obtain ⟨b, off, hab, hx⟩ : ∃ b off, a = some ⟨b, off, none⟩ ∧ wr.cell? ⟨b, off + k, none⟩ = some (.int .i64 (l.getD k 0)) := by
            rcases (HI.out.keep HB2.out).2 with h | ⟨b, off, ha, _, hc⟩
            · rw [h] at hkl; simp at hkl
            · exact ⟨b, off, ha, hc k hkl⟩
          subst hab
          obtain ⟨e, hee⟩ : ∃ e, l.getD k 0 = e := ⟨_, rfl⟩
          rw [hee] at hx
          clear hee
          go_wp2_with (first
            | (go_at_call 8; refine (name_any pa e _ (HS.out.keep HB2.out)).mono ?_; rintro r w1 ⟨s1, rfl, hn1, hb1⟩; have HB1 : Hid (Below w.heap.size w w1) := below_next HB2.out hb1; have HN1 : Hid (NameIs e s1) := hn1; clear hb1 hn1)
            | (go_at_call 9; refine (rname_any e _).mono ?_; rintro r w2 ⟨s2, rfl, hn2, hb2⟩; have HB3 : Hid (Below w.heap.size w w2) := below_next HB1.out hb2; obtain rfl := HN1.out.one hn2; clear hb2 hn2))
          go_roundw
          case rel => exact ⟨k + 1, by omega, by go_num, HB3⟩
          case measure => simp [intOf]; omega
        · obtain rfl : k = l.length := by omega
          go_wp2
          go_ret
          exact ⟨rfl, HB2.out⟩
theorem own : ownKnob Tryd.prog.godebug = none := by kernel_rfl
theorem laidOut : laidOutB Tryd.prog = true := by kernel_rfl
set_option maxRecDepth 100000 in
theorem contract (H : Type) (enc : TypeId × Value → H) (W : World) (base : Nat) (args : Array Value) (ds gs : List (DataW H)) (before : List MemPlace)
    (hval : ∀ (j : Nat) t v, Tryd.f3.params[j]? = some t → args[j]? = some v → Value.okWide Tryd.prog W .any base t v)
    (hW : DataW.Whole enc Tryd.prog Tryd.f3.params.toList Rows.faultNamesSpec.vars false W args.toList ds gs before)
    (hsz : (DataW.weightsEach Tryd.prog (Tryd.f3.params.toList ++ Rows.faultNamesSpec.plain.varTypes Tryd.prog) (ds ++ gs)).all (· ≤ reachBytes) = true) (hL : laidMetH Tryd.prog (laidOf sents) W) :
    Calls Tryd.prog 3 args W fun e W' => ∃ v, e = .returned v ∧ Rows.faultNamesSpec.post enc Tryd.prog Tryd.f3 false true false false W args v W' := by
  have hW' := hW
  obtain ⟨p, q, hA0, hV, rfl, hfz, hnd⟩ := hW
  have hA : DataW.TrodAll enc Tryd.prog W 0 (fun _ => true) true Tryd.f3.params.toList args.toList ds p := hA0
  rw [Tryd.params3] at hA hval hsz
  obtain ⟨v0, vs0, d0, ds0, p0, q0, hargs, rfl, rfl, h0, r0⟩ := trodAll_cons hA
  obtain ⟨rfl, rfl, rfl⟩ := trodAll_nil r0
  obtain rfl : args = #[v0] := by cases args; simp_all
  obtain ⟨rfl, rfl⟩ := trodVars_none hV
  obtain ⟨a0, len0, cap0, rfl⟩ := okWide_slice Tryd.underlying22 (hval 0 22 v0 rfl rfl)
  have k0 := h0
  have lt0 : ∀ x ∈ p0, x.block < W.heap.size := by obtain ⟨m, hm⟩ := k0; exact DataW.trod_lt m _ _ _ hm
  obtain ⟨l0, hlen0, w0, c0⟩ : ∃ l : List Int, l.length = len0 ∧ Ints W a0 l ∧ Came W a0 len0 cap0 8 := by
    obtain ⟨fuel, hf⟩ := h0
    rcases open_ints Tryd.underlying22 Tryd.underlying3 (by kernel_rfl) hf with ⟨hcs, hx⟩ | ⟨x, l, c, zs, hcs, _, hl, hm, hz, hx, hcell, hwz⟩
    · simp [Value.cells] at hcs
      obtain ⟨rfl, rfl, rfl⟩ := hcs
      exact ⟨[], rfl, ⟨by simp, .inl rfl⟩, ⟨Nat.le_refl _, by simp, fun _ => rfl⟩⟩
    · simp [Value.cells] at hcs
      obtain ⟨rfl, rfl, rfl⟩ := hcs
      have hz2 : zs.length = cap0 := by simpa using hz
      obtain ⟨ll, e1, e2, e3⟩ := row_ints W x zs len0 (by omega) hcell hwz
      have hd : d0 = .slice (lits .i64 (zs.take len0)) (lits .i64 (zs.drop len0)) := (Prod.mk.inj hx).1
      have hreach : cap0 * 8 ≤ 140737488351232 := by
        have := sized_slice hsz (j := 0) (t := 22) (e := 3) rfl (by rw [hd]; rfl) Tryd.underlying22
        rw [show Tryd.prog.bytesOf 3 = 8 from by kernel_rfl] at this
        simp only [lits, List.length_map, List.length_take, List.length_drop, reachBytes] at this
        have hmin : min len0 zs.length = len0 := Nat.min_eq_left (by omega)
        rw [hmin] at this
        have hcap : len0 + (zs.length - len0) = cap0 := by omega
        rw [hcap] at this
        exact this
      exact ⟨ll, e1, ⟨e2, e3⟩, ⟨hl, hreach, fun h => by cases h⟩⟩
  subst hlen0
  clear hA0
  refine (walk l0 a0 cap0 W w0 c0 (sen_of_row hL)).mono fun e W' ⟨he, bel⟩ => ?_
  subst he
  exact ⟨_, rfl, _, _, _, [], _, [], hW', trodAll_mk1 (shut_bool Tryd.underlying4 _), (trodAll_cons_mk (Below.trod laidOut (by kernel_rfl) (of_decide_eq_true (by kernel_rfl)) k0 bel lt0) trodAll_mk0), rfl, bel.frame _, fun h => by cases h⟩
set_option maxRecDepth 100000 in
theorem start (os : Os) : ∃ w0 : World, w0.os = os ∧ (w0.forCall (fun _ _ => 0) ⟨#[], #[.slice none 0 0], []⟩).variablesB Tryd.prog = true ∧
    ((w0.forCall (fun _ _ => 0) ⟨#[], #[.slice none 0 0], []⟩).heap.toList.drop Tryd.prog.globals.size).take ((begin Tryd.prog (fun _ _ => 0) default).world.heap.size - Tryd.prog.globals.size) = (begin Tryd.prog (fun _ _ => 0) default).world.heap.toList.drop Tryd.prog.globals.size ∧
    Input.okWideB Tryd.prog (w0.forCall (fun _ _ => 0) ⟨#[], #[.slice none 0 0], []⟩) 3 ⟨#[], #[.slice none 0 0], []⟩ = true ∧
    laidMet Tryd.prog Rows.faultNamesRow.laid (w0.forCall (fun _ _ => 0) ⟨#[], #[.slice none 0 0], []⟩).memory ∧
    ∀ (H : Type) (enc : TypeId × Value → H), DataW.whole enc Tryd.prog (w0.forCall (fun _ _ => 0) ⟨#[], #[.slice none 0 0], []⟩).memory Tryd.f3.params.toList Rows.faultNamesSpec.vars false (#[.slice none 0 0] : Array Value).toList 8 = some ([.nil], [], []) :=
  ⟨{ World.holding Tryd.prog os ⟨#[.cells #[.string ⟨#[97, 114, 103, 117, 109, 101, 110, 116]⟩] 61, .cells #[.string ⟨#[99, 108, 111, 115, 101, 100]⟩] 61, .cells #[.string ⟨#[112, 111, 119, 101, 114, 32, 111, 102, 102]⟩] 61, .cells #[.string ⟨#[99, 111, 114, 114, 117, 112, 116]⟩] 61, .cells #[.string ⟨#[101, 110, 100, 115, 32, 101, 97, 114, 108, 121]⟩] 61, .cells #[.string ⟨#[111, 118, 101, 114, 108, 111, 110, 103]⟩] 61, .cells #[.string ⟨#[116, 111, 111, 32, 119, 105, 100, 101]⟩] 61, .cells #[.string ⟨#[116, 97, 103]⟩] 61, .cells #[.string ⟨#[111, 114, 100, 101, 114, 32, 111, 102, 32, 116, 97, 103, 115]⟩] 61, .cells #[.string ⟨#[101, 109, 112, 116, 121, 32, 102, 105, 101, 108, 100]⟩] 61, .cells #[.string ⟨#[108, 111, 110, 103, 32, 116, 101, 120, 116]⟩] 61, .cells #[.string ⟨#[116, 111, 111, 32, 98, 105, 103]⟩] 61, .cells #[.string ⟨#[118, 101, 114, 115, 105, 111, 110]⟩] 61, .cells #[.string ⟨#[107, 105, 110, 100]⟩] 61, .cells #[.string ⟨#[102, 105, 101, 108, 100]⟩] 61, .cells #[.string ⟨#[102, 111, 114, 109]⟩] 61, .cells #[.string ⟨#[115, 116, 97, 116, 101]⟩] 61, .cells #[.string ⟨#[110, 97, 109, 101]⟩] 61, .cells #[.string ⟨#[110, 111, 32, 102, 105, 108, 101]⟩] 61, .cells #[.string ⟨#[101, 120, 105, 115, 116, 115]⟩] 61, .cells #[.string ⟨#[102, 105, 108, 101, 115]⟩] 61, .cells #[.string ⟨#[100, 105, 115, 107, 32, 102, 117, 108, 108]⟩] 61, .cells #[.string ⟨#[116, 111, 114, 110]⟩] 61, .cells #[.string ⟨#[109, 97, 114, 107]⟩] 61, .cells #[.string ⟨#[115, 117, 109]⟩] 61, .cells #[.string ⟨#[114, 97, 110, 103, 101]⟩] 61, .cells #[.string ⟨#[105, 110, 100, 101, 120]⟩] 61, .cells #[.string ⟨#[104, 101, 97, 100, 101, 114]⟩] 61, .cells #[.string ⟨#[115, 101, 97, 108, 101, 100]⟩] 61, .cells #[.string ⟨#[109, 105, 115, 115, 105, 110, 103]⟩] 61, .cells #[.string ⟨#[109, 97, 110, 105, 102, 101, 115, 116]⟩] 61, .cells #[.string ⟨#[98, 111, 111, 107]⟩] 61, .cells #[.string ⟨#[115, 101, 103, 109, 101, 110, 116, 115]⟩] 61, .cells #[.string ⟨#[110, 117, 109, 98, 101, 114, 115]⟩] 61, .cells #[.string ⟨#[115, 101, 113, 117, 101, 110, 99, 101]⟩] 61, .cells #[.string ⟨#[101, 109, 112, 116, 121]⟩] 61, .cells #[.string ⟨#[110, 111, 32, 115, 110, 97, 112, 115, 104, 111, 116]⟩] 61, .cells #[.string ⟨#[99, 111, 109, 112, 97, 99, 116, 101, 100]⟩] 61, .cells #[.string ⟨#[108, 105, 110, 101]⟩] 61, .cells #[.string ⟨#[119, 111, 114, 100]⟩] 61, .cells #[.string ⟨#[108, 105, 110, 101, 115]⟩] 61, .cells #[.string ⟨#[111, 117, 116, 112, 117, 116]⟩] 61], #[], []⟩ with heap := ((List.range 42).foldl (fun h i => h.modify i fun x => match x with | .cells _ t frozen => .cells #[.iface 59 (.pointer (some ⟨(World.holding Tryd.prog default ⟨#[], #[], []⟩).heap.size + i, 0, none⟩))] t frozen | o => o) (World.holding Tryd.prog os ⟨#[.cells #[.string ⟨#[97, 114, 103, 117, 109, 101, 110, 116]⟩] 61, .cells #[.string ⟨#[99, 108, 111, 115, 101, 100]⟩] 61, .cells #[.string ⟨#[112, 111, 119, 101, 114, 32, 111, 102, 102]⟩] 61, .cells #[.string ⟨#[99, 111, 114, 114, 117, 112, 116]⟩] 61, .cells #[.string ⟨#[101, 110, 100, 115, 32, 101, 97, 114, 108, 121]⟩] 61, .cells #[.string ⟨#[111, 118, 101, 114, 108, 111, 110, 103]⟩] 61, .cells #[.string ⟨#[116, 111, 111, 32, 119, 105, 100, 101]⟩] 61, .cells #[.string ⟨#[116, 97, 103]⟩] 61, .cells #[.string ⟨#[111, 114, 100, 101, 114, 32, 111, 102, 32, 116, 97, 103, 115]⟩] 61, .cells #[.string ⟨#[101, 109, 112, 116, 121, 32, 102, 105, 101, 108, 100]⟩] 61, .cells #[.string ⟨#[108, 111, 110, 103, 32, 116, 101, 120, 116]⟩] 61, .cells #[.string ⟨#[116, 111, 111, 32, 98, 105, 103]⟩] 61, .cells #[.string ⟨#[118, 101, 114, 115, 105, 111, 110]⟩] 61, .cells #[.string ⟨#[107, 105, 110, 100]⟩] 61, .cells #[.string ⟨#[102, 105, 101, 108, 100]⟩] 61, .cells #[.string ⟨#[102, 111, 114, 109]⟩] 61, .cells #[.string ⟨#[115, 116, 97, 116, 101]⟩] 61, .cells #[.string ⟨#[110, 97, 109, 101]⟩] 61, .cells #[.string ⟨#[110, 111, 32, 102, 105, 108, 101]⟩] 61, .cells #[.string ⟨#[101, 120, 105, 115, 116, 115]⟩] 61, .cells #[.string ⟨#[102, 105, 108, 101, 115]⟩] 61, .cells #[.string ⟨#[100, 105, 115, 107, 32, 102, 117, 108, 108]⟩] 61, .cells #[.string ⟨#[116, 111, 114, 110]⟩] 61, .cells #[.string ⟨#[109, 97, 114, 107]⟩] 61, .cells #[.string ⟨#[115, 117, 109]⟩] 61, .cells #[.string ⟨#[114, 97, 110, 103, 101]⟩] 61, .cells #[.string ⟨#[105, 110, 100, 101, 120]⟩] 61, .cells #[.string ⟨#[104, 101, 97, 100, 101, 114]⟩] 61, .cells #[.string ⟨#[115, 101, 97, 108, 101, 100]⟩] 61, .cells #[.string ⟨#[109, 105, 115, 115, 105, 110, 103]⟩] 61, .cells #[.string ⟨#[109, 97, 110, 105, 102, 101, 115, 116]⟩] 61, .cells #[.string ⟨#[98, 111, 111, 107]⟩] 61, .cells #[.string ⟨#[115, 101, 103, 109, 101, 110, 116, 115]⟩] 61, .cells #[.string ⟨#[110, 117, 109, 98, 101, 114, 115]⟩] 61, .cells #[.string ⟨#[115, 101, 113, 117, 101, 110, 99, 101]⟩] 61, .cells #[.string ⟨#[101, 109, 112, 116, 121]⟩] 61, .cells #[.string ⟨#[110, 111, 32, 115, 110, 97, 112, 115, 104, 111, 116]⟩] 61, .cells #[.string ⟨#[99, 111, 109, 112, 97, 99, 116, 101, 100]⟩] 61, .cells #[.string ⟨#[108, 105, 110, 101]⟩] 61, .cells #[.string ⟨#[119, 111, 114, 100]⟩] 61, .cells #[.string ⟨#[108, 105, 110, 101, 115]⟩] 61, .cells #[.string ⟨#[111, 117, 116, 112, 117, 116]⟩] 61], #[], []⟩).heap) }, rfl, by kernel_rfl, by kernel_rfl, by kernel_rfl, laidMet_of_run' 8 (by kernel_rfl) (by kernel_rfl), fun _ _ => by kernel_rfl⟩
set_option maxRecDepth 100000 in
theorem lifted (os : Os) (started : os.Started) (H : Type) (enc : TypeId × Value → H) (F : Stop.Interp) :
    ReturnsInHanded {} Tryd.checked os 3 .any ((OpenSpec.ofChange Rows.faultNamesSpec).preRow enc Tryd.prog Tryd.f3 Rows.faultNamesRow.domain false Rows.faultNamesRow.laid) (((OpenSpec.ofChange Rows.faultNamesSpec).at F).post enc Tryd.prog Tryd.f3 false true false false) := by
  obtain ⟨w0, h1, h2, h3, h4, h5, h6⟩ := start os
  refine returnsInHanded_of_row (C := Tryd.checked) (s := OpenSpec.ofChange Rows.faultNamesSpec) own started (by kernel_rfl) Tryd.func3
    (witness_row_at (enc := enc) (C := Tryd.checked) false w0 #[.slice none 0 0] h1 h2 h3 h4
      (OpenSpec.preRow_of_cond 8 (h6 H enc) (by kernel_rfl) (fun k hk => by cases hk) (by kernel_rfl) h5)) ?_
  intro W base args ds gs before hval hW _ hcond hsz hL _ _
  exact contract H enc W base args ds gs before hval hW hsz hL
theorem said : Rows.FaultNamesSaid :=
  OpenClaim.holds_of_cond 3 Tryd.f3 rfl rfl rfl rfl rfl rfl rfl ⟨rfl, rfl, rfl, rfl, rfl⟩ rfl rfl rfl rfl rfl (by kernel_rfl) Tryd.func3 (by kernel_rfl)
    (of_decide_eq_true (by kernel_rfl)) (by unfold Func.isWrapper; first | (rw [if_pos (by decide +kernel)]; kernel_rfl) | (rw [if_neg (by decide +kernel)]; exact ⟨rfl, rfl⟩))
    (fun os started H enc _ F => by rw [OpenClaim.pre_eq_preRow]; exact lifted os started H enc F)
theorem plain (f : FuncId) (fn : Func) (hf : Tryd.pinned.checked.prog.funcNamed "daybook/daybooklaw01.FaultNames" = some f) (hfn : Tryd.pinned.checked.prog.funcs[f]? = some fn) :
    true = Tryd.pinned.checked.prog.looks [] ∧ ∀ (j : Nat) t, fn.params[j]? = some t → Tryd.pinned.checked.prog.wantsStandIn t = false := by
  obtain rfl : f = 3 := Option.some.inj ((show Tryd.prog.funcNamed "daybook/daybooklaw01.FaultNames" = some 3 by kernel_rfl).symm.trans hf) |>.symm
  obtain rfl : fn = Tryd.f3 := (Option.some.inj (Tryd.func3.symm.trans hfn)).symm
  refine ⟨by kernel_rfl, fun j t ht => ?_⟩
  rw [Tryd.params3] at ht
  have hm := Array.mem_of_getElem? ht
  have hall : ∀ t ∈ (#[22] : Array TypeId), Tryd.prog.wantsStandIn t = false := by
    intro t ht
    simp only [List.mem_toArray, List.mem_cons, List.not_mem_nil, or_false] at ht
    rcases ht with rfl <;> kernel_rfl
  exact hall t hm
theorem card : Rows.FaultNamesCardSaid :=
  Claim7.holds_tied_plain_at .later [] _ _ _ _ said (fun _ h => by cases h) (by kernel_rfl) (fun _ h => by cases h) faultNames_row_tie rfl ⟨rfl, rfl⟩ (by kernel_rfl) rfl plain (by kernel_rfl)
end Go.Proofs.YtpjcmfoamdiohaaDoor.faultNames
