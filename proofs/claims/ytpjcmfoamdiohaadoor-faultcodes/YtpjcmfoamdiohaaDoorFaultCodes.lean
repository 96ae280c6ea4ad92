/- For every list of operations, operation, text of an error of another make, place and number: the number comes back, around any operations; OK is nil's; a foreign error has ErrArg. No condition. -/
import Derived.Test.YtpjcmfoamdiohaaDoorSenTie
import Derived.Test.YtpjcmfoamdiohaaDoorFltD
import Derived.Test.YtpjcmfoamdiohaaDoorIntsA
import Derived.SizedLaws
import Derived.ChangeOld
import Derived.ChangeMaps5
import Derived.Deep.RegionWith
namespace Go.Proofs.YtpjcmfoamdiohaaDoor.faultCodes
open Go.ChangeShapes Go.WideShapes Go.ChangeAt Go.RowKit
set_option linter.unusedVariables false
theorem pa_lt {pa : Nat → Addr} {w : World} (hs : Sen w pa) (k : Nat) (hk : k < 42) : (pa k).block < w.heap.size := by
  obtain ⟨c, t, h⟩ := hs.blk k hk
  by_cases hh : (pa k).block < w.heap.size
  · exact hh
  · rw [Array.getElem?_eq_none (by omega)] at h; cases h
set_option maxRecDepth 100000 in
set_option maxHeartbeats 4000000 in
theorem walk (ops : List ByteArray) (a : Option Addr) (cap : Nat) (op own : ByteArray) (at0 e : Int) (w : World) (hb : Strs w a ops) (hc : Came w a ops.length cap 16) (wop : op.size ≤ maxLen) (wown : own.size ≤ maxLen) (w2 : (Lit.int .i64 at0).wf = true) (w3 : (Lit.int .i64 e).wf = true) (hs : ∃ pa, Sen w pa) :
    Calls Tryd.prog 6 #[.slice a ops.length cap, .string op, .string own, .int .i64 at0, .int .i64 e] w fun r w' => r = .returned (.bool true) ∧ Below w.heap.size w w' := by
  obtain ⟨pa, hs⟩ := hs
  have HS : Hid (Sen w pa) := hs
  have HO : Hid (Strs w a ops) := hb
  have hl : (ops.length : Int) ≤ 140737488351232 := by have h1 := hc.1; have h2 := hc.2; omega
  have T1 : Hid True := trivial
  clear hs w2 w3 wop wown hb hc
  go_enter Tryd.func6, Tryd.ntmps6
  go_wp2_with (first
    | (go_at_call 16; refine (head01_any pa w HS.out).mono ?_; rintro r w1 ⟨rfl, hb1⟩; have HB1 : Hid (Below w.heap.size w w1) := hb1; clear hb1)
    | (go_at_call 17; clear T1; refine (code_nil _).mono ?_; rintro r w2 ⟨rfl, rfl⟩)
    | (go_at_call 18; refine (enew_any own _).mono ?_; rintro r w3 ⟨rfl, hrow3, hb3⟩; have HB3 : Hid (Below w.heap.size w w3) := below_nx HB1.out hb3; have HR3 : Hid (∃ c t, w3.heap[w1.heap.size]? = some (.cells c t (0, 0))) := hrow3; clear hb3 hrow3)
    | (go_at_call 17; refine (code_other pa w1.heap.size _ (HS.out.keep HB3.out) (fun k hk => Nat.ne_of_lt (Nat.lt_of_lt_of_le (pa_lt HS.out k hk) HB1.out.size)) HR3.out).mono ?_; rintro r w4 ⟨rfl, hb4⟩; have HB4 : Hid (Below w.heap.size w w4) := below_nx HB3.out hb4; clear hb4)
    | (go_at_call 11; refine (new_er pa op at0 e _ (HS.out.keep HB4.out)).mono ?_; rintro r w5 ⟨v5, rfl, her, hb5⟩; have HB5 : Hid (Below w.heap.size w w5) := below_nx HB4.out hb5; have HE5 : Hid (Er pa e w5 [op] v5) := her; clear hb5 her))
  go_loopw [11, 12] (fun ve vi wr => ∃ j : Nat, j ≤ ops.length ∧ vi = .int .i64 ((j : Int) - 1) ∧ Hid (Er pa e wr (ops.drop j ++ [op]) ve ∧ Below w.heap.size w wr)) (fun _ vi _ => (intOf vi + 1).toNat)
  case atStart => exact ⟨ops.length, Nat.le_refl _, rfl, by rw [List.drop_length]; exact HE5.out, HB5.out⟩
  case round =>
    obtain ⟨j, hj, rfl, HI⟩ := hrel
    clear HE5 HB5
    cases j with
    | succ J =>
      have hJ : ((J + 1 : Nat) : Int) - 1 = (J : Int) := by omega
      have hJl : (J : Int) < (ops.length : Int) := by omega
      rw [hJ]
      obtain ⟨b, off, hab, hx⟩ : ∃ b off, a = some ⟨b, off, none⟩ ∧ wr.cell? ⟨b, off + J, none⟩ = some (.string (ops.getD J ByteArray.empty)) := by
        rcases (HO.out.keep HI.out.2).2 with h | ⟨b, off, ha, _, hc⟩
        · rw [h] at hj; simp at hj
        · exact ⟨b, off, ha, hc J (by omega)⟩
      subst hab
      obtain ⟨o, ho⟩ : ∃ o, ops.getD J ByteArray.empty = o := ⟨_, rfl⟩
      have HNX : Hid (ops.drop J ++ [op] = o :: (ops.drop (J + 1) ++ [op])) := by show _ = _; rw [drop_str ops J (by omega), ho]; rfl
      rw [ho] at hx
      clear ho hJ
      go_wp2_with (go_at_call 14; refine (wrap_er pa e o _ _ _ HI.out.1).mono ?_; rintro r w7 ⟨v7, rfl, her, hb7⟩; have HE7 : Hid (Er pa e w7 (ops.drop J ++ [op]) v7 ∧ Below w.heap.size w w7) := (by rw [HNX.out]; exact ⟨her, below_nx HI.out.2 hb7⟩); clear her hb7)
      go_roundw
      case rel => exact ⟨J, by omega, by go_num, HE7⟩
      case measure => simp [intOf]; try omega
    | zero =>
      have HE8 : Hid (Er pa e wr (ops ++ [op]) u11) := by have h := HI.out.1; rw [List.drop_zero] at h; exact h
      have HB8 : Hid (Below w.heap.size w wr) := HI.out.2
      have T2 : Hid True := trivial
      clear HI hj
      rcases er_form HE8.out with ⟨b8, rfl⟩ | rfl
      · go_wp2_with (first
          | (go_at_call 13; refine (rknown_any e _).mono ?_; rintro r w9 ⟨kb, rfl, hkn, hb9⟩; have HB9 : Hid (Below w.heap.size w w9) := below_nx HB8.out hb9; have HE9 : Hid (Er pa e w9 (ops ++ [op]) (fltV b8)) := HE8.out.keep hb9; (obtain rfl := er_flt HE8.out hkn); clear hb9 hkn)
          | (go_at_call 17; clear T2; obtain ⟨k, hk, hke, hch⟩ := er_chain HE9.out; refine (code_sen pa k hk _ _ _ (HS.out.keep HB9.out) hch).mono ?_; rw [hke]; rintro r w10 ⟨rfl, hb10⟩; have HB10 : Hid (Below w.heap.size w w10) := below_nx HB9.out hb10; have HK : Hid (k < 42 ∧ numS k = e) := ⟨hk, hke⟩; clear hb10 hk hke hch)
          | (go_at_call 12; refine (sentinel_any pa e _ (HS.out.keep HB10.out)).mono ?_; rintro r w11 ⟨hr, hb11⟩; have HB11 : Hid (Below w.heap.size w w11) := below_nx HB10.out hb11; clear hb11; rcases hr with ⟨m, hm, hmf, rfl⟩ | ⟨hno, rfl⟩; (have HM : Hid (m < 42 ∧ numS m = e) := ⟨hm, hmf⟩; clear hm hmf); rotate_left; exact absurd HK.out.2 (hno k HK.out.1))
          | (go_at_call 17; refine (code_sen pa m HM.out.1 [] _ _ (HS.out.keep HB11.out) rfl).mono ?_; rw [HM.out.2]; rintro r w12 ⟨rfl, hb12⟩; have HB12 : Hid (Below w.heap.size w w12) := below_nx HB11.out hb12; clear hb12))
        go_ret
        exact ⟨rfl, HB12.out⟩
      · go_wp2_with (first
          | (go_at_call 13; refine (rknown_any e _).mono ?_; rintro r w9 ⟨kb, rfl, hkn, hb9⟩; have HB9 : Hid (Below w.heap.size w w9) := below_nx HB8.out hb9; have HKN : Hid (KnownIs e kb) := hkn; (obtain rfl := er_nil HE8.out hkn); clear hb9 hkn)
          | (go_at_call 17; refine (code_nil _).mono ?_; rintro r w10 ⟨rfl, rfl⟩)
          | (go_at_call 12; refine (sentinel_any pa e _ (HS.out.keep HB9.out)).mono ?_; rintro r w11 ⟨hr, hb11⟩; have HB11 : Hid (Below w.heap.size w w11) := below_nx HB9.out hb11; clear hb11; rcases hr with ⟨m, hm, hmf, rfl⟩ | ⟨hno, rfl⟩; (rcases HKN.out with ⟨h, _⟩ | ⟨_, h⟩; cases h; exact absurd hmf (h m hm))))
        go_ret
        exact ⟨rfl, HB11.out⟩
theorem own : ownKnob Tryd.prog.godebug = none := by kernel_rfl
theorem laidOut : laidOutB Tryd.prog = true := by kernel_rfl
set_option maxRecDepth 100000 in
theorem contract (H : Type) (enc : TypeId × Value → H) (W : World) (base : Nat) (args : Array Value) (ds gs : List (DataW H)) (before : List MemPlace)
    (hval : ∀ (j : Nat) t v, Tryd.f6.params[j]? = some t → args[j]? = some v → Value.okWide Tryd.prog W .any base t v)
    (hW : DataW.Whole enc Tryd.prog Tryd.f6.params.toList Rows.faultCodesSpec.vars false W args.toList ds gs before)
    (hsz : (DataW.weightsEach Tryd.prog (Tryd.f6.params.toList ++ Rows.faultCodesSpec.plain.varTypes Tryd.prog) (ds ++ gs)).all (· ≤ reachBytes) = true) (hL : laidMetH Tryd.prog (laidOf sents) W) :
    Calls Tryd.prog 6 args W fun e W' => ∃ v, e = .returned v ∧ Rows.faultCodesSpec.post enc Tryd.prog Tryd.f6 false true false false W args v W' := by
  have hW' := hW
  obtain ⟨p, q, hA0, hV, rfl, hfz, hnd⟩ := hW
  have hA : DataW.TrodAll enc Tryd.prog W 0 (fun _ => true) true Tryd.f6.params.toList args.toList ds p := hA0
  rw [Tryd.params6] at hA hval hsz
  obtain ⟨v0, vs0, d0, ds0, p0, q0, hargs, rfl, rfl, h0, r0⟩ := trodAll_cons hA
  obtain ⟨v1, vs1, d1, ds1, p1, q1, rfl, rfl, rfl, h1, r1⟩ := trodAll_cons r0
  obtain ⟨v2, vs2, d2, ds2, p2, q2, rfl, rfl, rfl, h2, r2⟩ := trodAll_cons r1
  obtain ⟨v3, vs3, d3, ds3, p3, q3, rfl, rfl, rfl, h3, r3⟩ := trodAll_cons r2
  obtain ⟨v4, vs4, d4, ds4, p4, q4, rfl, rfl, rfl, h4, r4⟩ := trodAll_cons r3
  obtain ⟨rfl, rfl, rfl⟩ := trodAll_nil r4
  obtain rfl : args = #[v0, v1, v2, v3, v4] := by cases args; simp_all
  obtain ⟨rfl, rfl⟩ := trodVars_none hV
  obtain ⟨a0, len0, cap0, rfl⟩ := okWide_slice Tryd.underlying27 (hval 0 27 v0 rfl rfl)
  have k0 := h0
  have lt0 : ∀ x ∈ p0, x.block < W.heap.size := by obtain ⟨m, hm⟩ := k0; exact DataW.trod_lt m _ _ _ hm
  obtain ⟨l0, hlen0, w0, c0⟩ : ∃ l : List ByteArray, l.length = len0 ∧ Strs W a0 l ∧ Came W a0 len0 cap0 16 := by
    obtain ⟨fuel, hf⟩ := h0
    rcases open_strings Tryd.underlying27 Tryd.underlying9 (by kernel_rfl) hf with ⟨hcs, hx⟩ | ⟨x, l, c, zs, hcs, _, hl, hm, hz, hx, hcell, hwz⟩
    · simp [Value.cells] at hcs
      obtain ⟨rfl, rfl, rfl⟩ := hcs
      exact ⟨[], rfl, ⟨by simp, .inl rfl⟩, ⟨Nat.le_refl _, by simp, fun _ => rfl⟩⟩
    · simp [Value.cells] at hcs
      obtain ⟨rfl, rfl, rfl⟩ := hcs
      have hz2 : zs.length = cap0 := by simpa using hz
      obtain ⟨ll, e1, e2, e3⟩ := row_strs W x zs len0 (by omega) hcell hwz
      have hd : d0 = .slice (strs (zs.take len0)) (strs (zs.drop len0)) := (Prod.mk.inj hx).1
      have hreach : cap0 * 16 ≤ 140737488351232 := by
        have := sized_slice hsz (j := 0) (t := 27) (e := 9) rfl (by rw [hd]; rfl) Tryd.underlying27
        rw [show Tryd.prog.bytesOf 9 = 16 from by kernel_rfl] at this
        simp only [strs, List.length_map, List.length_take, List.length_drop, reachBytes] at this
        have hmin : min len0 zs.length = len0 := Nat.min_eq_left (by omega)
        rw [hmin] at this
        have hcap : len0 + (zs.length - len0) = cap0 := by omega
        rw [hcap] at this
        exact this
      exact ⟨ll, e1, ⟨e2, e3⟩, ⟨hl, hreach, fun h => by cases h⟩⟩
  subst hlen0
  obtain ⟨a1, rfl, rfl, rfl, w1⟩ := Go.ChangeMaps.open_string Tryd.underlying9 (hval 1 9 v1 rfl rfl) h1
  obtain ⟨a2, rfl, rfl, rfl, w2⟩ := Go.ChangeMaps.open_string Tryd.underlying9 (hval 2 9 v2 rfl rfl) h2
  obtain ⟨a3, rfl, rfl, rfl, w3⟩ := open_int Tryd.underlying3 (hval 3 3 v3 rfl rfl) h3
  obtain ⟨a4, rfl, rfl, rfl, w4⟩ := open_int Tryd.underlying3 (hval 4 3 v4 rfl rfl) h4
  clear hA0
  refine (walk l0 a0 cap0 a1 a2 a3 a4 W w0 c0 w1 w2 w3 w4 (sen_of_row hL)).mono fun e W' ⟨he, bel⟩ => ?_
  subst he
  exact ⟨_, rfl, _, _, _, [], _, [], hW', trodAll_mk1 (shut_bool Tryd.underlying4 _), (trodAll_cons_mk (Below.trod laidOut (by kernel_rfl) (of_decide_eq_true (by kernel_rfl)) k0 bel lt0) (trodAll_cons_mk (Go.ChangeMaps.shut_string Tryd.underlying9 w1) (trodAll_cons_mk (Go.ChangeMaps.shut_string Tryd.underlying9 w2) (trodAll_cons_mk (shut_int Tryd.underlying3 w3) (trodAll_cons_mk (shut_int Tryd.underlying3 w4) trodAll_mk0))))), rfl, bel.frame _, fun h => by cases h⟩
set_option maxRecDepth 100000 in
theorem start (os : Os) : ∃ w0 : World, w0.os = os ∧ (w0.forCall (fun _ _ => 0) ⟨#[], #[.slice none 0 0, .string ⟨#[]⟩, .string ⟨#[]⟩, .int .i64 0, .int .i64 0], []⟩).variablesB Tryd.prog = true ∧
    ((w0.forCall (fun _ _ => 0) ⟨#[], #[.slice none 0 0, .string ⟨#[]⟩, .string ⟨#[]⟩, .int .i64 0, .int .i64 0], []⟩).heap.toList.drop Tryd.prog.globals.size).take ((begin Tryd.prog (fun _ _ => 0) default).world.heap.size - Tryd.prog.globals.size) = (begin Tryd.prog (fun _ _ => 0) default).world.heap.toList.drop Tryd.prog.globals.size ∧
    Input.okWideB Tryd.prog (w0.forCall (fun _ _ => 0) ⟨#[], #[.slice none 0 0, .string ⟨#[]⟩, .string ⟨#[]⟩, .int .i64 0, .int .i64 0], []⟩) 6 ⟨#[], #[.slice none 0 0, .string ⟨#[]⟩, .string ⟨#[]⟩, .int .i64 0, .int .i64 0], []⟩ = true ∧
    laidMet Tryd.prog Rows.faultCodesRow.laid (w0.forCall (fun _ _ => 0) ⟨#[], #[.slice none 0 0, .string ⟨#[]⟩, .string ⟨#[]⟩, .int .i64 0, .int .i64 0], []⟩).memory ∧
    ∀ (H : Type) (enc : TypeId × Value → H), DataW.whole enc Tryd.prog (w0.forCall (fun _ _ => 0) ⟨#[], #[.slice none 0 0, .string ⟨#[]⟩, .string ⟨#[]⟩, .int .i64 0, .int .i64 0], []⟩).memory Tryd.f6.params.toList Rows.faultCodesSpec.vars false (#[.slice none 0 0, .string ⟨#[]⟩, .string ⟨#[]⟩, .int .i64 0, .int .i64 0] : Array Value).toList 8 = some ([.nil, .lit (.string []), .lit (.string []), .lit (.int .i64 0), .lit (.int .i64 0)], [], []) :=
  ⟨{ World.holding Tryd.prog os ⟨#[.cells #[.string ⟨#[97, 114, 103, 117, 109, 101, 110, 116]⟩] 61, .cells #[.string ⟨#[99, 108, 111, 115, 101, 100]⟩] 61, .cells #[.string ⟨#[112, 111, 119, 101, 114, 32, 111, 102, 102]⟩] 61, .cells #[.string ⟨#[99, 111, 114, 114, 117, 112, 116]⟩] 61, .cells #[.string ⟨#[101, 110, 100, 115, 32, 101, 97, 114, 108, 121]⟩] 61, .cells #[.string ⟨#[111, 118, 101, 114, 108, 111, 110, 103]⟩] 61, .cells #[.string ⟨#[116, 111, 111, 32, 119, 105, 100, 101]⟩] 61, .cells #[.string ⟨#[116, 97, 103]⟩] 61, .cells #[.string ⟨#[111, 114, 100, 101, 114, 32, 111, 102, 32, 116, 97, 103, 115]⟩] 61, .cells #[.string ⟨#[101, 109, 112, 116, 121, 32, 102, 105, 101, 108, 100]⟩] 61, .cells #[.string ⟨#[108, 111, 110, 103, 32, 116, 101, 120, 116]⟩] 61, .cells #[.string ⟨#[116, 111, 111, 32, 98, 105, 103]⟩] 61, .cells #[.string ⟨#[118, 101, 114, 115, 105, 111, 110]⟩] 61, .cells #[.string ⟨#[107, 105, 110, 100]⟩] 61, .cells #[.string ⟨#[102, 105, 101, 108, 100]⟩] 61, .cells #[.string ⟨#[102, 111, 114, 109]⟩] 61, .cells #[.string ⟨#[115, 116, 97, 116, 101]⟩] 61, .cells #[.string ⟨#[110, 97, 109, 101]⟩] 61, .cells #[.string ⟨#[110, 111, 32, 102, 105, 108, 101]⟩] 61, .cells #[.string ⟨#[101, 120, 105, 115, 116, 115]⟩] 61, .cells #[.string ⟨#[102, 105, 108, 101, 115]⟩] 61, .cells #[.string ⟨#[100, 105, 115, 107, 32, 102, 117, 108, 108]⟩] 61, .cells #[.string ⟨#[116, 111, 114, 110]⟩] 61, .cells #[.string ⟨#[109, 97, 114, 107]⟩] 61, .cells #[.string ⟨#[115, 117, 109]⟩] 61, .cells #[.string ⟨#[114, 97, 110, 103, 101]⟩] 61, .cells #[.string ⟨#[105, 110, 100, 101, 120]⟩] 61, .cells #[.string ⟨#[104, 101, 97, 100, 101, 114]⟩] 61, .cells #[.string ⟨#[115, 101, 97, 108, 101, 100]⟩] 61, .cells #[.string ⟨#[109, 105, 115, 115, 105, 110, 103]⟩] 61, .cells #[.string ⟨#[109, 97, 110, 105, 102, 101, 115, 116]⟩] 61, .cells #[.string ⟨#[98, 111, 111, 107]⟩] 61, .cells #[.string ⟨#[115, 101, 103, 109, 101, 110, 116, 115]⟩] 61, .cells #[.string ⟨#[110, 117, 109, 98, 101, 114, 115]⟩] 61, .cells #[.string ⟨#[115, 101, 113, 117, 101, 110, 99, 101]⟩] 61, .cells #[.string ⟨#[101, 109, 112, 116, 121]⟩] 61, .cells #[.string ⟨#[110, 111, 32, 115, 110, 97, 112, 115, 104, 111, 116]⟩] 61, .cells #[.string ⟨#[99, 111, 109, 112, 97, 99, 116, 101, 100]⟩] 61, .cells #[.string ⟨#[108, 105, 110, 101]⟩] 61, .cells #[.string ⟨#[119, 111, 114, 100]⟩] 61, .cells #[.string ⟨#[108, 105, 110, 101, 115]⟩] 61, .cells #[.string ⟨#[111, 117, 116, 112, 117, 116]⟩] 61], #[], []⟩ with heap := ((List.range 42).foldl (fun h i => h.modify i fun x => match x with | .cells _ t frozen => .cells #[.iface 59 (.pointer (some ⟨(World.holding Tryd.prog default ⟨#[], #[], []⟩).heap.size + i, 0, none⟩))] t frozen | o => o) (World.holding Tryd.prog os ⟨#[.cells #[.string ⟨#[97, 114, 103, 117, 109, 101, 110, 116]⟩] 61, .cells #[.string ⟨#[99, 108, 111, 115, 101, 100]⟩] 61, .cells #[.string ⟨#[112, 111, 119, 101, 114, 32, 111, 102, 102]⟩] 61, .cells #[.string ⟨#[99, 111, 114, 114, 117, 112, 116]⟩] 61, .cells #[.string ⟨#[101, 110, 100, 115, 32, 101, 97, 114, 108, 121]⟩] 61, .cells #[.string ⟨#[111, 118, 101, 114, 108, 111, 110, 103]⟩] 61, .cells #[.string ⟨#[116, 111, 111, 32, 119, 105, 100, 101]⟩] 61, .cells #[.string ⟨#[116, 97, 103]⟩] 61, .cells #[.string ⟨#[111, 114, 100, 101, 114, 32, 111, 102, 32, 116, 97, 103, 115]⟩] 61, .cells #[.string ⟨#[101, 109, 112, 116, 121, 32, 102, 105, 101, 108, 100]⟩] 61, .cells #[.string ⟨#[108, 111, 110, 103, 32, 116, 101, 120, 116]⟩] 61, .cells #[.string ⟨#[116, 111, 111, 32, 98, 105, 103]⟩] 61, .cells #[.string ⟨#[118, 101, 114, 115, 105, 111, 110]⟩] 61, .cells #[.string ⟨#[107, 105, 110, 100]⟩] 61, .cells #[.string ⟨#[102, 105, 101, 108, 100]⟩] 61, .cells #[.string ⟨#[102, 111, 114, 109]⟩] 61, .cells #[.string ⟨#[115, 116, 97, 116, 101]⟩] 61, .cells #[.string ⟨#[110, 97, 109, 101]⟩] 61, .cells #[.string ⟨#[110, 111, 32, 102, 105, 108, 101]⟩] 61, .cells #[.string ⟨#[101, 120, 105, 115, 116, 115]⟩] 61, .cells #[.string ⟨#[102, 105, 108, 101, 115]⟩] 61, .cells #[.string ⟨#[100, 105, 115, 107, 32, 102, 117, 108, 108]⟩] 61, .cells #[.string ⟨#[116, 111, 114, 110]⟩] 61, .cells #[.string ⟨#[109, 97, 114, 107]⟩] 61, .cells #[.string ⟨#[115, 117, 109]⟩] 61, .cells #[.string ⟨#[114, 97, 110, 103, 101]⟩] 61, .cells #[.string ⟨#[105, 110, 100, 101, 120]⟩] 61, .cells #[.string ⟨#[104, 101, 97, 100, 101, 114]⟩] 61, .cells #[.string ⟨#[115, 101, 97, 108, 101, 100]⟩] 61, .cells #[.string ⟨#[109, 105, 115, 115, 105, 110, 103]⟩] 61, .cells #[.string ⟨#[109, 97, 110, 105, 102, 101, 115, 116]⟩] 61, .cells #[.string ⟨#[98, 111, 111, 107]⟩] 61, .cells #[.string ⟨#[115, 101, 103, 109, 101, 110, 116, 115]⟩] 61, .cells #[.string ⟨#[110, 117, 109, 98, 101, 114, 115]⟩] 61, .cells #[.string ⟨#[115, 101, 113, 117, 101, 110, 99, 101]⟩] 61, .cells #[.string ⟨#[101, 109, 112, 116, 121]⟩] 61, .cells #[.string ⟨#[110, 111, 32, 115, 110, 97, 112, 115, 104, 111, 116]⟩] 61, .cells #[.string ⟨#[99, 111, 109, 112, 97, 99, 116, 101, 100]⟩] 61, .cells #[.string ⟨#[108, 105, 110, 101]⟩] 61, .cells #[.string ⟨#[119, 111, 114, 100]⟩] 61, .cells #[.string ⟨#[108, 105, 110, 101, 115]⟩] 61, .cells #[.string ⟨#[111, 117, 116, 112, 117, 116]⟩] 61], #[], []⟩).heap) }, rfl, by kernel_rfl, by kernel_rfl, by kernel_rfl, laidMet_of_run' 8 (by kernel_rfl) (by kernel_rfl), fun _ _ => by kernel_rfl⟩
set_option maxRecDepth 100000 in
theorem lifted (os : Os) (started : os.Started) (H : Type) (enc : TypeId × Value → H) (F : Stop.Interp) :
    ReturnsInHanded {} Tryd.checked os 6 .any ((OpenSpec.ofChange Rows.faultCodesSpec).preRow enc Tryd.prog Tryd.f6 Rows.faultCodesRow.domain false Rows.faultCodesRow.laid) (((OpenSpec.ofChange Rows.faultCodesSpec).at F).post enc Tryd.prog Tryd.f6 false true false false) := by
  obtain ⟨w0, h1, h2, h3, h4, h5, h6⟩ := start os
  refine returnsInHanded_of_row (C := Tryd.checked) (s := OpenSpec.ofChange Rows.faultCodesSpec) own started (by kernel_rfl) Tryd.func6
    (witness_row_at (enc := enc) (C := Tryd.checked) false w0 #[.slice none 0 0, .string ⟨#[]⟩, .string ⟨#[]⟩, .int .i64 0, .int .i64 0] h1 h2 h3 h4
      (OpenSpec.preRow_of_cond 8 (h6 H enc) (by kernel_rfl) (fun k hk => by cases hk) (by kernel_rfl) h5)) ?_
  intro W base args ds gs before hval hW _ hcond hsz hL _ _
  exact contract H enc W base args ds gs before hval hW hsz hL
theorem said : Rows.FaultCodesSaid :=
  OpenClaim.holds_of_cond 6 Tryd.f6 rfl rfl rfl rfl rfl rfl rfl ⟨rfl, rfl, rfl, rfl, rfl⟩ rfl rfl rfl rfl rfl (by kernel_rfl) Tryd.func6 (by kernel_rfl)
    (of_decide_eq_true (by kernel_rfl)) (by unfold Func.isWrapper; first | (rw [if_pos (by decide +kernel)]; kernel_rfl) | (rw [if_neg (by decide +kernel)]; exact ⟨rfl, rfl⟩))
    (fun os started H enc _ F => by rw [OpenClaim.pre_eq_preRow]; exact lifted os started H enc F)
theorem plain (f : FuncId) (fn : Func) (hf : Tryd.pinned.checked.prog.funcNamed "daybook/daybooklaw01.FaultCodes" = some f) (hfn : Tryd.pinned.checked.prog.funcs[f]? = some fn) :
    true = Tryd.pinned.checked.prog.looks [] ∧ ∀ (j : Nat) t, fn.params[j]? = some t → Tryd.pinned.checked.prog.wantsStandIn t = false := by
  obtain rfl : f = 6 := Option.some.inj ((show Tryd.prog.funcNamed "daybook/daybooklaw01.FaultCodes" = some 6 by kernel_rfl).symm.trans hf) |>.symm
  obtain rfl : fn = Tryd.f6 := (Option.some.inj (Tryd.func6.symm.trans hfn)).symm
  refine ⟨by kernel_rfl, fun j t ht => ?_⟩
  rw [Tryd.params6] at ht
  have hm := Array.mem_of_getElem? ht
  have hall : ∀ t ∈ (#[27, 9, 9, 3, 3] : Array TypeId), Tryd.prog.wantsStandIn t = false := by
    intro t ht
    simp only [List.mem_toArray, List.mem_cons, List.not_mem_nil, or_false] at ht
    rcases ht with rfl | rfl | rfl | rfl | rfl <;> kernel_rfl
  exact hall t hm
theorem card : Rows.FaultCodesCardSaid :=
  Claim7.holds_tied_plain_at .later [] _ _ _ _ said (fun _ h => by cases h) (by kernel_rfl) (fun _ h => by cases h) faultCodes_row_tie rfl ⟨rfl, rfl⟩ (by kernel_rfl) rfl plain (by kernel_rfl)
end Go.Proofs.YtpjcmfoamdiohaaDoor.faultCodes
