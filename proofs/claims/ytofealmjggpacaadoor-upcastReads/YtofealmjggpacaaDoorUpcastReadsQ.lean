/- Read answers as the reference does, and the bytes stay as they were: for every text. -/
import Derived.Test.YtofealmjggpacaaDoorJ46
import Derived.Test.YtofealmjggpacaaDoorJ05
import Derived.Test.YtofealmjggpacaaDoorJ32
import Derived.SizedLaws
import Derived.ChangeOld
namespace Go.Proofs.YtofealmjggpacaaDoor.upcastReads
open Go.ChangeShapes Go.WideShapes Go.ChangeAt Go.RowKit
set_option linter.unusedVariables false
def plE : Ev := ⟨1, 9, 0, 0, 0, 0, 0, ⟨#[]⟩, 0, ⟨#[]⟩⟩
theorem pl_ok : chk 5 plE = 0 := chk_of ⟨by decide, by decide, by decide, by decide, by decide, by decide, by decide, by decide, by decide, by decide, by decide, by decide, by decide, by decide, by decide, by decide, by decide, by decide, by decide, by decide, by decide, .inr rfl, .inr rfl, .inr nilB_nil, .inr ⟨rfl, nilB_nil⟩⟩
theorem pl_sdec : sdec 5 [2, 1, 4, 9] = (plE, 0) := by
  have h1 : recs [2, 1, 4, 9] = ([⟨1, false, 1, []⟩, ⟨2, false, 9, []⟩], 0, 0) := by rfl
  rw [show sdec 5 [2, 1, 4, 9] = sdR 5 (evV 5) (qtyV 5) (tgV 5) [2, 1, 4, 9] from if_neg (by omega)]
  unfold sdR
  rw [h1]
  have h2 : ({ evV 5 [⟨1, false, 1, []⟩, ⟨2, false, 9, []⟩] with qty := qtyV 5 [⟨1, false, 1, []⟩, ⟨2, false, 9, []⟩] } : Ev) = plE := by rfl
  have h3 : errR (tkF [⟨1, false, 1, []⟩, ⟨2, false, 9, []⟩] (tgV 5)) (tkE [⟨1, false, 1, []⟩, ⟨2, false, 9, []⟩] (tgV 5)) = 0 := by rfl
  simp only [h2, h3, pl_ok]
  rfl
theorem pl_sunp : sunp [5, 2, 1, 4, 9] = (5, plE, 0) := by
  have h1 : dec 0 0 [5, 2, 1, 4, 9] = (5, 1, 0) := by rfl
  unfold sunp
  rw [h1]
  have h2 : sdec (capN 5) ([5, 2, 1, 4, 9].drop 1) = (plE, 0) := pl_sdec
  simp only [h2]
  rfl
theorem pl_up : upR [5, 2, 1, 4, 9] = (plE, 0) := by
  unfold upR
  rw [pl_sunp]
  have h1 : toR 5 5 plE = plE := by
    unfold toR
    rw [if_neg (by decide), if_pos pl_ok]
    exact to_same plE 5 (by decide) (by decide)
  have h2 : toC 5 5 plE = 0 := by
    unfold toC
    rw [if_neg (by decide), pl_ok]
  simp only [h1, h2]
  rfl
set_option maxRecDepth 20000 in
set_option maxHeartbeats 1000000 in
theorem walk (l : List Nat) (a : Option Addr) (cap : Nat) (w : World) (hb : Bytes w a l) (hc : Came w a l.length cap 1) (ht : Tax w) :
    Calls Tryd.prog 3 #[.slice a l.length cap] w fun r w' => r = .returned (.bool true) ∧ Below w.heap.size w w' := by
  have HB : Hid (Bytes w a l) := hb
  have HT : Hid (Tax w) := ht
  have hl : l.length ≤ 140737488351232 := by have h1 := hc.1; have h2 := hc.2; omega
  have hlc : l.length ≤ cap := hc.1
  obtain ⟨n, hn⟩ : ∃ n, l.length = n := ⟨_, rfl⟩
  have HN : Hid (l.length = n) := hn
  rw [hn] at hl hlc ⊢
  have hlm : n ≤ maxLen := by unfold maxLen; omega
  obtain ⟨E, c, hEc⟩ : ∃ E c, upR l = (E, c) := ⟨_, _, rfl⟩
  have HE : Hid (_) := hEc
  have hz := fun w => ev_eql E w
  have HAB : Hid (Below w.heap.size w (w.alloc (.cells (B8 [5, 2, 1, 4, 9]).toArray 5))) := (Below.refl _ _).alloc (Nat.le_refl _) _
  have T1 : Hid True := trivial
  have T2 : Hid True := trivial
  clear hb hc hn ht hEc
  go_enter Tryd.func3, Tryd.ntmps3
  go_wp2_with (first
    | (go_at_call 5; clear T1; refine (uread_any [5, 2, 1, 4, 9] (some ⟨w.heap.size, 0, none⟩) 5 5 _ (HT.out.keep HAB.out) rfl (bytes_lit w [5, 2, 1, 4, 9] (lt_getD (by decide))) (by decide) (by decide)).mono ?_; rw [pl_up]; rintro _ x1 ⟨rfl, hb1⟩; have HB1 : Hid (Below w.heap.size w x1) := below_next HAB.out hb1; clear hb1)
    | ((with_reducible refine guard_store 25 ?_); clear T2; refine wpList_store_ev (e := zeroE) (e2 := plE) rfl _ _ rfl (evAt_new x1 zeroE) rfl rfl ?_; intro x2 z1 z2 z3 z4; have c1 : x2.cell? ⟨x1.heap.size, 1, none⟩ = some (.int .i64 9) := z1.cells.2.1; have HU2 : Hid (Below x1.heap.size x1 x2) := z2 _ _ ((Below.refl _ _).alloc (Nat.le_refl _) _) (Nat.le_refl _); have HB2 : Hid (Below w.heap.size w x2) := below_next HB1.out HU2.out; clear z1 z2 z3 z4)
    | (go_at_call 6; refine (copy_nn l a n cap _ HN.out (HB.out.keep HB2.out) (by omega)).mono ?_; rintro _ x3 ⟨a2, cap2, rfl, hcap2, hy2, _, hb2⟩; have HY3 : Hid (Bytes x3 a2 l) := hy2; have HB3 : Hid (Below w.heap.size w x3) := below_next HB2.out hb2; clear hy2 hb2 c1)
    | (go_at_call 7; refine (urread_any l a n cap _ (HT.out.keep HB3.out) HN.out (HB.out.keep HB3.out) hlc hlm).mono ?_; rw [HE.out]; rintro _ x4 ⟨rfl, hb4⟩; have HB4 : Hid (Below w.heap.size w x4) := below_next HB3.out hb4; have HY4 : Hid (Bytes x4 a2 l) := HY3.out.keep hb4; clear hb4)
    | ((with_reducible refine guard_store 25 ?_); refine wpList_store_ev (e := zeroE) (e2 := E) rfl _ _ rfl (evAt_new x4 zeroE) rfl rfl ?_; intro x5 z1 z2 z3 z4; have HE5 : Hid (EvAt x5 x4.heap.size E) := z1; have HU5 : Hid (Below x4.heap.size x4 x5) := z2 _ _ ((Below.refl _ _).alloc (Nat.le_refl _) _) (Nat.le_refl _); have HB5 : Hid (Below w.heap.size w x5) := below_next HB4.out HU5.out; have HY5 : Hid (Bytes x5 a2 l) := HY4.out.keep HU5.out; clear z1 z2 z3 z4)
    | (go_at_call 5; refine (uread_any l a2 n cap2 _ (HT.out.keep HB5.out) HN.out HY5.out hcap2 hlm).mono ?_; rw [HE.out]; rintro _ x6 ⟨rfl, hb6⟩; have HB6 : Hid (Below w.heap.size w x6) := below_next HB5.out hb6; have HY6 : Hid (Bytes x6 a2 l) := HY5.out.keep hb6; have HE6 : Hid (EvAt x6 x4.heap.size E) := HE5.out.after hb6; clear hb6)
    | ((with_reducible refine guard_store 25 ?_); refine wpList_store_ev (e := zeroE) (e2 := E) rfl _ _ rfl (evAt_new x6 zeroE) rfl rfl ?_; intro x7 z1 z2 z3 z4; have HE7 : Hid (EvAt x7 x6.heap.size E) := z1; have HU7 : Hid (Below x6.heap.size x6 x7) := z2 _ _ ((Below.refl _ _).alloc (Nat.le_refl _) _) (Nat.le_refl _); have HB7 : Hid (Below w.heap.size w x7) := below_next HB6.out HU7.out; have HY7 : Hid (Bytes x7 a2 l) := HY6.out.keep HU7.out; have HF7 : Hid (EvAt x7 x4.heap.size E) := HE6.out.after HU7.out; clear z1 z2 z3 z4)
    | ((with_reducible refine guard_load 25 ?_); first | refine wpList_load_ev rfl _ rfl HE7.out rfl ?_ | refine wpList_load_ev rfl _ rfl HF7.out rfl ?_)
    | ((with_reducible refine guard_loadg 25 ?_); first | refine wpList_load_evg rfl _ rfl HE7.out rfl ?_ | refine wpList_load_evg rfl _ rfl HF7.out rfl ?_)
    | (go_at_call 8; refine (same_yes l n n a2 a cap2 cap _ HN.out HN.out HY7.out (HB.out.keep HB7.out) hlm).mono ?_; rintro _ x8 ⟨rfl, hb8⟩; have HB8 : Hid (Below w.heap.size w x8) := below_next HB7.out hb8; clear hb8))
  go_ret
  exact ⟨rfl, HB8.out⟩
theorem own : ownKnob Tryd.prog.godebug = none := by kernel_rfl
theorem laidOut : laidOutB Tryd.prog = true := by kernel_rfl
set_option maxRecDepth 100000 in
theorem contract (H : Type) (enc : TypeId × Value → H) (W : World) (base : Nat) (args : Array Value) (ds gs : List (DataW H)) (before : List MemPlace)
    (hval : ∀ (j : Nat) t v, Tryd.f3.params[j]? = some t → args[j]? = some v → Value.okWide Tryd.prog W .any base t v)
    (hW : DataW.Whole enc Tryd.prog Tryd.f3.params.toList Rows.upcastReadsSpec.vars false W args.toList ds gs before)
    (hsz : (DataW.weightsEach Tryd.prog (Tryd.f3.params.toList ++ Rows.upcastReadsSpec.plain.varTypes Tryd.prog) (ds ++ gs)).all (· ≤ reachBytes) = true) (hL : laidMetH Tryd.prog ([("daybook/upcast.taxes", Rows.laid_daybook_upcast_taxes)]) W) :
    Calls Tryd.prog 3 args W fun e W' => ∃ v, e = .returned v ∧ Rows.upcastReadsSpec.post enc Tryd.prog Tryd.f3 false true false false W args v W' := by
  have hW' := hW
  obtain ⟨p, q, hA0, hV, rfl, hfz, hnd⟩ := hW
  have hA : DataW.TrodAll enc Tryd.prog W 0 (fun _ => true) true Tryd.f3.params.toList args.toList ds p := hA0
  rw [Tryd.params3] at hA hval hsz
  obtain ⟨v0, vs0, d0, ds0, p0, q0, hargs, rfl, rfl, h0, r0⟩ := trodAll_cons hA
  obtain ⟨rfl, rfl, rfl⟩ := trodAll_nil r0
  obtain rfl : args = #[v0] := by cases args; simp_all
  obtain ⟨rfl, rfl⟩ := trodVars_none hV
  obtain ⟨a0, len0, cap0, rfl⟩ := okWide_slice Tryd.underlying22 (hval 0 22 v0 rfl rfl)
  have k0 := h0
  have lt0 : ∀ x ∈ p0, x.block < W.heap.size := by obtain ⟨m, hm⟩ := k0; exact DataW.trod_lt m _ _ _ hm
  obtain ⟨l0, hlen0, w0, c0⟩ : ∃ l : List Nat, l.length = len0 ∧ Bytes W a0 l ∧ Came W a0 len0 cap0 1 := by
    obtain ⟨fuel, hf⟩ := h0
    rcases open_ints Tryd.underlying22 Tryd.underlying5 (by kernel_rfl) hf with ⟨hcs, hx⟩ | ⟨x, l, c, zs, hcs, _, hl, hm, hz, hx, hcell, hwz⟩
    · simp [Value.cells] at hcs
      obtain ⟨rfl, rfl, rfl⟩ := hcs
      exact ⟨[], rfl, ⟨by simp, .inl rfl⟩, ⟨Nat.le_refl _, by simp, fun _ => rfl⟩⟩
    · simp [Value.cells] at hcs
      obtain ⟨rfl, rfl, rfl⟩ := hcs
      have hz2 : zs.length = cap0 := by simpa using hz
      obtain ⟨ll, e1, e2, e3⟩ := row_nats .u8 256 (by decide) wf_u8 W x zs len0 (by omega) hcell hwz
      have hd : d0 = .slice (lits .u8 (zs.take len0)) (lits .u8 (zs.drop len0)) := (Prod.mk.inj hx).1
      have hreach : cap0 * 1 ≤ 140737488351232 := by
        have := sized_slice hsz (j := 0) (t := 22) (e := 5) rfl (by rw [hd]; rfl) Tryd.underlying22
        rw [show Tryd.prog.bytesOf 5 = 1 from by kernel_rfl] at this
        simp only [lits, List.length_map, List.length_take, List.length_drop, reachBytes] at this
        have hmin : min len0 zs.length = len0 := Nat.min_eq_left (by omega)
        rw [hmin] at this
        have hcap : len0 + (zs.length - len0) = cap0 := by omega
        rw [hcap] at this
        exact this
      exact ⟨ll, e1, ⟨e2, e3⟩, ⟨hl, hreach, fun h => by cases h⟩⟩
  subst hlen0
  clear hA0
  refine (walk l0 a0 cap0 W w0 c0 (tax_of hL)).mono fun e W' ⟨he, bel⟩ => ?_
  subst he
  exact ⟨_, rfl, _, _, _, [], _, [], hW', trodAll_mk1 (shut_bool Tryd.underlying4 _), (trodAll_cons_mk (Below.trod laidOut (by kernel_rfl) (of_decide_eq_true (by kernel_rfl)) k0 bel lt0) trodAll_mk0), rfl, bel.frame _, fun h => by cases h⟩
set_option maxRecDepth 100000 in
theorem start (os : Os) : ∃ w0 : World, w0.os = os ∧ (w0.forCall (fun _ _ => 0) ⟨#[], #[.slice none 0 0], []⟩).variablesB Tryd.prog = true ∧
    ((w0.forCall (fun _ _ => 0) ⟨#[], #[.slice none 0 0], []⟩).heap.toList.drop Tryd.prog.globals.size).take ((begin Tryd.prog (fun _ _ => 0) default).world.heap.size - Tryd.prog.globals.size) = (begin Tryd.prog (fun _ _ => 0) default).world.heap.toList.drop Tryd.prog.globals.size ∧
    Input.okWideB Tryd.prog (w0.forCall (fun _ _ => 0) ⟨#[], #[.slice none 0 0], []⟩) 3 ⟨#[], #[.slice none 0 0], []⟩ = true ∧
    laidMet Tryd.prog Rows.upcastReadsRow.laid (w0.forCall (fun _ _ => 0) ⟨#[], #[.slice none 0 0], []⟩).memory ∧
    ∀ (H : Type) (enc : TypeId × Value → H), DataW.whole enc Tryd.prog (w0.forCall (fun _ _ => 0) ⟨#[], #[.slice none 0 0], []⟩).memory Tryd.f3.params.toList Rows.upcastReadsSpec.vars false (#[.slice none 0 0] : Array Value).toList 8 = some ([.nil], [], []) :=
  ⟨{ World.holding Tryd.prog os ⟨#[], #[], []⟩ with heap := (World.holding Tryd.prog os ⟨#[], #[], []⟩).heap.modify 0 fun
      | .cells _ t frozen => .cells #[.int .i64 0, .int .i64 1900, .int .i64 2000, .int .i64 700] t frozen
      | o => o }, rfl, by kernel_rfl, by kernel_rfl, by kernel_rfl, laidMet_of_run' 8 (by kernel_rfl) (by kernel_rfl), fun _ _ => by kernel_rfl⟩
set_option maxRecDepth 100000 in
theorem lifted (os : Os) (started : os.Started) (H : Type) (enc : TypeId × Value → H) (F : Stop.Interp) :
    ReturnsInHanded {} Tryd.checked os 3 .any ((OpenSpec.ofChange Rows.upcastReadsSpec).preRow enc Tryd.prog Tryd.f3 Rows.upcastReadsRow.domain false Rows.upcastReadsRow.laid) (((OpenSpec.ofChange Rows.upcastReadsSpec).at F).post enc Tryd.prog Tryd.f3 false true false false) := by
  obtain ⟨w0, h1, h2, h3, h4, h5, h6⟩ := start os
  refine returnsInHanded_of_row (C := Tryd.checked) (s := OpenSpec.ofChange Rows.upcastReadsSpec) own started (by kernel_rfl) Tryd.func3
    (witness_row_at (enc := enc) (C := Tryd.checked) false w0 #[.slice none 0 0] h1 h2 h3 h4
      (OpenSpec.preRow_of_cond 8 (h6 H enc) (by kernel_rfl) (fun k hk => by cases hk) (by kernel_rfl) h5)) ?_
  intro W base args ds gs before hval hW _ hcond hsz hL _ _
  exact contract H enc W base args ds gs before hval hW hsz hL
theorem said : Rows.UpcastReadsSaid :=
  OpenClaim.holds_of_cond 3 Tryd.f3 rfl rfl rfl rfl rfl rfl rfl ⟨rfl, rfl, rfl, rfl, rfl⟩ rfl rfl rfl rfl rfl (by kernel_rfl) Tryd.func3 (by kernel_rfl)
    (of_decide_eq_true (by kernel_rfl)) (by unfold Func.isWrapper; first | (rw [if_pos (by decide +kernel)]; kernel_rfl) | (rw [if_neg (by decide +kernel)]; exact ⟨rfl, rfl⟩))
    (fun os started H enc _ F => by rw [OpenClaim.pre_eq_preRow]; exact lifted os started H enc F)
theorem plain (f : FuncId) (fn : Func) (hf : Tryd.pinned.checked.prog.funcNamed "daybook/daybooklaw07.UpcastReads" = some f) (hfn : Tryd.pinned.checked.prog.funcs[f]? = some fn) :
    true = Tryd.pinned.checked.prog.looks [] ∧ ∀ (j : Nat) t, fn.params[j]? = some t → Tryd.pinned.checked.prog.wantsStandIn t = false := by
  obtain rfl : f = 3 := Option.some.inj ((show Tryd.prog.funcNamed "daybook/daybooklaw07.UpcastReads" = some 3 by kernel_rfl).symm.trans hf) |>.symm
  obtain rfl : fn = Tryd.f3 := (Option.some.inj (Tryd.func3.symm.trans hfn)).symm
  refine ⟨by kernel_rfl, fun j t ht => ?_⟩
  rw [Tryd.params3] at ht
  have hm := Array.mem_of_getElem? ht
  have hall : ∀ t ∈ (#[22] : Array TypeId), Tryd.prog.wantsStandIn t = false := by
    intro t ht
    simp only [List.mem_toArray, List.mem_cons, List.not_mem_nil, or_false] at ht
    rcases ht with rfl <;> kernel_rfl
  exact hall t hm
theorem card : Rows.UpcastReadsCardSaid :=
  Claim7.holds_tied_plain_at .later [] _ _ _ _ said (fun _ h => by cases h) (by kernel_rfl) (fun _ h => by cases h) upcastReads_row_tie rfl ⟨rfl, rfl⟩ (by kernel_rfl) rfl plain (by kernel_rfl)
end Go.Proofs.YtofealmjggpacaaDoor.upcastReads
