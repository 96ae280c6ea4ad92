/- Who weighs more gets no less, and each gets the exact part, cut, or one more. -/
import Derived.Test.YtapbceeiehiikaaNsk
import Derived.SizedLaws
import Derived.ChangeOld
import Derived.Laws.AppendOwnNone
import Derived.Deep.RegionWith
import Derived.Deep.DeepCutAuto
import Derived.Deep.QuietTactic
import Derived.BigQuiet
namespace Go.Proofs.Ytapbceeiehiikaa.numShareFair
open Go.ChangeShapes Go.WideShapes Go.ChangeAt Go.RowKit Go.Sort
set_option linter.unusedVariables false
theorem litI (w : World) : OwnI (w.alloc (.cells #[] 2)) w.heap.size (.slice (some ⟨w.heap.size, 0, none⟩) 0 0) [] :=
  ⟨by simp, World.ownsRow_lit w #[] 0 (Nat.le_refl _) (by simp) rfl⟩
theorem md_nat (T y W : Nat) (h0 : 0 < W) (h1 : T * y / W ≤ T ∧ T < 9223372036854775808) : mdV (T : Int) (y : Int) (W : Int) = ((T * y / W : Nat) : Int) ∧ mdB (T : Int) (y : Int) (W : Int) = true := by
  have hq : mdq (T : Int) (y : Int) (W : Int) = ((T * y / W : Nat) : Int) := by
    unfold mdq
    rw [decide_eq_false (by omega : ¬ (T : Int) < 0), decide_eq_false (by omega : ¬ (y : Int) < 0), decide_eq_false (by omega : ¬ (W : Int) < 0)]
    simp [sgn]
  unfold mdV mdB
  rw [if_neg (by omega), if_neg (by omega), hq]
  generalize T * y / W = q at h1
  exact fit_in (q : Int) (by unfold inI; omega)
set_option maxRecDepth 20000 in
set_option maxHeartbeats 8000000 in
theorem walk_some (t : Int) (l : List Int) (n : Nat) (x : Addr) (cap : Nat) (w : World) (HT : Hid (inI t)) (HN : Hid (l.length = n)) (HI : Hid (Ints w (some x) l)) (hf : n ≤ cap) (hr : cap * 8 ≤ 140737488351232) :
    Calls Try.prog 5 #[.int .i64 t, .slice (some x) n cap] w fun e w' => e = .returned (.bool true) ∧ Below w.heap.size w w' := by
  obtain ⟨i0, hi, hz0, hz1, hz2⟩ := info_parts Try.infoI
  have hnI : (n : Int) ≤ 17592186044416 := by omega
  have HM : Hid (n ≤ maxLen) := by show _ ≤ _; unfold maxLen; omega
  go_enter Try.func5, Try.ntmps5
  go_upto_region 5 with (first
    | (go_at_call 6; refine (shares_any w).mono ?_; rintro e w2 ⟨rfl, hb2⟩; have HB2 : Hid (Below w.heap.size w w2) := hb2; clear hb2)
    | (at_builtin; refine wpList_append_own _ rfl _ _ 22 rfl w2.heap.size 2 i0 (.int .i64 0) 1 8 Try.underlying22 hi hz0 hz1 hz2 rfl (by decide) _ _ _ rfl (litI w2).2 x n cap (BI l) rfl (by rw [BI_length, HN.out]) (ints_cells ((HI.out.keep HB2.out).keep (bal (Below.refl _ _) _))) (BI_one l) (by unfold maxLen; simp; try omega) (by simp; try omega) (by simp) ?_; intro v3 w3 ho3 hg3 _; have hb3 : Below w2.heap.size w2 w3 := ((Below.refl w2.heap.size w2).alloc (Nat.le_refl _) _).grown hg3 (by simp) (fun k hk => by cases hk; exact Nat.le_refl _); obtain ⟨a3, cap3, rfl, hc3, hm3, hnm3⟩ := (show OwnI w3 w2.heap.size v3 l from ⟨(HI.out.keep HB2.out).1, by rw [HN.out]; simpa [BI] using ho3⟩).shape; clear ho3 hg3; rw [HN.out]; have HB3 : Hid (Below w.heap.size w w3) := bnx HB2.out hb3; have HI3 : Hid (Ints w3 a3 l) := hnm3; clear hb3 hnm3 hc3 hm3)
    | (go_at_call 8; refine (share_any t l n a3 _ w3 HT.out HI3.out HN.out).mono ?_; rintro e w4 ⟨v, rfl, hb4, hv1, hv2⟩; obtain ⟨sb, hsb⟩ : ∃ sb, shB t l = sb := ⟨_, rfl⟩; rw [hsb]; have HSB : Hid (shB t l = sb) := hsb; have HV : Hid ((shB t l = false → v = .slice none 0 0) ∧ (shB t l = true → ∃ b, v = .slice (some ⟨b, 0, none⟩) n n ∧ w3.heap.size ≤ b ∧ Dealt w4 l n t b)) := ⟨hv1, hv2⟩; have HB4 : Hid (Below w.heap.size w w4) := bnx HB3.out hb4; have HI4 : Hid (Ints w4 a3 l) := HI3.out.keep hb4; clear hv1 hv2 hb4 hsb))
  cases sb with
  | false =>
    obtain rfl := HV.out.1 HSB.out
    go_wp2
    go_ret
    exact ⟨ret_bool (by simp), HB4.out⟩
  | true =>
    obtain ⟨b, rfl, _, hd⟩ := HV.out.2 HSB.out
    have HD4 : Hid (Dealt w4 l n t b) := hd
    obtain ⟨T, eT⟩ : ∃ T, T = t.toNat := ⟨_, rfl⟩
    obtain ⟨W, eW⟩ : ∃ W, W = l.sum.toNat := ⟨_, rfl⟩
    have HTW : Hid (T = t.toNat ∧ W = l.sum.toNat) := ⟨eT, eW⟩
    have HDL : Hid (Deal l n T W ∧ ∃ f, Ord n (rst T W (wtN l)) f) := ⟨by rw [eT, eW]; exact hd.deal, by rw [eT, eW]; exact hd.ord⟩
    have hsW : l.sum = (W : Int) := HDL.out.1.s
    have htT : t = (T : Int) := by have := hd.pos; omega
    have HS : Hid (fitV l.sum = (W : Int) ∧ fitB l.sum = true) := by show _ ∧ _; rw [hsW]; exact fit_in _ (by have := HDL.out.1.W1; unfold inI; omega)
    have HWR : Hid (inI (W : Int) ∧ t = (T : Int)) := ⟨by have := HDL.out.1.W1; unfold inI; omega, htT⟩
    clear hd eT eW hsW htT HV
    go_upto_region 8 with (first
      | (go_at_call 10; refine (sum_any l n a3 _ w4 HN.out HI4.out HM.out).mono ?_; rw [HS.out.1, HS.out.2]; rintro e w5 ⟨rfl, hb5⟩; have HB5 : Hid (Below w.heap.size w w5) := bnx HB4.out hb5; have HD5 : Hid (Dealt w5 l n t b) := HD4.out.keep hb5; clear hb5))
    go_wp2
    go_loopw [43] (fun vi wr => ∃ i : Nat, vi = .int .i64 i ∧ i ≤ n ∧ Hid (Below w.heap.size w wr ∧ Dealt wr l n t b)) (fun vi _ => n - (intOf vi).toNat)
    case atStart => exact ⟨0, rfl, Nat.zero_le _, ⟨HB5.out, HD5.out⟩⟩
    case round =>
      obtain ⟨i, rfl, hi', HR⟩ := hrel
      clear HB5 HD5 HD4 HB4 HI4
      by_cases hin : i < n
      · obtain ⟨b0, off, ha, hx⟩ : ∃ b0 off, x = (⟨b0, off, none⟩ : Addr) ∧ b0 < w.heap.size ∧ ∀ j, j < n → w.cell? ⟨b0, off + j, none⟩ = some (.int .i64 (l.getD j 0)) := by
          rcases HI.out.2 with h | ⟨b0, off, ha, hlt, hc⟩
          · have := HN.out; rw [h] at this; simp at this; omega
          · cases ha; exact ⟨b0, off, rfl, hlt, fun j hj => hc j (by rw [HN.out]; exact hj)⟩
        subst ha
        have HXC : Hid (b0 < w.heap.size ∧ ∀ j, j < n → w.cell? ⟨b0, off + j, none⟩ = some (.int .i64 (l.getD j 0))) := hx
        obtain ⟨y, ey⟩ : ∃ y : Nat, wtN l i = y := ⟨_, rfl⟩
        have hwi : wr.cell? ⟨b0, off + i, none⟩ = some (.int .i64 (y : Int)) := by
          rw [← ey, ← (HDL.out.1.at hin).1]
          exact (HR.out.1.cell (p := ⟨b0, off + i, none⟩) hx.1).trans (hx.2 i hin)
        obtain ⟨q, eq⟩ : ∃ q : Nat, q = quo T W (wtN l) i := ⟨_, rfl⟩
        obtain ⟨u, eu⟩ : ∃ u : Nat, u = part n T W (wtN l) i := ⟨_, rfl⟩
        have hqu : q ≤ u ∧ u - q ≤ 1 ∧ u ≤ T := by
          obtain ⟨f, hf⟩ := HDL.out.2
          have h1 := part_le hf HDL.out.1.hW HDL.out.1.W0 HDL.out.1.n0 hin
          rw [← eu] at h1
          have h2 : u = q + if ahead n (rst T W (wtN l)) i < lft n T W (wtN l) then 1 else 0 := by rw [eu, eq]; rfl
          split at h2 <;> omega
        have hT1 := HDL.out.1.T1
        obtain ⟨dd, edd⟩ : ∃ dd, dd = u - q := ⟨_, rfl⟩
        have hddz : (u : Int) - (q : Int) = (dd : Int) := by omega
        have hddw : IntKind.i64.wrap (dd : Int) = (dd : Int) := by rw [IntKind.wrap_i64]; omega
        have hdd1 : decide ((1 : Int) < (dd : Int)) = false := decide_eq_false (by omega)
        have huq : ¬ (u : Int) < (q : Int) := by omega
        have huqd : decide ((u : Int) < (q : Int)) = false := decide_eq_false huq
        have huqn : decide (u < q) = false := decide_eq_false (by omega)
        have HY : Hid (wtN l i = y ∧ u = part n T W (wtN l) i) := ⟨ey, eu⟩
        have HMD : Hid (mdV t (y : Int) (W : Int) = (q : Int) ∧ mdB t (y : Int) (W : Int) = true) := by
          rw [HWR.out.2, eq]
          unfold quo
          rw [ey]
          exact md_nat T y W (by have := HDL.out.1.W0; exact this) (by have h1 := quo_le (T := T) HDL.out.1.hW HDL.out.1.W0 hin; unfold quo at h1; rw [ey] at h1; omega)
        have HYI : Hid (inI (y : Int)) := by have h1 := (HDL.out.1.at hin).2; have h2 := HDL.out.1.W1; unfold Hid inI; omega
        have hiz : (i : Int) < (n : Int) := by omega
        clear hx ey eq eu edd hqu hT1
        go_upto_region 12 with (first
          | (go_at_call 11; refine (muldiv_any t y W _ HT.out.1 HT.out.2 HYI.out.1 HYI.out.2 HWR.out.1.1 HWR.out.1.2).mono ?_; rw [HMD.out.1, HMD.out.2]; rintro e w6 ⟨rfl, hb6⟩; have HR6 : Hid (Below w.heap.size w w6 ∧ Dealt w6 l n t b) := ⟨bnx HR.out.1 hb6, HR.out.2.keep hb6⟩; clear hb6))
        have hpu : w6.cell? ⟨b, i, none⟩ = some (.int .i64 (u : Int)) := by
          have h1 := HR6.out.2.row.cell i hin
          rw [← HTW.out.1, ← HTW.out.2, partL_get _ _ _ _ _ hin, ← HY.out.2] at h1
          exact h1
        clear HR hwi
        go_wp2
        clear hpu
        go_loopw [77] (fun vj wr2 => ∃ j : Nat, vj = .int .i64 j ∧ j ≤ n ∧ Hid (Below w.heap.size w wr2 ∧ Dealt wr2 l n t b)) (fun vj _ => n - (intOf vj).toNat)
        case atStart => exact ⟨0, rfl, Nat.zero_le _, HR6.out⟩
        case round =>
          obtain ⟨j, rfl, hj', HQ⟩ := hrel
          clear HR6 hddz hddw hdd1 huq
          by_cases hjn : j < n
          · obtain ⟨z, ez⟩ : ∃ z : Nat, wtN l j = z := ⟨_, rfl⟩
            obtain ⟨v, ev⟩ : ∃ v : Nat, v = part n T W (wtN l) j := ⟨_, rfl⟩
            have hwi : wr.cell? ⟨b0, off + i, none⟩ = some (.int .i64 (y : Int)) := by
              rw [← HY.out.1, ← (HDL.out.1.at hin).1]
              exact (HQ.out.1.cell (p := ⟨b0, off + i, none⟩) HXC.out.1).trans (HXC.out.2 i hin)
            have hwj : wr.cell? ⟨b0, off + j, none⟩ = some (.int .i64 (z : Int)) := by
              rw [← ez, ← (HDL.out.1.at hjn).1]
              exact (HQ.out.1.cell (p := ⟨b0, off + j, none⟩) HXC.out.1).trans (HXC.out.2 j hjn)
            have hpi : wr.cell? ⟨b, i, none⟩ = some (.int .i64 (u : Int)) := by
              have h1 := HQ.out.2.row.cell i hin
              rw [← HTW.out.1, ← HTW.out.2, partL_get _ _ _ _ _ hin, ← HY.out.2] at h1
              exact h1
            have hpj : wr.cell? ⟨b, j, none⟩ = some (.int .i64 (v : Int)) := by
              have h1 := HQ.out.2.row.cell j hjn
              rw [← HTW.out.1, ← HTW.out.2, partL_get _ _ _ _ _ hjn, ← ev] at h1
              exact h1
            have hjz : (j : Int) < (n : Int) := by omega
            by_cases hyz : y < z
            · have hle : u ≤ v := by
                obtain ⟨f, hf⟩ := HDL.out.2
                have h1 := part_fair hf HDL.out.1.hW HDL.out.1.W0 HDL.out.1.n0 hin hjn (by rw [HY.out.1, ez]; exact hyz)
                rw [← HY.out.2, ← ev] at h1
                exact h1
              have hyd : decide ((y : Int) < (z : Int)) = true := decide_eq_true (by omega)
              have hyd' : (y : Int) < (z : Int) := by omega
              have hud : ¬ (v : Int) < (u : Int) := by omega
              clear ez ev hle
              go_wp2_with fail
              go_quiet (fail)
              go_wp2
              go_roundw
              case rel => exact ⟨j + 1, by go_num, by omega, ⟨below_drewN HQ.out.1 nq, HQ.out.2.keep (below_drewN (Below.refl _ _) nq)⟩⟩
              case measure => first | (simp [intOf]; done) | (simp [intOf]; omega)
            · have hyd : decide ((y : Int) < (z : Int)) = false := decide_eq_false (by omega)
              have hyd' : ¬ (y : Int) < (z : Int) := by omega
              clear ez ev
              go_wp2_with fail
              go_quiet (fail)
              go_wp2
              go_roundw
              case rel => exact ⟨j + 1, by go_num, by omega, ⟨below_drewN HQ.out.1 nq, HQ.out.2.keep (below_drewN (Below.refl _ _) nq)⟩⟩
              case measure => first | (simp [intOf]; done) | (simp [intOf]; omega)
          · obtain rfl : j = n := by omega
            go_wp2
            go_roundw
            case rel => exact ⟨i + 1, by go_num, by omega, HQ.out⟩
            case measure => first | (simp [intOf]; done) | (simp [intOf]; omega)
      · obtain rfl : i = n := by omega
        go_wp2
        go_ret
        exact ⟨ret_bool (by simp), HR.out.1⟩
set_option maxRecDepth 20000 in
set_option maxHeartbeats 8000000 in
theorem walk_none (t : Int) (l : List Int) (w : World) (HT : Hid (inI t)) (HN0 : Hid (l = [])) (HI : Hid (Ints w none l)) :
    Calls Try.prog 5 #[.int .i64 t, .slice none 0 0] w fun e w' => e = .returned (.bool true) ∧ Below w.heap.size w w' := by
  obtain ⟨i0, hi, hz0, hz1, hz2⟩ := info_parts Try.infoI
  have HN : Hid (l.length = 0) := by rw [HN0.out]; rfl
  have HM : Hid (0 ≤ maxLen) := Nat.zero_le _
  have HNS : Hid (shB t l = false) := by show _ = _; rw [HN0.out]; unfold shB wgB; simp
  go_enter Try.func5, Try.ntmps5
  go_upto_region 5 with (first
    | (go_at_call 6; refine (shares_any w).mono ?_; rintro e w2 ⟨rfl, hb2⟩; have HB2 : Hid (Below w.heap.size w w2) := hb2; clear hb2)
    | (at_builtin; refine wpList_append_own_none rfl _ _ 22 rfl w2.heap.size 2 i0 1 Try.underlying22 hi _ _ _ rfl (litI w2).2 rfl ?_; obtain ⟨w3, hw3⟩ : ∃ w3, w3 = w2.alloc (.cells #[] 2) := ⟨_, rfl⟩; rw [← hw3]; have HB3 : Hid (Below w.heap.size w w3) := (by rw [hw3]; exact bnx HB2.out ((Below.refl w2.heap.size w2).alloc (Nat.le_refl _) _)); clear hw3; obtain ⟨a3, ha3⟩ : ∃ a3 : Option Addr, a3 = some ⟨w2.heap.size, 0, none⟩ := ⟨_, rfl⟩; rw [← ha3]; have HI3 : Hid (Ints w3 a3 l) := ⟨by rw [HN0.out]; simp, .inl HN0.out⟩; clear ha3)
    | (go_at_call 8; refine (share_any t l 0 a3 _ w3 HT.out HI3.out HN.out).mono ?_; rintro e w4 ⟨v, rfl, hb4, hv1, hv2⟩; obtain ⟨sb, hsb⟩ : ∃ sb, shB t l = sb := ⟨_, rfl⟩; rw [hsb]; have HSB : Hid (shB t l = sb) := hsb; have HV : Hid ((shB t l = false → v = .slice none 0 0) ∧ (shB t l = true → ∃ b, v = .slice (some ⟨b, 0, none⟩) 0 0 ∧ w3.heap.size ≤ b ∧ Dealt w4 l 0 t b)) := ⟨hv1, hv2⟩; have HB4 : Hid (Below w.heap.size w w4) := bnx HB3.out hb4; have HI4 : Hid (Ints w4 a3 l) := HI3.out.keep hb4; clear hv1 hv2 hb4 hsb))
  cases sb with
  | false =>
    obtain rfl := HV.out.1 HSB.out
    go_wp2
    go_ret
    exact ⟨ret_bool (by simp), HB4.out⟩
  | true =>
    exact absurd HSB.out (by rw [HNS.out]; simp)
set_option maxRecDepth 20000 in
theorem walk (t : Int) (l : List Int) (a : Option Addr) (cap : Nat) (w : World) (w0 : (Lit.int .i64 t).wf = true) (hb : Ints w a l) (hc : Came w a l.length cap 8) :
    Calls Try.prog 5 #[.int .i64 t, .slice a l.length cap] w fun e w' => e = .returned (.bool true) ∧ Below w.heap.size w w' := by
  obtain ⟨hf, hr, hn⟩ := hc
  have HT : Hid (inI t) := wf_i64 _ w0
  cases a with
  | some x => exact walk_some t l _ x cap w HT rfl hb hf hr
  | none =>
    obtain rfl := hn rfl
    obtain rfl : l = [] := List.length_eq_zero_iff.1 (by omega)
    exact walk_none t [] w HT rfl hb
theorem own : ownKnob Try.prog.godebug = none := by kernel_rfl
theorem laidOut : laidOutB Try.prog = true := by kernel_rfl
set_option maxRecDepth 100000 in
theorem contract (H : Type) (enc : TypeId × Value → H) (W : World) (base : Nat) (args : Array Value) (ds gs : List (DataW H)) (before : List MemPlace)
    (hval : ∀ (j : Nat) t v, Try.f5.params[j]? = some t → args[j]? = some v → Value.okWide Try.prog W .any base t v)
    (hW : DataW.Whole enc Try.prog Try.f5.params.toList Rows.numShareFairSpec.vars false W args.toList ds gs before)
    (hsz : (DataW.weightsEach Try.prog (Try.f5.params.toList ++ Rows.numShareFairSpec.plain.varTypes Try.prog) (ds ++ gs)).all (· ≤ reachBytes) = true) :
    Calls Try.prog 5 args W fun e W' => ∃ v, e = .returned v ∧ Rows.numShareFairSpec.post enc Try.prog Try.f5 false true false false W args v W' := by
  have hW' := hW
  obtain ⟨p, q, hA0, hV, rfl, hfz, hnd⟩ := hW
  have hA : DataW.TrodAll enc Try.prog W 0 (fun _ => true) true Try.f5.params.toList args.toList ds p := hA0
  rw [Try.params5] at hA hval hsz
  obtain ⟨v0, vs0, d0, ds0, p0, q0, hargs, rfl, rfl, h0, r0⟩ := trodAll_cons hA
  obtain ⟨v1, vs1, d1, ds1, p1, q1, rfl, rfl, rfl, h1, r1⟩ := trodAll_cons r0
  obtain ⟨rfl, rfl, rfl⟩ := trodAll_nil r1
  obtain rfl : args = #[v0, v1] := by cases args; simp_all
  obtain ⟨rfl, rfl⟩ := trodVars_none hV
  obtain ⟨a0, rfl, rfl, rfl, w0⟩ := open_int Try.underlying2 (hval 0 2 v0 rfl rfl) h0
  obtain ⟨a1, len1, cap1, rfl⟩ := okWide_slice Try.underlying22 (hval 1 22 v1 rfl rfl)
  have k1 := h1
  have lt1 : ∀ x ∈ p1, x.block < W.heap.size := by obtain ⟨m, hm⟩ := k1; exact DataW.trod_lt m _ _ _ hm
  obtain ⟨l1, hlen1, w1, c1⟩ : ∃ l : List Int, l.length = len1 ∧ Ints W a1 l ∧ Came W a1 len1 cap1 8 := by
    obtain ⟨fuel, hf⟩ := h1
    rcases open_ints Try.underlying22 Try.underlying2 (by kernel_rfl) hf with ⟨hcs, hx⟩ | ⟨x, l, c, zs, hcs, _, hl, hm, hz, hx, hcell, hwz⟩
    · simp [Value.cells] at hcs
      obtain ⟨rfl, rfl, rfl⟩ := hcs
      exact ⟨[], rfl, ⟨by simp, .inl rfl⟩, ⟨Nat.le_refl _, by simp, fun _ => rfl⟩⟩
    · simp [Value.cells] at hcs
      obtain ⟨rfl, rfl, rfl⟩ := hcs
      have hz2 : zs.length = cap1 := by simpa using hz
      obtain ⟨ll, e1, e2, e3⟩ := row_ints W x zs len1 (by omega) hcell hwz
      have hd : d1 = .slice (lits .i64 (zs.take len1)) (lits .i64 (zs.drop len1)) := (Prod.mk.inj hx).1
      have hreach : cap1 * 8 ≤ 140737488351232 := by
        have := sized_slice hsz (j := 1) (t := 22) (e := 2) rfl (by rw [hd]; rfl) Try.underlying22
        rw [show Try.prog.bytesOf 2 = 8 from by kernel_rfl] at this
        simp only [lits, List.length_map, List.length_take, List.length_drop, reachBytes] at this
        have hmin : min len1 zs.length = len1 := Nat.min_eq_left (by omega)
        rw [hmin] at this
        have hcap : len1 + (zs.length - len1) = cap1 := by omega
        rw [hcap] at this
        exact this
      exact ⟨ll, e1, ⟨e2, e3⟩, ⟨hl, hreach, fun h => by cases h⟩⟩
  subst hlen1
  clear hA0
  refine (walk a0 l1 a1 cap1 W w0 w1 c1).mono fun e W' ⟨he, bel⟩ => ?_
  subst he
  exact ⟨_, rfl, _, _, _, [], _, [], hW', trodAll_mk1 (shut_bool Try.underlying4 _), (trodAll_cons_mk (shut_int Try.underlying2 w0) (trodAll_cons_mk (Below.trod laidOut (by kernel_rfl) (of_decide_eq_true (by kernel_rfl)) k1 bel lt1) trodAll_mk0)), rfl, bel.frame _, fun h => by cases h⟩
set_option maxRecDepth 100000 in
theorem lifted (os : Os) (started : os.Started) (H : Type) (enc : TypeId × Value → H) :
    ReturnsInHanded {} Try.checked os 5 .any (Rows.numShareFairSpec.pre6 enc Try.prog Try.f5 Rows.numShareFairRow.domain false) (Rows.numShareFairSpec.post enc Try.prog Try.f5 false true false false) := by
  refine returnsInHanded_of_change_sized (C := Try.checked) own started (by kernel_rfl) Try.func5
    (ChangeSpec.witness6 (enc := enc) (C := Try.checked) false ⟨#[], #[.int .i64 0, .slice none 0 0], []⟩ 8 (by kernel_rfl) (by kernel_rfl) (by kernel_rfl) (by kernel_rfl)) ?_
  intro W base args ds gs before hval hW _ hsz _
  exact contract H enc W base args ds gs before hval hW hsz
theorem over : Rows.numShareFairRow.holds Try.pinned (OpenSpec.ofChange Rows.numShareFairSpec) :=
  OpenClaim.holds_of_wide 5 Try.f5 rfl rfl rfl rfl rfl rfl rfl ⟨rfl, rfl, rfl, rfl, rfl⟩ rfl rfl rfl rfl rfl (by kernel_rfl) Try.func5 (by kernel_rfl)
    (of_decide_eq_true (by kernel_rfl)) (by unfold Func.isWrapper; first | (rw [if_pos (by decide +kernel)]; kernel_rfl) | (rw [if_neg (by decide +kernel)]; exact ⟨rfl, rfl⟩))
    (fun os started H enc _ => lifted os started H enc)
theorem proved : Rows.NumShareFairSaid := over
end Go.Proofs.Ytapbceeiehiikaa.numShareFair
