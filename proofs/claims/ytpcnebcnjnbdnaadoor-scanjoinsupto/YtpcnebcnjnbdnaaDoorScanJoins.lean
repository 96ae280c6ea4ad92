/- For all frames and every text behind them: behind whole frames scan.All goes on as from the beginning of what follows. Condition: the arguments hold together at most 1048576 values and letters (the second form). -/
import Derived.Test.YtpcnebcnjnbdnaaDoorCrcTie
import Derived.Test.YtpcnebcnjnbdnaaDoorSc15
import Derived.Test.YtpcnebcnjnbdnaaDoorApb
import Derived.Test.YtpcnebcnjnbdnaaDoorSc11
import Derived.Test.YtpcnebcnjnbdnaaDoorBulk
import Derived.Deep.CondSized
import Derived.SizedLaws
import Derived.ChangeOld
namespace Go.Proofs.YtpcnebcnjnbdnaaDoor.scanJoins
open Go.ChangeShapes Go.WideShapes Go.ChangeAt Go.RowKit
set_option linter.unusedVariables false
theorem row_cap {w : World} {base n c size : Nat} {e : TypeId} {a : Option Addr} {xs : List Value} (h : w.ownsRow base e size (.slice a n c) n xs) : n ≤ c := by
  rcases h.2 with ⟨h1, h2⟩ | ⟨g, cap, cur, h1, _, _, h2, _⟩
  · omega
  · cases h1; exact h2
set_option maxRecDepth 20000 in
set_option maxHeartbeats 4000000 in
theorem walk (L : List Fi) (a : Option Addr) (cap : Nat) (l : List Nat) (ab : Option Addr) (capb : Nat) (w : World) (hL : FrsA w a L) (hcl : L.length ≤ cap) (hb : Bytes w ab l) (hc : Came w ab l.length capb 1) (hsum : fbulk L + capb ≤ 1048576) (ht : Tab w) :
    Calls Tryd.prog 8 #[.slice a L.length cap, .slice ab l.length capb] w fun e w' => e = .returned (.bool true) ∧ Below w.heap.size w w' := by
  obtain ⟨i0, hi, hz0, hz1, hz2⟩ := info_parts Tryd.info5f
  obtain ⟨hf, hr, hn⟩ := hc
  obtain ⟨n, hN⟩ : ∃ n, l.length = n := ⟨_, rfl⟩
  obtain ⟨K, hK⟩ : ∃ K, L.length = K := ⟨_, rfl⟩
  rw [hN] at hf ⊢
  rw [hK]
  have HB : Hid (Bytes w ab l ∧ l.length = n ∧ n ≤ capb ∧ n ≤ 1048576) := ⟨hb, hN, hf, by omega⟩
  have HT : Hid (Tab w) := ht
  have HL : Hid (FrsA w a L ∧ L.length = K ∧ fbulk L ≤ 1048576) := ⟨hL, hK, by omega⟩
  have HCN : Hid (ab = none → capb = 0) := hn
  clear hL hcl hb hr hn hN hK ht hf
  by_cases hok : ∀ f ∈ L, fOk f
  · have HLD : Hid (∀ w1, Below w.heap.size w w1 → Calls Tryd.prog 19 #[.slice a K cap] w1 fun e w' => ∃ vb ve, e = .returned (.tuple #[vb, ve, .bool true]) ∧ Own w' w1.heap.size vb (layF L) ∧ w'.ownsRow w1.heap.size 3 1 ve K (endV L K) ∧ Below w1.heap.size w1 w') := fun w1 hb1 =>
      (laidF_any L K a cap w1 HL.out.2.1 (HL.out.1.keep hb1) HL.out.2.2 (HT.out.keep hb1)).mono (by
        rintro e w' ⟨⟨_, vb, ve, h1, h2, h3⟩ | ⟨h1, _⟩, hb⟩
        · exact ⟨vb, ve, h1, h2, h3, hb⟩
        · exact absurd hok h1)
    obtain ⟨D, hD⟩ : ∃ D, (layF L).length = D := ⟨_, rfl⟩
    have hD2 : D ≤ 5242880 := by
      have h1 := layF_len L (fun f hf => (HL.out.1.oks f hf).len)
      have h2 := HL.out.2.2
      omega
    have HD : Hid ((layF L).length = D) := hD
    obtain ⟨EZ, hEZ⟩ : ∃ x, endZ 0 (scanL l) = x := ⟨_, rfl⟩
    obtain ⟨AE, hAE⟩ : ∃ x, allE l = x := ⟨_, rfl⟩
    obtain ⟨X, hX⟩ : ∃ x, (scanL l).length = x := ⟨_, rfl⟩
    have HE : Hid (endZ 0 (scanL l) = EZ ∧ allE l = AE) := ⟨hEZ, hAE⟩
    have HX : Hid (∀ zs : List It, zs.map It.fm = scanL l → zs.length = X) := fun zs h => by rw [← hX, ← h, List.length_map]
    have hX20 : 20 * X ≤ n := by have := scanL_count l; have := HB.out.2.1; omega
    obtain ⟨⟨P, hP1, hP2⟩, hs2, hs3⟩ := scan_lay l L (fun f hf => fok_of (hok f hf) (HL.out.1.oks f hf))
    rw [hD, hEZ] at hs2
    rw [hD] at hP2
    rw [hAE] at hs3
    have HS : Hid (P.length = K ∧ scanL (layF L ++ l) = P ++ (scanL l).map (sh D) ∧ endZ 0 (scanL (layF L ++ l)) = D + EZ ∧ allE (layF L ++ l) = AE) := ⟨hP1.trans HL.out.2.1, hP2, hs2, hs3⟩
    have hKb : 4 * K ≤ 1048576 := by have := fbulk_len L; have := HL.out.2.1; have := HL.out.2.2; omega
    have hEn : EZ ≤ n := by
      rw [← hEZ, ← HB.out.2.1]
      unfold endZ
      cases hg : (scanL l).getLast? with
      | none => exact Nat.zero_le _
      | some f => exact (scanL_facts l f (List.mem_of_getLast? hg)).2
    have HAL : Hid (∀ w1 a6 c6, Below w.heap.size w w1 → Bytes w1 a6 (layF L ++ l) → D + n ≤ c6 → Calls Tryd.prog 12 #[.slice a6 (D + n) c6] w1 fun e W' => ∃ (ys : List It) (a7 : Option Addr) (c7 : Nat), e = .returned (.tuple #[.slice a7 (K + X) c7, .int .i64 ((D : Int) + (EZ : Int)), .int .i64 (AE : Int)]) ∧ ys.map It.fm = P ++ (scanL l).map (sh D) ∧ ys.length = K + X ∧ OwnP W' w1.heap.size (.slice a7 (K + X) c7) ys ∧ K + X ≤ c7 ∧ Below w1.heap.size w1 W') := fun w1 a6 c6 hb1 hy hc => by
      refine (all_any (layF L ++ l) (D + n) a6 c6 w1 (by rw [List.length_append, HD.out, HB.out.2.1]) hy hc (by have := HB.out.2.2.2; omega) (HT.out.keep hb1)).mono ?_
      rw [HS.out.2.2.1, HS.out.2.2.2, HS.out.2.1]
      rintro e W' ⟨ys, v, rfl, h1, h2, h3, h4⟩
      have hl : ys.length = K + X := by have := congrArg List.length h1; simp [HS.out.1, hX] at this; exact this
      obtain ⟨a7, c7, rfl⟩ := row_shape h2
      rw [hl] at h2 ⊢
      exact ⟨ys, a7, c7, by push_cast; rfl, h1, hl, ⟨by rw [hl]; exact h2, h3⟩, row_cap h2, h4⟩
    have HC1 : Hid (∀ w1, Below w.heap.size w w1 → Calls Tryd.prog 10 #[.slice ab n capb] w1 fun e w' => ∃ a3 c3, e = .returned (.slice a3 n c3) ∧ n ≤ c3 ∧ Bytes w' a3 l ∧ Below w1.heap.size w1 w') := fun w1 hb1 => by
      have := copy_any l ab capb w1 (HB.out.1.keep hb1) (by have := HB.out.2; omega)
      rw [HB.out.2.1] at this
      refine this.mono ?_
      rintro e w' ⟨v, rfl, ho, hb⟩
      obtain ⟨a3, c3, hv, hc, _, hy, _⟩ := ho.shape
      rw [HB.out.2.1] at hv hc
      exact ⟨a3, c3, by rw [hv], hc, hy, hb⟩
    have HC2 : Hid (∀ w1 a2 c2, Bytes w1 a2 (layF L) → Calls Tryd.prog 10 #[.slice a2 D c2] w1 fun e w' => ∃ a5 c5, e = .returned (.slice a5 D c5) ∧ Own w' w1.heap.size (.slice a5 D c5) (layF L) ∧ Below w1.heap.size w1 w') := fun w1 a2 c2 hy => by
      have := copy_any (layF L) a2 c2 w1 hy (by omega)
      rw [HD.out] at this
      refine this.mono ?_
      rintro e w' ⟨v, rfl, ho, hb⟩
      obtain ⟨a5, c5, hv, _⟩ := ho.shape
      rw [HD.out] at hv
      subst hv
      exact ⟨a5, c5, rfl, ho, hb⟩
    have hnn : n ≤ 1048576 := HB.out.2.2.2
    clear hok hD hEZ hAE hX hP1 hP2 hs2 hs3
    go_enter Tryd.func8, Tryd.ntmps8
    go_wp2_with (first
      | (go_at_call 9; refine (head12_any w HT.out).mono ?_; rintro e w1 ⟨rfl, hb1⟩; have HB1 : Hid (Below w.heap.size w w1) := hb1; clear hb1)
      | (go_at_call 19; refine (HLD.out _ HB1.out).mono ?_; rintro e w2 ⟨vb, ve, rfl, ho2, hoe, hb2⟩; obtain ⟨a2, c2, hv2, _, _, hy2, _⟩ := ho2.shape; rw [HD.out] at hv2; subst hv2; obtain ⟨ae, ce, rfl⟩ := row_shape hoe; have HB2 : Hid (Below w.heap.size w w2) := below_next HB1.out hb2; have HY2 : Hid (Bytes w2 a2 (layF L)) := hy2; clear ho2 hoe hb2 hy2)
      | (go_at_call 10; refine (HC2.out w4 a2 c2 ((HY2.out.keep HB3.out.2).keep HX4.out.2.2.2)).mono ?_; rintro e w5 ⟨a5, c5, rfl, ho5, hb5⟩; have HO5 : Hid (w5.ownsRow w4.heap.size 5 1 (.slice a5 D c5) D (B8 (layF L)) ∧ Below w4.heap.size w4 w5 ∧ ∀ i, (layF L).getD i 0 < 256) := ⟨(by have h := ho5.2; rw [HD.out] at h; exact h), hb5, ho5.1⟩; have hs5 : w4.heap.size ≤ w5.heap.size := hb5.size; clear ho5 hb5)
      | (go_at_call 10; refine (HC1.out w2 HB2.out).mono ?_; rintro e w3 ⟨a3, c3, rfl, hc3, hy3, hb3⟩; have HB3 : Hid (Below w.heap.size w w3 ∧ Below w2.heap.size w2 w3) := ⟨below_next HB2.out hb3, hb3⟩; have HY3 : Hid (Bytes w3 a3 l ∧ n ≤ c3) := ⟨hy3, hc3⟩; clear hc3 hy3 hb3)
      | (go_at_call 12; refine (HAL.out w6 a6 c6 HO6.out.2.2 HO6.out.1.1 HO6.out.1.2).mono ?_; rintro e w7 ⟨ys, a7, c7, rfl, hy7, hl7, hp7, hc7, hb7⟩; have HY7 : Hid (ys.map It.fm = P ++ (scanL l).map (sh D) ∧ ys.length = K + X ∧ OwnP w7 w6.heap.size (.slice a7 (K + X) c7) ys ∧ K + X ≤ c7 ∧ Below w6.heap.size w6 w7) := ⟨hy7, hl7, hp7, hc7, hb7⟩; clear hy7 hl7 hp7 hc7 hb7)
      | (go_at_call 12; refine (all_any l n a3 c3 w3 HB.out.2.1 HY3.out.1 HY3.out.2 (by omega) (HT.out.keep HB3.out.1)).mono ?_; rw [HE.out.1, HE.out.2]; rintro e w4 ⟨xs, v, rfl, hx, hr, hy, hb⟩; obtain ⟨a4, c4, rfl⟩ := row_shape hr; have hl := HX.out xs hx; rw [hl] at hr ⊢; have HX4 : Hid (xs.map It.fm = scanL l ∧ OwnP w4 w3.heap.size (.slice a4 X c4) xs ∧ xs.length = X ∧ Below w3.heap.size w3 w4) := ⟨hx, OwnP.of (by rw [hl]; exact hr) hy, hl, hb⟩; have HB4 : Hid (Below w.heap.size w w4) := below_next HB3.out.1 hb; clear hx hr hy hb hl)
      | (at_builtin; refine wpList_append_b rfl _ _ 22 rfl w4.heap.size i0 Tryd.underlying22 hi hz0 hz1 hz2 _ D (B8 (layF L)) rfl HO5.out.1 ab n capb l rfl HB.out.2.1 (HB.out.1.keep (below_next HB4.out HO5.out.2.1)) HCN.out (by omega) hs5 ?_; intro v6 w6 ho6 hg6; have hb46 : Below w4.heap.size w4 w6 := grown_row HO5.out.2.1 HO5.out.1 hs5 hg6; have ho6' : Own w6 w4.heap.size v6 (layF L ++ l) := Own.append HO5.out.2.2 HB.out.1.1 (by rw [HD.out, HB.out.2.1]; exact ho6); obtain ⟨a6, c6, hv6, hc6, _, hy6, _⟩ := ho6'.shape; rw [List.length_append, HD.out, HB.out.2.1] at hv6 hc6; subst hv6; have HO6 : Hid ((Bytes w6 a6 (layF L ++ l) ∧ D + n ≤ c6) ∧ Below w4.heap.size w4 w6 ∧ Below w.heap.size w w6) := ⟨⟨hy6, hc6⟩, hb46, below_next HB4.out hb46⟩; clear ho6 hg6 hb46 ho6' hy6 hc6))
    have HB47 : Hid (Below w4.heap.size w4 w7) := below_next HO6.out.2.1 HY7.out.2.2.2.2
    have HM0 : Hid (OwnP w7 w3.heap.size (.slice a4 X c4) (mvd D xs 0)) := by
      show OwnP _ _ _ _
      rw [show mvd D xs 0 = xs from by simp [mvd]]
      exact HX4.out.2.1.below HB47.out
    have hXI : (X : Int) ≤ 1048576 := by omega
    have hDI : (D : Int) ≤ 5242880 := by omega
    go_loopw [64] (fun vi wr => ∃ i : Nat, i ≤ X ∧ vi = .int .i64 i ∧ OwnP wr w3.heap.size (.slice a4 X c4) (mvd D xs i) ∧ Btw w3.heap.size w4.heap.size w7 wr) (fun vi _ => X - (intOf vi).toNat)
    case atStart => exact ⟨0, Nat.zero_le _, rfl, HM0.out, Btw.refl _ _ _⟩
    case round =>
      rename World => wr
      obtain ⟨i, hiX, rfl, hP, hbt⟩ := hrel
      have HP : Hid (OwnP wr w3.heap.size (.slice a4 X c4) (mvd D xs i) ∧ Btw w3.heap.size w4.heap.size w7 wr) := ⟨hP, hbt⟩
      clear hP hbt HM0
      by_cases hlt : i < X
      · obtain ⟨⟨⟨pos, kind, seq, body⟩, bv⟩, hx⟩ := lt_get (L := xs) (k := i) (by rw [HX4.out.2.2.1]; exact hlt)
        obtain ⟨g, hg, hlo, hgl, k0, k1, hst⟩ := HP.out.1.setPos hx HX4.out.2.2.1
        simp only at k0 hst
        have hg4 : g < w4.heap.size := (HX4.out.2.1.1.lt g (by rw [hg]; simp [Value.ownBlock])).2
        have hpos : pos ≤ 1048576 := by
          have h1 := (scanL_facts l ⟨pos, kind, seq, body⟩ (by rw [← HX4.out.1]; exact List.mem_map.2 ⟨_, List.mem_of_getElem? hx, rfl⟩)).2
          have h2 := HB.out.2.1
          simp only at h1
          omega
        have HST : Hid (OwnP (wr.setCell ⟨g, i * 5, none⟩ (.int .i64 ((pos : Int) + (D : Int)))) w3.heap.size (.slice a4 X c4) (mvd D xs (i + 1)) ∧ Btw w3.heap.size w4.heap.size w7 (wr.setCell ⟨g, i * 5, none⟩ (.int .i64 ((pos : Int) + (D : Int))))) := ⟨by rw [Int.add_comm]; exact hst, HP.out.2.set g _ _ hlo hg4⟩
        subst hg
        have hpI : (pos : Int) ≤ 1048576 := by omega
        have d3 : decide ((i : Int) < (X : Int)) = true := by simp; omega
        clear hx hst hlo hg4
        go_wp2
        go_roundw
        case rel => exact ⟨i + 1, by omega, by go_num, HST.out.1, HST.out.2⟩
        case measure => simp [intOf]; omega
      · obtain rfl : i = X := by omega
        have d3 : decide ((i : Int) < (i : Int)) = false := by simp
        have HXS : Hid (PlcA wr a4 (xs.map (shI D)) ∧ (xs.map (shI D)).length = i) := by
          have h := HP.out.1
          rw [mvd_all D xs i HX4.out.2.2.1] at h
          exact ⟨plc_of h (by rw [List.length_map]; exact HX4.out.2.2.1), by rw [List.length_map]; exact HX4.out.2.2.1⟩
        have HYS : Hid (PlcA wr a7 ys) := plc_of (HY7.out.2.2.1.same (fun k h1 h2 => HP.out.2.up k (Nat.le_trans HO6.out.2.1.size h1) h2)) HY7.out.2.1
        have HEQ : Hid ((ys.drop K).map It.fm = (xs.map (shI D)).map It.fm ∧ (ys.drop K).length = i) := by
          refine ⟨?_, by rw [List.length_drop, HY7.out.2.1]; omega⟩
          rw [List.map_drop, HY7.out.1, map_sh, HX4.out.1, List.drop_append, List.drop_of_length_le (by rw [HS.out.1]; exact Nat.le_refl _), HS.out.1]
          simp
        have HBw : Hid (Below w.heap.size w wr) := (below_next HO6.out.2.2 HY7.out.2.2.2.2).trans (HP.out.2.low.mono HB3.out.1.size)
        clear HP
        go_wp2_with (first
          | ((with_reducible refine at_sliceP ?_); refine wpList_sliceP rfl _ _ rfl rfl rfl (by omega) HY7.out.2.2.2.1 HY7.out.2.1 HYS.out ?_; intro ax hax; rw [show K + i - K = i from by omega])
          | (go_at_call 13; refine (psame_any (ys.drop K) (xs.map (shI D)) i ax a4 _ _ wr HEQ.out.1 HEQ.out.2 hax HXS.out.1 (by omega)).mono ?_; rintro e w9 ⟨rfl, hb9⟩))
        go_ret
        exact ⟨rfl, below_next HBw.out hb9⟩
  · have HLD : Hid (∀ w1, Below w.heap.size w w1 → Calls Tryd.prog 19 #[.slice a K cap] w1 fun e w' => e = .returned (.tuple #[.slice none 0 0, .slice none 0 0, .bool false]) ∧ Below w1.heap.size w1 w') := fun w1 hb1 =>
      (laidF_any L K a cap w1 HL.out.2.1 (HL.out.1.keep hb1) HL.out.2.2 (HT.out.keep hb1)).mono (by
        rintro e w' ⟨⟨h1, _⟩ | ⟨_, h1⟩, hb⟩
        · exact absurd h1 hok
        · exact ⟨h1, hb⟩)
    clear hok
    go_enter Tryd.func8, Tryd.ntmps8
    go_wp2_with (first
      | (go_at_call 9; refine (head12_any w HT.out).mono ?_; rintro e w1 ⟨rfl, hb1⟩; have HB1 : Hid (Below w.heap.size w w1) := hb1; clear hb1)
      | (go_at_call 19; refine (HLD.out _ HB1.out).mono ?_; rintro e w2 ⟨rfl, hb2⟩))
    go_ret
    exact ⟨rfl, below_next HB1.out hb2⟩
theorem own : ownKnob Tryd.prog.godebug = none := by kernel_rfl
theorem laidOut : laidOutB Tryd.prog = true := by kernel_rfl
set_option maxRecDepth 100000 in
theorem contract (H : Type) (enc : TypeId × Value → H) (W : World) (base : Nat) (args : Array Value) (ds gs : List (DataW H)) (before : List MemPlace)
    (hval : ∀ (j : Nat) t v, Tryd.f8.params[j]? = some t → args[j]? = some v → Value.okWide Tryd.prog W .any base t v)
    (hW : DataW.Whole enc Tryd.prog Tryd.f8.params.toList Rows.scanJoinsSpec.vars false W args.toList ds gs before)
    (hsz : (DataW.weightsEach Tryd.prog (Tryd.f8.params.toList ++ Rows.scanJoinsSpec.plain.varTypes Tryd.prog) (ds ++ gs)).all (· ≤ reachBytes) = true) (hk : Rows.uptoSmall H (ds ++ gs) = true) (hL : laidMetH Tryd.prog ([("daybook/crc.halves", Rows.laid_daybook_crc_halves)]) W) :
    Calls Tryd.prog 8 args W fun e W' => ∃ v, e = .returned v ∧ Rows.scanJoinsSpec.post enc Tryd.prog Tryd.f8 false true false false W args v W' := by
  have hW' := hW
  obtain ⟨p, q, hA0, hV, rfl, hfz, hnd⟩ := hW
  have hA : DataW.TrodAll enc Tryd.prog W 0 (fun _ => true) true Tryd.f8.params.toList args.toList ds p := hA0
  rw [Tryd.params8] at hA hval hsz
  obtain ⟨v0, vs0, d0, ds0, p0, q0, hargs, rfl, rfl, h0, r0⟩ := trodAll_cons hA
  obtain ⟨v1, vs1, d1, ds1, p1, q1, rfl, rfl, rfl, h1, r1⟩ := trodAll_cons r0
  obtain ⟨rfl, rfl, rfl⟩ := trodAll_nil r1
  obtain rfl : args = #[v0, v1] := by cases args; simp_all
  obtain ⟨rfl, rfl⟩ := trodVars_none hV
  obtain ⟨a0, len0, cap0, rfl⟩ := okWide_slice Tryd.underlying46 (hval 0 46 v0 rfl rfl)
  have k0 := h0
  have lt0 : ∀ x ∈ p0, x.block < W.heap.size := by obtain ⟨m, hm⟩ := k0; exact DataW.trod_lt m _ _ _ hm
  obtain ⟨l0, hlen0, w0, c0, u0⟩ : ∃ L : List Fi, L.length = len0 ∧ FrsA W a0 L ∧ L.length ≤ cap0 ∧ fbulk L + 1 ≤ Rows.uptoBulk d0 := by
    obtain ⟨fuel, hf⟩ := h0
    obtain ⟨a', cap', L, hcs, hl, _, hL, hbk⟩ := open_frames hf
    simp [Value.cells] at hcs
    obtain ⟨rfl, rfl, rfl⟩ := hcs
    exact ⟨L, rfl, hL, hl, hbk⟩
  subst hlen0
  obtain ⟨a1, len1, cap1, rfl⟩ := okWide_slice Tryd.underlying22 (hval 1 22 v1 rfl rfl)
  have k1 := h1
  have lt1 : ∀ x ∈ p1, x.block < W.heap.size := by obtain ⟨m, hm⟩ := k1; exact DataW.trod_lt m _ _ _ hm
  obtain ⟨l1, hlen1, w1, c1, u1⟩ : ∃ l : List Nat, l.length = len1 ∧ Bytes W a1 l ∧ Came W a1 len1 cap1 1 ∧ cap1 + 1 ≤ Rows.uptoBulk d1 := by
    obtain ⟨fuel, hf⟩ := h1
    rcases open_ints Tryd.underlying22 Tryd.underlying5 (by kernel_rfl) hf with ⟨hcs, hx⟩ | ⟨x, l, c, zs, hcs, _, hl, hm, hz, hx, hcell, hwz⟩
    · simp [Value.cells] at hcs
      obtain ⟨rfl, rfl, rfl⟩ := hcs
      obtain ⟨rfl, rfl⟩ := Prod.mk.inj hx
      exact ⟨[], rfl, ⟨by simp, .inl rfl⟩, ⟨Nat.le_refl _, by simp, fun _ => rfl⟩, by simp [Rows.uptoBulk]⟩
    · simp [Value.cells] at hcs
      obtain ⟨rfl, rfl, rfl⟩ := hcs
      have hz2 : zs.length = cap1 := by simpa using hz
      obtain ⟨ll, e1, e2, e3⟩ := row_nats .u8 256 (by decide) wf_u8 W x zs len1 (by omega) hcell hwz
      have hd : d1 = .slice (lits .u8 (zs.take len1)) (lits .u8 (zs.drop len1)) := (Prod.mk.inj hx).1
      have hreach : cap1 * 1 ≤ 140737488351232 := by
        have := sized_slice hsz (j := 1) (t := 22) (e := 5) rfl (by rw [hd]; rfl) Tryd.underlying22
        rw [show Tryd.prog.bytesOf 5 = 1 from by kernel_rfl] at this
        simp only [lits, List.length_map, List.length_take, List.length_drop, reachBytes] at this
        have hmin : min len1 zs.length = len1 := Nat.min_eq_left (by omega)
        rw [hmin] at this
        have hcap : len1 + (zs.length - len1) = cap1 := by omega
        rw [hcap] at this
        exact this
      refine ⟨ll, e1, ⟨e2, e3⟩, ⟨hl, hreach, fun h => by cases h⟩, ?_⟩
      rw [hd]
      have := bulks.slice_le (lits (H := H) .u8 (zs.take len1)) (lits .u8 (zs.drop len1))
      simp only [lits, List.length_map, List.length_take, List.length_drop] at this ⊢
      omega
  subst hlen1
  have hbk := bulks.bound hk
  simp only [List.append_nil, Rows.uptoBulkAll] at hbk
  have hsum : fbulk l0 + cap1 ≤ 1048576 := by omega
  clear hA0
  refine (walk l0 a0 cap0 l1 a1 cap1 W w0 c0 w1 c1 hsum (tab_of hL)).mono fun e W' ⟨he, bel⟩ => ?_
  subst he
  exact ⟨_, rfl, _, _, _, [], _, [], hW', trodAll_mk1 (shut_bool Tryd.underlying4 _), (trodAll_cons_mk (Below.trod laidOut (by kernel_rfl) (of_decide_eq_true (by kernel_rfl)) k0 bel lt0) (trodAll_cons_mk (Below.trod laidOut (by kernel_rfl) (of_decide_eq_true (by kernel_rfl)) k1 bel lt1) trodAll_mk0)), rfl, bel.frame _, fun h => by cases h⟩
set_option maxRecDepth 100000 in
theorem start (os : Os) : ∃ w0 : World, w0.os = os ∧ (w0.forCall (fun _ _ => 0) ⟨#[], #[.slice none 0 0, .slice none 0 0], []⟩).variablesB Tryd.prog = true ∧
    ((w0.forCall (fun _ _ => 0) ⟨#[], #[.slice none 0 0, .slice none 0 0], []⟩).heap.toList.drop Tryd.prog.globals.size).take ((begin Tryd.prog (fun _ _ => 0) default).world.heap.size - Tryd.prog.globals.size) = (begin Tryd.prog (fun _ _ => 0) default).world.heap.toList.drop Tryd.prog.globals.size ∧
    Input.okWideB Tryd.prog (w0.forCall (fun _ _ => 0) ⟨#[], #[.slice none 0 0, .slice none 0 0], []⟩) 8 ⟨#[], #[.slice none 0 0, .slice none 0 0], []⟩ = true ∧
    laidMet Tryd.prog Rows.scanJoinsUptoRow.laid (w0.forCall (fun _ _ => 0) ⟨#[], #[.slice none 0 0, .slice none 0 0], []⟩).memory ∧
    ∀ (H : Type) (enc : TypeId × Value → H), DataW.whole enc Tryd.prog (w0.forCall (fun _ _ => 0) ⟨#[], #[.slice none 0 0, .slice none 0 0], []⟩).memory Tryd.f8.params.toList Rows.scanJoinsSpec.vars false (#[.slice none 0 0, .slice none 0 0] : Array Value).toList 8 = some ([.nil, .nil], [], []) :=
  ⟨{ World.holding Tryd.prog os ⟨#[], #[], []⟩ with heap := (World.holding Tryd.prog os ⟨#[], #[], []⟩).heap.modify 0 fun
      | .cells _ t frozen => .cells #[.int .u32 0, .int .u32 498536548, .int .u32 997073096, .int .u32 651767980, .int .u32 1994146192, .int .u32 1802195444, .int .u32 1303535960, .int .u32 1342533948, .int .u32 3988292384, .int .u32 4027552580, .int .u32 3604390888, .int .u32 3412177804, .int .u32 2607071920, .int .u32 2262029012, .int .u32 2685067896, .int .u32 3183342108] t frozen
      | o => o }, rfl, by kernel_rfl, by kernel_rfl, by kernel_rfl, laidMet_of_run' 8 (by kernel_rfl) (by kernel_rfl), fun _ _ => by kernel_rfl⟩
set_option maxRecDepth 100000 in
theorem lifted (os : Os) (started : os.Started) (H : Type) (enc : TypeId × Value → H) (F : Stop.Interp) :
    ReturnsInHanded {} Tryd.checked os 8 .any ((Rows.OpenSpec.upto Rows.scanJoinsSpec).preRow enc Tryd.prog Tryd.f8 Rows.scanJoinsUptoRow.domain false Rows.scanJoinsUptoRow.laid) (((Rows.OpenSpec.upto Rows.scanJoinsSpec).at F).post enc Tryd.prog Tryd.f8 false true false false) := by
  obtain ⟨w0, h1, h2, h3, h4, h5, h6⟩ := start os
  refine returnsInHanded_of_row (C := Tryd.checked) (s := Rows.OpenSpec.upto Rows.scanJoinsSpec) own started (by kernel_rfl) Tryd.func8
    (witness_row_at (enc := enc) (C := Tryd.checked) false w0 #[.slice none 0 0, .slice none 0 0] h1 h2 h3 h4
      (OpenSpec.preRow_of_cond 8 (h6 H enc) (by kernel_rfl) (fun k hk => by cases hk; kernel_rfl) (by kernel_rfl) h5)) ?_
  intro W base args ds gs before hval hW _ hcond hsz hL _ _
  exact contract H enc W base args ds gs before hval hW hsz (hcond _ rfl) hL
theorem said : Rows.ScanJoinsUptoSaid :=
  OpenClaim.holds_of_cond 8 Tryd.f8 rfl rfl rfl rfl rfl rfl rfl ⟨rfl, rfl, rfl, rfl, rfl⟩ rfl rfl rfl rfl rfl (by kernel_rfl) Tryd.func8 (by kernel_rfl)
    (of_decide_eq_true (by kernel_rfl)) (by unfold Func.isWrapper; first | (rw [if_pos (by decide +kernel)]; kernel_rfl) | (rw [if_neg (by decide +kernel)]; exact ⟨rfl, rfl⟩))
    (fun os started H enc _ F => by rw [OpenClaim.pre_eq_preRow]; exact lifted os started H enc F)
theorem plain (f : FuncId) (fn : Func) (hf : Tryd.pinned.checked.prog.funcNamed "daybook/daybooklaw12.ScanJoins" = some f) (hfn : Tryd.pinned.checked.prog.funcs[f]? = some fn) :
    false = Tryd.pinned.checked.prog.looks [] ∧ ∀ (j : Nat) t, fn.params[j]? = some t → Tryd.pinned.checked.prog.wantsStandIn t = false := by
  obtain rfl : f = 8 := Option.some.inj ((show Tryd.prog.funcNamed "daybook/daybooklaw12.ScanJoins" = some 8 by kernel_rfl).symm.trans hf) |>.symm
  obtain rfl : fn = Tryd.f8 := (Option.some.inj (Tryd.func8.symm.trans hfn)).symm
  refine ⟨by kernel_rfl, fun j t ht => ?_⟩
  rw [Tryd.params8] at ht
  have hm := Array.mem_of_getElem? ht
  have hall : ∀ t ∈ (#[46, 22] : Array TypeId), Tryd.prog.wantsStandIn t = false := by
    intro t ht
    simp only [List.mem_toArray, List.mem_cons, List.not_mem_nil, or_false] at ht
    rcases ht with rfl | rfl <;> kernel_rfl
  exact hall t hm
theorem card : Rows.ScanJoinsUptoCardSaid :=
  Claim7.holds_tied_plain_at .later [] _ _ _ _ said (fun _ h => by cases h) (by kernel_rfl) (fun _ h => by cases h) scanJoinsUpto_row_tie rfl ⟨rfl, rfl⟩ (by kernel_rfl) rfl plain (by kernel_rfl)
end Go.Proofs.YtpcnebcnjnbdnaaDoor.scanJoins
