/- daybookref24.Number. -/
import Derived.Test.YtomgnbhajhkhfaaDoorDn1
namespace Go.Proofs.YtomgnbhajhkhfaaDoor
open Go.ChangeShapes Go.WideShapes Go.ChangeAt Go.RowKit
set_option linter.unusedVariables false
set_option linter.unusedSimpArgs false
def nmB (l : List UInt8) : Bool := match numR l with | some _ => true | none => false
def RnP (l : List UInt8) (w : World) (e : Ending) (w' : World) : Prop := e = .returned (.tuple #[.int .i64 (nmV l), .bool (nmB l)]) ∧ w' = w
theorem rnP_none {l : List UInt8} {w : World} (h : ¬ rnOk l) : RnP l w (.returned (.tuple #[.int .i64 0, .bool false])) w := by
  have h2 := rn_none h
  refine ⟨?_, rfl⟩
  rw [(nm_none h2).1]
  unfold nmB
  rw [h2]
theorem rnP_some {l : List UInt8} {w : World} {v : Int} (h : rnOk l) (hv : v = rnV l) : RnP l w (.returned (.tuple #[.int .i64 v, .bool true])) w := by
  have h2 := rn_some h
  refine ⟨?_, rfl⟩
  rw [(nm_some h2).1, hv]
  unfold nmB
  rw [h2]
theorem take_dig {l : List UInt8} {j : Nat} (h : j < l.length) : l.take (j + 1) = l.take j ++ [l[j]] := by rw [List.take_succ_eq_append_getElem h]
theorem over_no (V d : Nat) (hd : d ≤ 9) (h : 9223372036854775808 < 10 * V + d) : -(V : Int) < (-9223372036854775808 + (d : Int)).tdiv 10 := by
  rw [show (-9223372036854775808 + (d : Int)) = -(9223372036854775808 - (d : Int)) from by omega, Int.neg_tdiv, Int.tdiv_eq_ediv_of_nonneg (by omega)]
  omega
theorem over_yes (V d : Nat) (hd : d ≤ 9) (h : 10 * V + d ≤ 9223372036854775808) : ¬ -(V : Int) < (-9223372036854775808 + (d : Int)).tdiv 10 := by
  rw [show (-9223372036854775808 + (d : Int)) = -(9223372036854775808 - (d : Int)) from by omega, Int.neg_tdiv, Int.tdiv_eq_ediv_of_nonneg (by omega)]
  omega
theorem over_bd (d : Nat) (hd : d ≤ 9) : -922337203685477581 ≤ (-9223372036854775808 + (d : Int)).tdiv 10 ∧ (-9223372036854775808 + (d : Int)).tdiv 10 ≤ 0 := by
  rw [show (-9223372036854775808 + (d : Int)) = -(9223372036854775808 - (d : Int)) from by omega, Int.neg_tdiv, Int.tdiv_eq_ediv_of_nonneg (by omega)]
  omega
/-- the loop's digits -/
structure RnI (ds : List UInt8) (j V : Nat) : Prop where
  le : j ≤ ds.length
  dig : ∀ c ∈ ds.take j, isD c
  val : dv 0 (ds.take j) = V
  fit : V ≤ 9223372036854775808
theorem RnI.step {ds : List UInt8} {j V z : Nat} (h : RnI ds j V) (hj : j < ds.length) (hz : (ds[j]).toNat = z) (h1 : 48 ≤ z) (h2 : z ≤ 57) (hf : 10 * V + (z - 48) ≤ 9223372036854775808) : RnI ds (j + 1) (10 * V + (z - 48)) := by
  refine ⟨hj, fun c hc => ?_, ?_, hf⟩
  · rw [take_dig hj] at hc
    rcases List.mem_append.1 hc with hc | hc
    · exact h.dig c hc
    · simp at hc; subst hc; unfold isD; omega
  · rw [take_dig hj, dv_snoc, h.val, hz]
theorem RnI.bad {ds : List UInt8} {j V z : Nat} (h : RnI ds j V) (hj : j < ds.length) (hz : (ds[j]).toNat = z) (hb : z < 48 ∨ 57 < z) : ¬ ∀ c ∈ ds, isD c := fun hh => by
  have := hh (ds[j]) (List.getElem_mem hj)
  unfold isD at this
  omega
theorem RnI.over {ds : List UInt8} {j V z : Nat} (h : RnI ds j V) (hj : j < ds.length) (hz : (ds[j]).toNat = z) (hf : 9223372036854775808 < 10 * V + (z - 48)) : ¬ dv 0 ds ≤ 9223372036854775808 := fun hh => by
  have h1 := dv_take ds (j + 1)
  rw [take_dig hj, dv_snoc, h.val, hz] at h1
  omega
set_option maxRecDepth 20000 in
set_option maxHeartbeats 4000000 in
theorem rnumber_1 (l : List UInt8) (w : World) (n : Nat) (hn : l.length = n) (hl : n ≤ 140737488351232) (h0 : 0 < n) (hm : l.head? = some 45) :
    Calls Tryd.prog 10 #[.string (bs l)] w fun e w' => RnP l w e w' := by
  have hsz : (bs l).size = n := hn
  have HN : Hid (l.length = n) := hn
  have HM : Hid (l.head? = some 45) := hm
  obtain ⟨z0, hz0⟩ : ∃ z, ((bs l)[0]'(by rw [hsz]; exact h0)).toNat = z := ⟨_, rfl⟩
  have k0 : ((z0 : Int) == 45) = true := by
    cases l with
    | nil => simp at hn; omega
    | cons a r =>
      have ha : a.toNat = z0 := hz0
      simp at hm; subst hm; have e45 : (45 : UInt8).toNat = 45 := rfl; simp; omega
  have HDS : Hid (dsOf l = l.drop 1) := by show _ = _; unfold dsOf; rw [if_pos hm]
  have HDL : Hid ((dsOf l).length + 1 = n) := by show _ = _; rw [HDS.out, List.length_drop, hn]; omega
  have hnI : (n : Int) ≤ 140737488351232 := by omega
  have h0I : (0 : Int) < n := by omega
  clear hm hn
  by_cases h1 : n = 1
  · have h1I : ((n : Int) == 1) = true := by simp; omega
    have HB : Hid (¬ rnOk l) := fun h => h.1 (List.length_eq_zero_iff.1 (by have := HDL.out; omega))
    clear h1
    go_enter Tryd.func10, Tryd.ntmps10
    go_wp2
    go_ret2
    exact rnP_none HB.out
  have h1I : ((n : Int) == 1) = false := by simp; omega
  by_cases h19 : 20 < n
  · have h19I : (20 : Int) < n := by omega
    have HB : Hid (¬ rnOk l) := fun h => by have := h.2.1; have := HDL.out; omega
    clear h19
    go_enter Tryd.func10, Tryd.ntmps10
    go_wp2
    go_ret2
    exact rnP_none HB.out
  have h19I : ¬ (20 : Int) < n := by omega
  have hfn : 1 < n := by omega
  obtain ⟨z1, hz1⟩ : ∃ z, ((bs l)[1]'(by rw [hsz]; exact hfn)).toNat = z := ⟨_, rfl⟩
  have HHD : Hid ((dsOf l).head? = some 48 ↔ z1 = 48) := by
    show _ ↔ _
    rw [HDS.out, List.head?_drop, List.getElem?_eq_getElem (by rw [HN.out]; exact hfn)]
    have e : (l[1]'(by rw [HN.out]; exact hfn)).toNat = z1 := hz1
    constructor
    · intro h
      rw [← e, Option.some.inj h]; rfl
    · intro h
      rw [← e] at h
      exact congrArg some (UInt8.toNat_inj.1 (by rw [h]; rfl))
  by_cases h48 : z1 = 48 ∧ 1 < n
  · have k48 : ((z1 : Int) == 48) = true := by simp; omega
    have hn1 : (1 : Int) < n := by omega
    have HB : Hid (¬ rnOk l) := fun h => h.2.2.1 ⟨HHD.out.2 h48.1, by rw [HN.out]; exact h48.2⟩
    clear h48
    go_enter Tryd.func10, Tryd.ntmps10
    go_wp2
    go_ret2
    exact rnP_none HB.out
  have HOK : Hid ((∀ c ∈ dsOf l, isD c) → dv 0 (dsOf l) ≤ 9223372036854775808 → True → rnOk l) := fun a b c => ⟨fun h => by have := HDL.out; rw [h] at this; simp at this; omega, by have := HDL.out; omega, fun h => h48 ⟨HHD.out.1 h.1, by have := h.2; rw [HN.out] at this; exact this⟩, a, b, .inl HM.out⟩
  have k48 : ((z1 : Int) == 48) = false := by simp; intro e; exact h48 ⟨by omega, by omega⟩
  have hn1 : (1 : Int) < n := by omega
  clear h48
  all_goals
    go_enter Tryd.func10, Tryd.ntmps10
    go_wp2
    go_loop [6, 7] (fun vn vi => ∃ (i j V : Nat), vi = .int .i64 i ∧ Hid (i = 1 + j) ∧ i ≤ n ∧ vn = .int .i64 (-(V : Int)) ∧ Hid (RnI (dsOf l) j V)) (fun _ vi => n - (intOf vi).toNat)
    case atStart => exact ⟨1, 0, 0, rfl, rfl, by omega, rfl, ⟨Nat.zero_le _, fun c hc => by simp at hc, rfl, by omega⟩⟩
    case round =>
      clear k48 k0
      obtain ⟨i, j, V, rfl, HI, hin, rfl, HR⟩ := hrel
      have hV : V ≤ 9223372036854775808 := HR.out.fit
      by_cases hlt : i < n
      · have hjl : j < (dsOf l).length := by have := HI.out; have := HDL.out; omega
        obtain ⟨z, hz⟩ : ∃ z, ((bs l)[i]'(by rw [hsz]; exact hlt)).toNat = z := ⟨_, rfl⟩
        have HZ : Hid (((dsOf l)[j]).toNat = z) := by
          show _ = _
          rw [← hz]
          have e : (dsOf l)[j] = l[i]'(by rw [HN.out]; exact hlt) := by
            have e2 : (dsOf l)[j]? = l[i]? := by rw [HDS.out, List.getElem?_drop, HI.out]
            rw [List.getElem?_eq_getElem hjl, List.getElem?_eq_getElem (by rw [HN.out]; exact hlt)] at e2
            exact Option.some.inj e2
          rw [e]
          rfl
        have HJL : Hid (j < (dsOf l).length) := hjl
        have hz256 : (z : Int) < 256 := by rw [← hz]; have := ((bs l)[i]'(by rw [hsz]; exact hlt)).toNat_lt; omega
        have hltI : (i : Int) < n := by omega
        by_cases ha : z < 48
        · have HB : Hid (¬ rnOk l) := fun h => HR.out.bad HJL.out HZ.out (.inl ha) h.2.2.2.1
          have haI : (z : Int) < 48 := by omega
          clear hV
          go_wp2
          go_ret2
          exact rnP_none HB.out
        by_cases hb : 57 < z
        · have HB : Hid (¬ rnOk l) := fun h => HR.out.bad HJL.out HZ.out (.inr hb) h.2.2.2.1
          have haI : ¬ (z : Int) < 48 := by omega
          have hbI : (57 : Int) < z := by omega
          clear hV
          go_wp2
          go_ret2
          exact rnP_none HB.out
        have haI : ¬ (z : Int) < 48 := by omega
        have hbI : ¬ (57 : Int) < z := by omega
        obtain ⟨d, hd⟩ : ∃ d : Nat, z - 48 = d := ⟨_, rfl⟩
        have hdI : (z : Int) - 48 = (d : Int) := by omega
        have hd9 : d ≤ 9 := by omega
        obtain ⟨T, hT⟩ : ∃ T, (-9223372036854775808 + (d : Int)).tdiv 10 = T := ⟨_, rfl⟩
        have hT1 : -922337203685477581 ≤ T := by rw [← hT]; exact (over_bd d hd9).1
        have hT2 : T ≤ 0 := by rw [← hT]; exact (over_bd d hd9).2
        by_cases hov : 9223372036854775808 < 10 * V + d
        · have hcm : -(V : Int) < T := by rw [← hT]; exact over_no V d hd9 hov
          have HB : Hid (¬ rnOk l) := fun h => HR.out.over HJL.out HZ.out (by rw [hd]; exact hov) h.2.2.2.2.1
          clear hV hov
          go_wp2
          go_ret2
          exact rnP_none HB.out
        · have hcm : ¬ -(V : Int) < T := by rw [← hT]; exact over_yes V d hd9 (by omega)
          have HR2 : Hid (RnI (dsOf l) (j + 1) (10 * V + d)) := by rw [← hd]; exact HR.out.step HJL.out HZ.out (by omega) (by omega) (by rw [hd]; omega)
          clear hV
          go_wp2
          go_round
          case rel => exact ⟨i + 1, j + 1, 10 * V + d, by go_num, (by show _ = _; rw [HI.out]; omega), by omega, by go_num, HR2⟩
          case measure => simp [intOf]; omega
      · have HV : Hid (V = dv 0 (dsOf l)) := by
          show _ = _
          rw [← HR.out.val, List.take_of_length_le (by have := HI.out; have := HDL.out; omega)]
        have HD : Hid (∀ c ∈ dsOf l, isD c) := by
          have := HR.out.dig
          rwa [List.take_of_length_le (by have := HI.out; have := HDL.out; omega)] at this
        have HV6 : Hid (V ≤ 9223372036854775808) := hV
        have HRV : Hid (rnV l = -(V : Int)) := by show _ = _; unfold rnV; rw [if_pos HM.out, HV.out]
        have HK : Hid (rnOk l) := HOK.out HD.out (by rw [← HV.out]; exact hV) trivial
        clear hV
        go_wp2
        go_ret2
        exact rnP_some HK.out HRV.out.symm
set_option maxRecDepth 20000 in
set_option maxHeartbeats 4000000 in
theorem rnumber_0 (l : List UInt8) (w : World) (n : Nat) (hn : l.length = n) (hl : n ≤ 140737488351232) (h0 : 0 < n) (hm : l.head? ≠ some 45) :
    Calls Tryd.prog 10 #[.string (bs l)] w fun e w' => RnP l w e w' := by
  have hsz : (bs l).size = n := hn
  have HN : Hid (l.length = n) := hn
  have HM : Hid (l.head? ≠ some 45) := hm
  obtain ⟨z0, hz0⟩ : ∃ z, ((bs l)[0]'(by rw [hsz]; exact h0)).toNat = z := ⟨_, rfl⟩
  have k0 : ((z0 : Int) == 45) = false := by
    cases l with
    | nil => simp at hn; omega
    | cons a r =>
      have ha : a.toNat = z0 := hz0
      simp at hm; simp; intro e; exact hm (UInt8.toNat_inj.1 (by rw [ha]; show z0 = 45; omega))
  have HDS : Hid (dsOf l = l.drop 0) := by show _ = _; unfold dsOf; rw [if_neg hm]; rfl
  have HDL : Hid ((dsOf l).length + 0 = n) := by show _ = _; rw [HDS.out, List.length_drop, hn]; omega
  have hnI : (n : Int) ≤ 140737488351232 := by omega
  have h0I : (0 : Int) < n := by omega
  clear hm hn
  have h1I : ((n : Int) == 0) = false := by simp; omega
  by_cases h19 : 19 < n
  · have h19I : (19 : Int) < n := by omega
    have HB : Hid (¬ rnOk l) := fun h => by have := h.2.1; have := HDL.out; omega
    clear h19
    go_enter Tryd.func10, Tryd.ntmps10
    go_wp2
    go_ret2
    exact rnP_none HB.out
  have h19I : ¬ (19 : Int) < n := by omega
  have hfn : 0 < n := by omega
  have HHD : Hid ((dsOf l).head? = some 48 ↔ z0 = 48) := by
    show _ ↔ _
    rw [HDS.out, List.head?_drop, List.getElem?_eq_getElem (by rw [HN.out]; exact hfn)]
    have e : (l[0]'(by rw [HN.out]; exact hfn)).toNat = z0 := hz0
    constructor
    · intro h
      rw [← e, Option.some.inj h]; rfl
    · intro h
      rw [← e] at h
      exact congrArg some (UInt8.toNat_inj.1 (by rw [h]; rfl))
  by_cases h48 : z0 = 48 ∧ 1 < n
  · have k48 : ((z0 : Int) == 48) = true := by simp; omega
    have hn1 : (1 : Int) < n := by omega
    have HB : Hid (¬ rnOk l) := fun h => h.2.2.1 ⟨HHD.out.2 h48.1, by rw [HN.out]; exact h48.2⟩
    clear h48
    go_enter Tryd.func10, Tryd.ntmps10
    go_wp2
    go_ret2
    exact rnP_none HB.out
  have HOK : Hid ((∀ c ∈ dsOf l, isD c) → dv 0 (dsOf l) ≤ 9223372036854775808 → dv 0 (dsOf l) ≠ 9223372036854775808 → rnOk l) := fun a b c => ⟨fun h => by have := HDL.out; rw [h] at this; simp at this; omega, by have := HDL.out; omega, fun h => h48 ⟨HHD.out.1 h.1, by have := h.2; rw [HN.out] at this; exact this⟩, a, b, .inr c⟩
  have hway : ((z0 : Int) == 48) = false ∨ (((z0 : Int) == 48) = true ∧ ¬ (1 : Int) < n) := by
    by_cases e : z0 = 48
    · exact .inr ⟨by simp; omega, fun h => h48 ⟨e, by omega⟩⟩
    · exact .inl (by simp; omega)
  clear h48
  rcases hway with k48 | ⟨k48, hn1⟩
  all_goals
    go_enter Tryd.func10, Tryd.ntmps10
    go_wp2
    go_loop [6, 7] (fun vn vi => ∃ (i j V : Nat), vi = .int .i64 i ∧ Hid (i = 0 + j) ∧ i ≤ n ∧ vn = .int .i64 (-(V : Int)) ∧ Hid (RnI (dsOf l) j V)) (fun _ vi => n - (intOf vi).toNat)
    case atStart => exact ⟨0, 0, 0, rfl, rfl, by omega, rfl, ⟨Nat.zero_le _, fun c hc => by simp at hc, rfl, by omega⟩⟩
    case round =>
      clear k48 k0
      obtain ⟨i, j, V, rfl, HI, hin, rfl, HR⟩ := hrel
      have hV : V ≤ 9223372036854775808 := HR.out.fit
      by_cases hlt : i < n
      · have hjl : j < (dsOf l).length := by have := HI.out; have := HDL.out; omega
        obtain ⟨z, hz⟩ : ∃ z, ((bs l)[i]'(by rw [hsz]; exact hlt)).toNat = z := ⟨_, rfl⟩
        have HZ : Hid (((dsOf l)[j]).toNat = z) := by
          show _ = _
          rw [← hz]
          have e : (dsOf l)[j] = l[i]'(by rw [HN.out]; exact hlt) := by
            have e2 : (dsOf l)[j]? = l[i]? := by rw [HDS.out, List.getElem?_drop, HI.out]
            rw [List.getElem?_eq_getElem hjl, List.getElem?_eq_getElem (by rw [HN.out]; exact hlt)] at e2
            exact Option.some.inj e2
          rw [e]
          rfl
        have HJL : Hid (j < (dsOf l).length) := hjl
        have hz256 : (z : Int) < 256 := by rw [← hz]; have := ((bs l)[i]'(by rw [hsz]; exact hlt)).toNat_lt; omega
        have hltI : (i : Int) < n := by omega
        by_cases ha : z < 48
        · have HB : Hid (¬ rnOk l) := fun h => HR.out.bad HJL.out HZ.out (.inl ha) h.2.2.2.1
          have haI : (z : Int) < 48 := by omega
          clear hV
          go_wp2
          go_ret2
          exact rnP_none HB.out
        by_cases hb : 57 < z
        · have HB : Hid (¬ rnOk l) := fun h => HR.out.bad HJL.out HZ.out (.inr hb) h.2.2.2.1
          have haI : ¬ (z : Int) < 48 := by omega
          have hbI : (57 : Int) < z := by omega
          clear hV
          go_wp2
          go_ret2
          exact rnP_none HB.out
        have haI : ¬ (z : Int) < 48 := by omega
        have hbI : ¬ (57 : Int) < z := by omega
        obtain ⟨d, hd⟩ : ∃ d : Nat, z - 48 = d := ⟨_, rfl⟩
        have hdI : (z : Int) - 48 = (d : Int) := by omega
        have hd9 : d ≤ 9 := by omega
        obtain ⟨T, hT⟩ : ∃ T, (-9223372036854775808 + (d : Int)).tdiv 10 = T := ⟨_, rfl⟩
        have hT1 : -922337203685477581 ≤ T := by rw [← hT]; exact (over_bd d hd9).1
        have hT2 : T ≤ 0 := by rw [← hT]; exact (over_bd d hd9).2
        by_cases hov : 9223372036854775808 < 10 * V + d
        · have hcm : -(V : Int) < T := by rw [← hT]; exact over_no V d hd9 hov
          have HB : Hid (¬ rnOk l) := fun h => HR.out.over HJL.out HZ.out (by rw [hd]; exact hov) h.2.2.2.2.1
          clear hV hov
          go_wp2
          go_ret2
          exact rnP_none HB.out
        · have hcm : ¬ -(V : Int) < T := by rw [← hT]; exact over_yes V d hd9 (by omega)
          have HR2 : Hid (RnI (dsOf l) (j + 1) (10 * V + d)) := by rw [← hd]; exact HR.out.step HJL.out HZ.out (by omega) (by omega) (by rw [hd]; omega)
          clear hV
          go_wp2
          go_round
          case rel => exact ⟨i + 1, j + 1, 10 * V + d, by go_num, (by show _ = _; rw [HI.out]; omega), by omega, by go_num, HR2⟩
          case measure => simp [intOf]; omega
      · have HV : Hid (V = dv 0 (dsOf l)) := by
          show _ = _
          rw [← HR.out.val, List.take_of_length_le (by have := HI.out; have := HDL.out; omega)]
        have HD : Hid (∀ c ∈ dsOf l, isD c) := by
          have := HR.out.dig
          rwa [List.take_of_length_le (by have := HI.out; have := HDL.out; omega)] at this
        have HV6 : Hid (V ≤ 9223372036854775808) := hV
        have HRV : Hid (rnV l = (V : Int)) := by show _ = _; unfold rnV; rw [if_neg HM.out, HV.out]
        by_cases h63 : V = 9223372036854775808
        · have HB : Hid (¬ rnOk l) := fun h => by
            rcases h.2.2.2.2.2 with h | h
            · exact HM.out h
            · exact h (by rw [← HV.out]; exact h63)
          have k63 : (-(V : Int) == -9223372036854775808) = true := by simp; omega
          clear hV h63
          go_wp2
          go_ret2
          exact rnP_none HB.out
        · have HK : Hid (rnOk l) := HOK.out HD.out (by rw [← HV.out]; exact hV) (by rw [← HV.out]; exact h63)
          have k63 : (-(V : Int) == -9223372036854775808) = false := by simp; omega
          have hV9 : (V : Int) ≤ 9223372036854775807 := by omega
          clear hV h63
          go_wp2
          go_ret2
          exact rnP_some HK.out (by rw [HRV.out])
set_option maxRecDepth 20000 in
theorem rnumber_any (l : List UInt8) (w : World) (n : Nat) (hn : l.length = n) (hl : n ≤ 140737488351232) :
    Calls Tryd.prog 10 #[.string (bs l)] w fun e w' => RnP l w e w' := by
  by_cases h0 : 0 < n
  · by_cases hm : l.head? = some 45
    · exact rnumber_1 l w n hn hl h0 hm
    · exact rnumber_0 l w n hn hl h0 hm
  · obtain rfl : l = [] := List.length_eq_zero_iff.1 (by omega)
    have HB : Hid (¬ rnOk []) := fun h => h.1 rfl
    clear hn hl h0
    go_enter Tryd.func10, Tryd.ntmps10
    go_wp2
    go_ret2
    exact rnP_none HB.out
end Go.Proofs.YtomgnbhajhkhfaaDoor
