/- Own texts, joined: MkG. -/
import Derived.Test.YtfnkhpijcbpeoaaDoorK30
import Derived.Test.YtfnkhpijcbpeoaaDoorK44
import Derived.Test.YtfnkhpijcbpeoaaDoorK45
namespace Go.Proofs.YtfnkhpijcbpeoaaDoor
open Go.ChangeShapes Go.WideShapes Go.ChangeAt Go.RowKit
set_option linter.unusedVariables false
set_option maxRecDepth 20000 in
set_option maxHeartbeats 4000000 in
theorem rdec2_any (l : List Nat) (n : Nat) (a : Option Addr) (cap : Nat) (w : World) (hn : l.length = n) (hb : Bytes w a l) (hcap : n ≤ cap) (hl : n ≤ 140737488351232) :
    Calls Tryd.prog 22 #[.slice a n cap] w fun e w' => ∃ v, e = .returned (.tuple #[v, .int .i64 (mDec l).2]) ∧ OwnM w' w.heap.size v (mDec l).1 ∧ Below w.heap.size w w' := by
  obtain ⟨U, p, e, hd⟩ : ∃ U p e, decAll l 1024 = (U, p, e) := ⟨_, _, _, rfl⟩
  have HD : Hid (decAll l 1024 = (U, p, e)) := hd
  have HX : Hid (l.length = n ∧ Bytes w a l ∧ n ≤ cap ∧ n ≤ 140737488351232) := ⟨hn, hb, hcap, hl⟩
  by_cases he : e = 0
  · subst he
    have hu := decAll_len hd
    have HE : Hid (mDec l = if p ≠ l.length ∨ (mksR U).2 = false ∨ validB (mksR U).1 = false then ([], 70) else ((mksR U).1, 0)) := mDec_eq hd
    obtain ⟨m, hm⟩ : ∃ m, U.length = m := ⟨_, rfl⟩
    have HM : Hid (U.length = m) := hm
    rw [hm] at hu
    by_cases hpn : p = n
    · have hq : ((p : Int) != (n : Int)) = false := by simp [hpn]
      by_cases hodd : m % 2 = 1
      · have hq2 : ((m : Int) % 2 == 1) = true := by simp; omega
        have HR : Hid (mDec l = ([], 70)) := by show _ = _; rw [HE.out, if_pos (.inr (.inl (by unfold mksR; rw [hm, if_pos hodd])))]
        clear hd hn hb hm hpn hl hcap
        go_enter Tryd.func22, Tryd.ntmps22
        go_wp2_with (go_at_call 43; refine (rdecAll_any l 1024 _ _ _ _ HX.out.1 HX.out.2.1 HX.out.2.2.1 HX.out.2.2.2 (by omega) (by omega) (by omega)).mono ?_; rw [HD.out]; rintro x w1 ⟨v1, rfl, ho1, hb1⟩; obtain ⟨a1, c1, rfl, hnm1⟩ := nums_of ho1 m HM.out; clear ho1; have hs1 := hb1.size)
        go_ret2
        rw [HR.out]
        exact ⟨_, rfl, OwnM.nil _ _, hb1⟩
      · have hq2 : ((m : Int) % 2 == 1) = false := by simp; omega
        obtain ⟨i0, hi, hz0, hz1, hz2⟩ := info_parts Tryd.infoMk
        have HR : Hid (mksR U = match mkN [] 0 0 U with | none => ([], false) | some M => (M, true)) := by show _ = _; unfold mksR; rw [hm, if_neg hodd]; cases mkN [] 0 0 U <;> rfl
        have HR2 : Hid (mDec l = if (mksR U).2 = false ∨ validB (mksR U).1 = false then ([], 70) else ((mksR U).1, 0)) := by
          show _ = _
          rw [HE.out]
          have h4 : ¬ (p ≠ l.length) := by rw [hn, hpn]; simp
          by_cases h5 : (mksR U).2 = false ∨ validB (mksR U).1 = false
          · rw [if_pos (.inr h5), if_pos h5]
          · rw [if_neg (fun h => h.elim h4 h5), if_neg h5]
        have HOD : Hid (m % 2 = 0) := by show _ = _; omega
        have hmI : (m : Int) ≤ 1024 := by omega
        clear hd hn hb hm hpn hl hcap hodd
        go_enter Tryd.func22, Tryd.ntmps22
        go_wp2_with (go_at_call 43; refine (rdecAll_any l 1024 _ _ _ _ HX.out.1 HX.out.2.1 HX.out.2.2.1 HX.out.2.2.2 (by omega) (by omega) (by omega)).mono ?_; rw [HD.out]; rintro x w1 ⟨v1, rfl, ho1, hb1⟩; obtain ⟨a1, c1, rfl, hnm1⟩ := nums_of ho1 m HM.out; clear ho1; have hs1 := hb1.size)
        have HNM : Hid (Nums w1 a1 U) := hnm1
        clear hnm1
        go_loopw [7, 8, 9, 10] (fun vms vs va vi wr => ∃ (v0 : Value) (j i : Nat) (s y : Int) (acc : List Mk), v0 = vms ∧ vs = .int .i64 s ∧ va = .int .i64 y ∧ vi = .int .i64 i ∧ i = 2 * j ∧ i ≤ m ∧ OwnM wr w1.heap.size v0 acc ∧ acc.length = j ∧ mkN [] 0 0 U = mkN acc s y (U.drop i) ∧ 0 ≤ s ∧ 0 ≤ y ∧ s ≤ j * 1099511627776 ∧ y ≤ j * 1099511627776 ∧ Below w1.heap.size w1 wr) (fun _ _ _ vi _ => m - (intOf vi).toNat)
        case atStart => exact ⟨_, 0, 0, 0, 0, [], rfl, rfl, rfl, rfl, rfl, Nat.zero_le _, OwnM.lit w1, rfl, rfl, by omega, by omega, by omega, by omega, (Below.refl _ _).alloc (Nat.le_refl _) _⟩
        case round =>
          obtain ⟨v0, j, i, s, y, acc, rfl, rfl, rfl, rfl, hij, hin, hO, hacc, hmk, hs0, hy0, hs1', hy1, hbe⟩ := hrel
          have HO : Hid (OwnM wr w1.heap.size v0 acc) := hO
          have HACC : Hid (acc.length = j) := hacc
          have HMK : Hid (mkN [] 0 0 U = mkN acc s y (U.drop i)) := hmk
          have hbs := hbe.size
          have hjI : (j : Int) ≤ 512 := by omega
          have HIJ : Hid (i = 2 * j) := hij
          have HS1 : Hid (s ≤ j * 1099511627776 ∧ y ≤ j * 1099511627776) := ⟨hs1', hy1⟩
          have hs2 : s ≤ 562949953421312 := by omega
          have hy2 : y ≤ 562949953421312 := by omega
          by_cases hkn : i < m
          · rcases HNM.out.2 with h0 | ⟨b, off, rfl, hlt, hc⟩
            · exfalso; have := HM.out; rw [h0] at this; simp at this; omega
            have hi1 : i + 1 < m := by have := HOD.out; omega
            have c0 := hc i (by rw [HM.out]; exact hkn)
            have c1' := hc (i + 1) (by rw [HM.out]; omega)
            rw [← hbe.cell (p := ⟨b, off + i, none⟩) hlt] at c0
            rw [← hbe.cell (p := ⟨b, off + (i + 1), none⟩) hlt] at c1'
            obtain ⟨p', hp⟩ := get_of_lt (L := U) (k := i) (by rw [HM.out]; exact hkn)
            obtain ⟨q, hq'⟩ := get_of_lt (L := U) (k := i + 1) (by rw [HM.out]; omega)
            rw [show U.getD i 0 = p' from by rw [List.getD_eq_getElem?_getD, hp]; rfl] at c0
            rw [show U.getD (i + 1) 0 = q from by rw [List.getD_eq_getElem?_getD, hq']; rfl] at c1'
            have hi1n : (i : Int) + 1 < (m : Int) := by omega
            have hi0n : (i : Int) < (m : Int) := by omega
            have HST : Hid (mkN [] 0 0 U = if 1099511627776 < p' ∨ 1099511627776 < q then none else mkN (acc ++ [(s + p', y + q)]) (s + p') (y + q) (U.drop (i + 2))) := by show _ = _; rw [hmk, drop_two U i p' q hp hq', mkN_cons]
            have HNO : Hid (1099511627776 < p' ∨ 1099511627776 < q → mDec l = ([], 70)) := by intro h; rw [HR2.out, HR.out, HST.out, if_pos h]; rfl
            have HB : Hid (Below w1.heap.size w1 (wr.alloc (.cells #[.int .i64 (s + p'), .int .i64 (y + q)] 68))) := hbe.alloc hbs _
            have HO5 : Hid ((wr.alloc (.cells #[.int .i64 (s + p'), .int .i64 (y + q)] 68)).ownsRow w1.heap.size 68 2 v0 j (mfl acc)) := by have h := World.ownsRow.alloc hO (.cells #[.int .i64 (s + p'), .int .i64 (y + q)] 68); rw [hacc] at h; exact h
            clear hp hq' hc hmk hO hacc HMK hij hs1' hy1
            go_wp2_with (at_builtin; refine wpList_append_own _ rfl _ _ 30 rfl w1.heap.size 68 i0 (.agg #[.int .i64 0, .int .i64 0]) 2 16 Tryd.underlying30 hi hz0 hz1 hz2 rfl (by decide) _ _ _ rfl HO5.out ⟨wr.heap.size, 0, none⟩ 1 1 [.int .i64 (s + p'), .int .i64 (y + q)] rfl rfl (cell_new2 wr _ _ _) (one_mk _ _) (by unfold maxLen; omega) (by omega) (by simp; omega) ?_; intro v4 w4 ho4 hg4 _; have hb4 := grown_row HB.out HO5.out (by simp; omega) hg4; have HO4 : Hid (OwnM w4 w1.heap.size v4 (acc ++ [(s + p', y + q)])) := OwnM.snoc HACC.out ho4; clear ho4 hg4)
            all_goals first
              | (go_ret2; rw [HNO.out (by omega)]; exact ⟨_, rfl, OwnM.nil _ _, below_next hb1 hbe⟩)
              | (refine ⟨⟨v4, j + 1, i + 2, s + p', y + q, acc ++ [(s + p', y + q)], rfl, rfl, rfl, by go_num, by have := HIJ.out; omega, by omega, HO4.out, by rw [List.length_append, HACC.out]; rfl, by rw [HST.out, if_neg (by omega)], by omega, by omega, by have := HS1.out; omega, by have := HS1.out; omega, hb4⟩, by simp [intOf]; omega⟩)
          · have HFIN : Hid (mksR U = (acc, true)) := by
              show _ = _
              rw [HR.out, HMK.out, List.drop_eq_nil_of_le (by rw [HM.out]; omega)]
              rfl
            obtain ⟨a2, c2, hv2, hmk2, hln2⟩ := marks_of hO j hacc
            have HO2 : Hid (OwnM wr w1.heap.size v0 acc) := hO
            subst hv2
            have HMK2 : Hid (Marks wr a2 acc) := hmk2
            have HLN2 : Hid (j ≤ maxLen) := hln2
            have him : (m : Int) ≤ (i : Int) + 1 := by omega
            cases hvb : validB acc with
            | false =>
              have HV : Hid (validB acc = false) := hvb
              have HRR : Hid (mDec l = ([], 70)) := by show _ = _; rw [HR2.out, HFIN.out, if_pos (.inr hvb)]
              clear hO hacc hmk HMK hij hs1' hy1 hmk2 hln2
              go_wp2_with (go_at_call 44; refine (rvalid_any acc _ _ _ _ HACC.out HMK2.out HLN2.out).mono ?_; rw [HV.out]; rintro x w3 ⟨rfl, hb3⟩)
              go_ret2
              rw [HRR.out]
              exact ⟨_, rfl, OwnM.nil _ _, below_next (below_next hb1 hbe) hb3⟩
            | true =>
              have HV : Hid (validB acc = true) := hvb
              have HRR : Hid (mDec l = (acc, 0)) := by show _ = _; rw [HR2.out, HFIN.out, if_neg (by simp [hvb])]
              clear hO hacc hmk HMK hij hs1' hy1 hmk2 hln2
              go_wp2_with (go_at_call 44; refine (rvalid_any acc _ _ _ _ HACC.out HMK2.out HLN2.out).mono ?_; rw [HV.out]; rintro x w3 ⟨rfl, hb3⟩; have HO3 : Hid (OwnM w3 w.heap.size (.slice a2 j c2) acc) := World.ownsRow.mono (own_below HO2.out hb3) hs1)
              go_ret2
              rw [HRR.out]
              exact ⟨_, rfl, HO3.out, below_next (below_next hb1 hbe) hb3⟩
    · have hq : ((p : Int) != (n : Int)) = true := by simp; omega
      have HR : Hid (mDec l = ([], 70)) := by show _ = _; rw [HE.out, if_pos (.inl (by rw [hn]; exact hpn))]
      clear hd hn hb hm hpn hl hcap
      go_enter Tryd.func22, Tryd.ntmps22
      go_wp2_with (go_at_call 43; refine (rdecAll_any l 1024 _ _ _ _ HX.out.1 HX.out.2.1 HX.out.2.2.1 HX.out.2.2.2 (by omega) (by omega) (by omega)).mono ?_; rw [HD.out]; rintro x w1 ⟨v1, rfl, ho1, hb1⟩; obtain ⟨a1, c1, rfl, hnm1⟩ := nums_of ho1 m HM.out; clear ho1; have hs1 := hb1.size)
      go_ret2
      rw [HR.out]
      exact ⟨_, rfl, OwnM.nil _ _, hb1⟩
  · have HR : Hid (mDec l = ([], e)) := mDec_bad hd he
    have heb : ((e : Int) != 0) = true := by simp; omega
    clear hd hn hb he hl hcap
    go_enter Tryd.func22, Tryd.ntmps22
    go_wp2_with (go_at_call 43; refine (rdecAll_any l 1024 _ _ _ _ HX.out.1 HX.out.2.1 HX.out.2.2.1 HX.out.2.2.2 (by omega) (by omega) (by omega)).mono ?_; rw [HD.out]; rintro x w1 ⟨v1, rfl, ho1, hb1⟩)
    go_ret2
    rw [HR.out]
    exact ⟨_, rfl, OwnM.nil _ _, hb1⟩
end Go.Proofs.YtfnkhpijcbpeoaaDoor
