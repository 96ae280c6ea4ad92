/- Own texts, joined: DecAl, Mfn. -/
import Derived.Test.YtnfkdgjgglnniaaDoorK12
import Derived.Test.YtnfkdgjgglnniaaDoorK09
import Derived.Test.YtnfkdgjgglnniaaDoorK05
import Derived.Test.YtnfkdgjgglnniaaDoorK11
namespace Go.Proofs.YtnfkdgjgglnniaaDoor
open Go.ChangeShapes Go.WideShapes Go.ChangeAt Go.RowKit
set_option linter.unusedVariables false
def vdecN : Nat → List Nat → Nat → List Nat → List Nat × Nat × Nat
  | 0, _, p, acc => (acc, p, 0)
  | c + 1, l, p, acc => if (dec 0 0 (l.drop p)).2.2 = 0 then vdecN c l (p + (dec 0 0 (l.drop p)).2.1) (acc ++ [(dec 0 0 (l.drop p)).1]) else ([], 0, (dec 0 0 (l.drop p)).2.2)
def decAll (l : List Nat) (most : Int) : List Nat × Nat × Nat :=
  if (dec 0 0 l).2.2 ≠ 0 then ([], 0, (dec 0 0 l).2.2) else if most.toNat < (dec 0 0 l).1 then ([], 0, 24) else vdecN (dec 0 0 l).1 l (dec 0 0 l).2.1 []
theorem decN_succ (c : Nat) (l : List Nat) (p : Nat) (acc : List Nat) (u k e : Nat) (h : dec 0 0 (l.drop p) = (u, k, e)) : vdecN (c + 1) l p acc = if e = 0 then vdecN c l (p + k) (acc ++ [u]) else ([], 0, e) := by
  show (if (dec 0 0 (l.drop p)).2.2 = 0 then _ else _) = _
  rw [h]
def B64 (l : List Nat) : List Value := l.map fun (n : Nat) => Value.int .u64 (n : Int)
theorem B64_append (l m : List Nat) : B64 (l ++ m) = B64 l ++ B64 m := by simp [B64]
def Own64 (w : World) (base : Nat) (v : Value) (l : List Nat) : Prop := (∀ i, l.getD i 0 < 18446744073709551616) ∧ w.ownsRow base 65 1 v l.length (B64 l)
theorem B64_get (l : List Nat) (i : Nat) (h : i < l.length) : (B64 l)[i]? = some (.int .u64 (l.getD i 0 : Nat)) := by
  simp [B64, h]
theorem Own64.slice {w : World} {base : Nat} {v : Value} {l : List Nat} (h : Own64 w base v l) : ∃ a cap, v = .slice a l.length cap ∧ Nums w a l := by
  obtain ⟨h0, h1, h2⟩ := h
  rcases h2 with ⟨rfl, hn⟩ | ⟨g, cap, cur, rfl, hb, hg, hnc, hcm, hcs, htake⟩
  · have : l = [] := List.length_eq_zero_iff.1 hn
    subst this
    exact ⟨none, 0, rfl, h0, .inl rfl⟩
  · have hlt : g < w.heap.size := by
      by_cases hh : g < w.heap.size
      · exact hh
      · rw [Array.getElem?_eq_none (by omega)] at hg; cases hg
    have ho : w.ownsRow base 65 1 (.slice (some ⟨g, 0, none⟩) l.length cap) l.length (B64 l) := ⟨h1, .inr ⟨g, cap, cur, rfl, hb, hg, hnc, hcm, hcs, htake⟩⟩
    refine ⟨some ⟨g, 0, none⟩, cap, rfl, h0, .inr ⟨g, 0, rfl, hlt, fun i hi => ?_⟩⟩
    rw [Nat.zero_add, ho.cellAt i (by omega), B64_get l i hi]
theorem own64_nil (w : World) (base : Nat) : Own64 w base (.slice none 0 0) [] := ⟨by simp, World.ownsRow_nil w base _ 1⟩
theorem Own64.snoc {w : World} {base : Nat} {v : Value} {l : List Nat} {u : Nat} (hl : ∀ i, l.getD i 0 < 18446744073709551616) (hu : u < 18446744073709551616) (h : w.ownsRow base 65 1 v (l.length + 1) (B64 l ++ [.int .u64 (u : Int)])) : Own64 w base v (l ++ [u]) := by
  refine ⟨fun i => ?_, by rw [List.length_append, B64_append]; exact h⟩
  have h1 := hl i
  rw [List.getD_eq_getElem?_getD] at h1 ⊢
  rw [List.getElem?_append]
  split
  · exact h1
  · cases i - l.length with
    | zero => simpa using hu
    | succ n => simp
theorem Tryd.info64 : (Tryd.prog.info? 65).map (fun i => (i.zero, i.size, i.bytes)) = some (some (.int .u64 0), 1, 8) := by kernel_rfl
theorem ret3v {v : Value} {b c b' c' : Int} (h2 : b = b') (h3 : c = c') : Ending.returned (.tuple #[v, .int .i64 b, .int .i64 c]) = .returned (.tuple #[v, .int .i64 b', .int .i64 c']) := by rw [h2, h3]
set_option maxRecDepth 20000 in
set_option maxHeartbeats 2000000 in
theorem decAll_any (l : List Nat) (most : Int) (n : Nat) (a : Option Addr) (cap : Nat) (w : World) (hn : l.length = n) (hb : Bytes w a l) (hcap : n ≤ cap) (hl : n ≤ 140737488351232) (hmk : most ≤ 16777216) (hm0 : -9223372036854775808 ≤ most) (hm1 : most ≤ 9223372036854775807) :
    Calls Tryd.prog 54 #[.slice a n cap, .int .i64 most] w fun x w' => ∃ v, x = .returned (.tuple #[v, .int .i64 (decAll l most).2.1, .int .i64 (decAll l most).2.2]) ∧ Own64 w' w.heap.size v (decAll l most).1 ∧ Below w.heap.size w w' := by
  obtain ⟨i0, hi, hz0, hz1, hz2⟩ := info_parts Tryd.info64
  obtain ⟨u, p, e, hd⟩ : ∃ u p e, dec 0 0 l = (u, p, e) := ⟨_, _, _, rfl⟩
  have HD : Hid (_ = _) := hd
  have HB : Hid (Bytes w a l) := hb
  have HLN : Hid (l.length = n) := hn
  have HLM : Hid (l.length ≤ maxLen) := by show _ ≤ _; rw [hn]; unfold maxLen; omega
  by_cases he : e = 0
  · subst he
    have hform := vdec_form l hb.mem (by rw [hd])
    rw [hd] at hform
    simp only at hform
    obtain ⟨f1, f2, f3, f4, f5⟩ := hform
    rw [hn] at f2
    have hne : l ≠ [] := by intro h; subst h; simp at hn; omega
    obtain ⟨b, off, rfl, hlt, hcl⟩ := hb.nonempty hne
    obtain ⟨M, hM⟩ : ∃ M : Nat, M = most.toNat := ⟨_, rfl⟩
    have huI : (u : Int) ≤ 18446744073709551615 := by omega
    by_cases hbig : M < u
    · have HR : Hid (decAll l most = ([], 0, 24)) := by
        show _ = _
        unfold decAll
        rw [hd, if_neg (by simp), if_pos (by rw [← hM]; exact hbig)]
      have hor : (most < 0 ∧ M = 0) ∨ (0 ≤ most ∧ (M : Int) = most) := by omega
      clear hb hd hcl hM hn f5 hne
      rcases hor with ⟨h1, rfl⟩ | ⟨h1, h2⟩
      · have h3 : (0 : Int) < (u : Int) := by omega
        go_enter Tryd.func54, Tryd.ntmps54
        go_wp2_with (go_at_call 65; refine (dec_at l _ u p 0 _ _ _ HLN.out HD.out HB.out HLM.out).mono ?_; rintro x w1 ⟨rfl, rfl⟩)
        go_ret3
        rw [HR.out]
        exact ⟨_, rfl, own64_nil _ _, Below.refl _ _⟩
      · have h3 : most < (u : Int) := by omega
        clear h2
        go_enter Tryd.func54, Tryd.ntmps54
        go_wp2_with (go_at_call 65; refine (dec_at l _ u p 0 _ _ _ HLN.out HD.out HB.out HLM.out).mono ?_; rintro x w1 ⟨rfl, rfl⟩)
        go_ret3
        rw [HR.out]
        exact ⟨_, rfl, own64_nil _ _, Below.refl _ _⟩
    · have HR : Hid (decAll l most = vdecN u l p []) := by
        show _ = _
        unfold decAll
        rw [hd, if_neg (by simp), if_neg (by rw [← hM]; exact hbig)]
      have HMEM : Hid (∀ x ∈ l, x < 256) := hb.mem
      have hle : (u : Int) ≤ (M : Int) := by omega
      have hor : (most < 0 ∧ M = 0) ∨ (0 ≤ most ∧ (M : Int) = most) := by omega
      have hor2 : ∃ C : Nat, C ≤ 16777216 ∧ (((n : Int) - (p : Int) < (u : Int) ∧ (C : Int) ≤ (n : Int) - (p : Int) ∧ (n : Int) - (p : Int) ≤ (C : Int)) ∨ ((u : Int) ≤ (n : Int) - (p : Int) ∧ C ≤ u ∧ u ≤ C)) := by
        by_cases h : (n : Int) - (p : Int) < (u : Int)
        · exact ⟨n - p, by omega, .inl ⟨h, by omega, by omega⟩⟩
        · exact ⟨u, by omega, .inr ⟨by omega, by omega, by omega⟩⟩
      obtain ⟨C, hC1, hC2⟩ := hor2
      have hpI : (p : Int) ≤ (n : Int) := by omega
      have hnI : (n : Int) ≤ 140737488351232 := by omega
      clear hb hd hcl hM hn f5 hne hbig
      have hcases : (most < 0 ∧ (u : Int) ≤ 0) ∨ (0 ≤ most ∧ (u : Int) ≤ most) := by omega
      clear hor hle
      by_cases hu0 : u = 0
      · subst hu0
        have HR0 : Hid (decAll l most = ([], p, 0)) := HR.out
        have hC0 : C = 0 := by omega
        subst hC0
        clear hC2 HR
        rcases hcases with ⟨g1, g2⟩ | ⟨g1, g2⟩
        all_goals
          clear g2
          go_enter Tryd.func54, Tryd.ntmps54
          go_wp2_with (first
            | (go_at_call 65; refine (dec_at l _ 0 p 0 _ _ _ HLN.out HD.out HB.out HLM.out).mono ?_; rintro x w1 ⟨rfl, rfl⟩)
            | (at_make; refine wpList_make_own _ rfl _ _ 66 rfl w.heap.size 65 i0 (.int .u64 0) 1 Tryd.underlying66 hi hz0 hz1 _ _ _ 0 rfl rfl rfl (by rw [hz2]; omega) (by unfold maxLen; omega) (Nat.le_refl _) ?_))
          intro w1 ho hg
          have hb1 : Below w.heap.size w w1 := (Below.refl _ _).grown hg (Nat.le_refl _) (fun k hk => by cases hk)
          clear hg
          go_wp2
          refine wp_loop_rounds 1 ?_
          rw [rounds_succ]
          go_wp2
          go_ret3
          rw [HR0.out]
          exact ⟨_, rfl, ⟨by simp, ho⟩, hb1⟩
      · obtain ⟨g1, g2⟩ : 0 ≤ most ∧ (u : Int) ≤ most := by omega
        clear hcases hu0
        rcases hC2 with ⟨g3, g4, g5⟩ | ⟨g3, g4, g5⟩
        all_goals
          go_enter Tryd.func54, Tryd.ntmps54
          go_wp2_with (first
            | (go_at_call 65; refine (dec_at l _ _ p 0 _ _ _ HLN.out HD.out HB.out HLM.out).mono ?_; rintro x w1 ⟨rfl, rfl⟩)
            | (at_make; refine wpList_make_own _ rfl _ _ 66 rfl w.heap.size 65 i0 (.int .u64 0) 1 Tryd.underlying66 hi hz0 hz1 _ _ _ C rfl rfl (by omega) (by rw [hz2]; omega) (by unfold maxLen; omega) (Nat.le_refl _) ?_))
          intro w1 ho hg
          have hb1 : Below w.heap.size w w1 := (Below.refl _ _).grown hg (Nat.le_refl _) (fun k hk => by cases hk)
          clear hg
          have hOW : Own64 w1 w.heap.size (.slice (some ⟨w.heap.size, 0, none⟩) 0 C) [] := ⟨by simp, ho⟩
          have HOW : Hid (_) := hOW
          clear ho hOW
          go_wp2
          go_loopw [8, 10, 37] (fun vp vus vc wr => ∃ (j q : Nat) (acc : List Nat), j ≤ u ∧ vc = .int .u64 j ∧ vp = .int .i64 q ∧ q ≤ n ∧ acc.length = j ∧ j ≤ q ∧ Own64 wr w.heap.size vus acc ∧ decAll l most = vdecN (u - j) l q acc ∧ Below w.heap.size w wr) (fun _ _ vc _ => u - (intOf vc).toNat)
          case atStart => exact ⟨0, p, [], Nat.zero_le _, rfl, rfl, f2, rfl, Nat.zero_le _, HOW.out, HR.out, hb1⟩
          case round =>
            obtain ⟨j, q, acc, hj, rfl, rfl, hq, hacc, hjq, hown, hdec, hbr⟩ := hrel
            have HDEC : Hid (decAll l most = vdecN (u - j) l q acc) := hdec
            have HOWN : Hid (_) := hown
            have HACC : Hid (acc.length = j) := hacc
            clear hdec hown hacc HOW hb1 HR
            have hqI : (q : Int) ≤ (n : Int) := by omega
            have hqc : (q : Int) ≤ (cap : Int) := by omega
            by_cases hju : j < u
            · obtain ⟨u2, k2, e2, hd2⟩ : ∃ u2 k2 e2, dec 0 0 (l.drop q) = (u2, k2, e2) := ⟨_, _, _, rfl⟩
              have hstep : decAll l most = if e2 = 0 then vdecN (u - (j + 1)) l (q + k2) (acc ++ [u2]) else ([], 0, e2) := by
                rw [HDEC.out, show u - j = (u - (j + 1)) + 1 from by omega, decN_succ _ _ _ _ _ _ _ hd2]
              have HST : Hid (_ = _) := hstep
              have HD2 : Hid (_ = _) := hd2
              have HL2 : Hid ((l.drop q).length = n - q) := by show _ = _; rw [List.length_drop, HLN.out]
              have HM2 : Hid ((l.drop q).length ≤ maxLen) := by show _ ≤ _; rw [List.length_drop, HLN.out]; unfold maxLen; omega
              by_cases he2 : e2 = 0
              · subst he2
                have hf := vdec_form (l.drop q) (fun x hx => HMEM.out x (List.mem_of_mem_drop hx)) (by rw [hd2])
                rw [hd2] at hf
                simp only at hf
                obtain ⟨t1, t2, t3, t4, t5⟩ := hf
                rw [HL2.out] at t2
                have hqn : q < n := by omega
                have hu2 : u2 < 18446744073709551616 := by omega
                have HU2 : Hid (_ < _) := hu2
                have HST2 : Hid (decAll l most = vdecN (u - (j + 1)) l (q + k2) (acc ++ [u2])) := by show _ = _; rw [HST.out, if_pos rfl]
                have HBq : Hid (Bytes wr (some ⟨b, off + q, none⟩) (l.drop q)) := (HB.out.keep hbr).drop q
                have hoa := HOWN.out.2
                rw [HACC.out] at hoa
                have HOA : Hid (_) := hoa
                clear hoa
                have hsz := hbr.size
                have hk2I : (q : Int) + (k2 : Int) ≤ 281474976710656 := by omega
                clear hd2 hstep t5 hu2 HST t4 HDEC
                go_wp2_with (first
                  | (go_at_call 65; refine (dec_at (l.drop q) _ u2 k2 0 _ _ _ HL2.out HD2.out HBq.out HM2.out).mono ?_; rintro x w2 ⟨rfl, rfl⟩)
                  | (at_builtin; refine wpList_append_own _ rfl _ _ 66 rfl w.heap.size 65 i0 (.int .u64 0) 1 8 Tryd.underlying66 hi hz0 hz1 hz2 rfl (by decide) _ _ _ rfl (World.ownsRow.alloc HOA.out _) ⟨wr.heap.size, 0, none⟩ 1 1 [.int .u64 (u2 : Int)] rfl rfl (cell_new _ _ _) (one_new _) (by unfold maxLen; omega) (by omega) (by simp; omega) ?_; intro v4 w4 ho4 hg4 _; have hb4 := grown_row (hbr.alloc hsz _) (World.ownsRow.alloc HOA.out _) (by simp; omega) hg4; clear hg4))
                go_roundw
                case rel =>
                  refine ⟨j + 1, q + k2, acc ++ [u2], by omega, by go_num, by go_num, by omega, by rw [List.length_append, HACC.out]; rfl, by omega, ?_, HST2.out, hb4⟩
                  refine Own64.snoc HOWN.out.1 HU2.out ?_
                  rw [HACC.out]
                  exact ho4
                case measure => simp [intOf]; omega
              · have hz := dec_zero 0 0 (l.drop q) (by rw [hd2]; exact he2)
                rw [hd2] at hz
                simp only at hz
                obtain ⟨rfl, rfl⟩ := hz
                have HST2 : Hid (decAll l most = ([], 0, e2)) := by show _ = _; rw [HST.out, if_neg he2]
                have heb : ((e2 : Int) != 0) = true := by simp; omega
                have hb9 : Bytes wr (some ⟨b, off + q, none⟩) (l.drop q) := (HB.out.keep hbr).drop q
                have HBq : Hid (Bytes wr (some ⟨b, off + q, none⟩) (l.drop q)) := hb9
                have hq3 : q < n ∨ q = n := by omega
                clear hd2 hstep HST HDEC he2 HOWN hb9
                rcases hq3 with hq3 | hq3
                · go_wp2_with (go_at_call 65; refine (dec_at (l.drop q) _ 0 0 e2 _ _ _ HL2.out HD2.out HBq.out HM2.out).mono ?_; rintro x w2 ⟨rfl, rfl⟩)
                  go_ret3
                  rw [HST2.out]
                  exact ⟨_, rfl, own64_nil _ _, hbr⟩
                · have HNIL : Hid (l.drop q = []) := by show _ = _; exact List.drop_eq_nil_of_le (by rw [HLN.out]; omega)
                  have HD3 : Hid (dec 0 0 [] = (0, 0, e2)) := by have h := HD2.out; rw [HNIL.out] at h; exact h
                  subst hq3
                  go_wp2_with (go_at_call 65; refine (dec_at [] _ 0 0 e2 _ _ _ (by simp) HD3.out (Bytes.none _ _) (by simp)).mono ?_; rintro x w2 ⟨rfl, rfl⟩)
                  all_goals go_ret3
                  all_goals rw [HST2.out]
                  all_goals exact ⟨_, rfl, own64_nil _ _, hbr⟩
            · have hju2 : j = u := by omega
              subst hju2
              have HFIN : Hid (decAll l most = (acc, q, 0)) := by show _ = _; rw [HDEC.out, Nat.sub_self]; rfl
              clear HDEC
              go_wp2
              go_ret3
              rw [HFIN.out]
              exact ⟨_, rfl, HOWN.out, hbr⟩
  · have HR : Hid (decAll l most = ([], 0, e)) := by
      show _ = _
      unfold decAll
      rw [hd, if_pos (by simpa using he)]
    have hz := dec_zero 0 0 l (by rw [hd]; exact he)
    rw [hd] at hz
    simp only at hz
    obtain ⟨rfl, rfl⟩ := hz
    have heb : ((e : Int) != 0) = true := by simp; omega
    clear hb hd he hn
    go_enter Tryd.func54, Tryd.ntmps54
    go_wp2_with (go_at_call 65; refine (dec_at l _ 0 0 e _ _ _ HLN.out HD.out HB.out HLM.out).mono ?_; rintro x w1 ⟨rfl, rfl⟩)
    go_ret3
    rw [HR.out]
    exact ⟨_, rfl, own64_nil _ _, Below.refl _ _⟩
end Go.Proofs.YtnfkdgjgglnniaaDoor
namespace Go.Proofs.YtnfkdgjgglnniaaDoor
open Go.ChangeShapes Go.WideShapes Go.ChangeAt Go.RowKit
set_option linter.unusedVariables false
def smN : List Sm → List Nat
  | [] => []
  | s :: r => s.num.toNat :: s.first.toNat :: s.count.toNat :: s.foot.toNat :: smN r
def mfN (m : Mf) : List Nat := [m.next.toNat, m.floor.toNat, m.snap.toNat, m.snapSeq.toNat] ++ smN m.segs
/-- the bytes of a manifest, and the error of what is none -/
def mfL (m : Mf) : List Nat := if mvB m = true then frameL 4 m.gen.toNat (encAll (mfN m)) else []
def mfE (m : Mf) : Nat := if mvB m = true then 0 else 80
theorem smN_append : ∀ (L M : List Sm), smN (L ++ M) = smN L ++ smN M
  | [], M => rfl
  | p :: r, M => by simp only [List.cons_append, smN, smN_append r M]
theorem smN_length : ∀ (L : List Sm), (smN L).length = 4 * L.length
  | [] => rfl
  | p :: r => by simp only [smN, List.length_cons, smN_length r]; omega
/-- what holds of each segment of a right list -/
theorem seg_facts : ∀ (L : List Sm) (nx x y Y : Int), segsB nx x y L = true → 0 ≤ x → 0 ≤ y → y ≤ Y → nx ≤ 1000000 → ∀ s ∈ L, 0 ≤ s.num ∧ s.num ≤ 999999 ∧ 0 ≤ s.first ∧ s.first ≤ Y + 512 * (L.length : Int) ∧ 0 ≤ s.count ∧ s.count ≤ 512 ∧ 0 ≤ s.foot ∧ s.foot ≤ 1099511627776
  | [], nx, x, y, Y, h, h1, h2, h3, h4, s, hs => by cases hs
  | p :: r, nx, x, y, Y, h, h1, h2, h3, h4, s, hs => by
    rw [segsB_cons] at h
    split at h
    · rename_i hc
      obtain ⟨c1, c2, c3, c4⟩ := hc
      have hcount := endB_count c4
      have hfoot : 0 ≤ p.foot ∧ p.foot ≤ 1099511627776 := by
        cases hb : r.isEmpty with
        | true => rw [hb] at c4; have := endB_true c4; omega
        | false => rw [hb] at c4; have := endB_false c4; omega
      rcases List.mem_cons.1 hs with rfl | hs
      · simp only [List.length_cons]
        omega
      · have := seg_facts r nx p.num (p.first + p.count) (Y + 512) h (by omega) (by omega) (by omega) h4 s hs
        simp only [List.length_cons]
        omega
    · cases h
theorem mv_parts {m : Mf} (h : mvB m = true) : headB m = true ∧ 1 ≤ m.segs.length ∧ m.segs.length ≤ 256 ∧ segsB m.next 0 (m.floor + 1) m.segs = true := by
  unfold mvB at h
  rw [Bool.and_eq_true] at h
  obtain ⟨h1, h2⟩ := h
  unfold listB at h2
  split at h2
  · rename_i hc; exact ⟨h1, hc.1, hc.2, h2⟩
  · cases h2
theorem mv_segs {m : Mf} (h : mvB m = true) : ∀ s ∈ m.segs, 0 ≤ s.num ∧ s.num ≤ 999999 ∧ 0 ≤ s.first ∧ s.first ≤ 1099511758849 ∧ 0 ≤ s.count ∧ s.count ≤ 512 ∧ 0 ≤ s.foot ∧ s.foot ≤ 1099511627776 := by
  obtain ⟨h1, h2, h3, h4⟩ := mv_parts h
  have hh := headB_facts h1
  intro s hs
  have := seg_facts m.segs m.next 0 (m.floor + 1) 1099511627777 h4 (by omega) (by omega) (by omega) (by omega) s hs
  omega
theorem smN_le (L : List Sm) (h : ∀ s ∈ L, 0 ≤ s.num ∧ s.num ≤ 999999 ∧ 0 ≤ s.first ∧ s.first ≤ 1099511758849 ∧ 0 ≤ s.count ∧ s.count ≤ 512 ∧ 0 ≤ s.foot ∧ s.foot ≤ 1099511627776) : ∀ x ∈ smN L, x ≤ 1099511758849 := by
  induction L with
  | nil => intro x hx; cases hx
  | cons p r ih =>
    intro x hx
    have hp := h p (by simp)
    simp only [smN, List.mem_cons] at hx
    rcases hx with rfl | rfl | rfl | rfl | hx
    · omega
    · omega
    · omega
    · omega
    · exact ih (fun s hs => h s (by simp [hs])) x hx
theorem mfN_le {m : Mf} (h : mvB m = true) : ∀ x ∈ mfN m, x ≤ 1099511758849 := by
  have hh := headB_facts (mv_parts h).1
  intro x hx
  unfold mfN at hx
  simp only [List.cons_append, List.nil_append, List.mem_cons] at hx
  rcases hx with rfl | rfl | rfl | rfl | hx
  · omega
  · omega
  · omega
  · omega
  · exact smN_le m.segs (mv_segs h) x hx
theorem mfN_length (m : Mf) : (mfN m).length = 4 + 4 * m.segs.length := by
  unfold mfN
  rw [List.length_append, smN_length]
  rfl
theorem encF_small : ∀ (f k u : Nat), u < 128 ^ (k + 1) → k < f → (encF f u).length ≤ k + 1
  | 0, k, u, h, hk => by omega
  | f + 1, 0, u, h, hk => by
    simp only [encF]
    rw [if_pos (by simpa using h)]
    simp
  | f + 1, k + 1, u, h, hk => by
    simp only [encF]
    split
    · simp
    · have hd : u / 128 < 128 ^ (k + 1) := by
        rw [Nat.div_lt_iff_lt_mul (by omega)]
        rw [Nat.pow_succ] at h
        exact h
      have := encF_small f k (u / 128) hd (by omega)
      simp only [List.length_cons]
      omega
theorem enc_small (k u : Nat) (h : u < 128 ^ (k + 1)) (hk : k < 9) : (enc u).length ≤ k + 1 := by
  unfold enc
  exact encF_small _ k u h (by omega)
theorem flat_smN (L : List Sm) (h : ∀ s ∈ L, 0 ≤ s.num ∧ s.num ≤ 999999 ∧ 0 ≤ s.first ∧ s.first ≤ 1099511758849 ∧ 0 ≤ s.count ∧ s.count ≤ 512 ∧ 0 ≤ s.foot ∧ s.foot ≤ 1099511627776) : (flat (smN L)).length ≤ 17 * L.length := by
  induction L with
  | nil => simp [smN, flat]
  | cons p r ih =>
    have hp := h p (by simp)
    have ih := ih (fun s hs => h s (by simp [hs]))
    simp only [smN, flat, List.length_append, List.length_cons]
    have e0 := enc_small 2 p.num.toNat (by have : (128 : Nat) ^ 3 = 2097152 := by decide
                                           show _ < 128 ^ 3; omega) (by omega)
    have e1 := enc_small 5 p.first.toNat (by have : (128 : Nat) ^ 6 = 4398046511104 := by decide
                                             show _ < 128 ^ 6; omega) (by omega)
    have e2 := enc_small 1 p.count.toNat (by have : (128 : Nat) ^ 2 = 16384 := by decide
                                             show _ < 128 ^ 2; omega) (by omega)
    have e3 := enc_small 5 p.foot.toNat (by have : (128 : Nat) ^ 6 = 4398046511104 := by decide
                                            show _ < 128 ^ 6; omega) (by omega)
    omega
/-- the body is short -/
theorem mf_body {m : Mf} (h : mvB m = true) : (encAll (mfN m)).length ≤ 4374 := by
  obtain ⟨h1, h2, h3, h4⟩ := mv_parts h
  have hh := headB_facts h1
  have hf := flat_smN m.segs (mv_segs h)
  unfold encAll
  rw [mfN_length]
  unfold mfN
  simp only [List.cons_append, List.nil_append, flat, List.length_append]
  have p2 : (128 : Nat) ^ 2 = 16384 := by decide
  have p3 : (128 : Nat) ^ 3 = 2097152 := by decide
  have p6 : (128 : Nat) ^ 6 = 4398046511104 := by decide
  have e0 := enc_small 2 m.next.toNat (by show _ < 128 ^ 3; omega) (by omega)
  have e1 := enc_small 5 m.floor.toNat (by show _ < 128 ^ 6; omega) (by omega)
  have e2 := enc_small 2 m.snap.toNat (by show _ < 128 ^ 3; omega) (by omega)
  have e3 := enc_small 5 m.snapSeq.toNat (by show _ < 128 ^ 6; omega) (by omega)
  have e4 := enc_small 1 (4 + 4 * m.segs.length) (by show _ < 128 ^ 2; omega) (by omega)
  omega
theorem enc_frame4 (k s n : Nat) (hk1 : 1 ≤ k) (hk7 : k ≤ 7) (hs : s ≤ 1099511627776) (hn : n ≤ 16384) : encE (k : Int) (s : Int) n = 0 := by
  unfold encE
  rw [if_neg, if_neg (by omega)]
  have : inB (k : Int) (s : Int) = true := decide_eq_true ⟨by omega, by omega, by omega, by omega⟩
  rw [this]
  simp
theorem cell_new4 (w : World) (x y z u : Value) (e : TypeId) : ∀ j v, [x, y, z, u][j]? = some v → (w.alloc (.cells #[x, y, z, u] e)).cell? ((⟨w.heap.size, 0, none⟩ : Addr).add j) = some v := by
  intro j v hj
  have hc := cell_of_row (w.alloc (.cells #[x, y, z, u] e)) w.heap.size j #[x, y, z, u] e (0, 0) (heap_alloc_new w _)
  rw [show (⟨w.heap.size, 0, none⟩ : Addr).add j = ⟨w.heap.size, j, none⟩ from by by_cases h : j = 0 <;> simp [Addr.add, h], hc]
  simpa using hj
theorem one_new4 {k : IntKind} (n m p q : Int) : ∀ u ∈ [Value.int k n, Value.int k m, Value.int k p, Value.int k q], u.oneCell' = true := by
  intro u hu
  simp at hu
  rcases hu with rfl | rfl | rfl | rfl <;> rfl
theorem Own64.snoc4 {w : World} {base : Nat} {v : Value} {l : List Nat} {u x y z : Nat} (hl : ∀ i, l.getD i 0 < 18446744073709551616) (hu : u < 18446744073709551616) (hx : x < 18446744073709551616) (hy : y < 18446744073709551616) (hz : z < 18446744073709551616) (h : w.ownsRow base 65 1 v (l.length + 4) (B64 l ++ [.int .u64 (u : Int), .int .u64 (x : Int), .int .u64 (y : Int), .int .u64 (z : Int)])) : Own64 w base v (l ++ [u, x, y, z]) := by
  refine ⟨fun i => ?_, by rw [List.length_append, B64_append]; exact h⟩
  have h1 := hl i
  rw [List.getD_eq_getElem?_getD] at h1 ⊢
  rw [List.getElem?_append]
  split
  · exact h1
  · match i - l.length with
    | 0 => simpa using hu
    | 1 => simpa using hx
    | 2 => simpa using hy
    | 3 => simpa using hz
    | k + 4 => simp
theorem lit64_4 (w : World) (u x y z : Nat) (hu : u < 18446744073709551616) (hx : x < 18446744073709551616) (hy : y < 18446744073709551616) (hz : z < 18446744073709551616) : Own64 (w.alloc (.cells #[.int .u64 (u : Int), .int .u64 (x : Int), .int .u64 (y : Int), .int .u64 (z : Int)] 65)) w.heap.size (.slice (some ⟨w.heap.size, 0, none⟩) 4 4) [u, x, y, z] := by
  refine ⟨fun i => ?_, World.ownsRow_lit w #[.int .u64 (u : Int), .int .u64 (x : Int), .int .u64 (y : Int), .int .u64 (z : Int)] 4 (Nat.le_refl _) (by unfold maxLen; omega) rfl⟩
  match i with
  | 0 => simpa using hu
  | 1 => simpa using hx
  | 2 => simpa using hy
  | 3 => simpa using hz
  | k + 4 => simp
theorem grown_boxM {w w' : World} {base n size k T : Nat} {e : TypeId} {v : Value} {xs : List Value} {c : Array Value} {m : Nat × Nat} (ho : w.ownsRow base e size v n xs) (hg : w.grownBy w' v.ownBlock) (hk : w.heap[k]? = some (.cells c T m)) (hT : T ≠ e) : w'.heap[k]? = some (.cells c T m) := by
  rw [hg.block k (lt_of_heap hk) (fun h => ?_)]
  · exact hk
  · rcases ho.2 with ⟨rfl, _⟩ | ⟨g, cap, cur, rfl, _, hh, _⟩
    · simp [Value.ownBlock] at h
    · have : k = g := by simpa [Value.ownBlock] using h
      subst this
      rw [hk] at hh
      cases hh
      exact hT rfl
end Go.Proofs.YtnfkdgjgglnniaaDoor
