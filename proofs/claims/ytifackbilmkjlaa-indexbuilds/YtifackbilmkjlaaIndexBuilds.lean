/- For every list of placed frames, every stride and every list of marks: index.Build and index.Valid answer as the reference, in new memory. No condition. -/
import Derived.Test.YtifackbilmkjlaaMkH
import Derived.Test.YtifackbilmkjlaaMkR
import Derived.Test.YtifackbilmkjlaaMkp
import Derived.Test.YtifackbilmkjlaaTwo
import Derived.SizedLaws
import Derived.ChangeOld
namespace Go.Proofs.Ytifackbilmkjlaa.indexBuilds
open Go.ChangeShapes Go.WideShapes Go.ChangeAt Go.RowKit
set_option linter.unusedVariables false
theorem kept_marks {g : Nat} {w wr : World} {a : Option Addr} {L : List Mk} (h : Kept g g w wr) (hb : Marks w a L) (hne : ∀ b off, a = some ⟨b, off, none⟩ → L ≠ [] → b ≠ g) : Marks wr a L := by
  rcases hb with h1 | ⟨b, off, rfl, hlt, hc⟩
  · exact .inl h1
  · by_cases hL : L = []
    · exact .inl hL
    · have hg := hne b off rfl hL
      exact .inr ⟨b, off, rfl, Nat.lt_of_lt_of_le hlt h.size, fun j hj => (World.cell?_of_block (w := w) (a := ⟨b, off + j, none⟩) (h.block b hlt hg hg)).trans (hc j hj)⟩
theorem marks_lie {w : World} {base : Nat} {v : Value} {L : List Mk} (h : OwnM w base v L) (n : Nat) (hn : L.length = n) : ∃ a c, v = .slice a n c ∧ Marks w a L ∧ n ≤ maxLen ∧ (∀ b off, a = some ⟨b, off, none⟩ → base ≤ b ∧ b < w.heap.size) ∧ ((a = none ∧ n = 0) ∨ ∃ g, a = some ⟨g, 0, none⟩ ∧ w.ownsRow base 34 2 (.slice (some ⟨g, 0, none⟩) n c) n (mfl L)) := by
  have h' := h
  obtain ⟨a, c, h1, h2, h3, h4, h5⟩ := h.shape
  refine ⟨a, c, by rw [h1, hn], h4, by omega, fun b off hb => ?_, ?_⟩
  · rcases h5 with ⟨rfl, _⟩ | ⟨g, rfl, q1, q2⟩
    · cases hb
    · cases hb; exact ⟨q1, q2⟩
  · rcases h5 with ⟨rfl, h6, _⟩ | ⟨g, rfl, q1, q2⟩
    · exact .inl ⟨rfl, by rw [← hn, h6]; rfl⟩
    · refine .inr ⟨g, rfl, ?_⟩
      subst h1
      unfold OwnM at h'
      rw [hn] at h'
      exact h'
theorem Try.infoPl : (Try.prog.info? 57).map (fun i => (i.zero, i.size, i.bytes)) = some (some (.agg #[.int .i64 0, .int .i64 0, .int .i64 0, .int .i64 0, .slice none 0 0]), 5, 56) := by kernel_rfl
theorem pl_own {w : World} {base n : Nat} {v : Value} {P : List Mk} {V : List Value} (hn : P.length = n) (hl : V.length = P.length * 5) (h1 : ∀ u ∈ V, u.oneCell' = true) (hf : ∀ (i : Nat) (p : Mk), P[i]? = some p → V[i * 5]? = some (.int .i64 p.2) ∧ V[i * 5 + 3]? = some (.int .i64 p.1)) (h : w.ownsRow base 57 5 v n V) : ∃ a c, v = .slice a n c ∧ PlAt w a P V := by
  rcases h.2 with ⟨rfl, h0⟩ | ⟨g, cap, cur, rfl, hb, hg, h3⟩
  · have : P = [] := List.length_eq_zero_iff.1 (by omega)
    exact ⟨none, 0, by rw [h0], hl, h1, .inl this, hf⟩
  · have h' : w.ownsRow base 57 5 (.slice (some ⟨g, 0, none⟩) n cap) n V := ⟨h.1, .inr ⟨g, cap, cur, rfl, hb, hg, h3⟩⟩
    refine ⟨some ⟨g, 0, none⟩, cap, rfl, hl, h1, .inr ⟨g, 0, rfl, lt_of_heap hg, fun j hj => ?_⟩, hf⟩
    rw [Nat.zero_add]
    exact h'.cellAt j (by omega)
theorem pl_all {w : World} {x : Addr} {P : List Mk} {V : List Value} (h : PlAt w (some x) P V) : ∀ j u, V[j]? = some u → w.cell? (x.add j) = some u := by
  intro j u hj
  have hlt := lt_of_get hj
  rw [h.len] at hlt
  rcases h.lie with rfl | ⟨b, off, hx, _, hc⟩
  · simp at hlt
  · cases hx
    rw [← hj, show (⟨b, off, none⟩ : Addr).add j = ⟨b, off + j, none⟩ from by simp [Addr.add]]
    exact hc j hlt
set_option maxRecDepth 20000 in
set_option maxHeartbeats 8000000 in
theorem walk (P : List Mk) (V : List Value) (a : Option Addr) (cap : Nat) (stride : Int) (l : List Mk) (al : Option Addr) (capl : Nat) (w : World) (hP : PlAt w a P V) (hcP : P.length ≤ cap ∧ cap * 56 ≤ 140737488351232 ∧ (a = none → P = [] ∧ cap = 0)) (ws : (Lit.int .i64 stride).wf = true) (hm : Marks w al l) (hc : l.length ≤ capl ∧ capl * 16 ≤ 140737488351232 ∧ (al = none → l = [])) :
    Calls Try.prog 4 #[.slice a P.length cap, .int .i64 stride, .slice al l.length capl] w fun e w' => e = .returned (.bool true) ∧ Below w.heap.size w w' := by
  obtain ⟨n, hn⟩ : ∃ n, l.length = n := ⟨_, rfl⟩
  obtain ⟨m, hpm⟩ : ∃ m, P.length = m := ⟨_, rfl⟩
  rw [hn] at hc ⊢
  rw [hpm] at hcP ⊢
  obtain ⟨hc1, hc2, hc3⟩ := hc
  obtain ⟨hp1, hp2, hp3⟩ := hcP
  obtain ⟨hs0, hs1⟩ : -9223372036854775808 ≤ stride ∧ stride ≤ 9223372036854775807 := by simpa [Lit.wf, IntKind.min, IntKind.max, IntKind.signed, IntKind.bits] using ws
  obtain ⟨i0, hi, hz0, hz1, hz2⟩ := info_parts Try.infoPl
  have HN : Hid (l.length = n) := hn
  have HM : Hid (Marks w al l) := hm
  have HPM : Hid (P.length = m ∧ V.length = m * 5) := ⟨hpm, by rw [← hpm]; exact hP.len⟩
  have HP : Hid (PlAt w a P V) := hP
  have H3 : Hid (al = none → l = []) := hc3
  have HL : Hid (n * 16 ≤ 140737488351232 ∧ n ≤ maxLen) := ⟨by omega, by unfold maxLen; omega⟩
  have HLP : Hid (m * 56 ≤ 140737488351232 ∧ m + 0 ≤ maxLen ∧ -9223372036854775808 ≤ stride ∧ stride ≤ 9223372036854775807) := ⟨by omega, by unfold maxLen; omega, hs0, hs1⟩
  obtain ⟨D, hD⟩ : ∃ D, bldL stride P = D := ⟨_, rfl⟩
  obtain ⟨k, hk⟩ : ∃ k, D.length = k := ⟨_, rfl⟩
  have HD : Hid (bldL stride P = D ∧ D.length = k) := ⟨hD, hk⟩
  have T1 : Hid True := trivial
  have ha : (a = none ∧ P = [] ∧ cap = 0) ∨ ∃ x, a = some x := by
    cases a with
    | none => exact .inl ⟨rfl, hp3 rfl⟩
    | some x => exact .inr ⟨x, rfl⟩
  have hlit : ∀ w1 : World, (w1.alloc (.cells #[] 57)).ownsRow w1.heap.size 57 5 (.slice (some ⟨w1.heap.size, 0, none⟩) 0 0) 0 [] := fun w1 => World.ownsRow_lit w1 #[] 0 (Nat.le_refl _) (by simp) rfl
  have HLIT : Hid (∀ w1 : World, (w1.alloc (.cells #[] 57)).ownsRow w1.heap.size 57 5 (.slice (some ⟨w1.heap.size, 0, none⟩) 0 0) 0 []) := hlit
  -- from the place where 'mine' lies in world w2
  have REST : Hid (∀ (w1 w2 : World) (v2 : Value), Below w.heap.size w w1 → Below w1.heap.size w1 w2 → w2.ownsRow w1.heap.size 57 5 v2 m V → ∃ a2 c2, v2 = .slice a2 m c2 ∧ PlAt w2 a2 P V ∧ Below w.heap.size w w2) := fun w1 w2 v2 h1 h2 h3 => by
    obtain ⟨a2, c2, e1, e2⟩ := pl_own hpm hP.len hP.one hP.fld h3
    exact ⟨a2, c2, e1, e2, below_next h1 h2⟩
  clear hn hm hc1 hc2 hc3 hpm hP hp1 hp2 hp3 ws hD hk hlit hs0 hs1
  rcases ha with ⟨rfl, rfl, rfl⟩ | ⟨x, rfl⟩
  · obtain rfl : m = 0 := by have := HPM.out.1; simpa using this.symm
    obtain rfl : V = [] := List.length_eq_zero_iff.1 (by have := HPM.out.2; omega)
    go_enter Try.func4, Try.ntmps4
    go_wp2_with (first
      | (go_at_call 12; refine (head13_any w).mono ?_; rintro e w1 ⟨rfl, hb1⟩)
      | (at_builtin; refine wpList_append_own_none rfl _ _ 26 rfl w1.heap.size 57 i0 5 Try.underlying26 hi _ _ _ rfl (HLIT.out w1) rfl ?_; obtain ⟨w2, hw2⟩ : ∃ w2, w2 = w1.alloc (.cells #[] 57) := ⟨_, rfl⟩; rw [← hw2]; have hbb2 : Below w1.heap.size w1 w2 := (by rw [hw2]; exact (Below.refl w1.heap.size w1).alloc (Nat.le_refl _) _); obtain ⟨a2, c2, hv2, hpl2, hb2w⟩ := REST.out w1 w2 (.slice (some ⟨w1.heap.size, 0, none⟩) 0 0) hb1 hbb2 (by rw [hw2]; exact HLIT.out w1); cases hv2; clear hw2 hbb2)
      | (go_at_call 13; refine (rbuild_any _ _ _ _ _ stride _ HPM.out.1 (HP.out.keep hb2w) HLP.out.1 HLP.out.2.2.1 HLP.out.2.2.2).mono ?_; rw [HD.out.1]; rintro e w9 ⟨v9, rfl, ho9, hb9⟩; obtain ⟨a9, c9, rfl, hm9, hl9, hp9', _⟩ := marks_lie ho9 k HD.out.2; have hp9 : Hid (∀ b off, a9 = some ⟨b, off, none⟩ → w2.heap.size ≤ b ∧ b < w9.heap.size) := hp9'; clear ho9 hp9'; have hb9w := below_next hb2w hb9)
      | (go_at_call 14; clear T1; refine (build_any _ _ _ _ _ stride _ HPM.out.1 (hpl2.keep hb9) HLP.out.1 HLP.out.2.2.1 HLP.out.2.2.2).mono ?_; rw [HD.out.1]; rintro e wa ⟨va, rfl, hoa, hba⟩; obtain ⟨aa, ca, rfl, hma, hla, hpa', hra'⟩ := marks_lie hoa k HD.out.2; have hra : Hid ((aa = none ∧ k = 0) ∨ ∃ g, aa = some ⟨g, 0, none⟩ ∧ w9.heap.size ≤ g ∧ g < wa.heap.size ∧ wa.ownsRow w9.heap.size 34 2 (.slice (some ⟨g, 0, none⟩) k ca) k (mfl D)) := (by rcases hra' with h | ⟨g, h1, h2⟩; exact .inl h; exact .inr ⟨g, h1, (hpa' g 0 h1).1, (hpa' g 0 h1).2, h2⟩); clear hpa' hra' hoa; have hbaw := below_next hb9w hba)
      | (go_at_call 14; refine (build_any _ _ _ _ _ stride _ HPM.out.1 ((hpl2.keep hb9).keep hba) HLP.out.1 HLP.out.2.2.1 HLP.out.2.2.2).mono ?_; rw [HD.out.1]; rintro e wb ⟨vb, rfl, hob, hbb⟩; obtain ⟨ab, cb, rfl, hmb, hlb, hpb', _⟩ := marks_lie hob k HD.out.2; have hpb : Hid (∀ b off, ab = some ⟨b, off, none⟩ → wa.heap.size ≤ b ∧ b < wb.heap.size) := hpb'; clear hob hpb'; have hbbw := below_next hbaw hbb; have HMA : Hid (Marks wb aa D) := hma.keep hbb; have HM9 : Hid (Marks wb a9 D) := (hm9.keep hba).keep hbb)
      | (go_at_call_of 15 (ca); refine (msame_any D D _ _ _ _ _ _ _ HD.out.2 HD.out.2 HMA.out HM9.out hla hl9).mono ?_; rw [decide_eq_true (rfl : D = D)]; rintro e wc ⟨rfl, hbc⟩; have hbcw := below_next hbbw hbc)
      | (go_at_call 17; refine (copyOf_any l _ _ _ _ HN.out (HM.out.keep hbcw) H3.out HL.out.1).mono ?_; rintro e w3 ⟨v3, rfl, ho3, hb3⟩; obtain ⟨a3, c3, rfl, hm3⟩ := marks_len ho3 n HN.out; clear ho3; have hb3w := below_next hbcw hb3)
      | (go_at_call 16; refine (valid_any l _ _ _ _ HN.out hm3 HL.out.2).mono ?_; rintro e w4 ⟨rfl, hb4⟩; have hb4w := below_next hb3w hb4)
      | (go_at_call 18; refine (rvalid_any l _ _ _ _ HN.out (HM.out.keep hb4w) HL.out.2).mono ?_; rintro e wd ⟨rfl, hbd⟩; have hbdw := below_next hb4w hbd))
    have HLK : Hid (k ≤ maxLen) := hla
    have hkI : (k : Int) ≤ 9223372036854775807 := by have := hla; unfold maxLen at this; omega
    have HMB : Hid (Marks wd ab D) := (((hmb.keep hbc).keep hb3).keep hb4).keep hbd
    have HMX : Hid (Marks wd a9 D) := (((HM9.out.keep hbc).keep hb3).keep hb4).keep hbd
    have HBD : Hid (Below w.heap.size w wd) := hbdw
    have HSZ : Hid (w.heap.size ≤ w9.heap.size) := hb9w.size
    rcases hra.out with ⟨rfl, rfl⟩ | ⟨g, rfl, hg1, hg2, hog⟩
    · clear hl9 hla hlb
      refine wp_loop_rounds 1 ?_
      rw [rounds_succ]
      go_wp2_with (go_at_call 15; refine (msame_any D D _ _ _ _ _ _ _ HD.out.2 HD.out.2 HMB.out HMX.out HLK.out HLK.out).mono ?_; rw [decide_eq_true (rfl : D = D)]; rintro e we ⟨rfl, hbe⟩)
      go_ret
      exact ⟨rfl, below_next HBD.out hbe⟩
    · have HOG : Hid (wd.ownsRow w9.heap.size 34 2 (.slice (some ⟨g, 0, none⟩) k ca) k (mfl D)) := own_below (own_below (own_below (own_below (own_below hog hbb) hbc) hb3) hb4) hbd
      have HPP : Hid ((∀ b off, a9 = some ⟨b, off, none⟩ → D ≠ [] → b ≠ g) ∧ (∀ b off, ab = some ⟨b, off, none⟩ → D ≠ [] → b ≠ g)) := ⟨fun b off h _ => by have := hp9.out b off h; omega, fun b off h _ => by have := hpb.out b off h; omega⟩
      have HG : Hid (w9.heap.size ≤ g) := hg1
      clear hog hl9 hla hlb hm9 hma hmb hg1 hg2 hra hb1 hb3 hb4 hb9 hba hbb hbc hbd hb3w hb4w hb9w hbaw hbbw hbcw hbdw hm3 hpl2 hb2w
      go_loopw [40] (fun vi wr => ∃ (i : Nat) (xs : List Value), i ≤ k ∧ vi = .int .i64 i ∧ wr.ownsRow w9.heap.size 34 2 (.slice (some ⟨g, 0, none⟩) k ca) k xs ∧ Kept g g wd wr) (fun vi _ => k - (intOf vi).toNat)
      case atStart => exact ⟨0, _, Nat.zero_le _, rfl, HOG.out, Kept.refl _ _ _⟩
      case round =>
        obtain ⟨i, xs, hik, rfl, ho, hkp⟩ := hrel
        by_cases hlt : i < k
        · have hst0 := ho.stored (i * 2) (.int .i64 (-1))
          have hst := hst0.1.stored (i * 2 + 1) (.int .i64 (-1))
          have e0 := ho.cellAt (i * 2) (by omega)
          have e1 := ho.cellAt (i * 2 + 1) (by omega)
          have e2 := ho.frozenAt (i * 2)
          have e3 := ho.frozenAt (i * 2 + 1)
          obtain ⟨z0, hz00⟩ : ∃ z, wr.cell? ⟨g, i * 2, none⟩ = some z := by
            rw [e0]
            exact ⟨_, List.getElem?_eq_getElem (by have := ho.1; omega)⟩
          obtain ⟨z1, hz01⟩ : ∃ z, wr.cell? ⟨g, i * 2 + 1, none⟩ = some z := by
            rw [e1]
            exact ⟨_, List.getElem?_eq_getElem (by have := ho.1; omega)⟩
          have HS : Hid (_ ∧ Kept g g wd _) := ⟨hst.1, (hkp.grown hst0.2 (fun j hj => by cases hj; exact .inl rfl)).grown hst.2 (fun j hj => by cases hj; exact .inl rfl)⟩
          clear e0 e1 hst hst0 ho hkp
          go_wp2
          go_roundw
          case rel => exact ⟨i + 1, _, by omega, by go_num, HS.out.1, HS.out.2⟩
          case measure => simp [intOf]; omega
        · have HMBr : Hid (Marks wr ab D) := kept_marks hkp HMB.out HPP.out.2
          have HMXr : Hid (Marks wr a9 D) := kept_marks hkp HMX.out HPP.out.1
          have HBR : Hid (Below w.heap.size w wr) := hkp.below HBD.out (Nat.le_trans HSZ.out HG.out) (Nat.le_trans HSZ.out HG.out)
          clear ho hkp
          go_wp2_with (go_at_call 15; refine (msame_any D D _ _ _ _ _ _ _ HD.out.2 HD.out.2 HMBr.out HMXr.out HLK.out HLK.out).mono ?_; rw [decide_eq_true (rfl : D = D)]; rintro e we ⟨rfl, hbe⟩)
          go_ret
          exact ⟨rfl, below_next HBR.out hbe⟩
  · go_enter Try.func4, Try.ntmps4
    go_wp2_with (first
      | (go_at_call 12; refine (head13_any w).mono ?_; rintro e w1 ⟨rfl, hb1⟩; have HPL1 : Hid (PlAt (w1.alloc (.cells #[] 57)) (some x) P V) := (HP.out.keep hb1).keep ((Below.refl _ _).alloc (Nat.le_refl _) _))
      | (at_builtin; refine wpList_append_own _ rfl _ _ 26 rfl w1.heap.size 57 i0 (.agg #[.int .i64 0, .int .i64 0, .int .i64 0, .int .i64 0, .slice none 0 0]) 5 56 Try.underlying26 hi hz0 hz1 hz2 rfl (by decide) _ _ _ rfl (HLIT.out w1) x m cap V rfl HPM.out.2 (pl_all HPL1.out) HPL1.out.one (by have := HLP.out.2.1; omega) (by have := HLP.out.1; omega) (by simp) ?_; intro v2 w2 ho2 hg2 _; obtain ⟨a2, c2, rfl, hpl2, hb2w⟩ := REST.out w1 w2 v2 hb1 (((Below.refl w1.heap.size w1).alloc (Nat.le_refl _) _).grown hg2 (by simp) (fun k hk => by cases hk; exact Nat.le_refl _)) (by simpa using ho2); clear ho2 hg2)
      | (go_at_call 13; refine (rbuild_any _ _ _ _ _ stride _ HPM.out.1 (HP.out.keep hb2w) HLP.out.1 HLP.out.2.2.1 HLP.out.2.2.2).mono ?_; rw [HD.out.1]; rintro e w9 ⟨v9, rfl, ho9, hb9⟩; obtain ⟨a9, c9, rfl, hm9, hl9, hp9', _⟩ := marks_lie ho9 k HD.out.2; have hp9 : Hid (∀ b off, a9 = some ⟨b, off, none⟩ → w2.heap.size ≤ b ∧ b < w9.heap.size) := hp9'; clear ho9 hp9'; have hb9w := below_next hb2w hb9)
      | (go_at_call 14; clear T1; refine (build_any _ _ _ _ _ stride _ HPM.out.1 (hpl2.keep hb9) HLP.out.1 HLP.out.2.2.1 HLP.out.2.2.2).mono ?_; rw [HD.out.1]; rintro e wa ⟨va, rfl, hoa, hba⟩; obtain ⟨aa, ca, rfl, hma, hla, hpa', hra'⟩ := marks_lie hoa k HD.out.2; have hra : Hid ((aa = none ∧ k = 0) ∨ ∃ g, aa = some ⟨g, 0, none⟩ ∧ w9.heap.size ≤ g ∧ g < wa.heap.size ∧ wa.ownsRow w9.heap.size 34 2 (.slice (some ⟨g, 0, none⟩) k ca) k (mfl D)) := (by rcases hra' with h | ⟨g, h1, h2⟩; exact .inl h; exact .inr ⟨g, h1, (hpa' g 0 h1).1, (hpa' g 0 h1).2, h2⟩); clear hpa' hra' hoa; have hbaw := below_next hb9w hba)
      | (go_at_call 14; refine (build_any _ _ _ _ _ stride _ HPM.out.1 ((hpl2.keep hb9).keep hba) HLP.out.1 HLP.out.2.2.1 HLP.out.2.2.2).mono ?_; rw [HD.out.1]; rintro e wb ⟨vb, rfl, hob, hbb⟩; obtain ⟨ab, cb, rfl, hmb, hlb, hpb', _⟩ := marks_lie hob k HD.out.2; have hpb : Hid (∀ b off, ab = some ⟨b, off, none⟩ → wa.heap.size ≤ b ∧ b < wb.heap.size) := hpb'; clear hob hpb'; have hbbw := below_next hbaw hbb; have HMA : Hid (Marks wb aa D) := hma.keep hbb; have HM9 : Hid (Marks wb a9 D) := (hm9.keep hba).keep hbb)
      | (go_at_call_of 15 (ca); refine (msame_any D D _ _ _ _ _ _ _ HD.out.2 HD.out.2 HMA.out HM9.out hla hl9).mono ?_; rw [decide_eq_true (rfl : D = D)]; rintro e wc ⟨rfl, hbc⟩; have hbcw := below_next hbbw hbc)
      | (go_at_call 17; refine (copyOf_any l _ _ _ _ HN.out (HM.out.keep hbcw) H3.out HL.out.1).mono ?_; rintro e w3 ⟨v3, rfl, ho3, hb3⟩; obtain ⟨a3, c3, rfl, hm3⟩ := marks_len ho3 n HN.out; clear ho3; have hb3w := below_next hbcw hb3)
      | (go_at_call 16; refine (valid_any l _ _ _ _ HN.out hm3 HL.out.2).mono ?_; rintro e w4 ⟨rfl, hb4⟩; have hb4w := below_next hb3w hb4)
      | (go_at_call 18; refine (rvalid_any l _ _ _ _ HN.out (HM.out.keep hb4w) HL.out.2).mono ?_; rintro e wd ⟨rfl, hbd⟩; have hbdw := below_next hb4w hbd))
    have HLK : Hid (k ≤ maxLen) := hla
    have hkI : (k : Int) ≤ 9223372036854775807 := by have := hla; unfold maxLen at this; omega
    have HMB : Hid (Marks wd ab D) := (((hmb.keep hbc).keep hb3).keep hb4).keep hbd
    have HMX : Hid (Marks wd a9 D) := (((HM9.out.keep hbc).keep hb3).keep hb4).keep hbd
    have HBD : Hid (Below w.heap.size w wd) := hbdw
    have HSZ : Hid (w.heap.size ≤ w9.heap.size) := hb9w.size
    rcases hra.out with ⟨rfl, rfl⟩ | ⟨g, rfl, hg1, hg2, hog⟩
    · clear hl9 hla hlb
      refine wp_loop_rounds 1 ?_
      rw [rounds_succ]
      go_wp2_with (go_at_call 15; refine (msame_any D D _ _ _ _ _ _ _ HD.out.2 HD.out.2 HMB.out HMX.out HLK.out HLK.out).mono ?_; rw [decide_eq_true (rfl : D = D)]; rintro e we ⟨rfl, hbe⟩)
      go_ret
      exact ⟨rfl, below_next HBD.out hbe⟩
    · have HOG : Hid (wd.ownsRow w9.heap.size 34 2 (.slice (some ⟨g, 0, none⟩) k ca) k (mfl D)) := own_below (own_below (own_below (own_below (own_below hog hbb) hbc) hb3) hb4) hbd
      have HPP : Hid ((∀ b off, a9 = some ⟨b, off, none⟩ → D ≠ [] → b ≠ g) ∧ (∀ b off, ab = some ⟨b, off, none⟩ → D ≠ [] → b ≠ g)) := ⟨fun b off h _ => by have := hp9.out b off h; omega, fun b off h _ => by have := hpb.out b off h; omega⟩
      have HG : Hid (w9.heap.size ≤ g) := hg1
      clear hog hl9 hla hlb hm9 hma hmb hg1 hg2 hra hb1 hb3 hb4 hb9 hba hbb hbc hbd hb3w hb4w hb9w hbaw hbbw hbcw hbdw hm3 hpl2 hb2w
      go_loopw [40] (fun vi wr => ∃ (i : Nat) (xs : List Value), i ≤ k ∧ vi = .int .i64 i ∧ wr.ownsRow w9.heap.size 34 2 (.slice (some ⟨g, 0, none⟩) k ca) k xs ∧ Kept g g wd wr) (fun vi _ => k - (intOf vi).toNat)
      case atStart => exact ⟨0, _, Nat.zero_le _, rfl, HOG.out, Kept.refl _ _ _⟩
      case round =>
        obtain ⟨i, xs, hik, rfl, ho, hkp⟩ := hrel
        by_cases hlt : i < k
        · have hst0 := ho.stored (i * 2) (.int .i64 (-1))
          have hst := hst0.1.stored (i * 2 + 1) (.int .i64 (-1))
          have e0 := ho.cellAt (i * 2) (by omega)
          have e1 := ho.cellAt (i * 2 + 1) (by omega)
          have e2 := ho.frozenAt (i * 2)
          have e3 := ho.frozenAt (i * 2 + 1)
          obtain ⟨z0, hz00⟩ : ∃ z, wr.cell? ⟨g, i * 2, none⟩ = some z := by
            rw [e0]
            exact ⟨_, List.getElem?_eq_getElem (by have := ho.1; omega)⟩
          obtain ⟨z1, hz01⟩ : ∃ z, wr.cell? ⟨g, i * 2 + 1, none⟩ = some z := by
            rw [e1]
            exact ⟨_, List.getElem?_eq_getElem (by have := ho.1; omega)⟩
          have HS : Hid (_ ∧ Kept g g wd _) := ⟨hst.1, (hkp.grown hst0.2 (fun j hj => by cases hj; exact .inl rfl)).grown hst.2 (fun j hj => by cases hj; exact .inl rfl)⟩
          clear e0 e1 hst hst0 ho hkp
          go_wp2
          go_roundw
          case rel => exact ⟨i + 1, _, by omega, by go_num, HS.out.1, HS.out.2⟩
          case measure => simp [intOf]; omega
        · have HMBr : Hid (Marks wr ab D) := kept_marks hkp HMB.out HPP.out.2
          have HMXr : Hid (Marks wr a9 D) := kept_marks hkp HMX.out HPP.out.1
          have HBR : Hid (Below w.heap.size w wr) := hkp.below HBD.out (Nat.le_trans HSZ.out HG.out) (Nat.le_trans HSZ.out HG.out)
          clear ho hkp
          go_wp2_with (go_at_call 15; refine (msame_any D D _ _ _ _ _ _ _ HD.out.2 HD.out.2 HMBr.out HMXr.out HLK.out HLK.out).mono ?_; rw [decide_eq_true (rfl : D = D)]; rintro e we ⟨rfl, hbe⟩)
          go_ret
          exact ⟨rfl, below_next HBR.out hbe⟩
theorem own : ownKnob Try.prog.godebug = none := by kernel_rfl
theorem laidOut : laidOutB Try.prog = true := by kernel_rfl
set_option maxRecDepth 100000 in
theorem contract (H : Type) (enc : TypeId × Value → H) (W : World) (base : Nat) (args : Array Value) (ds gs : List (DataW H)) (before : List MemPlace)
    (hval : ∀ (j : Nat) t v, Try.f4.params[j]? = some t → args[j]? = some v → Value.okWide Try.prog W .any base t v)
    (hW : DataW.Whole enc Try.prog Try.f4.params.toList Rows.indexBuildsSpec.vars false W args.toList ds gs before)
    (hsz : (DataW.weightsEach Try.prog (Try.f4.params.toList ++ Rows.indexBuildsSpec.plain.varTypes Try.prog) (ds ++ gs)).all (· ≤ reachBytes) = true) :
    Calls Try.prog 4 args W fun e W' => ∃ v, e = .returned v ∧ Rows.indexBuildsSpec.post enc Try.prog Try.f4 false true false false W args v W' := by
  have hW' := hW
  obtain ⟨p, q, hA0, hV, rfl, hfz, hnd⟩ := hW
  have hA : DataW.TrodAll enc Try.prog W 0 (fun _ => true) true Try.f4.params.toList args.toList ds p := hA0
  rw [Try.params4] at hA hval hsz
  obtain ⟨v0, vs0, d0, ds0, p0, q0, hargs, rfl, rfl, h0, r0⟩ := trodAll_cons hA
  obtain ⟨v1, vs1, d1, ds1, p1, q1, rfl, rfl, rfl, h1, r1⟩ := trodAll_cons r0
  obtain ⟨v2, vs2, d2, ds2, p2, q2, rfl, rfl, rfl, h2, r2⟩ := trodAll_cons r1
  obtain ⟨rfl, rfl, rfl⟩ := trodAll_nil r2
  obtain rfl : args = #[v0, v1, v2] := by cases args; simp_all
  obtain ⟨rfl, rfl⟩ := trodVars_none hV
  obtain ⟨a0, len0, cap0, rfl⟩ := okWide_slice Try.underlying26 (hval 0 26 v0 rfl rfl)
  have k0 := h0
  have lt0 : ∀ x ∈ p0, x.block < W.heap.size := by obtain ⟨m, hm⟩ := k0; exact DataW.trod_lt m _ _ _ hm
  obtain ⟨l0, V0, hlen0, w0, c0⟩ : ∃ (L : List Mk) (V : List Value), L.length = len0 ∧ PlAt W a0 L V ∧ (len0 ≤ cap0 ∧ cap0 * 56 ≤ 140737488351232 ∧ (a0 = none → L = [] ∧ cap0 = 0)) := by
    obtain ⟨fuel, hf⟩ := h0
    rcases open_placed hf with ⟨hcs, hx⟩ | ⟨x, l, c, L, V, D, hcs, hl, hm, hLl, hfs, hx⟩
    · simp [Value.cells] at hcs
      obtain ⟨rfl, rfl, rfl⟩ := hcs
      exact ⟨[], [], rfl, ⟨rfl, fun u hu => (by cases hu), .inl rfl, fun i p h => (by simp at h)⟩, Nat.le_refl _, by simp, fun _ => ⟨rfl, rfl⟩⟩
    · simp [Value.cells] at hcs
      obtain ⟨rfl, rfl, rfl⟩ := hcs
      have hd : d0 = _ := hx
      exact ⟨L, V, hLl, hfs, hl, sized_placed hsz (j := 0) rfl (by rw [hd]; rfl) hl, fun h => by cases h⟩
  subst hlen0
  obtain ⟨a1, rfl, rfl, rfl, w1⟩ := open_int Try.underlying3 (hval 1 3 v1 rfl rfl) h1
  obtain ⟨a2, len2, cap2, rfl⟩ := okWide_slice Try.underlying27 (hval 2 27 v2 rfl rfl)
  have k2 := h2
  have lt2 : ∀ x ∈ p2, x.block < W.heap.size := by obtain ⟨m, hm⟩ := k2; exact DataW.trod_lt m _ _ _ hm
  obtain ⟨l2, hlen2, w2, c2⟩ : ∃ L : List Mk, L.length = len2 ∧ Marks W a2 L ∧ (len2 ≤ cap2 ∧ cap2 * 16 ≤ 140737488351232 ∧ (a2 = none → L = [])) := by
    obtain ⟨fuel, hf⟩ := h2
    rcases open_marks hf with ⟨hcs, hx⟩ | ⟨x, l, c, L, D, hcs, hl, hm, hLl, hfs, hx⟩
    · simp [Value.cells] at hcs
      obtain ⟨rfl, rfl, rfl⟩ := hcs
      exact ⟨[], rfl, .inl rfl, Nat.le_refl _, by simp, fun _ => rfl⟩
    · simp [Value.cells] at hcs
      obtain ⟨rfl, rfl, rfl⟩ := hcs
      have hd : d2 = _ := hx
      exact ⟨L, hLl, hfs, hl, sized_marks hsz (j := 2) rfl (by rw [hd]; rfl) hl, fun h => by cases h⟩
  subst hlen2
  clear hA0
  refine (walk l0 V0 a0 cap0 a1 l2 a2 cap2 W w0 c0 w1 w2 c2).mono fun e W' ⟨he, bel⟩ => ?_
  subst he
  exact ⟨_, rfl, _, _, _, [], _, [], hW', trodAll_mk1 (shut_bool Try.underlying4 _), (trodAll_cons_mk (Below.trod laidOut (by kernel_rfl) (of_decide_eq_true (by kernel_rfl)) k0 bel lt0) (trodAll_cons_mk (shut_int Try.underlying3 w1) (trodAll_cons_mk (Below.trod laidOut (by kernel_rfl) (of_decide_eq_true (by kernel_rfl)) k2 bel lt2) trodAll_mk0))), rfl, bel.frame _, fun h => by cases h⟩
set_option maxRecDepth 100000 in
theorem lifted (os : Os) (started : os.Started) (H : Type) (enc : TypeId × Value → H) :
    ReturnsInHanded {} Try.checked os 4 .any (Rows.indexBuildsSpec.pre6 enc Try.prog Try.f4 Rows.indexBuildsRow.domain false) (Rows.indexBuildsSpec.post enc Try.prog Try.f4 false true false false) := by
  refine returnsInHanded_of_change_sized (C := Try.checked) own started (by kernel_rfl) Try.func4
    (ChangeSpec.witness6 (enc := enc) (C := Try.checked) false ⟨#[], #[.slice none 0 0, .int .i64 0, .slice none 0 0], []⟩ 8 (by kernel_rfl) (by kernel_rfl) (by kernel_rfl) (by kernel_rfl)) ?_
  intro W base args ds gs before hval hW _ hsz _
  exact contract H enc W base args ds gs before hval hW hsz
theorem over : Rows.indexBuildsRow.holds Try.pinned (OpenSpec.ofChange Rows.indexBuildsSpec) :=
  OpenClaim.holds_of_wide 4 Try.f4 rfl rfl rfl rfl rfl rfl rfl ⟨rfl, rfl, rfl, rfl, rfl⟩ rfl rfl rfl rfl rfl (by kernel_rfl) Try.func4 (by kernel_rfl)
    (of_decide_eq_true (by kernel_rfl)) (by unfold Func.isWrapper; first | (rw [if_pos (by decide +kernel)]; kernel_rfl) | (rw [if_neg (by decide +kernel)]; exact ⟨rfl, rfl⟩))
    (fun os started H enc _ => lifted os started H enc)
theorem proved : Rows.IndexBuildsSaid := over
end Go.Proofs.Ytifackbilmkjlaa.indexBuilds
