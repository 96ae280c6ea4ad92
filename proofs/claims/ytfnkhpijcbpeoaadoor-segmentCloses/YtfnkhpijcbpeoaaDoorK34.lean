/- Own texts, joined: Sg3, MkE. -/
import Derived.Test.YtfnkhpijcbpeoaaDoorK33
import Derived.Test.YtfnkhpijcbpeoaaDoorK09
import Derived.Deep.AppendLies
import Derived.Deep.Onto
import Derived.Test.YtfnkhpijcbpeoaaDoorK28
namespace Go.Proofs.YtfnkhpijcbpeoaaDoor
open Go.ChangeShapes Go.WideShapes Go.ChangeAt Go.RowKit
set_option linter.unusedVariables false
theorem results_tmp4 {fn : Func} {t u v x : Tmp} (h : fn.results = #[.tmp t, .tmp u, .tmp v, .tmp x]) (tmps : Array Value) (P : Program) (w : World) :
    (results fn tmps).run P w = .ok (.tuple #[tmps.getD t undef, tmps.getD u undef, tmps.getD v undef, tmps.getD x undef]) w := by
  simp [results, h]
theorem natI_lit (w : World) (l : List Nat) : NatI (w.alloc (.cells (I64 l).toArray 3)) (some ⟨w.heap.size, 0, none⟩) l := by
  refine ⟨w.heap.size, 0, rfl, by simp, fun i hi => ?_⟩
  rw [Nat.zero_add, cell_of_row (w.alloc (.cells (I64 l).toArray 3)) w.heap.size i (I64 l).toArray 3 (0, 0) (heap_alloc_new w _)]
  simp [I64, hi]
def hdE (x y : Int) : Nat := if sgB x y = true then 0 else 1
def hdV (x y : Int) : List Nat := if sgB x y = true then hdrL x.toNat y.toNat else []
theorem sgB_nat {x y : Int} (h : sgB x y = true) : ∃ m k : Nat, x = m ∧ y = k ∧ 1 ≤ m ∧ m ≤ 999999 ∧ 1 ≤ k ∧ k ≤ 1099511627777 := by
  obtain ⟨h1, h2, h3, h4⟩ := of_decide_eq_true h
  exact ⟨x.toNat, y.toNat, by omega, by omega, by omega, by omega, by omega, by omega⟩
theorem enc_frame (k s n : Nat) (hk1 : 1 ≤ k) (hk7 : k ≤ 7) (hs : s ≤ 1099511627776) (hn : n ≤ 16384) : encE (k : Int) (s : Int) n = 0 := by
  unfold encE
  rw [if_neg, if_neg (by omega)]
  have : inB (k : Int) (s : Int) = true := decide_eq_true ⟨by omega, by omega, by omega, by omega⟩
  rw [this]
  simp
/-- what HeaderOf answers -/
def hoX (l : List Nat) : Nat := ((hdr l).map Prod.fst).getD 0
def hoY (l : List Nat) : Nat := ((hdr l).map Prod.snd).getD 0
def hoN (l : List Nat) : Nat := if (hdr l).isSome then pn l + 20 else 0
def hoE (l : List Nat) : Nat := if (hdr l).isSome then 0 else 71
abbrev HoV (l : List Nat) : Value := .tuple #[.int .i64 (hoX l : Nat), .int .i64 (hoY l : Nat), .int .i64 (hoN l : Nat), .int .i64 (hoE l : Nat)]
theorem ho_none {l : List Nat} (h : hdr l = none) : HoV l = .tuple #[.int .i64 0, .int .i64 0, .int .i64 0, .int .i64 71] := by
  unfold HoV hoX hoY hoN hoE
  rw [h]
  rfl
theorem ho_some {l : List Nat} {x y : Nat} (h : hdr l = some (x, y)) : HoV l = .tuple #[.int .i64 (x : Int), .int .i64 (y : Int), .int .i64 ((pn l : Int) + 20), .int .i64 0] := by
  unfold HoV hoX hoY hoN hoE
  rw [h]
  rfl
set_option maxRecDepth 20000 in
set_option maxHeartbeats 4000000 in
theorem headerOf_any (l : List Nat) (n : Nat) (a : Option Addr) (cap : Nat) (w : World) (hn : l.length = n) (hb : Bytes w a l) (hl : n ≤ 281474976710656) (hcap : n ≤ cap) (ht : Tab w) :
    Calls Tryd.prog 23 #[.slice a n cap] w fun e w' => e = .returned (HoV l) ∧ Below w.heap.size w w' := by
  have HB : Hid (Bytes w a l ∧ l.length = n ∧ Tab w) := ⟨hb, hn, ht⟩
  have hmem := hb.mem
  clear hb hn ht
  by_cases hE : decE l = 0
  · obtain ⟨b1, b2, b3, b4, b5, b6, b7⟩ := decB_facts hmem hE
    obtain ⟨P, hP⟩ : ∃ P, pk l = P := ⟨_, rfl⟩
    obtain ⟨S, hS⟩ : ∃ S, ps l = S := ⟨_, rfl⟩
    obtain ⟨B, hB⟩ : ∃ B, pn l = B := ⟨_, rfl⟩
    have HDV : Hid (∀ v, DV l v = .tuple #[FrV (P : Int) (S : Int) v, .int .i64 ((B : Int) + 20), .int .i64 0]) := fun v => by rw [← hP, ← hS, ← hB]; exact (dv_good l v hE).1
    have HBL : Hid ((decB l).length = B ∧ decE l = 0 ∧ ∀ y ∈ decB l, y < 256) := ⟨b3.trans hB, hE, b1⟩
    have hBb : B ≤ 16384 := by omega
    by_cases hK : P = 2
    · subst hK
      have HK : Hid (pk l = 2 ∧ ps l = S ∧ pn l = B) := ⟨hP, hS, hB⟩
      have hSI : (S : Int) ≤ 1099511627776 := by omega
      clear hP hS hB b1 b2 b3 b4 b5 b6 b7 hE
      cases hr : nrd 2 (decB l) with
      | none =>
        have HN : Hid (nrd 2 (decB l) = none ∧ hdr l = none) := ⟨hr, hdr_none_rd l hr⟩
        have HARM : Hid (∀ w' a1 c1, Bytes w' a1 (decB l) → B ≤ c1 → Calls Tryd.prog 17 #[.slice a1 B c1, .int .i64 2] w' fun e w'' => e = .returned (.tuple #[.slice none 0 0, .slice none 0 0, .bool false]) ∧ Below w'.heap.size w' w'') := fun w' a1 c1 hy1 hc1 => by
          refine (read_any (decB l) 2 B a1 c1 _ HBL.out.1 hy1 hc1 (by omega) (by omega)).mono ?_
          rw [HN.out.1]
          rintro e w2 ⟨⟨_, _, _, _, _, h, _⟩ | ⟨_, h⟩, hb2⟩
          · cases h
          · exact ⟨h, hb2⟩
        clear hr
        go_enter Tryd.func23, Tryd.ntmps23
        go_wp2_with (first
          | (go_at_call 37; refine (fdec_any l n a cap w HB.out.2.1 HB.out.1 (by rw [HB.out.2.1]; omega) (by rw [HB.out.2.1]; omega) HB.out.2.2).mono ?_; rintro r w1 ⟨v1, rfl, ho1, hb1⟩; rw [HDV.out v1]; obtain ⟨a1, c1, hv1, hc1, _, hy1, _⟩ := ho1.shape; rw [HBL.out.1] at hv1 hc1; subst hv1; have HB1 : Hid (Below w.heap.size w w1 ∧ Bytes w1 a1 (decB l) ∧ B ≤ c1) := ⟨hb1, hy1, hc1⟩; clear ho1 hb1 hy1 hc1)
          | (go_at_call 17; refine (HARM.out _ _ _ (HB1.out.2.1.keep ((Below.refl _ _).alloc (Nat.le_refl _) _)) HB1.out.2.2).mono ?_; rintro r w2 ⟨rfl, hb2⟩; have HB2 : Hid (Below w.heap.size w w2) := below_next (HB1.out.1.alloc HB1.out.1.size _) hb2; clear hb2))
        (try simp only [Exit.inBlock, Exit.then])
        refine bodyPost_ret (results_tmp4 rfl _ _ _) rfl ⟨by rw [ho_none HN.out.2]; rfl, HB2.out⟩
      | some q =>
        obtain ⟨ns, r⟩ := q
        obtain ⟨x, y, rfl, hx, hy⟩ := nrd_two _ HBL.out.2.2 ns r hr
        have hof := hdr_of l HBL.out.2.1 HK.out.1 x y r hr
        rw [HK.out.2.1] at hof
        obtain ⟨R, hR⟩ : ∃ R, r.length = R := ⟨_, rfl⟩
        have HN : Hid (nrd 2 (decB l) = some ([x, y], r) ∧ r.length = R) := ⟨hr, hR⟩
        have hxI : (x : Int) ≤ 1099511627777 := by omega
        have hyI : (y : Int) ≤ 1099511627777 := by omega
        have HARM : Hid (∀ w' a1 c1, Bytes w' a1 (decB l) → B ≤ c1 → Calls Tryd.prog 17 #[.slice a1 B c1, .int .i64 2] w' fun e w'' => ∃ g c2 xa cp, e = .returned (.tuple #[.slice (some ⟨g, 0, none⟩) 2 c2, .slice xa R cp, .bool true]) ∧ g < w''.heap.size ∧ w''.cell? ⟨g, 0, none⟩ = some (.int .i64 (x : Int)) ∧ w''.cell? ⟨g, 1, none⟩ = some (.int .i64 (y : Int)) ∧ Below w'.heap.size w' w'') := fun w' a1 c1 hy1 hc1 => by
          refine (read_any (decB l) 2 B a1 c1 _ HBL.out.1 hy1 hc1 (by omega) (by omega)).mono ?_
          rw [HN.out.1]
          rintro e w2 ⟨⟨ns, r', va, xa, cp, h, rfl, ho, hy2, hcp, _⟩ | ⟨h, _⟩, hb2⟩
          · simp only [Option.some.injEq, Prod.mk.injEq] at h
            obtain ⟨rfl, rfl⟩ := h
            obtain ⟨g, c2, hv, _, hlt⟩ := World.ownsRow.form ho (by omega)
            subst hv
            exact ⟨g, c2, xa, cp, by rw [HN.out.2], hlt, World.ownsRow.cellAt ho 0 (by omega), World.ownsRow.cellAt ho 1 (by omega), hb2⟩
          · cases h
        clear hr hR
        by_cases hR0 : R = 0
        · have hr0 : r = [] := List.length_eq_zero_iff.1 (by rw [HN.out.2]; exact hR0)
          subst hR0
          by_cases hSx : S = x
          · subst hSx
            by_cases hin : sgB (S : Int) (y : Int) = true
            · obtain ⟨_, _, e1, e2, i1, i2, i3, i4⟩ := sgB_nat hin
              have HH : Hid (hdr l = some (S, y) ∧ sgB (S : Int) (y : Int) = true ∧ pn l = B) := ⟨by rw [hof, if_pos ⟨hr0, rfl, by omega, by omega, by omega⟩], hin, HK.out.2.2⟩
              clear hof hin hr0 e1 e2 i1 i2 i3 i4
              go_enter Tryd.func23, Tryd.ntmps23
              go_wp2_with (first
                | (go_at_call 37; refine (fdec_any l n a cap w HB.out.2.1 HB.out.1 (by rw [HB.out.2.1]; omega) (by rw [HB.out.2.1]; omega) HB.out.2.2).mono ?_; rintro r w1 ⟨v1, rfl, ho1, hb1⟩; rw [HDV.out v1]; obtain ⟨a1, c1, hv1, hc1, _, hy1, _⟩ := ho1.shape; rw [HBL.out.1] at hv1 hc1; subst hv1; have HB1 : Hid (Below w.heap.size w w1 ∧ Bytes w1 a1 (decB l) ∧ B ≤ c1) := ⟨hb1, hy1, hc1⟩; clear ho1 hb1 hy1 hc1)
                | (go_at_call 17; refine (HARM.out _ _ _ (HB1.out.2.1.keep ((Below.refl _ _).alloc (Nat.le_refl _) _)) HB1.out.2.2).mono ?_; rintro e w2 ⟨g, c2, xa, cp, rfl, hlt, k0, k1, hb2⟩; have HB2 : Hid (Below w.heap.size w w2) := below_next (HB1.out.1.alloc HB1.out.1.size _) hb2; obtain ⟨_, ks, _⟩ := ((FrmAt.new w1 2 (S : Int) (.slice a1 B c1)).keep hb2).cells; clear hb2)
                | (go_at_call 45; refine (sginB_any _ _ _).mono ?_; rw [HH.out.2.1]; rintro e w3 ⟨rfl, rfl⟩))
              go_region
              go_wp2_with (go_at_call 45; refine (sginB_any _ _ _).mono ?_; rw [HH.out.2.1]; rintro e w3 ⟨rfl, rfl⟩)
              (try simp only [Exit.inBlock, Exit.then])
              refine bodyPost_ret (results_tmp4 rfl _ _ _) rfl ⟨by rw [ho_some HH.out.1, HH.out.2.2]; rfl, HB2.out.drew⟩
            · have hin0 : sgB (S : Int) (y : Int) = false := by simpa using hin
              have HH : Hid (hdr l = none ∧ sgB (S : Int) (y : Int) = false) := ⟨by
                rw [hof, if_neg]
                rintro ⟨_, _, j1, j2, j3⟩
                exact hin (decide_eq_true ⟨by omega, by omega, by omega, by omega⟩), hin0⟩
              clear hof hin hin0 hr0
              go_enter Tryd.func23, Tryd.ntmps23
              go_wp2_with (first
                | (go_at_call 37; refine (fdec_any l n a cap w HB.out.2.1 HB.out.1 (by rw [HB.out.2.1]; omega) (by rw [HB.out.2.1]; omega) HB.out.2.2).mono ?_; rintro r w1 ⟨v1, rfl, ho1, hb1⟩; rw [HDV.out v1]; obtain ⟨a1, c1, hv1, hc1, _, hy1, _⟩ := ho1.shape; rw [HBL.out.1] at hv1 hc1; subst hv1; have HB1 : Hid (Below w.heap.size w w1 ∧ Bytes w1 a1 (decB l) ∧ B ≤ c1) := ⟨hb1, hy1, hc1⟩; clear ho1 hb1 hy1 hc1)
                | (go_at_call 17; refine (HARM.out _ _ _ (HB1.out.2.1.keep ((Below.refl _ _).alloc (Nat.le_refl _) _)) HB1.out.2.2).mono ?_; rintro e w2 ⟨g, c2, xa, cp, rfl, hlt, k0, k1, hb2⟩; have HB2 : Hid (Below w.heap.size w w2) := below_next (HB1.out.1.alloc HB1.out.1.size _) hb2; obtain ⟨_, ks, _⟩ := ((FrmAt.new w1 2 (S : Int) (.slice a1 B c1)).keep hb2).cells; clear hb2))
              go_region
              go_wp2_with (go_at_call 45; refine (sginB_any _ _ _).mono ?_; rw [HH.out.2]; rintro e w3 ⟨rfl, rfl⟩)
              (try simp only [Exit.inBlock, Exit.then])
              refine bodyPost_ret (results_tmp4 rfl _ _ _) rfl ⟨by rw [ho_none HH.out.1]; rfl, HB2.out.drew⟩
          · have HH : Hid (hdr l = none) := by
              show _ = _
              rw [hof, if_neg (fun h => hSx h.2.1)]
            have hSI2 : ((S : Int) != (x : Int)) = true := by simp; omega
            clear hof hr0
            go_enter Tryd.func23, Tryd.ntmps23
            go_wp2_with (first
              | (go_at_call 37; refine (fdec_any l n a cap w HB.out.2.1 HB.out.1 (by rw [HB.out.2.1]; omega) (by rw [HB.out.2.1]; omega) HB.out.2.2).mono ?_; rintro r w1 ⟨v1, rfl, ho1, hb1⟩; rw [HDV.out v1]; obtain ⟨a1, c1, hv1, hc1, _, hy1, _⟩ := ho1.shape; rw [HBL.out.1] at hv1 hc1; subst hv1; have HB1 : Hid (Below w.heap.size w w1 ∧ Bytes w1 a1 (decB l) ∧ B ≤ c1) := ⟨hb1, hy1, hc1⟩; clear ho1 hb1 hy1 hc1)
              | (go_at_call 17; refine (HARM.out _ _ _ (HB1.out.2.1.keep ((Below.refl _ _).alloc (Nat.le_refl _) _)) HB1.out.2.2).mono ?_; rintro e w2 ⟨g, c2, xa, cp, rfl, hlt, k0, k1, hb2⟩; have HB2 : Hid (Below w.heap.size w w2) := below_next (HB1.out.1.alloc HB1.out.1.size _) hb2; obtain ⟨_, ks, _⟩ := ((FrmAt.new w1 2 (S : Int) (.slice a1 B c1)).keep hb2).cells; clear hb2))
            go_region
            go_wp2
            (try simp only [Exit.inBlock, Exit.then])
            refine bodyPost_ret (results_tmp4 rfl _ _ _) rfl ⟨by rw [ho_none HH.out]; rfl, HB2.out.drew⟩
        · have HH : Hid (hdr l = none) := by
            show _ = _
            rw [hof, if_neg]
            rintro ⟨h, _⟩
            rw [h] at HN
            exact hR0 HN.out.2.symm
          have hRI : (0 : Int) < (R : Int) := by omega
          clear hof
          go_enter Tryd.func23, Tryd.ntmps23
          go_wp2_with (first
            | (go_at_call 37; refine (fdec_any l n a cap w HB.out.2.1 HB.out.1 (by rw [HB.out.2.1]; omega) (by rw [HB.out.2.1]; omega) HB.out.2.2).mono ?_; rintro r w1 ⟨v1, rfl, ho1, hb1⟩; rw [HDV.out v1]; obtain ⟨a1, c1, hv1, hc1, _, hy1, _⟩ := ho1.shape; rw [HBL.out.1] at hv1 hc1; subst hv1; have HB1 : Hid (Below w.heap.size w w1 ∧ Bytes w1 a1 (decB l) ∧ B ≤ c1) := ⟨hb1, hy1, hc1⟩; clear ho1 hb1 hy1 hc1)
            | (go_at_call 17; refine (HARM.out _ _ _ (HB1.out.2.1.keep ((Below.refl _ _).alloc (Nat.le_refl _) _)) HB1.out.2.2).mono ?_; rintro e w2 ⟨g, c2, xa, cp, rfl, hlt, k0, k1, hb2⟩; have HB2 : Hid (Below w.heap.size w w2) := below_next (HB1.out.1.alloc HB1.out.1.size _) hb2; obtain ⟨_, ks, _⟩ := ((FrmAt.new w1 2 (S : Int) (.slice a1 B c1)).keep hb2).cells; clear hb2))
          (try simp only [Exit.inBlock, Exit.then])
          refine bodyPost_ret (results_tmp4 rfl _ _ _) rfl ⟨by rw [ho_none HH.out]; rfl, HB2.out⟩
    · have HH : Hid (hdr l = none) := hdr_none_e l (.inr (by rw [hP]; exact hK))
      have hPI : ((P : Int) != 2) = true := by simp; omega
      clear hP hS hB b1 b2 b3 b4 b5 b6 b7 hE
      go_enter Tryd.func23, Tryd.ntmps23
      go_wp2_with (go_at_call 37; refine (fdec_any l n a cap w HB.out.2.1 HB.out.1 (by rw [HB.out.2.1]; omega) (by rw [HB.out.2.1]; omega) HB.out.2.2).mono ?_; rintro r w1 ⟨v1, rfl, ho1, hb1⟩; rw [HDV.out v1]; obtain ⟨a1, c1, hv1, _⟩ := ho1.shape; subst hv1; have HB1 : Hid (Below w.heap.size w w1) := hb1; clear ho1 hb1)
      (try simp only [Exit.inBlock, Exit.then])
      refine bodyPost_ret (results_tmp4 rfl _ _ _) rfl ⟨by rw [ho_none HH.out]; rfl, HB1.out.alloc HB1.out.size _⟩
  · obtain ⟨e, he⟩ : ∃ e, decE l = e := ⟨_, rfl⟩
    have HDV : Hid (∀ v, DV l v = .tuple #[FrV 0 0 v, .int .i64 0, .int .i64 (e : Int)]) := fun v => (dv_none l v e he (by omega)).1
    have HH : Hid (hdr l = none) := hdr_none_e l (.inl hE)
    have heI : ((e : Int) != 0) = true := by simp; omega
    clear hE he
    go_enter Tryd.func23, Tryd.ntmps23
    go_wp2_with (go_at_call 37; refine (fdec_any l n a cap w HB.out.2.1 HB.out.1 (by rw [HB.out.2.1]; omega) (by rw [HB.out.2.1]; omega) HB.out.2.2).mono ?_; rintro r w1 ⟨v1, rfl, ho1, hb1⟩; rw [HDV.out v1]; obtain ⟨a1, c1, hv1, _⟩ := ho1.shape; subst hv1; have HB1 : Hid (Below w.heap.size w w1) := hb1; clear ho1 hb1)
    (try simp only [Exit.inBlock, Exit.then])
    refine bodyPost_ret (results_tmp4 rfl _ _ _) rfl ⟨by rw [ho_none HH.out]; rfl, HB1.out.alloc HB1.out.size _⟩
end Go.Proofs.YtfnkhpijcbpeoaaDoor
namespace Go.Proofs.YtfnkhpijcbpeoaaDoor
open Go.ChangeShapes Go.WideShapes Go.ChangeAt Go.RowKit
set_option linter.unusedVariables false
set_option maxRecDepth 20000 in
set_option maxHeartbeats 4000000 in
theorem ienc_any (L : List Mk) (n : Nat) (a : Option Addr) (cap : Nat) (w : World) (hn : L.length = n) (hm : Marks w a L) (hl : n ≤ maxLen) :
    Calls Tryd.prog 27 #[.slice a n cap] w fun e w' => ∃ v, e = .returned (.tuple #[v, .int .i64 (if validB L = true then 0 else 70)]) ∧ Own w' w.heap.size v (if validB L = true then mEnc L else []) ∧ Below w.heap.size w w' := by
  have HM : Hid (Marks w a L) := hm
  have HN : Hid (L.length = n) := hn
  have HLM : Hid (n ≤ maxLen) := hl
  by_cases hV : validB L = true
  · rw [if_pos hV, if_pos hV]
    obtain ⟨i0, hi, hz0, hz1, hz2⟩ := info_parts Tryd.info64
    have hle := valid_len hV
    rw [hn] at hle
    have HVF : Hid (vfrom 0 (-1) (L.drop 0) = true) := valid_from hV
    have HME : Hid (∀ x ∈ dls 0 0 L, x ≤ 18446744073709551615) := mEnc_le L hV
    have HDL : Hid ((dls 0 0 L).length = 2 * n) := by show _ = _; rw [dls_length, hn]
    have HV : Hid (validB L = true) := hV
    have hnI : (n : Int) ≤ 512 := by omega
    clear hm hn hl hV
    go_enter Tryd.func27, Tryd.ntmps27
    go_wp2_with (first
      | (go_at_call 41; refine (valid_any L _ _ _ _ HN.out HM.out HLM.out).mono ?_; rw [HV.out]; rintro e w1 ⟨rfl, hb1⟩; have hs1 := hb1.size)
      | (at_make; refine wpList_make_own _ rfl _ _ 61 rfl w.heap.size 62 i0 (.int .u64 0) 1 Tryd.underlying61 hi hz0 hz1 _ _ _ (2 * n) rfl rfl (by omega) (by rw [hz2]; omega) (by unfold maxLen; omega) hs1 ?_))
    intro w2 ho hg
    have hb2 : Below w.heap.size w w2 := hb1.grown hg hs1 (fun k hk => by cases hk)
    have hs2 := hb2.size
    have hOW : Own64 w2 w.heap.size (.slice (some ⟨w1.heap.size, 0, none⟩) 0 (2 * n)) [] := ⟨by simp, ho⟩
    have HOW : Hid (_) := hOW
    clear ho hOW hg
    go_wp2
    go_loopw [4, 17] (fun vus vi wr => ∃ (v0 : Value) (k : Nat) (s y y' : Int) (U : List Nat), v0 = vus ∧ k ≤ n ∧ vi = .int .i64 k ∧ MkAt wr w2.heap.size s y ∧ Own64 wr w.heap.size v0 U ∧ U ++ dls s y (L.drop k) = dls 0 0 L ∧ U.length = 2 * k ∧ 0 ≤ s ∧ 0 ≤ y ∧ s ≤ 1099511627776 ∧ y ≤ 1099511627776 ∧ y ≤ y' + 1 ∧ vfrom s y' (L.drop k) = true ∧ Below w.heap.size w wr) (fun _ vi _ => n - (intOf vi).toNat)
    case atStart => exact ⟨_, 0, 0, 0, -1, [], rfl, Nat.zero_le _, rfl, heap_alloc_new w2 _, ⟨HOW.out.1, World.ownsRow.alloc HOW.out.2 _⟩, rfl, rfl, by omega, by omega, by omega, by omega, by omega, HVF.out, hb2.alloc hs2 _⟩
    case round =>
      obtain ⟨v0, k, s, y, y', U, rfl, hk, rfl, hbx, hU, hd, hUl, hs0, hy0, hs40, hy40, hyy, hv, hbe⟩ := hrel
      have HBX : Hid (MkAt wr w2.heap.size s y) := hbx
      have HU : Hid (Own64 wr w.heap.size v0 U) := hU
      have HD : Hid (U ++ dls s y (L.drop k) = dls 0 0 L) := hd
      have HUL : Hid (U.length = 2 * k) := hUl
      have hlt2 := lt_of_heap hbx
      have hbs := hbe.size
      by_cases hkn : k < n
      · obtain ⟨⟨x, z⟩, hp⟩ := get_of_lt (L := L) (k := k) (by rw [HN.out]; exact hkn)
        rcases HM.out with h0 | ⟨b, off, rfl, hlt, hc⟩
        · exfalso; have := HN.out; rw [h0] at this; simp at this; omega
        obtain ⟨c0, c1⟩ := Marks.cells hc k (x, z) hp
        rw [← hbe.cell (p := ⟨b, off + k * 2, none⟩) hlt] at c0
        rw [← hbe.cell (p := ⟨b, off + k * 2 + 1, none⟩) hlt] at c1
        simp only at c0 c1
        rw [drop_get L k _ hp] at hv hd
        obtain ⟨g1, g2, g3, g4, g5⟩ := vfrom_head hv
        simp only at g1 g2 g3 g4 g5
        obtain ⟨d1, hxs⟩ : ∃ d1 : Nat, x - s = (d1 : Int) := ⟨(x - s).toNat, by omega⟩
        obtain ⟨d2, hzy⟩ : ∃ d2 : Nat, z - y = (d2 : Int) := ⟨(z - y).toNat, by omega⟩
        have hdd : dls s y ((x, z) :: L.drop (k + 1)) = d1 :: d2 :: dls x z (L.drop (k + 1)) := by
          simp only [dls]
          rw [show (x - s).toNat = d1 from by omega, show (z - y).toNat = d2 from by omega]
        rw [hdd] at hd
        have HD2 : Hid (U ++ [d1, d2] ++ dls x z (L.drop (k + 1)) = dls 0 0 L) := by show _ = _; rw [← hd]; simp
        have HG5 : Hid (vfrom x z (L.drop (k + 1)) = true) := g5
        have hd1 : (d1 : Int) ≤ 1099511627776 := by omega
        have hd2 : (d2 : Int) ≤ 1099511627776 := by omega
        have hd1n : d1 < 18446744073709551616 := by omega
        have hd2n : d2 < 18446744073709551616 := by omega
        have HDN : Hid (d1 < 18446744073709551616 ∧ d2 < 18446744073709551616) := ⟨hd1n, hd2n⟩
        obtain ⟨q0, q1, q2, q3⟩ := mk_box hbx
        have HO : Hid (((wr.alloc (.cells #[.int .i64 x, .int .i64 z] 68)).alloc (.cells #[.int .u64 (d1 : Int), .int .u64 (d2 : Int)] 62)).ownsRow w.heap.size 62 1 v0 (2 * k) (B64 U)) := by
          have h := World.ownsRow.alloc (World.ownsRow.alloc hU.2 (.cells #[.int .i64 x, .int .i64 z] 68)) (.cells #[.int .u64 (d1 : Int), .int .u64 (d2 : Int)] 62)
          rw [hUl] at h
          exact h
        have HA : Hid (MkAt ((wr.alloc (.cells #[.int .i64 x, .int .i64 z] 68)).alloc (.cells #[.int .u64 (d1 : Int), .int .u64 (d2 : Int)] 62)) w2.heap.size s y ∧ MkAt ((wr.alloc (.cells #[.int .i64 x, .int .i64 z] 68)).alloc (.cells #[.int .u64 (d1 : Int), .int .u64 (d2 : Int)] 62)) wr.heap.size x z) := ⟨mk_alloc (mk_alloc hbx _) _, mk_alloc (heap_alloc_new wr _) _⟩
        have HB : Hid (Below w.heap.size w ((wr.alloc (.cells #[.int .i64 x, .int .i64 z] 68)).alloc (.cells #[.int .u64 (d1 : Int), .int .u64 (d2 : Int)] 62))) := (hbe.alloc hbs _).alloc (by simp; omega) _
        clear hd1n hd2n hd hdd hp hc hv hU hbx hUl g1 g2 g5 HOW HVF hb1 hb2 hyy
        go_wp2_with (at_builtin; refine wpList_append_own _ rfl _ _ 61 rfl w.heap.size 62 i0 (.int .u64 0) 1 8 Tryd.underlying61 hi hz0 hz1 hz2 rfl (by decide) _ _ _ rfl HO.out ⟨wr.heap.size + 1, 0, none⟩ 2 2 [.int .u64 (d1 : Int), .int .u64 (d2 : Int)] rfl rfl (by have h := cell_new2 (wr.alloc (.cells #[.int .i64 x, .int .i64 z] 68)) (.int .u64 (d1 : Int)) (.int .u64 (d2 : Int)) 62; simpa using h) (one_new2 _ _) (by unfold maxLen; omega) (by omega) (by simp; omega) ?_; intro v4 w4 ho4 hg4 _; have hb4 := grown_row HB.out HO.out (by simp; omega) hg4; have hA4 : MkAt w4 w2.heap.size s y := grown_box HO.out hg4 HA.out.1 (by decide); have hM4 : MkAt w4 wr.heap.size x z := grown_box HO.out hg4 HA.out.2 (by decide); have hO4 : Own64 w4 w.heap.size v4 (U ++ [d1, d2]) := Own64.snoc2 HU.out.1 HDN.out.1 HDN.out.2 (by rw [HUL.out]; exact ho4); have HA4 : Hid (MkAt w4 w2.heap.size s y ∧ Own64 w4 w.heap.size v4 (U ++ [d1, d2])) := ⟨hA4, hO4⟩; obtain ⟨r0, r1, r2, r3⟩ := mk_box hA4; obtain ⟨t0, t1, _, _⟩ := mk_box hM4; clear hg4 ho4 hA4 hM4 hO4)
        go_roundw
        case rel =>
          refine ⟨v4, k + 1, x, z, z, U ++ [d1, d2], rfl, by omega, by go_num, mk_set HA4.out.1 x z, ?_, HD2.out, by rw [List.length_append, HUL.out]; rfl, by omega, by omega, by omega, by omega, by omega, HG5.out, ?_⟩
          · exact ⟨HA4.out.2.1, own_set (own_set HA4.out.2.2 HA4.out.1 (by decide) 0 _) (heap_setCell_same w4 w2.heap.size 0 _ _ (.int .i64 x) HA4.out.1) (by decide) 1 _⟩
          · exact (hb4.setCell (p := ⟨w2.heap.size, 0, none⟩) hs2 _).setCell (p := ⟨w2.heap.size, 1, none⟩) hs2 _
        case measure => simp [intOf]; omega
      · have hkn2 : k = n := by omega
        subst hkn2
        have HUE : Hid (U = dls 0 0 L) := by
          show U = _
          have h := HD.out
          rw [List.drop_eq_nil_of_le (by rw [HN.out]; omega)] at h
          simpa [dls] using h
        obtain ⟨ag, cg, hv0, hnum⟩ := HU.out.slice
        rw [HUL.out] at hv0
        subst hv0
        have HNU : Hid (Nums wr ag U) := hnum
        clear hnum hU hbx hd hUl hv HD HVF HOW HM HU hb1 hb2 hyy
        go_wp2_with (go_at_call 49; refine (encAll_any U _ _ _ _ HUL.out HNU.out (by omega)).mono ?_; rintro e w5 ⟨v5, rfl, ho5, hb5⟩)
        go_ret2
        refine ⟨_, rfl, ?_, hbe.trans (hb5.mono hbs)⟩
        unfold mEnc
        rw [← HUE.out]
        exact ⟨ho5.1, ho5.2.mono hbs⟩
  · rw [if_neg hV, if_neg hV]
    have HV : Hid (validB L = false) := by show _ = _; simpa using hV
    clear hm hn hl hV
    go_enter Tryd.func27, Tryd.ntmps27
    go_wp2_with (go_at_call 41; refine (valid_any L _ _ _ _ HN.out HM.out HLM.out).mono ?_; rw [HV.out]; rintro e w1 ⟨rfl, hb1⟩)
    go_ret2
    exact ⟨_, rfl, own_nil _ _, hb1⟩
end Go.Proofs.YtfnkhpijcbpeoaaDoor
