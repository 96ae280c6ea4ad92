/- segment.Header, segment.HeaderOf. -/
import Derived.Test.YtaegmeilhdbnnaaDoorSg2
import Derived.Test.YtaegmeilhdbnnaaDoorFr4
import Derived.Deep.AppendLies
import Derived.Deep.Onto
namespace Go.Proofs.YtaegmeilhdbnnaaDoor
open Go.ChangeShapes Go.WideShapes Go.ChangeAt Go.RowKit
set_option linter.unusedVariables false
theorem results_tmp4 {fn : Func} {t u v x : Tmp} (h : fn.results = #[.tmp t, .tmp u, .tmp v, .tmp x]) (tmps : Array Value) (P : Program) (w : World) :
    (results fn tmps).run P w = .ok (.tuple #[tmps.getD t undef, tmps.getD u undef, tmps.getD v undef, tmps.getD x undef]) w := by
  simp [results, h]
theorem natI_lit (w : World) (l : List Nat) : NatI (w.alloc (.cells (I64 l).toArray 3)) (some ⟨w.heap.size, 0, none⟩) l := by
  refine ⟨w.heap.size, 0, rfl, by simp, fun i hi => ?_⟩
  rw [Nat.zero_add, cell_of_row (w.alloc (.cells (I64 l).toArray 3)) w.heap.size i (I64 l).toArray 3 (0, 0) (heap_alloc_new w _)]
  simp [I64, hi]
def hdE (x y : Int) : Nat := if sgB x y = true then 0 else 1
def hdV (x y : Int) : List Nat := if sgB x y = true then hdrL x.toNat y.toNat else []
theorem sgB_nat {x y : Int} (h : sgB x y = true) : ∃ m k : Nat, x = m ∧ y = k ∧ 1 ≤ m ∧ m ≤ 999999 ∧ 1 ≤ k ∧ k ≤ 1099511627777 := by
  obtain ⟨h1, h2, h3, h4⟩ := of_decide_eq_true h
  exact ⟨x.toNat, y.toNat, by omega, by omega, by omega, by omega, by omega, by omega⟩
theorem enc_frame (k s n : Nat) (hk1 : 1 ≤ k) (hk7 : k ≤ 7) (hs : s ≤ 1099511627776) (hn : n ≤ 16384) : encE (k : Int) (s : Int) n = 0 := by
  unfold encE
  rw [if_neg, if_neg (by omega)]
  have : inB (k : Int) (s : Int) = true := decide_eq_true ⟨by omega, by omega, by omega, by omega⟩
  rw [this]
  simp
set_option maxRecDepth 20000 in
set_option maxHeartbeats 2000000 in
theorem header_any (num first : Int) (w : World) (ht : Tab w) : Calls Tryd.prog 11 #[.int .i64 num, .int .i64 first] w fun e w' => ∃ v, e = .returned (.tuple #[v, .int .i64 (hdE num first : Nat)]) ∧ Own w' w.heap.size v (hdV num first) ∧ Below w.heap.size w w' := by
  have HT : Hid (Tab w) := ht
  clear ht
  by_cases hB : sgB num first = true
  · have HV : Hid (hdE num first = 0 ∧ hdV num first = hdrL num.toNat first.toNat) := ⟨by unfold hdE; rw [if_pos hB], by unfold hdV; rw [if_pos hB]⟩
    have HBB : Hid (sgB num first = true) := hB
    obtain ⟨x, y, rfl, rfl, hx1, hx2, hy1, hy2⟩ := sgB_nat hB
    clear hB
    have hxI : (x : Int) ≤ 999999 := by omega
    have hyI : (y : Int) ≤ 1099511627777 := by omega
    obtain ⟨q1, q2⟩ := hdr_body x y hx2 hy2
    obtain ⟨m, hm⟩ : ∃ m, (nencs [x, y]).length = m := ⟨_, rfl⟩
    have hm2 : 2 ≤ m := by rw [← hm]; exact (nencs_len [x, y] (by intro z hz; simp at hz; omega)).2
    have hm20 : m ≤ 20 := by omega
    have HM : Hid ((nencs [x, y]).length = m ∧ nencs [x, y] ≠ []) := ⟨hm, fun h => by rw [h] at hm; simp at hm; omega⟩
    have HXY : Hid (∀ z ∈ [x, y], z ≤ 1099511627777) := by intro z hz; simp at hz; omega
    have HE : Hid (encE (2 : Int) (x : Int) m = 0 ∧ encL (2 : Int) (x : Int) (nencs [x, y]) = hdrL x y) := by
      have h := enc_frame 2 x m (by omega) (by omega) (by omega) (by omega)
      refine ⟨h, ?_⟩
      unfold encL
      rw [hm]
      rw [show encE (2 : Int) (x : Int) m = 0 from h, if_pos rfl]
      rfl
    clear hm q1 q2
    go_enter Tryd.func11, Tryd.ntmps11
    go_wp2_with (first
      | (go_at_call 31; refine (sginB_any _ _ _).mono ?_; rw [HBB.out]; rintro e w1 ⟨rfl, rfl⟩)
      | (go_at_call 33; refine (write_any [x, y] 2 _ _ _ rfl (natI_lit w [x, y]) HXY.out (by omega)).mono ?_; rintro e w2 ⟨v2, rfl, ho2, hb2⟩; obtain ⟨g2, c2, hv2, hc2, hy2'⟩ := ho2.row HM.out.2; rw [HM.out.1] at hv2 hc2; subst hv2; have HY2 : Hid (Bytes w2 (some ⟨g2, 0, none⟩) (nencs [x, y])) := hy2'; have HB2 : Hid (Below w.heap.size w w2) := ((Below.refl w.heap.size w).alloc (Nat.le_refl _) _).trans (hb2.mono (by simp)); clear ho2 hb2 hy2')
      | (go_at_call 32; (refine (fenc_any 2 x (nencs [x, y]) m (some ⟨g2, 0, none⟩) c2 w2 HM.out.1 HY2.out (fun h => by cases h) (by omega) (fun z h => by cases h; exact ⟨g2, 0, rfl⟩) (HT.out.keep HB2.out)).mono ?_; rw [HE.out.1, HE.out.2]; rintro e w3 ⟨v3, rfl, ho3, hb3⟩; have HO3 : Hid (Own w3 w.heap.size v3 (hdrL x y)) := ⟨ho3.1, World.ownsRow.mono (base' := w.heap.size) ho3.2 HB2.out.size⟩; have HB3 : Hid (Below w.heap.size w w3) := below_next HB2.out hb3; clear ho3 hb3)))
    go_ret2
    exact ⟨v3, by rw [HV.out.1]; rfl, by rw [HV.out.2]; exact HO3.out, HB3.out⟩
  · have hB0 : sgB num first = false := by simpa using hB
    have HV : Hid (hdE num first = 1 ∧ hdV num first = []) := ⟨by unfold hdE; rw [if_neg hB], by unfold hdV; rw [if_neg hB]⟩
    have HBB : Hid (sgB num first = false) := hB0
    clear hB hB0
    go_enter Tryd.func11, Tryd.ntmps11
    go_wp2_with (go_at_call 31; refine (sginB_any _ _ _).mono ?_; rw [HBB.out]; rintro e w1 ⟨rfl, rfl⟩)
    go_ret2
    exact ⟨.slice none 0 0, by rw [HV.out.1]; rfl, by rw [HV.out.2]; exact own_nil _ _, Below.refl _ _⟩
/-- what HeaderOf answers -/
def hoX (l : List Nat) : Nat := ((hdr l).map Prod.fst).getD 0
def hoY (l : List Nat) : Nat := ((hdr l).map Prod.snd).getD 0
def hoN (l : List Nat) : Nat := if (hdr l).isSome then pn l + 20 else 0
def hoE (l : List Nat) : Nat := if (hdr l).isSome then 0 else 71
abbrev HoV (l : List Nat) : Value := .tuple #[.int .i64 (hoX l : Nat), .int .i64 (hoY l : Nat), .int .i64 (hoN l : Nat), .int .i64 (hoE l : Nat)]
theorem ho_none {l : List Nat} (h : hdr l = none) : HoV l = .tuple #[.int .i64 0, .int .i64 0, .int .i64 0, .int .i64 71] := by
  unfold HoV hoX hoY hoN hoE
  rw [h]
  rfl
theorem ho_some {l : List Nat} {x y : Nat} (h : hdr l = some (x, y)) : HoV l = .tuple #[.int .i64 (x : Int), .int .i64 (y : Int), .int .i64 ((pn l : Int) + 20), .int .i64 0] := by
  unfold HoV hoX hoY hoN hoE
  rw [h]
  rfl
set_option maxRecDepth 20000 in
set_option maxHeartbeats 4000000 in
theorem headerOf_any (l : List Nat) (n : Nat) (a : Option Addr) (cap : Nat) (w : World) (hn : l.length = n) (hb : Bytes w a l) (hl : n ≤ 281474976710656) (hcap : n ≤ cap) (ht : Tab w) :
    Calls Tryd.prog 14 #[.slice a n cap] w fun e w' => e = .returned (HoV l) ∧ Below w.heap.size w w' := by
  have HB : Hid (Bytes w a l ∧ l.length = n ∧ Tab w) := ⟨hb, hn, ht⟩
  have hmem := hb.mem
  clear hb hn ht
  by_cases hE : decE l = 0
  · obtain ⟨b1, b2, b3, b4, b5, b6, b7⟩ := decB_facts hmem hE
    obtain ⟨P, hP⟩ : ∃ P, pk l = P := ⟨_, rfl⟩
    obtain ⟨S, hS⟩ : ∃ S, ps l = S := ⟨_, rfl⟩
    obtain ⟨B, hB⟩ : ∃ B, pn l = B := ⟨_, rfl⟩
    have HDV : Hid (∀ v, DV l v = .tuple #[FrV (P : Int) (S : Int) v, .int .i64 ((B : Int) + 20), .int .i64 0]) := fun v => by rw [← hP, ← hS, ← hB]; exact (dv_good l v hE).1
    have HBL : Hid ((decB l).length = B ∧ decE l = 0 ∧ ∀ y ∈ decB l, y < 256) := ⟨b3.trans hB, hE, b1⟩
    have hBb : B ≤ 16384 := by omega
    by_cases hK : P = 2
    · subst hK
      have HK : Hid (pk l = 2 ∧ ps l = S ∧ pn l = B) := ⟨hP, hS, hB⟩
      have hSI : (S : Int) ≤ 1099511627776 := by omega
      clear hP hS hB b1 b2 b3 b4 b5 b6 b7 hE
      cases hr : nrd 2 (decB l) with
      | none =>
        have HN : Hid (nrd 2 (decB l) = none ∧ hdr l = none) := ⟨hr, hdr_none_rd l hr⟩
        have HARM : Hid (∀ w' a1 c1, Bytes w' a1 (decB l) → B ≤ c1 → Calls Tryd.prog 37 #[.slice a1 B c1, .int .i64 2] w' fun e w'' => e = .returned (.tuple #[.slice none 0 0, .slice none 0 0, .bool false]) ∧ Below w'.heap.size w' w'') := fun w' a1 c1 hy1 hc1 => by
          refine (read_any (decB l) 2 B a1 c1 _ HBL.out.1 hy1 hc1 (by omega) (by omega)).mono ?_
          rw [HN.out.1]
          rintro e w2 ⟨⟨_, _, _, _, _, h, _⟩ | ⟨_, h⟩, hb2⟩
          · cases h
          · exact ⟨h, hb2⟩
        clear hr
        go_enter Tryd.func14, Tryd.ntmps14
        go_wp2_with (first
          | (go_at_call 36; refine (fdec_any l n a cap w HB.out.2.1 HB.out.1 (by rw [HB.out.2.1]; omega) (by rw [HB.out.2.1]; omega) HB.out.2.2).mono ?_; rintro r w1 ⟨v1, rfl, ho1, hb1⟩; rw [HDV.out v1]; obtain ⟨a1, c1, hv1, hc1, _, hy1, _⟩ := ho1.shape; rw [HBL.out.1] at hv1 hc1; subst hv1; have HB1 : Hid (Below w.heap.size w w1 ∧ Bytes w1 a1 (decB l) ∧ B ≤ c1) := ⟨hb1, hy1, hc1⟩; clear ho1 hb1 hy1 hc1)
          | (go_at_call 37; refine (HARM.out _ _ _ (HB1.out.2.1.keep ((Below.refl _ _).alloc (Nat.le_refl _) _)) HB1.out.2.2).mono ?_; rintro r w2 ⟨rfl, hb2⟩; have HB2 : Hid (Below w.heap.size w w2) := below_next (HB1.out.1.alloc HB1.out.1.size _) hb2; clear hb2))
        (try simp only [Exit.inBlock, Exit.then])
        refine bodyPost_ret (results_tmp4 rfl _ _ _) rfl ⟨by rw [ho_none HN.out.2]; rfl, HB2.out⟩
      | some q =>
        obtain ⟨ns, r⟩ := q
        obtain ⟨x, y, rfl, hx, hy⟩ := nrd_two _ HBL.out.2.2 ns r hr
        have hof := hdr_of l HBL.out.2.1 HK.out.1 x y r hr
        rw [HK.out.2.1] at hof
        obtain ⟨R, hR⟩ : ∃ R, r.length = R := ⟨_, rfl⟩
        have HN : Hid (nrd 2 (decB l) = some ([x, y], r) ∧ r.length = R) := ⟨hr, hR⟩
        have hxI : (x : Int) ≤ 1099511627777 := by omega
        have hyI : (y : Int) ≤ 1099511627777 := by omega
        have HARM : Hid (∀ w' a1 c1, Bytes w' a1 (decB l) → B ≤ c1 → Calls Tryd.prog 37 #[.slice a1 B c1, .int .i64 2] w' fun e w'' => ∃ g c2 xa cp, e = .returned (.tuple #[.slice (some ⟨g, 0, none⟩) 2 c2, .slice xa R cp, .bool true]) ∧ g < w''.heap.size ∧ w''.cell? ⟨g, 0, none⟩ = some (.int .i64 (x : Int)) ∧ w''.cell? ⟨g, 1, none⟩ = some (.int .i64 (y : Int)) ∧ Below w'.heap.size w' w'') := fun w' a1 c1 hy1 hc1 => by
          refine (read_any (decB l) 2 B a1 c1 _ HBL.out.1 hy1 hc1 (by omega) (by omega)).mono ?_
          rw [HN.out.1]
          rintro e w2 ⟨⟨ns, r', va, xa, cp, h, rfl, ho, hy2, hcp, _⟩ | ⟨h, _⟩, hb2⟩
          · simp only [Option.some.injEq, Prod.mk.injEq] at h
            obtain ⟨rfl, rfl⟩ := h
            obtain ⟨g, c2, hv, _, hlt⟩ := World.ownsRow.form ho (by omega)
            subst hv
            exact ⟨g, c2, xa, cp, by rw [HN.out.2], hlt, World.ownsRow.cellAt ho 0 (by omega), World.ownsRow.cellAt ho 1 (by omega), hb2⟩
          · cases h
        clear hr hR
        by_cases hR0 : R = 0
        · have hr0 : r = [] := List.length_eq_zero_iff.1 (by rw [HN.out.2]; exact hR0)
          subst hR0
          by_cases hSx : S = x
          · subst hSx
            by_cases hin : sgB (S : Int) (y : Int) = true
            · obtain ⟨_, _, e1, e2, i1, i2, i3, i4⟩ := sgB_nat hin
              have HH : Hid (hdr l = some (S, y) ∧ sgB (S : Int) (y : Int) = true ∧ pn l = B) := ⟨by rw [hof, if_pos ⟨hr0, rfl, by omega, by omega, by omega⟩], hin, HK.out.2.2⟩
              clear hof hin hr0 e1 e2 i1 i2 i3 i4
              go_enter Tryd.func14, Tryd.ntmps14
              go_wp2_with (first
                | (go_at_call 36; refine (fdec_any l n a cap w HB.out.2.1 HB.out.1 (by rw [HB.out.2.1]; omega) (by rw [HB.out.2.1]; omega) HB.out.2.2).mono ?_; rintro r w1 ⟨v1, rfl, ho1, hb1⟩; rw [HDV.out v1]; obtain ⟨a1, c1, hv1, hc1, _, hy1, _⟩ := ho1.shape; rw [HBL.out.1] at hv1 hc1; subst hv1; have HB1 : Hid (Below w.heap.size w w1 ∧ Bytes w1 a1 (decB l) ∧ B ≤ c1) := ⟨hb1, hy1, hc1⟩; clear ho1 hb1 hy1 hc1)
                | (go_at_call 37; refine (HARM.out _ _ _ (HB1.out.2.1.keep ((Below.refl _ _).alloc (Nat.le_refl _) _)) HB1.out.2.2).mono ?_; rintro e w2 ⟨g, c2, xa, cp, rfl, hlt, k0, k1, hb2⟩; have HB2 : Hid (Below w.heap.size w w2) := below_next (HB1.out.1.alloc HB1.out.1.size _) hb2; obtain ⟨_, ks, _⟩ := ((FrmAt.new w1 2 (S : Int) (.slice a1 B c1)).keep hb2).cells; clear hb2)
                | (go_at_call 31; refine (sginB_any _ _ _).mono ?_; rw [HH.out.2.1]; rintro e w3 ⟨rfl, rfl⟩))
              go_region
              go_wp2_with (go_at_call 31; refine (sginB_any _ _ _).mono ?_; rw [HH.out.2.1]; rintro e w3 ⟨rfl, rfl⟩)
              (try simp only [Exit.inBlock, Exit.then])
              refine bodyPost_ret (results_tmp4 rfl _ _ _) rfl ⟨by rw [ho_some HH.out.1, HH.out.2.2]; rfl, HB2.out.drew⟩
            · have hin0 : sgB (S : Int) (y : Int) = false := by simpa using hin
              have HH : Hid (hdr l = none ∧ sgB (S : Int) (y : Int) = false) := ⟨by
                rw [hof, if_neg]
                rintro ⟨_, _, j1, j2, j3⟩
                exact hin (decide_eq_true ⟨by omega, by omega, by omega, by omega⟩), hin0⟩
              clear hof hin hin0 hr0
              go_enter Tryd.func14, Tryd.ntmps14
              go_wp2_with (first
                | (go_at_call 36; refine (fdec_any l n a cap w HB.out.2.1 HB.out.1 (by rw [HB.out.2.1]; omega) (by rw [HB.out.2.1]; omega) HB.out.2.2).mono ?_; rintro r w1 ⟨v1, rfl, ho1, hb1⟩; rw [HDV.out v1]; obtain ⟨a1, c1, hv1, hc1, _, hy1, _⟩ := ho1.shape; rw [HBL.out.1] at hv1 hc1; subst hv1; have HB1 : Hid (Below w.heap.size w w1 ∧ Bytes w1 a1 (decB l) ∧ B ≤ c1) := ⟨hb1, hy1, hc1⟩; clear ho1 hb1 hy1 hc1)
                | (go_at_call 37; refine (HARM.out _ _ _ (HB1.out.2.1.keep ((Below.refl _ _).alloc (Nat.le_refl _) _)) HB1.out.2.2).mono ?_; rintro e w2 ⟨g, c2, xa, cp, rfl, hlt, k0, k1, hb2⟩; have HB2 : Hid (Below w.heap.size w w2) := below_next (HB1.out.1.alloc HB1.out.1.size _) hb2; obtain ⟨_, ks, _⟩ := ((FrmAt.new w1 2 (S : Int) (.slice a1 B c1)).keep hb2).cells; clear hb2))
              go_region
              go_wp2_with (go_at_call 31; refine (sginB_any _ _ _).mono ?_; rw [HH.out.2]; rintro e w3 ⟨rfl, rfl⟩)
              (try simp only [Exit.inBlock, Exit.then])
              refine bodyPost_ret (results_tmp4 rfl _ _ _) rfl ⟨by rw [ho_none HH.out.1]; rfl, HB2.out.drew⟩
          · have HH : Hid (hdr l = none) := by
              show _ = _
              rw [hof, if_neg (fun h => hSx h.2.1)]
            have hSI2 : ((S : Int) != (x : Int)) = true := by simp; omega
            clear hof hr0
            go_enter Tryd.func14, Tryd.ntmps14
            go_wp2_with (first
              | (go_at_call 36; refine (fdec_any l n a cap w HB.out.2.1 HB.out.1 (by rw [HB.out.2.1]; omega) (by rw [HB.out.2.1]; omega) HB.out.2.2).mono ?_; rintro r w1 ⟨v1, rfl, ho1, hb1⟩; rw [HDV.out v1]; obtain ⟨a1, c1, hv1, hc1, _, hy1, _⟩ := ho1.shape; rw [HBL.out.1] at hv1 hc1; subst hv1; have HB1 : Hid (Below w.heap.size w w1 ∧ Bytes w1 a1 (decB l) ∧ B ≤ c1) := ⟨hb1, hy1, hc1⟩; clear ho1 hb1 hy1 hc1)
              | (go_at_call 37; refine (HARM.out _ _ _ (HB1.out.2.1.keep ((Below.refl _ _).alloc (Nat.le_refl _) _)) HB1.out.2.2).mono ?_; rintro e w2 ⟨g, c2, xa, cp, rfl, hlt, k0, k1, hb2⟩; have HB2 : Hid (Below w.heap.size w w2) := below_next (HB1.out.1.alloc HB1.out.1.size _) hb2; obtain ⟨_, ks, _⟩ := ((FrmAt.new w1 2 (S : Int) (.slice a1 B c1)).keep hb2).cells; clear hb2))
            go_region
            go_wp2
            (try simp only [Exit.inBlock, Exit.then])
            refine bodyPost_ret (results_tmp4 rfl _ _ _) rfl ⟨by rw [ho_none HH.out]; rfl, HB2.out.drew⟩
        · have HH : Hid (hdr l = none) := by
            show _ = _
            rw [hof, if_neg]
            rintro ⟨h, _⟩
            rw [h] at HN
            exact hR0 HN.out.2.symm
          have hRI : (0 : Int) < (R : Int) := by omega
          clear hof
          go_enter Tryd.func14, Tryd.ntmps14
          go_wp2_with (first
            | (go_at_call 36; refine (fdec_any l n a cap w HB.out.2.1 HB.out.1 (by rw [HB.out.2.1]; omega) (by rw [HB.out.2.1]; omega) HB.out.2.2).mono ?_; rintro r w1 ⟨v1, rfl, ho1, hb1⟩; rw [HDV.out v1]; obtain ⟨a1, c1, hv1, hc1, _, hy1, _⟩ := ho1.shape; rw [HBL.out.1] at hv1 hc1; subst hv1; have HB1 : Hid (Below w.heap.size w w1 ∧ Bytes w1 a1 (decB l) ∧ B ≤ c1) := ⟨hb1, hy1, hc1⟩; clear ho1 hb1 hy1 hc1)
            | (go_at_call 37; refine (HARM.out _ _ _ (HB1.out.2.1.keep ((Below.refl _ _).alloc (Nat.le_refl _) _)) HB1.out.2.2).mono ?_; rintro e w2 ⟨g, c2, xa, cp, rfl, hlt, k0, k1, hb2⟩; have HB2 : Hid (Below w.heap.size w w2) := below_next (HB1.out.1.alloc HB1.out.1.size _) hb2; obtain ⟨_, ks, _⟩ := ((FrmAt.new w1 2 (S : Int) (.slice a1 B c1)).keep hb2).cells; clear hb2))
          (try simp only [Exit.inBlock, Exit.then])
          refine bodyPost_ret (results_tmp4 rfl _ _ _) rfl ⟨by rw [ho_none HH.out]; rfl, HB2.out⟩
    · have HH : Hid (hdr l = none) := hdr_none_e l (.inr (by rw [hP]; exact hK))
      have hPI : ((P : Int) != 2) = true := by simp; omega
      clear hP hS hB b1 b2 b3 b4 b5 b6 b7 hE
      go_enter Tryd.func14, Tryd.ntmps14
      go_wp2_with (go_at_call 36; refine (fdec_any l n a cap w HB.out.2.1 HB.out.1 (by rw [HB.out.2.1]; omega) (by rw [HB.out.2.1]; omega) HB.out.2.2).mono ?_; rintro r w1 ⟨v1, rfl, ho1, hb1⟩; rw [HDV.out v1]; obtain ⟨a1, c1, hv1, _⟩ := ho1.shape; subst hv1; have HB1 : Hid (Below w.heap.size w w1) := hb1; clear ho1 hb1)
      (try simp only [Exit.inBlock, Exit.then])
      refine bodyPost_ret (results_tmp4 rfl _ _ _) rfl ⟨by rw [ho_none HH.out]; rfl, HB1.out.alloc HB1.out.size _⟩
  · obtain ⟨e, he⟩ : ∃ e, decE l = e := ⟨_, rfl⟩
    have HDV : Hid (∀ v, DV l v = .tuple #[FrV 0 0 v, .int .i64 0, .int .i64 (e : Int)]) := fun v => (dv_none l v e he (by omega)).1
    have HH : Hid (hdr l = none) := hdr_none_e l (.inl hE)
    have heI : ((e : Int) != 0) = true := by simp; omega
    clear hE he
    go_enter Tryd.func14, Tryd.ntmps14
    go_wp2_with (go_at_call 36; refine (fdec_any l n a cap w HB.out.2.1 HB.out.1 (by rw [HB.out.2.1]; omega) (by rw [HB.out.2.1]; omega) HB.out.2.2).mono ?_; rintro r w1 ⟨v1, rfl, ho1, hb1⟩; rw [HDV.out v1]; obtain ⟨a1, c1, hv1, _⟩ := ho1.shape; subst hv1; have HB1 : Hid (Below w.heap.size w w1) := hb1; clear ho1 hb1)
    (try simp only [Exit.inBlock, Exit.then])
    refine bodyPost_ret (results_tmp4 rfl _ _ _) rfl ⟨by rw [ho_none HH.out]; rfl, HB1.out.alloc HB1.out.size _⟩
end Go.Proofs.YtaegmeilhdbnnaaDoor
