/- Own texts, joined: Sg25. -/
import Derived.Test.YtfnkhpijcbpeoaaDoorK36
import Derived.Test.YtfnkhpijcbpeoaaDoorK38
import Derived.Test.YtfnkhpijcbpeoaaDoorK39
import Derived.Test.YtfnkhpijcbpeoaaDoorK40
import Derived.Test.YtfnkhpijcbpeoaaDoorK30
import Derived.BigQuiet
namespace Go.Proofs.YtfnkhpijcbpeoaaDoor
open Go.ChangeShapes Go.WideShapes Go.ChangeAt Go.RowKit
set_option linter.unusedVariables false
/-- what Closing answers: marks and stride -/
def clR (l : List Nat) (num first count foot : Int) : Option (List Mk × Nat) :=
  if whE l 3 = 0 ∧ (ps l : Int) = num then
    match nrd 3 (decB l) with
    | some ([u, v, st], r) => if ((u : Int) = first ∧ (v : Int) = count ∧ 1 ≤ v ∧ 1 ≤ st ∧ st ≤ 64) ∧ (mDec r).2 = 0 ∧ fitB (mDec r).1 u v st foot = true then some ((mDec r).1, st) else none
    | _ => none
  else none
def clE (l : List Nat) (num first count foot : Int) : Nat := if (clR l num first count foot).isSome then 0 else 70
def clS (l : List Nat) (num first count foot : Int) : Nat := ((clR l num first count foot).map Prod.snd).getD 0
def clM (l : List Nat) (num first count foot : Int) : List Mk := ((clR l num first count foot).map Prod.fst).getD []
theorem cl_none {l : List Nat} {num first count foot : Int} (h : clR l num first count foot = none) : clE l num first count foot = 70 ∧ clS l num first count foot = 0 ∧ clM l num first count foot = [] := by
  unfold clE clS clM
  rw [h]
  exact ⟨rfl, rfl, rfl⟩
theorem cl_some {l : List Nat} {num first count foot : Int} {M : List Mk} {s : Nat} (h : clR l num first count foot = some (M, s)) : clE l num first count foot = 0 ∧ clS l num first count foot = s ∧ clM l num first count foot = M := by
  unfold clE clS clM
  rw [h]
  exact ⟨rfl, rfl, rfl⟩
/-- a manifest's word on a segment, in memory -/
def SeAt (w : World) (k : Nat) (num first count foot : Int) : Prop := w.heap[k]? = some (.cells #[.int .i64 num, .int .i64 first, .int .i64 count, .int .i64 foot] 24)
theorem SeAt.keep {w w' : World} {k : Nat} {num first count foot : Int} (h : SeAt w k num first count foot) (hb : Below w.heap.size w w') : SeAt w' k num first count foot := (hb.block k (lt_of_heap h)).trans h
theorem SeAt.cells {w : World} {k : Nat} {num first count foot : Int} (h : SeAt w k num first count foot) : w.cell? ⟨k, 0, none⟩ = some (.int .i64 num) ∧ w.cell? ⟨k, 1, none⟩ = some (.int .i64 first) ∧ w.cell? ⟨k, 2, none⟩ = some (.int .i64 count) ∧ w.cell? ⟨k, 3, none⟩ = some (.int .i64 foot) :=
  ⟨by rw [cell_of_row _ _ 0 _ _ _ h]; rfl, by rw [cell_of_row _ _ 1 _ _ _ h]; rfl, by rw [cell_of_row _ _ 2 _ _ _ h]; rfl, by rw [cell_of_row _ _ 3 _ _ _ h]; rfl⟩
theorem Tryd.infoSe : (Tryd.prog.info? 24).map (·.size) = some 4 := by kernel_rfl
theorem SeAt.load {w : World} {k : Nat} {num first count foot : Int} (h : SeAt w k num first count foot) : (Instr.loadAt 24 (.pointer (some ⟨k, 0, none⟩))).run Tryd.prog w = .ok (SeV num first count foot) w := by
  have h2 : (Go.loadVar 24 ⟨k, 0, none⟩).run Tryd.prog w = .ok (SeV num first count foot) w := run_loadVar_row _ _ _ _ _ _ _ h Tryd.underlying24 rfl Tryd.infoSe
  simp only [Instr.loadAt, Instr.sureAddr, Sem.run_bind, Sem.run_pure, Result.andThen_ok, h2]
theorem wpList_load_seg4g {ops : Array Oper} {rest : List Oper} {o : Oper} {a : Act} {w : World} {Q : Exit → Act → World → Prop} (hw : Region.wanted o (yielded ops a.tmps) = true) (p : Operand) (ho : o.op = .load 24 p)
    {k : Nat} {num first count foot : Int} (hL : SeAt w k num first count foot) (hx : a.eval p = .pointer (some ⟨k, 0, none⟩)) (h : wpList Tryd.prog ops Q rest (a.put o.dst (SeV num first count foot)) w) : wpList Tryd.prog ops Q (o :: rest) a w :=
  wpList_want2 hw fun _ hK => by
    unfold Oper.wp execOp
    simp only [ho, hx, Sem.run_bind, Sem.run_pure, Result.andThen_ok, hL.load]
    exact hK _ _ h
set_option maxRecDepth 20000 in
set_option maxHeartbeats 8000000 in
theorem closing_any (l : List Nat) (num first count foot : Int) (m : Nat) (ab : Option Addr) (capb : Nat) (w : World) (hm : l.length = m) (hb : Bytes w ab l) (hcapb : m ≤ capb) (hml : m ≤ 140737488351232) (ht : Tab w) :
    Calls Tryd.prog 6 #[.slice ab m capb, SeV num first count foot] w fun e w' => ∃ v, e = .returned (.tuple #[v, .int .i64 (clS l num first count foot : Nat), .int .i64 (clE l num first count foot : Nat)]) ∧ OwnM w' w.heap.size v (clM l num first count foot) ∧ Below w.heap.size w w' := by
  have HB : Hid (Bytes w ab l ∧ l.length = m ∧ Tab w) := ⟨hb, hm, ht⟩
  have hmem := hb.mem
  have HW0 : Hid (Below w.heap.size w (w.alloc (.cells #[.int .i64 num, .int .i64 first, .int .i64 count, .int .i64 foot] 24)) ∧ SeAt (w.alloc (.cells #[.int .i64 num, .int .i64 first, .int .i64 count, .int .i64 foot] 24)) w.heap.size num first count foot) := ⟨(Below.refl _ _).alloc (Nat.le_refl _) _, heap_alloc_new w _⟩
  clear hb hm ht
  by_cases hE : whE l 3 = 0
  · have h0 : decE l = 0 := by
      apply Decidable.byContradiction
      intro hc
      unfold whE at hE
      rw [if_pos hc] at hE
      exact hc hE
    obtain ⟨b1, b2, b3, b4, b5, b6, b7⟩ := decB_facts hmem h0
    obtain ⟨P, hP⟩ : ∃ P, pk l = P := ⟨_, rfl⟩
    obtain ⟨S, hS⟩ : ∃ S, ps l = S := ⟨_, rfl⟩
    obtain ⟨B, hB⟩ : ∃ B, pn l = B := ⟨_, rfl⟩
    have hwb : whB l 3 = decB l := (wv_good l 3 (.int .i64 0) hE).2
    have HWV : Hid (∀ v, WV l 3 v = .tuple #[FrV (P : Int) (S : Int) v, .int .i64 0]) := fun v => by rw [← hP, ← hS]; exact (wv_good l 3 v hE).1
    have HBL : Hid ((whB l 3).length = B) := by show _ = _; rw [hwb]; exact b3.trans hB
    have HDB : Hid (whB l 3 = decB l ∧ ∀ y ∈ decB l, y < 256) := ⟨hwb, b1⟩
    have hBb : B ≤ 16384 := by omega
    by_cases hSN : (S : Int) = num
    · have hSb : ((S : Int) != num) = false := by simp; omega
      cases hr : nrd 3 (decB l) with
      | none =>
        have HCL : Hid (clS l num first count foot = 0 ∧ clE l num first count foot = 70 ∧ clM l num first count foot = []) := by
          obtain ⟨h1, h2, h3⟩ := cl_none (l := l) (num := num) (first := first) (count := count) (foot := foot) (by unfold clR; rw [hr]; split <;> rfl)
          exact ⟨h2, h1, h3⟩
        have HARM : Hid (∀ w' a1 c1, Bytes w' a1 (whB l 3) → B ≤ c1 → Calls Tryd.prog 17 #[.slice a1 B c1, .int .i64 3] w' fun e w'' => e = .returned (.tuple #[.slice none 0 0, .slice none 0 0, .bool false]) ∧ Below w'.heap.size w' w'') := fun w' a1 c1 hy1 hc1 => by
          rw [HDB.out.1] at hy1
          refine (read_any (decB l) 3 B a1 c1 _ (by rw [← HDB.out.1]; exact HBL.out) hy1 hc1 (by omega) (by omega)).mono ?_
          rw [hr]
          rintro e w2 ⟨⟨_, _, _, _, _, h, _⟩ | ⟨_, h⟩, hb2⟩
          · cases h
          · exact ⟨h, hb2⟩
        clear hr hP hS hB b1 b2 b3 b4 b5 b6 b7 h0 hE hwb hSN
        go_enter Tryd.func6, Tryd.ntmps6
        go_wp2_with (first
          | (go_at_call 16; refine (fwhole_any l 3 m ab capb _ HB.out.2.1 (HB.out.1.keep HW0.out.1) (by rw [HB.out.2.1]; omega) (by rw [HB.out.2.1]; omega) (HB.out.2.2.keep HW0.out.1)).mono ?_; rintro r w1 ⟨v1, rfl, ho1, hb1⟩; rw [HWV.out v1]; obtain ⟨a1, c1, hv1, hc1, _, hy1, _⟩ := ho1.shape; rw [HBL.out] at hv1 hc1; subst hv1; have HB1 : Hid (Below w.heap.size w w1 ∧ Bytes w1 a1 (whB l 3) ∧ B ≤ c1 ∧ SeAt w1 w.heap.size num first count foot) := ⟨HW0.out.1.trans (hb1.mono HW0.out.1.size), hy1, hc1, HW0.out.2.keep hb1⟩; obtain ⟨n0, n1, n2, n3⟩ := HB1.out.2.2.2.cells; have hlw1 : w.heap.size < w1.heap.size := lt_of_heap HB1.out.2.2.2; clear ho1 hb1 hy1 hc1)
          | (go_at_call 17; refine (HARM.out _ _ _ (HB1.out.2.1.keep ((Below.refl _ _).alloc (Nat.le_refl _) _)) HB1.out.2.2.1).mono ?_; rintro r w2 ⟨rfl, hb2⟩; have hb2w := ((Below.refl w1.heap.size w1).alloc (Nat.le_refl _) _).trans (hb2.mono (by simp)); have HB2 : Hid (Below w.heap.size w w2) := below_next HB1.out.1 hb2w; clear hb2 hb2w)
          | fail)
        go_quiet (fail)
        go_wp2
        go_ret3
        exact ⟨.slice none 0 0, by rw [HCL.out.1, HCL.out.2.1]; rfl, by rw [HCL.out.2.2]; exact OwnM.nil _ _, below_drewN HB2.out _⟩
      | some q =>
        obtain ⟨ns, r0⟩ := q
        obtain ⟨u, v, st, rfl, hu, hv, hst⟩ := nrd_three _ b1 ns r0 hr
        have hclr : clR l num first count foot = if ((u : Int) = first ∧ (v : Int) = count ∧ 1 ≤ v ∧ 1 ≤ st ∧ st ≤ 64) ∧ (mDec r0).2 = 0 ∧ fitB (mDec r0).1 u v st foot = true then some ((mDec r0).1, st) else none := by
          unfold clR
          rw [if_pos ⟨hE, by rw [hS]; exact hSN⟩, hr]
        obtain ⟨R, hR⟩ : ∃ R, r0.length = R := ⟨_, rfl⟩
        have hRb : R ≤ 16384 := by
          obtain ⟨_, h2, _⟩ := nrd_form 3 _ b1 _ _ hr
          have h3 := congrArg List.length h2
          rw [List.length_append] at h3
          omega
        have HARM : Hid (∀ w' a1 c1, Bytes w' a1 (whB l 3) → B ≤ c1 → Calls Tryd.prog 17 #[.slice a1 B c1, .int .i64 3] w' fun e w'' => ∃ g c2 xa cp, e = .returned (.tuple #[.slice (some ⟨g, 0, none⟩) 3 c2, .slice xa R cp, .bool true]) ∧ g < w''.heap.size ∧ w''.cell? ⟨g, 0, none⟩ = some (.int .i64 (u : Int)) ∧ w''.cell? ⟨g, 1, none⟩ = some (.int .i64 (v : Int)) ∧ w''.cell? ⟨g, 2, none⟩ = some (.int .i64 (st : Int)) ∧ Bytes w'' xa r0 ∧ R ≤ cp ∧ Below w'.heap.size w' w'') := fun w' a1 c1 hy1 hc1 => by
          rw [HDB.out.1] at hy1
          refine (read_any (decB l) 3 B a1 c1 _ (by rw [← HDB.out.1]; exact HBL.out) hy1 hc1 (by omega) (by omega)).mono ?_
          rw [hr]
          rintro e w2 ⟨⟨ns, r', va, xa, cp, h, rfl, ho, hy2, hcp, _⟩ | ⟨h, _⟩, hb2⟩
          · simp only [Option.some.injEq, Prod.mk.injEq] at h
            obtain ⟨rfl, rfl⟩ := h
            obtain ⟨g, c2, hv, _, hlt⟩ := World.ownsRow.form ho (by omega)
            subst hv
            exact ⟨g, c2, xa, cp, by rw [hR], hlt, World.ownsRow.cellAt ho 0 (by omega), World.ownsRow.cellAt ho 1 (by omega), World.ownsRow.cellAt ho 2 (by omega), hy2, by rw [← hR]; exact hcp, hb2⟩
          · cases h
        have huI : (u : Int) ≤ 1099511627777 := by omega
        have hvI : (v : Int) ≤ 1099511627777 := by omega
        have hstI : (st : Int) ≤ 1099511627777 := by omega
        have hnone : ∀ hx : ¬ (((u : Int) = first ∧ (v : Int) = count ∧ 1 ≤ v ∧ 1 ≤ st ∧ st ≤ 64) ∧ (mDec r0).2 = 0 ∧ fitB (mDec r0).1 u v st foot = true), Hid (clS l num first count foot = 0 ∧ clE l num first count foot = 70 ∧ clM l num first count foot = []) := fun hx => by
          obtain ⟨h1, h2, h3⟩ := cl_none (l := l) (num := num) (first := first) (count := count) (foot := foot) (by rw [hclr, if_neg hx])
          exact ⟨h2, h1, h3⟩
        by_cases hq1 : (u : Int) = first
        · have hb1u : ((u : Int) != first) = false := by simp; omega
          by_cases hq2 : (v : Int) = count
          · have hb2v : ((v : Int) != count) = false := by simp; omega
            by_cases hq3 : 1 ≤ v
            · have hb3v : ¬ (v : Int) < 1 := by omega
              by_cases hq4 : 1 ≤ st ∧ st ≤ 64
              · have HST : Hid (stB (st : Int) = true) := decide_eq_true ⟨by omega, by omega⟩
                obtain ⟨MM, hMM⟩ : ∃ M, (mDec r0).1 = M := ⟨_, rfl⟩
                obtain ⟨ee, hee⟩ : ∃ e, (mDec r0).2 = e := ⟨_, rfl⟩
                obtain ⟨ml, hmlen⟩ : ∃ k, MM.length = k := ⟨_, rfl⟩
                have HR0 : Hid (r0.length = R ∧ (mDec r0).2 = ee ∧ (mDec r0).1 = MM) := ⟨hR, hee, hMM⟩
                have HML : Hid (MM.length = ml) := hmlen
                rw [hee, hMM] at hclr hnone
                by_cases hee0 : ee = 0
                · subst hee0
                  have hml5 : ml ≤ 512 := by
                    rw [← hmlen]
                    exact valid_len (mDec_ok r0 MM (fun z hz => by
                      obtain ⟨_, h2, _⟩ := nrd_form 3 _ b1 _ _ hr
                      exact b1 z (by rw [h2]; exact List.mem_append_right _ hz)) (by rw [← hMM, ← hee])).1
                  by_cases hfit : fitB MM u v st foot = true
                  · have HFI : Hid (∀ w' a4 c4, Marks w' a4 MM → Calls Tryd.prog 19 #[.slice a4 ml c4, SeV num first count foot, .int .i64 (st : Int)] w' fun e w'' => e = .returned (.bool true) ∧ Below w'.heap.size w' w'') := fun w' a4 c4 hmk => by
                      have h2 := fits_any MM ml a4 c4 num foot u v st w' hmlen hmk hml5 hu hv hq4.1 hq4.2
                      rw [hfit, hq1, hq2] at h2
                      exact h2
                    have HCS : Hid (clS l num first count foot = st ∧ clE l num first count foot = 0 ∧ clM l num first count foot = MM) := by
                      obtain ⟨h1, h2, h3⟩ := cl_some (by rw [hclr, if_pos ⟨⟨hq1, hq2, hq3, hq4⟩, rfl, hfit⟩] : clR l num first count foot = some (MM, st))
                      exact ⟨h2, h1, h3⟩
                    clear hr hP hS hB b1 b2 b3 b4 b5 b6 b7 h0 hE hwb hSN hclr hnone hMM hmlen hR hfit hq1 hq2 hee
                    go_enter Tryd.func6, Tryd.ntmps6
                    go_wp2_with (first
                      | (go_at_call 16; refine (fwhole_any l 3 m ab capb _ HB.out.2.1 (HB.out.1.keep HW0.out.1) (by rw [HB.out.2.1]; omega) (by rw [HB.out.2.1]; omega) (HB.out.2.2.keep HW0.out.1)).mono ?_; rintro r w1 ⟨v1, rfl, ho1, hb1⟩; rw [HWV.out v1]; obtain ⟨a1, c1, hv1, hc1, _, hy1, _⟩ := ho1.shape; rw [HBL.out] at hv1 hc1; subst hv1; have HB1 : Hid (Below w.heap.size w w1 ∧ Bytes w1 a1 (whB l 3) ∧ B ≤ c1 ∧ SeAt w1 w.heap.size num first count foot) := ⟨HW0.out.1.trans (hb1.mono HW0.out.1.size), hy1, hc1, HW0.out.2.keep hb1⟩; obtain ⟨n0, n1, n2, n3⟩ := HB1.out.2.2.2.cells; have hlw1 : w.heap.size < w1.heap.size := lt_of_heap HB1.out.2.2.2; clear ho1 hb1 hy1 hc1)
                      | (go_at_call 17; refine (HARM.out _ _ _ (HB1.out.2.1.keep ((Below.refl _ _).alloc (Nat.le_refl _) _)) HB1.out.2.2.1).mono ?_; rintro e w2 ⟨g, c2, xa, cp, rfl, hlt, k0, k1, k2, hyr, hcp, hb2⟩; have hb2w := ((Below.refl w1.heap.size w1).alloc (Nat.le_refl _) _).trans (hb2.mono (by simp)); have HB2 : Hid (Below w.heap.size w w2 ∧ Bytes w2 xa r0 ∧ R ≤ cp ∧ SeAt w2 w.heap.size num first count foot) := ⟨below_next HB1.out.1 hb2w, hyr, hcp, HB1.out.2.2.2.keep hb2w⟩; obtain ⟨o0, o1, o2, o3⟩ := HB2.out.2.2.2.cells; have hlw2 : w.heap.size < w2.heap.size := lt_of_heap HB2.out.2.2.2; clear hb2 hb2w hyr hcp)
                      | fail)
                    have hqs : ∀ w0, Calls Tryd.prog 10 #[.int .i64 (st : Int)] w0 fun e w1 => e = .returned (.bool true) ∧ w1 = w0 := fun w0 => by have h := isStride_q (st : Int) w0; rw [HST.out] at h; exact h
                    have HQQ : Hid (_) := hqs
                    clear hqs
                    go_quiet ((go_at_call 10; exact Calls.quiet_of_same (HQQ.out _)))
                    go_wp2_with (first
                      | (go_at_call 18; refine (idec_any r0 R xa cp _ HR0.out.1 (HB2.out.2.1.keep (below_drewN (Below.refl _ _) _)) HB2.out.2.2.1 (by omega)).mono ?_; rw [HR0.out.2.1, HR0.out.2.2]; rintro r w4 ⟨v4, rfl, ho4, hb4⟩; obtain ⟨a4, c4, hv4, _, _, hy4, _⟩ := ho4.shape; rw [HML.out] at hv4; subst hv4; have hb4w := (below_drewN (Below.refl w2.heap.size w2) _).trans hb4; have HB4 : Hid (Below w.heap.size w w4 ∧ OwnM w4 w.heap.size (.slice a4 ml c4) MM ∧ Marks w4 a4 MM ∧ SeAt w4 w.heap.size num first count foot) := ⟨below_next HB2.out.1 hb4w, World.ownsRow.mono (base' := w.heap.size) ho4 HB2.out.1.size, hy4, HB2.out.2.2.2.keep hb4w⟩; clear ho4 hb4 hy4 hb4w)
                      | ((with_reducible refine frm_loadg 24 ?_); refine wpList_load_seg4g rfl _ rfl HB4.out.2.2.2 rfl ?_)
                      | (go_at_call 19; refine (HFI.out _ _ _ HB4.out.2.2.1).mono ?_; rintro r w5 ⟨rfl, hb5⟩; have HB5 : Hid (Below w.heap.size w w5 ∧ OwnM w5 w.heap.size (.slice a4 ml c4) MM) := ⟨below_next HB4.out.1 hb5, HB4.out.2.1.keep hb5⟩; clear hb5)
                      | fail)
                    go_ret3
                    exact ⟨.slice a4 ml c4, by rw [HCS.out.1, HCS.out.2.1]; rfl, by rw [HCS.out.2.2]; exact HB5.out.2, HB5.out.1⟩
                  · have hfit0 : fitB MM u v st foot = false := by simpa using hfit
                    have HFI : Hid (∀ w' a4 c4, Marks w' a4 MM → Calls Tryd.prog 19 #[.slice a4 ml c4, SeV num first count foot, .int .i64 (st : Int)] w' fun e w'' => e = .returned (.bool false) ∧ Below w'.heap.size w' w'') := fun w' a4 c4 hmk => by
                      have h2 := fits_any MM ml a4 c4 num foot u v st w' hmlen hmk hml5 hu hv hq4.1 hq4.2
                      rw [hfit0, hq1, hq2] at h2
                      exact h2
                    have HCL := hnone (fun h => hfit h.2.2)
                    clear hr hP hS hB b1 b2 b3 b4 b5 b6 b7 h0 hE hwb hSN hclr hnone hMM hmlen hR hfit hfit0 hq1 hq2 hee
                    go_enter Tryd.func6, Tryd.ntmps6
                    go_wp2_with (first
                      | (go_at_call 16; refine (fwhole_any l 3 m ab capb _ HB.out.2.1 (HB.out.1.keep HW0.out.1) (by rw [HB.out.2.1]; omega) (by rw [HB.out.2.1]; omega) (HB.out.2.2.keep HW0.out.1)).mono ?_; rintro r w1 ⟨v1, rfl, ho1, hb1⟩; rw [HWV.out v1]; obtain ⟨a1, c1, hv1, hc1, _, hy1, _⟩ := ho1.shape; rw [HBL.out] at hv1 hc1; subst hv1; have HB1 : Hid (Below w.heap.size w w1 ∧ Bytes w1 a1 (whB l 3) ∧ B ≤ c1 ∧ SeAt w1 w.heap.size num first count foot) := ⟨HW0.out.1.trans (hb1.mono HW0.out.1.size), hy1, hc1, HW0.out.2.keep hb1⟩; obtain ⟨n0, n1, n2, n3⟩ := HB1.out.2.2.2.cells; have hlw1 : w.heap.size < w1.heap.size := lt_of_heap HB1.out.2.2.2; clear ho1 hb1 hy1 hc1)
                      | (go_at_call 17; refine (HARM.out _ _ _ (HB1.out.2.1.keep ((Below.refl _ _).alloc (Nat.le_refl _) _)) HB1.out.2.2.1).mono ?_; rintro e w2 ⟨g, c2, xa, cp, rfl, hlt, k0, k1, k2, hyr, hcp, hb2⟩; have hb2w := ((Below.refl w1.heap.size w1).alloc (Nat.le_refl _) _).trans (hb2.mono (by simp)); have HB2 : Hid (Below w.heap.size w w2 ∧ Bytes w2 xa r0 ∧ R ≤ cp ∧ SeAt w2 w.heap.size num first count foot) := ⟨below_next HB1.out.1 hb2w, hyr, hcp, HB1.out.2.2.2.keep hb2w⟩; obtain ⟨o0, o1, o2, o3⟩ := HB2.out.2.2.2.cells; have hlw2 : w.heap.size < w2.heap.size := lt_of_heap HB2.out.2.2.2; clear hb2 hb2w hyr hcp)
                      | fail)
                    have hqs : ∀ w0, Calls Tryd.prog 10 #[.int .i64 (st : Int)] w0 fun e w1 => e = .returned (.bool true) ∧ w1 = w0 := fun w0 => by have h := isStride_q (st : Int) w0; rw [HST.out] at h; exact h
                    have HQQ : Hid (_) := hqs
                    clear hqs
                    go_quiet ((go_at_call 10; exact Calls.quiet_of_same (HQQ.out _)))
                    go_wp2_with (first
                      | (go_at_call 18; refine (idec_any r0 R xa cp _ HR0.out.1 (HB2.out.2.1.keep (below_drewN (Below.refl _ _) _)) HB2.out.2.2.1 (by omega)).mono ?_; rw [HR0.out.2.1, HR0.out.2.2]; rintro r w4 ⟨v4, rfl, ho4, hb4⟩; obtain ⟨a4, c4, hv4, _, _, hy4, _⟩ := ho4.shape; rw [HML.out] at hv4; subst hv4; have hb4w := (below_drewN (Below.refl w2.heap.size w2) _).trans hb4; have HB4 : Hid (Below w.heap.size w w4 ∧ OwnM w4 w.heap.size (.slice a4 ml c4) MM ∧ Marks w4 a4 MM ∧ SeAt w4 w.heap.size num first count foot) := ⟨below_next HB2.out.1 hb4w, World.ownsRow.mono (base' := w.heap.size) ho4 HB2.out.1.size, hy4, HB2.out.2.2.2.keep hb4w⟩; clear ho4 hb4 hy4 hb4w)
                      | ((with_reducible refine frm_loadg 24 ?_); refine wpList_load_seg4g rfl _ rfl HB4.out.2.2.2 rfl ?_)
                      | (go_at_call 19; refine (HFI.out _ _ _ HB4.out.2.2.1).mono ?_; rintro r w5 ⟨rfl, hb5⟩; have HB5 : Hid (Below w.heap.size w w5 ∧ OwnM w5 w.heap.size (.slice a4 ml c4) MM) := ⟨below_next HB4.out.1 hb5, HB4.out.2.1.keep hb5⟩; clear hb5)
                      | fail)
                    go_ret3
                    exact ⟨.slice none 0 0, by rw [HCL.out.1, HCL.out.2.1]; rfl, by rw [HCL.out.2.2]; exact OwnM.nil _ _, HB5.out.1⟩
                · have HCL := hnone (fun h => hee0 h.2.1)
                  have heI : ((ee : Int) != 0) = true := by simp; omega
                  clear hr hP hS hB b1 b2 b3 b4 b5 b6 b7 h0 hE hwb hSN hclr hnone hMM hmlen hR hq1 hq2 hee
                  go_enter Tryd.func6, Tryd.ntmps6
                  go_wp2_with (first
                    | (go_at_call 16; refine (fwhole_any l 3 m ab capb _ HB.out.2.1 (HB.out.1.keep HW0.out.1) (by rw [HB.out.2.1]; omega) (by rw [HB.out.2.1]; omega) (HB.out.2.2.keep HW0.out.1)).mono ?_; rintro r w1 ⟨v1, rfl, ho1, hb1⟩; rw [HWV.out v1]; obtain ⟨a1, c1, hv1, hc1, _, hy1, _⟩ := ho1.shape; rw [HBL.out] at hv1 hc1; subst hv1; have HB1 : Hid (Below w.heap.size w w1 ∧ Bytes w1 a1 (whB l 3) ∧ B ≤ c1 ∧ SeAt w1 w.heap.size num first count foot) := ⟨HW0.out.1.trans (hb1.mono HW0.out.1.size), hy1, hc1, HW0.out.2.keep hb1⟩; obtain ⟨n0, n1, n2, n3⟩ := HB1.out.2.2.2.cells; have hlw1 : w.heap.size < w1.heap.size := lt_of_heap HB1.out.2.2.2; clear ho1 hb1 hy1 hc1)
                    | (go_at_call 17; refine (HARM.out _ _ _ (HB1.out.2.1.keep ((Below.refl _ _).alloc (Nat.le_refl _) _)) HB1.out.2.2.1).mono ?_; rintro e w2 ⟨g, c2, xa, cp, rfl, hlt, k0, k1, k2, hyr, hcp, hb2⟩; have hb2w := ((Below.refl w1.heap.size w1).alloc (Nat.le_refl _) _).trans (hb2.mono (by simp)); have HB2 : Hid (Below w.heap.size w w2 ∧ Bytes w2 xa r0 ∧ R ≤ cp ∧ SeAt w2 w.heap.size num first count foot) := ⟨below_next HB1.out.1 hb2w, hyr, hcp, HB1.out.2.2.2.keep hb2w⟩; obtain ⟨o0, o1, o2, o3⟩ := HB2.out.2.2.2.cells; have hlw2 : w.heap.size < w2.heap.size := lt_of_heap HB2.out.2.2.2; clear hb2 hb2w hyr hcp)
                    | fail)
                  have hqs : ∀ w0, Calls Tryd.prog 10 #[.int .i64 (st : Int)] w0 fun e w1 => e = .returned (.bool true) ∧ w1 = w0 := fun w0 => by have h := isStride_q (st : Int) w0; rw [HST.out] at h; exact h
                  have HQQ : Hid (_) := hqs
                  clear hqs
                  go_quiet ((go_at_call 10; exact Calls.quiet_of_same (HQQ.out _)))
                  go_wp2_with (first
                    | (go_at_call 18; refine (idec_any r0 R xa cp _ HR0.out.1 (HB2.out.2.1.keep (below_drewN (Below.refl _ _) _)) HB2.out.2.2.1 (by omega)).mono ?_; rw [HR0.out.2.1, HR0.out.2.2]; rintro r w4 ⟨v4, rfl, ho4, hb4⟩; obtain ⟨a4, c4, hv4, _, _, hy4, _⟩ := ho4.shape; rw [HML.out] at hv4; subst hv4; have hb4w := (below_drewN (Below.refl w2.heap.size w2) _).trans hb4; have HB4 : Hid (Below w.heap.size w w4 ∧ OwnM w4 w.heap.size (.slice a4 ml c4) MM ∧ Marks w4 a4 MM ∧ SeAt w4 w.heap.size num first count foot) := ⟨below_next HB2.out.1 hb4w, World.ownsRow.mono (base' := w.heap.size) ho4 HB2.out.1.size, hy4, HB2.out.2.2.2.keep hb4w⟩; clear ho4 hb4 hy4 hb4w)
                    | fail)
                  go_ret3
                  exact ⟨.slice none 0 0, by rw [HCL.out.1, HCL.out.2.1]; rfl, by rw [HCL.out.2.2]; exact OwnM.nil _ _, HB4.out.1⟩
              · have HST : Hid (stB (st : Int) = false) := decide_eq_false (fun h => hq4 ⟨by omega, by omega⟩)
                have HCL := hnone (fun h => hq4 h.1.2.2.2)
                clear hr hP hS hB b1 b2 b3 b4 b5 b6 b7 h0 hE hwb hSN hclr hnone hR hq1 hq2
                go_enter Tryd.func6, Tryd.ntmps6
                go_wp2_with (first
                  | (go_at_call 16; refine (fwhole_any l 3 m ab capb _ HB.out.2.1 (HB.out.1.keep HW0.out.1) (by rw [HB.out.2.1]; omega) (by rw [HB.out.2.1]; omega) (HB.out.2.2.keep HW0.out.1)).mono ?_; rintro r w1 ⟨v1, rfl, ho1, hb1⟩; rw [HWV.out v1]; obtain ⟨a1, c1, hv1, hc1, _, hy1, _⟩ := ho1.shape; rw [HBL.out] at hv1 hc1; subst hv1; have HB1 : Hid (Below w.heap.size w w1 ∧ Bytes w1 a1 (whB l 3) ∧ B ≤ c1 ∧ SeAt w1 w.heap.size num first count foot) := ⟨HW0.out.1.trans (hb1.mono HW0.out.1.size), hy1, hc1, HW0.out.2.keep hb1⟩; obtain ⟨n0, n1, n2, n3⟩ := HB1.out.2.2.2.cells; have hlw1 : w.heap.size < w1.heap.size := lt_of_heap HB1.out.2.2.2; clear ho1 hb1 hy1 hc1)
                  | (go_at_call 17; refine (HARM.out _ _ _ (HB1.out.2.1.keep ((Below.refl _ _).alloc (Nat.le_refl _) _)) HB1.out.2.2.1).mono ?_; rintro e w2 ⟨g, c2, xa, cp, rfl, hlt, k0, k1, k2, hyr, hcp, hb2⟩; have hb2w := ((Below.refl w1.heap.size w1).alloc (Nat.le_refl _) _).trans (hb2.mono (by simp)); have HB2 : Hid (Below w.heap.size w w2 ∧ Bytes w2 xa r0 ∧ R ≤ cp ∧ SeAt w2 w.heap.size num first count foot) := ⟨below_next HB1.out.1 hb2w, hyr, hcp, HB1.out.2.2.2.keep hb2w⟩; obtain ⟨o0, o1, o2, o3⟩ := HB2.out.2.2.2.cells; have hlw2 : w.heap.size < w2.heap.size := lt_of_heap HB2.out.2.2.2; clear hb2 hb2w hyr hcp)
                  | fail)
                have hqs : ∀ w0, Calls Tryd.prog 10 #[.int .i64 (st : Int)] w0 fun e w1 => e = .returned (.bool false) ∧ w1 = w0 := fun w0 => by have h := isStride_q (st : Int) w0; rw [HST.out] at h; exact h
                have HQQ : Hid (_) := hqs
                clear hqs
                go_quiet ((go_at_call 10; exact Calls.quiet_of_same (HQQ.out _)))
                go_wp2
                go_ret3
                exact ⟨.slice none 0 0, by rw [HCL.out.1, HCL.out.2.1]; rfl, by rw [HCL.out.2.2]; exact OwnM.nil _ _, below_drewN HB2.out.1 _⟩
            · have hb3v : (v : Int) < 1 := by omega
              have HCL := hnone (fun h => hq3 h.1.2.2.1)
              clear hr hP hS hB b1 b2 b3 b4 b5 b6 b7 h0 hE hwb hSN hclr hnone hR hq1 hq2
              go_enter Tryd.func6, Tryd.ntmps6
              go_wp2_with (first
                | (go_at_call 16; refine (fwhole_any l 3 m ab capb _ HB.out.2.1 (HB.out.1.keep HW0.out.1) (by rw [HB.out.2.1]; omega) (by rw [HB.out.2.1]; omega) (HB.out.2.2.keep HW0.out.1)).mono ?_; rintro r w1 ⟨v1, rfl, ho1, hb1⟩; rw [HWV.out v1]; obtain ⟨a1, c1, hv1, hc1, _, hy1, _⟩ := ho1.shape; rw [HBL.out] at hv1 hc1; subst hv1; have HB1 : Hid (Below w.heap.size w w1 ∧ Bytes w1 a1 (whB l 3) ∧ B ≤ c1 ∧ SeAt w1 w.heap.size num first count foot) := ⟨HW0.out.1.trans (hb1.mono HW0.out.1.size), hy1, hc1, HW0.out.2.keep hb1⟩; obtain ⟨n0, n1, n2, n3⟩ := HB1.out.2.2.2.cells; have hlw1 : w.heap.size < w1.heap.size := lt_of_heap HB1.out.2.2.2; clear ho1 hb1 hy1 hc1)
                | (go_at_call 17; refine (HARM.out _ _ _ (HB1.out.2.1.keep ((Below.refl _ _).alloc (Nat.le_refl _) _)) HB1.out.2.2.1).mono ?_; rintro e w2 ⟨g, c2, xa, cp, rfl, hlt, k0, k1, k2, hyr, hcp, hb2⟩; have hb2w := ((Below.refl w1.heap.size w1).alloc (Nat.le_refl _) _).trans (hb2.mono (by simp)); have HB2 : Hid (Below w.heap.size w w2 ∧ Bytes w2 xa r0 ∧ R ≤ cp ∧ SeAt w2 w.heap.size num first count foot) := ⟨below_next HB1.out.1 hb2w, hyr, hcp, HB1.out.2.2.2.keep hb2w⟩; obtain ⟨o0, o1, o2, o3⟩ := HB2.out.2.2.2.cells; have hlw2 : w.heap.size < w2.heap.size := lt_of_heap HB2.out.2.2.2; clear hb2 hb2w hyr hcp)
                | fail)
              go_quiet (fail)
              go_wp2
              go_ret3
              exact ⟨.slice none 0 0, by rw [HCL.out.1, HCL.out.2.1]; rfl, by rw [HCL.out.2.2]; exact OwnM.nil _ _, below_drewN HB2.out.1 _⟩
          · have hb2v : ((v : Int) != count) = true := by simp; omega
            have HCL := hnone (fun h => hq2 h.1.2.1)
            clear hr hP hS hB b1 b2 b3 b4 b5 b6 b7 h0 hE hwb hSN hclr hnone hR hq1
            go_enter Tryd.func6, Tryd.ntmps6
            go_wp2_with (first
              | (go_at_call 16; refine (fwhole_any l 3 m ab capb _ HB.out.2.1 (HB.out.1.keep HW0.out.1) (by rw [HB.out.2.1]; omega) (by rw [HB.out.2.1]; omega) (HB.out.2.2.keep HW0.out.1)).mono ?_; rintro r w1 ⟨v1, rfl, ho1, hb1⟩; rw [HWV.out v1]; obtain ⟨a1, c1, hv1, hc1, _, hy1, _⟩ := ho1.shape; rw [HBL.out] at hv1 hc1; subst hv1; have HB1 : Hid (Below w.heap.size w w1 ∧ Bytes w1 a1 (whB l 3) ∧ B ≤ c1 ∧ SeAt w1 w.heap.size num first count foot) := ⟨HW0.out.1.trans (hb1.mono HW0.out.1.size), hy1, hc1, HW0.out.2.keep hb1⟩; obtain ⟨n0, n1, n2, n3⟩ := HB1.out.2.2.2.cells; have hlw1 : w.heap.size < w1.heap.size := lt_of_heap HB1.out.2.2.2; clear ho1 hb1 hy1 hc1)
              | (go_at_call 17; refine (HARM.out _ _ _ (HB1.out.2.1.keep ((Below.refl _ _).alloc (Nat.le_refl _) _)) HB1.out.2.2.1).mono ?_; rintro e w2 ⟨g, c2, xa, cp, rfl, hlt, k0, k1, k2, hyr, hcp, hb2⟩; have hb2w := ((Below.refl w1.heap.size w1).alloc (Nat.le_refl _) _).trans (hb2.mono (by simp)); have HB2 : Hid (Below w.heap.size w w2 ∧ Bytes w2 xa r0 ∧ R ≤ cp ∧ SeAt w2 w.heap.size num first count foot) := ⟨below_next HB1.out.1 hb2w, hyr, hcp, HB1.out.2.2.2.keep hb2w⟩; obtain ⟨o0, o1, o2, o3⟩ := HB2.out.2.2.2.cells; have hlw2 : w.heap.size < w2.heap.size := lt_of_heap HB2.out.2.2.2; clear hb2 hb2w hyr hcp)
              | fail)
            go_quiet (fail)
            go_wp2
            go_ret3
            exact ⟨.slice none 0 0, by rw [HCL.out.1, HCL.out.2.1]; rfl, by rw [HCL.out.2.2]; exact OwnM.nil _ _, below_drewN HB2.out.1 _⟩
        · have hb1u : ((u : Int) != first) = true := by simp; omega
          have HCL := hnone (fun h => hq1 h.1.1)
          clear hr hP hS hB b1 b2 b3 b4 b5 b6 b7 h0 hE hwb hSN hclr hnone hR
          go_enter Tryd.func6, Tryd.ntmps6
          go_wp2_with (first
            | (go_at_call 16; refine (fwhole_any l 3 m ab capb _ HB.out.2.1 (HB.out.1.keep HW0.out.1) (by rw [HB.out.2.1]; omega) (by rw [HB.out.2.1]; omega) (HB.out.2.2.keep HW0.out.1)).mono ?_; rintro r w1 ⟨v1, rfl, ho1, hb1⟩; rw [HWV.out v1]; obtain ⟨a1, c1, hv1, hc1, _, hy1, _⟩ := ho1.shape; rw [HBL.out] at hv1 hc1; subst hv1; have HB1 : Hid (Below w.heap.size w w1 ∧ Bytes w1 a1 (whB l 3) ∧ B ≤ c1 ∧ SeAt w1 w.heap.size num first count foot) := ⟨HW0.out.1.trans (hb1.mono HW0.out.1.size), hy1, hc1, HW0.out.2.keep hb1⟩; obtain ⟨n0, n1, n2, n3⟩ := HB1.out.2.2.2.cells; have hlw1 : w.heap.size < w1.heap.size := lt_of_heap HB1.out.2.2.2; clear ho1 hb1 hy1 hc1)
            | (go_at_call 17; refine (HARM.out _ _ _ (HB1.out.2.1.keep ((Below.refl _ _).alloc (Nat.le_refl _) _)) HB1.out.2.2.1).mono ?_; rintro e w2 ⟨g, c2, xa, cp, rfl, hlt, k0, k1, k2, hyr, hcp, hb2⟩; have hb2w := ((Below.refl w1.heap.size w1).alloc (Nat.le_refl _) _).trans (hb2.mono (by simp)); have HB2 : Hid (Below w.heap.size w w2 ∧ Bytes w2 xa r0 ∧ R ≤ cp ∧ SeAt w2 w.heap.size num first count foot) := ⟨below_next HB1.out.1 hb2w, hyr, hcp, HB1.out.2.2.2.keep hb2w⟩; obtain ⟨o0, o1, o2, o3⟩ := HB2.out.2.2.2.cells; have hlw2 : w.heap.size < w2.heap.size := lt_of_heap HB2.out.2.2.2; clear hb2 hb2w hyr hcp)
            | fail)
          go_quiet (fail)
          go_wp2
          go_ret3
          exact ⟨.slice none 0 0, by rw [HCL.out.1, HCL.out.2.1]; rfl, by rw [HCL.out.2.2]; exact OwnM.nil _ _, below_drewN HB2.out.1 _⟩
    · have hSb : ((S : Int) != num) = true := by simp; omega
      have HCL : Hid (clS l num first count foot = 0 ∧ clE l num first count foot = 70 ∧ clM l num first count foot = []) := by
        obtain ⟨h1, h2, h3⟩ := cl_none (l := l) (num := num) (first := first) (count := count) (foot := foot) (by unfold clR; rw [if_neg (fun h => hSN (by rw [← hS]; exact h.2))])
        exact ⟨h2, h1, h3⟩
      clear hP hS hB b1 b2 b3 b4 b5 b6 b7 h0 hE hwb hSN
      go_enter Tryd.func6, Tryd.ntmps6
      go_wp2_with (first
        | (go_at_call 16; refine (fwhole_any l 3 m ab capb _ HB.out.2.1 (HB.out.1.keep HW0.out.1) (by rw [HB.out.2.1]; omega) (by rw [HB.out.2.1]; omega) (HB.out.2.2.keep HW0.out.1)).mono ?_; rintro r w1 ⟨v1, rfl, ho1, hb1⟩; rw [HWV.out v1]; obtain ⟨a1, c1, hv1, hc1, _, hy1, _⟩ := ho1.shape; rw [HBL.out] at hv1 hc1; subst hv1; have HB1 : Hid (Below w.heap.size w w1 ∧ Bytes w1 a1 (whB l 3) ∧ B ≤ c1 ∧ SeAt w1 w.heap.size num first count foot) := ⟨HW0.out.1.trans (hb1.mono HW0.out.1.size), hy1, hc1, HW0.out.2.keep hb1⟩; obtain ⟨n0, n1, n2, n3⟩ := HB1.out.2.2.2.cells; have hlw1 : w.heap.size < w1.heap.size := lt_of_heap HB1.out.2.2.2; clear ho1 hb1 hy1 hc1)
        | fail)
      go_ret3
      exact ⟨.slice none 0 0, by rw [HCL.out.1, HCL.out.2.1]; rfl, by rw [HCL.out.2.2]; exact OwnM.nil _ _, HB1.out.1.alloc HB1.out.1.size _⟩
  · obtain ⟨e, he⟩ : ∃ e, whE l 3 = e := ⟨_, rfl⟩
    have HWV : Hid (∀ v, WV l 3 v = .tuple #[FrV 0 0 v, .int .i64 (e : Int)]) := fun v => (wv_bad l 3 v e he (by omega)).1
    obtain ⟨B, hB⟩ : ∃ B, (whB l 3).length = B := ⟨_, rfl⟩
    have HBL : Hid ((whB l 3).length = B) := hB
    have HCL : Hid (clS l num first count foot = 0 ∧ clE l num first count foot = 70 ∧ clM l num first count foot = []) := by
      obtain ⟨h1, h2, h3⟩ := cl_none (l := l) (num := num) (first := first) (count := count) (foot := foot) (by unfold clR; rw [if_neg (fun h => hE h.1)])
      exact ⟨h2, h1, h3⟩
    have heI : ((e : Int) != 0) = true := by simp; omega
    clear hE he hB
    go_enter Tryd.func6, Tryd.ntmps6
    go_wp2_with (first
      | (go_at_call 16; refine (fwhole_any l 3 m ab capb _ HB.out.2.1 (HB.out.1.keep HW0.out.1) (by rw [HB.out.2.1]; omega) (by rw [HB.out.2.1]; omega) (HB.out.2.2.keep HW0.out.1)).mono ?_; rintro r w1 ⟨v1, rfl, ho1, hb1⟩; rw [HWV.out v1]; obtain ⟨a1, c1, hv1, hc1, _, hy1, _⟩ := ho1.shape; rw [HBL.out] at hv1 hc1; subst hv1; have HB1 : Hid (Below w.heap.size w w1 ∧ Bytes w1 a1 (whB l 3) ∧ B ≤ c1 ∧ SeAt w1 w.heap.size num first count foot) := ⟨HW0.out.1.trans (hb1.mono HW0.out.1.size), hy1, hc1, HW0.out.2.keep hb1⟩; obtain ⟨n0, n1, n2, n3⟩ := HB1.out.2.2.2.cells; have hlw1 : w.heap.size < w1.heap.size := lt_of_heap HB1.out.2.2.2; clear ho1 hb1 hy1 hc1)
      | fail)
    go_ret3
    exact ⟨.slice none 0 0, by rw [HCL.out.1, HCL.out.2.1]; rfl, by rw [HCL.out.2.2]; exact OwnM.nil _ _, HB1.out.1.alloc HB1.out.1.size _⟩
end Go.Proofs.YtfnkhpijcbpeoaaDoor
