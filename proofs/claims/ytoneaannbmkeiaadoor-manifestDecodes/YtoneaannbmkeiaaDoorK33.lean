/- Own texts, joined: Rm6. -/
import Derived.Test.YtoneaannbmkeiaaDoorK26
import Derived.Test.YtoneaannbmkeiaaDoorK32
import Derived.BigRegion
namespace Go.Proofs.YtoneaannbmkeiaaDoor
open Go.ChangeShapes Go.WideShapes Go.ChangeAt Go.RowKit
set_option linter.unusedVariables false
set_option linter.unusedSimpArgs false
theorem step_store_mf {ops : Array Oper} {o : Oper} {a : Act} {w : World} {K : Act → World → Prop} {Q : Exit → Act → World → Prop} {X : Prop} (hgd : o.guard = none) (x y : Operand) (ho : o.op = .store 24 x y)
    {b : Nat} {m m2 : Mf} {v : Value} {a2 : Option Addr} {n2 c2 : Nat} (hL : MfAt w b m v) (hx : a.eval x = .pointer (some ⟨b, 0, none⟩)) (hy : a.eval y = MfV m2 (.slice a2 n2 c2))
    (h : ∀ w2, MfAt w2 b m2 (.slice a2 n2 c2) → (∀ B a, Below B a w → B ≤ b → Below B a w2) → (∀ k, k ≠ b → w2.heap[k]? = w.heap[k]?) → w2.heap.size = w.heap.size → K (a.put o.dst undef) w2) :
    if Region.wanted o (yielded ops a.tmps) = true then Oper.wp Tryd.prog o a w K Q else X := by
  have hw : Region.wanted o (yielded ops a.tmps) = true := by simp [Region.wanted, hgd]
  rw [if_pos hw]
  obtain ⟨w2, h1, h2, h3, h4, h5⟩ := hL.store m2 a2 n2 c2
  unfold Oper.wp execOp
  simp only [ho, hx, hy, Sem.run_bind, Sem.run_pure, Result.andThen_ok, h1]
  exact h w2 h2 h3 h4 h5
theorem mf_len (m : Mf) : (mfL m).length ≤ 4394 := by
  cases hV : mvB m with
  | true => rw [show mfL m = frameL 4 m.gen.toNat (encAll (mfN m)) from if_pos hV, frameL_length]; have := mf_body hV; omega
  | false => rw [show mfL m = [] from if_neg (by rw [hV]; simp)]; simp
theorem cell_heapM {x y : World} {g : Nat} (h : y.heap[g]? = x.heap[g]?) (j : Nat) : y.cell? ⟨g, j, none⟩ = x.cell? ⟨g, j, none⟩ := by
  unfold World.cell?
  simp only [h]
set_option maxRecDepth 20000 in
set_option maxHeartbeats 8000000 in
theorem rmd_main (l : List Nat) (n : Nat) (a : Option Addr) (cap : Nat) (w : World) (hn : l.length = n) (hb : Bytes w a l) (hcap : n ≤ cap) (hl : n ≤ 140737488351232) (h0 : decE l = 0) (h1 : decN l = l.length) (h2 : (decAll (decB l) 1028).2.2 = 0) (h3 : 4 ≤ (decAll (decB l) 1028).1.length) (h4 : ∀ u ∈ (decAll (decB l) 1028).1, u ≤ 2199023255552) (RM : Mf) (RE : Nat) (hR : (mvB (mdC l) = true ∧ mfL (mdC l) = l ∧ RM = mdC l ∧ RE = 0) ∨ (mvB (mdC l) = true ∧ mfL (mdC l) ≠ l ∧ RM = zeroM ∧ RE = 80) ∨ (mvB (mdC l) = false ∧ RM = zeroM ∧ RE = 80)) :
    Calls Tryd.prog 15 #[.slice a n cap] w fun e w' => ∃ v, e = .returned (.tuple #[MfV RM v, .int .i64 (RE : Nat)]) ∧ OwnSm w' w.heap.size v RM.segs ∧ Below w.heap.size w w' := by
  have HX : Hid (l.length = n ∧ Bytes w a l ∧ l.length ≤ cap ∧ l.length ≤ 281474976710656) := ⟨hn, hb, by omega, by omega⟩
  have HM0 : Hid (MfAt (w.alloc (.cells (mfA zeroM (.slice none 0 0)) 24)) w.heap.size zeroM (.slice none 0 0)) := MfAt.new w zeroM _
  have HB0 : Hid (Below w.heap.size w (w.alloc (.cells (mfA zeroM (.slice none 0 0)) 24))) := (Below.refl _ _).alloc (Nat.le_refl _) _
  obtain ⟨K, hK⟩ : ∃ K, decK l = K := ⟨_, rfl⟩
  obtain ⟨S, hS⟩ : ∃ S, decS l = S := ⟨_, rfl⟩
  obtain ⟨N, hN⟩ : ∃ N, decN l = N := ⟨_, rfl⟩
  obtain ⟨E, hE⟩ : ∃ E, decE l = E := ⟨_, rfl⟩
  obtain ⟨B, hB⟩ : ∃ B, (decB l).length = B := ⟨_, rfl⟩
  have HV : Hid (∀ v, DV l v = .tuple #[FrV (K : Int) (S : Int) v, .int .i64 (N : Int), .int .i64 (E : Int)]) := fun v => by rw [← hK, ← hS, ← hN, ← hE]
  have hBl : B ≤ n := by rw [← hB, ← hn]; unfold decB; split <;> simp <;> omega
  have HBL : Hid ((decB l).length = B ∧ B ≤ 140737488351232) := ⟨hB, by omega⟩
  have T1 : Hid True := trivial
  obtain ⟨U, p, e, hd⟩ : ∃ U p e, decAll (decB l) 1028 = (U, p, e) := ⟨_, _, _, rfl⟩
  have hps : ps l = S := by rw [← hS]; exact (if_pos h0).symm
  rw [hd] at h2 h3 h4
  simp only at h2 h3 h4
  have hu8 : U.length ≤ 1028 := decAll_lenM (p := p) (by rw [hd, h2])
  obtain ⟨y0, y1, y2, y3, r, rfl⟩ := four_of h3
  have HMC : Hid (mdC l = ⟨(S : Int), toI y0, toI y1, toI y2, toI y3, smsOf r⟩) := by show _ = _; rw [mdC_of (by rw [hd]), hps]
  obtain ⟨u, hu⟩ : ∃ u, (y0 :: y1 :: y2 :: y3 :: r).length = u := ⟨_, rfl⟩
  have HD : Hid (decAll (decB l) 1028 = (y0 :: y1 :: y2 :: y3 :: r, p, e)) := hd
  have HUL : Hid ((y0 :: y1 :: y2 :: y3 :: r).length = u ∧ r.length + 4 = u) := ⟨hu, by rw [← hu]; simp⟩
  have HRR : Hid ((mvB (mdC l) = true ∧ mfL (mdC l) = l ∧ RM = mdC l ∧ RE = 0) ∨ (mvB (mdC l) = true ∧ mfL (mdC l) ≠ l ∧ RM = zeroM ∧ RE = 80) ∨ (mvB (mdC l) = false ∧ RM = zeroM ∧ RE = 80)) := hR
  have hq : ((E : Int) != 0) = false := by rw [← hE, h0]; rfl
  have hq2 : ((N : Int) != (n : Int)) = false := by rw [← hN, ← hn, h1]; simp
  have hq3 : ((e : Int) != 0) = false := by rw [h2]; rfl
  rw [hu] at h3 hu8
  have hq4 : decide ((u : Int) < 4) = false := by simp; omega
  have HNE : Hid ((y0 :: y1 :: y2 :: y3 :: r) ≠ []) := by show _ ≠ _; simp
  have HALL : Hid (∀ i, i < u → (y0 :: y1 :: y2 :: y3 :: r).getD i 0 ≤ 2199023255552) := fun i hi => by
    rw [← hu] at hi
    have := h4 _ (List.getElem_mem hi)
    rw [List.getD_eq_getElem?_getD, List.getElem?_eq_getElem hi]
    exact this
  have hnmx : Hid (n ≤ maxLen) := by show _ ≤ _; unfold maxLen; omega
  have huI : (u : Int) ≤ 1028 := by omega
  have h3I : (4 : Int) ≤ (u : Int) := by omega
  have e0 := toI_eq y0
  have e1 := toI_eq y1
  have e2 := toI_eq y2
  have e3 := toI_eq y3
  obtain ⟨i0, hi, hz0, hz1, hz2⟩ := info_parts Tryd.infoSm
  clear hb hcap hl hK hS hN hE hB hBl h0 h1 h2 h4 hd hu hR hps hn
  go_enter Tryd.func15, Tryd.ntmps15
  go_wp2_with (first
    | (go_at_call 25; refine (rfdec_any l n a cap _ HX.out.1 (HX.out.2.1.keep HB0.out) HX.out.2.2.2 HX.out.2.2.1).mono ?_; rintro _ w1 ⟨v1, rfl, ho1, hb1⟩; rw [HV.out v1]; obtain ⟨a1, c1, hv1, hc1, _, hy1, _⟩ := ho1.shape; rw [HBL.out.1] at hv1 hc1; subst hv1; have HY1 : Hid (Bytes w1 a1 (decB l) ∧ B ≤ c1) := ⟨hy1, hc1⟩; have HM1 : Hid (MfAt w1 w.heap.size zeroM (.slice none 0 0)) := HM0.out.after hb1; have HB1 : Hid (Below w.heap.size w w1) := below_next HB0.out hb1; have HL1 : Hid (w.heap.size < w1.heap.size) := HM1.out.lt; clear ho1 hb1 hy1 hc1)
    | ((with_reducible refine frm_store 52 ?_); clear T1; refine wpList_store_frm rfl _ _ rfl rfl (FrmAt.new w1 0 0 (.slice none 0 0)) rfl rfl rfl ?_; intro w2 hf2 ho2 hh2 hs2; have HB2 : Hid (Below w.heap.size w w2) := below_one (HB1.out.alloc HB1.out.size _) ho2 hh2 hs2 HB1.out.size; have HM2 : Hid (MfAt w2 w.heap.size zeroM (.slice none 0 0)) := (hh2 _ (by have := HL1.out; omega)).trans (HM1.out.after ((Below.refl _ _).alloc (Nat.le_refl _) _)); have HY2 : Hid (Bytes w2 a1 (decB l)) := HY1.out.1.keep (below_one ((Below.refl _ _).alloc (Nat.le_refl _) _) ho2 hh2 hs2 (Nat.le_refl _)); obtain ⟨x0, x1, x2⟩ := hf2.cells; have hl2 : w1.heap.size < w2.heap.size := lt_of_heap hf2; clear hf2 ho2 hh2 hs2)
    | (go_at_call 26; refine (rdecAll_any (decB l) 1028 B a1 c1 _ HBL.out.1 HY2.out HY1.out.2 HBL.out.2 (by omega) (by omega) (by omega)).mono ?_; rw [HD.out]; rintro _ w3 ⟨v3, rfl, ho3, hb3⟩; obtain ⟨a3, c3, hv3, hn3⟩ := ho3.slice; obtain ⟨b3, o3, rfl, hl3, hc3⟩ := nums_some hn3 HNE.out; have HC3 : Hid (∀ i, i < (y0 :: y1 :: y2 :: y3 :: r).length → w3.cell? ⟨b3, o3 + i, none⟩ = some (.int .u64 ((y0 :: y1 :: y2 :: y3 :: r).getD i 0 : Nat))) := hc3; have HF3 : Hid (w3.cell? ⟨w1.heap.size, 1, none⟩ = some (.int .i64 (S : Int)) ∧ w1.heap.size < w3.heap.size) := ⟨(hb3.cell (p := ⟨w1.heap.size, 1, none⟩) hl2).trans x1, Nat.lt_of_lt_of_le hl2 hb3.size⟩; rw [HUL.out.1] at hv3; subst hv3; have HM3 : Hid (MfAt w3 w.heap.size zeroM (.slice none 0 0)) := HM2.out.after hb3; have HB3 : Hid (Below w.heap.size w w3) := below_next HB2.out hb3; clear ho3 hb3 hn3 hc3))
  clear hq hq2 hq3 hq4 x0 x1 x2 hl2
  go_loopw [45] (fun vi wr => ∃ k : Nat, k ≤ u ∧ vi = .int .i64 k ∧ Below w3.heap.size w3 wr) (fun vi _ => u - (intOf vi).toNat)
  case atStart => exact ⟨0, Nat.zero_le _, rfl, Below.refl _ _⟩
  case round =>
    obtain ⟨k, hk, rfl, hbr⟩ := hrel
    have hsz := hbr.size
    by_cases hku : k < u
    · obtain ⟨X, hX⟩ : ∃ X, (y0 :: y1 :: y2 :: y3 :: r).getD k 0 = X := ⟨_, rfl⟩
      have ck : wr.cell? ⟨b3, o3 + k, none⟩ = some (.int .u64 (X : Int)) := by
        have h1 := HC3.out k (by rw [HUL.out.1]; exact hku)
        rw [hX] at h1
        exact (hbr.cell (p := ⟨b3, o3 + k, none⟩) hl3).trans h1
      have hlr : b3 < wr.heap.size := Nat.lt_of_lt_of_le hl3 hsz
      have hkI : (k : Int) < (u : Int) := by omega
      have dX : decide ((2199023255552 : Int) < (X : Int)) = false := by have := HALL.out k hku; rw [hX] at this; simp; omega
      clear hX
      go_wp2
      go_roundw
      case rel => exact ⟨k + 1, by omega, by go_num, hbr⟩
      case measure => simp [intOf]; omega
    · obtain rfl : u = k := by omega
      have hlr : b3 < wr.heap.size := Nat.lt_of_lt_of_le hl3 hsz
      have k0 : wr.cell? ⟨b3, o3, none⟩ = some (.int .u64 (y0 : Int)) := (hbr.cell (p := ⟨b3, o3, none⟩) hl3).trans (HC3.out 0 (by simp))
      have k1 : wr.cell? ⟨b3, o3 + 1, none⟩ = some (.int .u64 (y1 : Int)) := (hbr.cell (p := ⟨b3, o3 + 1, none⟩) hl3).trans (HC3.out 1 (by simp))
      have k2 : wr.cell? ⟨b3, o3 + 2, none⟩ = some (.int .u64 (y2 : Int)) := (hbr.cell (p := ⟨b3, o3 + 2, none⟩) hl3).trans (HC3.out 2 (by simp))
      have k3 : wr.cell? ⟨b3, o3 + 3, none⟩ = some (.int .u64 (y3 : Int)) := (hbr.cell (p := ⟨b3, o3 + 3, none⟩) hl3).trans (HC3.out 3 (by simp))
      have kf : wr.cell? ⟨w1.heap.size, 1, none⟩ = some (.int .i64 (S : Int)) := (hbr.cell (p := ⟨w1.heap.size, 1, none⟩) HF3.out.2).trans HF3.out.1
      have hlf : w1.heap.size < wr.heap.size := Nat.lt_of_lt_of_le HF3.out.2 hsz
      have HMR : Hid (MfAt wr w.heap.size zeroM (.slice none 0 0)) := HM3.out.after hbr
      have HBR : Hid (Below w.heap.size w wr) := below_next HB3.out hbr
      have n0 : 0 < u := by omega
      have n1 : 1 < u := by omega
      have n2 : 2 < u := by omega
      have n3 : 3 < u := by omega
      have m1 : (1 : Int) < (u : Int) := by omega
      have m2 : (2 : Int) < (u : Int) := by omega
      have m3 : (3 : Int) < (u : Int) := by omega
      have HLL2 : Hid (b3 < wr.heap.size ∧ w1.heap.size < wr.heap.size) := ⟨hlr, hlf⟩
      go_wp2
      refine wp_region_held (S := (fun y => y.heap[b3]? = wr.heap[b3]? ∧ y.heap[w1.heap.size]? = wr.heap[w1.heap.size]?)) (by kernel_rfl) ?_
      change wpAnyH _ _ _ _ _ _ _ _ (World.drew _)
      refine wpAnyH_take (i := 0) (oi := { dst := some 55, op := Op.fieldAddr 52 (Operand.tmp 4) 1, type := 0, pos := "ref.go:67", after := #[], guard := none }) (v := ?_) rfl (by kernel_rfl) (by kernel_rfl) (by kernel_rfl) (fun _ _ _ h => h) (Or.inl ⟨by rfl, ?_⟩) ⟨rfl, rfl⟩ ?_
      rotate_left
      · (intro y hy; go_simp; try (with_reducible rfl))
      simp only [Act.put, List.setIfInBounds_toArray, List.set_cons_zero, List.set_cons_succ]
      refine wpAnyH_take (i := 1) (oi := { dst := some 56, op := Op.load 3 (Operand.tmp 55), type := 3, pos := "ref.go:67", after := #[{ on := 0, ground := Ground.data }], guard := none }) (v := .int .i64 (S : Int)) rfl (by kernel_rfl) (by kernel_rfl) (by kernel_rfl) (fun _ _ _ h => h) (Or.inl ⟨by rfl, ?_⟩) ⟨rfl, rfl⟩ ?_
      · (intro y hy; have h0 := (cell_heapM hy.2 _).trans kf; go_simp)
      simp only [Act.put, List.setIfInBounds_toArray, List.set_cons_zero, List.set_cons_succ]
      refine wpAnyH_take (i := 2) (oi := { dst := some 57, op := Op.move (Operand.tmp 7), type := 48, pos := "ref.go:67", after := #[], guard := none }) (v := ?_) rfl (by kernel_rfl) (by kernel_rfl) (by kernel_rfl) (fun _ _ _ h => h) (Or.inl ⟨by rfl, ?_⟩) ⟨rfl, rfl⟩ ?_
      rotate_left
      · (intro y hy; go_simp; try (with_reducible rfl))
      simp only [Act.put, List.setIfInBounds_toArray, List.set_cons_zero, List.set_cons_succ]
      refine wpAnyH_take (i := 3) (oi := { dst := some 58, op := Op.indexAddr 48 (Operand.tmp 57) (Operand.const (Value.int IntKind.i64 0)), type := 0, pos := "ref.go:67", after := #[{ on := 2, ground := Ground.data }], guard := none }) (v := ?_) rfl (by kernel_rfl) (by kernel_rfl) (by kernel_rfl) (fun _ _ _ h => h) (Or.inl ⟨by rfl, ?_⟩) ⟨rfl, rfl⟩ ?_
      rotate_left
      · (intro y hy; go_simp; try (with_reducible rfl))
      simp only [Act.put, List.setIfInBounds_toArray, List.set_cons_zero, List.set_cons_succ]
      refine wpAnyH_take (i := 4) (oi := { dst := some 59, op := Op.load 47 (Operand.tmp 58), type := 47, pos := "ref.go:67", after := #[{ on := 3, ground := Ground.data }], guard := none }) (v := .int .u64 (y0 : Int)) rfl (by kernel_rfl) (by kernel_rfl) (by kernel_rfl) (fun _ _ _ h => h) (Or.inl ⟨by rfl, ?_⟩) ⟨rfl, rfl⟩ ?_
      · (intro y hy; have h0 := (cell_heapM hy.1 _).trans k0; go_simp)
      simp only [Act.put, List.setIfInBounds_toArray, List.set_cons_zero, List.set_cons_succ]
      refine wpAnyH_take (i := 5) (oi := { dst := some 60, op := Op.convert 47 3 (Operand.tmp 59), type := 3, pos := "ref.go:67", after := #[{ on := 4, ground := Ground.data }], guard := none }) (v := ?_) rfl (by kernel_rfl) (by kernel_rfl) (by kernel_rfl) (fun _ _ _ h => h) (Or.inl ⟨by rfl, ?_⟩) ⟨rfl, rfl⟩ ?_
      rotate_left
      · (intro y hy; go_simp; try (with_reducible rfl))
      simp only [Act.put, List.setIfInBounds_toArray, List.set_cons_zero, List.set_cons_succ]
      refine wpAnyH_take (i := 6) (oi := { dst := some 61, op := Op.move (Operand.tmp 7), type := 48, pos := "ref.go:67", after := #[], guard := none }) (v := ?_) rfl (by kernel_rfl) (by kernel_rfl) (by kernel_rfl) (fun _ _ _ h => h) (Or.inl ⟨by rfl, ?_⟩) ⟨rfl, rfl⟩ ?_
      rotate_left
      · (intro y hy; go_simp; try (with_reducible rfl))
      simp only [Act.put, List.setIfInBounds_toArray, List.set_cons_zero, List.set_cons_succ]
      refine wpAnyH_take (i := 7) (oi := { dst := some 62, op := Op.indexAddr 48 (Operand.tmp 61) (Operand.const (Value.int IntKind.i64 1)), type := 0, pos := "ref.go:67", after := #[{ on := 6, ground := Ground.data }], guard := none }) (v := ?_) rfl (by kernel_rfl) (by kernel_rfl) (by kernel_rfl) (fun _ _ _ h => h) (Or.inl ⟨by rfl, ?_⟩) ⟨rfl, rfl⟩ ?_
      rotate_left
      · (intro y hy; go_simp; try (with_reducible rfl))
      simp only [Act.put, List.setIfInBounds_toArray, List.set_cons_zero, List.set_cons_succ]
      refine wpAnyH_take (i := 8) (oi := { dst := some 63, op := Op.load 47 (Operand.tmp 62), type := 47, pos := "ref.go:67", after := #[{ on := 7, ground := Ground.data }], guard := none }) (v := .int .u64 (y1 : Int)) rfl (by kernel_rfl) (by kernel_rfl) (by kernel_rfl) (fun _ _ _ h => h) (Or.inl ⟨by rfl, ?_⟩) ⟨rfl, rfl⟩ ?_
      · (intro y hy; have h0 := (cell_heapM hy.1 _).trans k1; go_simp)
      simp only [Act.put, List.setIfInBounds_toArray, List.set_cons_zero, List.set_cons_succ]
      refine wpAnyH_take (i := 9) (oi := { dst := some 64, op := Op.convert 47 3 (Operand.tmp 63), type := 3, pos := "ref.go:67", after := #[{ on := 8, ground := Ground.data }], guard := none }) (v := ?_) rfl (by kernel_rfl) (by kernel_rfl) (by kernel_rfl) (fun _ _ _ h => h) (Or.inl ⟨by rfl, ?_⟩) ⟨rfl, rfl⟩ ?_
      rotate_left
      · (intro y hy; go_simp; try (with_reducible rfl))
      simp only [Act.put, List.setIfInBounds_toArray, List.set_cons_zero, List.set_cons_succ]
      refine wpAnyH_take (i := 10) (oi := { dst := some 65, op := Op.move (Operand.tmp 7), type := 48, pos := "ref.go:67", after := #[], guard := none }) (v := ?_) rfl (by kernel_rfl) (by kernel_rfl) (by kernel_rfl) (fun _ _ _ h => h) (Or.inl ⟨by rfl, ?_⟩) ⟨rfl, rfl⟩ ?_
      rotate_left
      · (intro y hy; go_simp; try (with_reducible rfl))
      simp only [Act.put, List.setIfInBounds_toArray, List.set_cons_zero, List.set_cons_succ]
      refine wpAnyH_take (i := 11) (oi := { dst := some 66, op := Op.indexAddr 48 (Operand.tmp 65) (Operand.const (Value.int IntKind.i64 2)), type := 0, pos := "ref.go:67", after := #[{ on := 10, ground := Ground.data }], guard := none }) (v := ?_) rfl (by kernel_rfl) (by kernel_rfl) (by kernel_rfl) (fun _ _ _ h => h) (Or.inl ⟨by rfl, ?_⟩) ⟨rfl, rfl⟩ ?_
      rotate_left
      · (intro y hy; go_simp; try (with_reducible rfl))
      simp only [Act.put, List.setIfInBounds_toArray, List.set_cons_zero, List.set_cons_succ]
      refine wpAnyH_take (i := 12) (oi := { dst := some 67, op := Op.load 47 (Operand.tmp 66), type := 47, pos := "ref.go:67", after := #[{ on := 11, ground := Ground.data }], guard := none }) (v := .int .u64 (y2 : Int)) rfl (by kernel_rfl) (by kernel_rfl) (by kernel_rfl) (fun _ _ _ h => h) (Or.inl ⟨by rfl, ?_⟩) ⟨rfl, rfl⟩ ?_
      · (intro y hy; have h0 := (cell_heapM hy.1 _).trans k2; go_simp)
      simp only [Act.put, List.setIfInBounds_toArray, List.set_cons_zero, List.set_cons_succ]
      refine wpAnyH_take (i := 13) (oi := { dst := some 68, op := Op.convert 47 3 (Operand.tmp 67), type := 3, pos := "ref.go:67", after := #[{ on := 12, ground := Ground.data }], guard := none }) (v := ?_) rfl (by kernel_rfl) (by kernel_rfl) (by kernel_rfl) (fun _ _ _ h => h) (Or.inl ⟨by rfl, ?_⟩) ⟨rfl, rfl⟩ ?_
      rotate_left
      · (intro y hy; go_simp; try (with_reducible rfl))
      simp only [Act.put, List.setIfInBounds_toArray, List.set_cons_zero, List.set_cons_succ]
      refine wpAnyH_take (i := 14) (oi := { dst := some 69, op := Op.move (Operand.tmp 7), type := 48, pos := "ref.go:67", after := #[], guard := none }) (v := ?_) rfl (by kernel_rfl) (by kernel_rfl) (by kernel_rfl) (fun _ _ _ h => h) (Or.inl ⟨by rfl, ?_⟩) ⟨rfl, rfl⟩ ?_
      rotate_left
      · (intro y hy; go_simp; try (with_reducible rfl))
      simp only [Act.put, List.setIfInBounds_toArray, List.set_cons_zero, List.set_cons_succ]
      refine wpAnyH_take (i := 15) (oi := { dst := some 70, op := Op.indexAddr 48 (Operand.tmp 69) (Operand.const (Value.int IntKind.i64 3)), type := 0, pos := "ref.go:67", after := #[{ on := 14, ground := Ground.data }], guard := none }) (v := ?_) rfl (by kernel_rfl) (by kernel_rfl) (by kernel_rfl) (fun _ _ _ h => h) (Or.inl ⟨by rfl, ?_⟩) ⟨rfl, rfl⟩ ?_
      rotate_left
      · (intro y hy; go_simp; try (with_reducible rfl))
      simp only [Act.put, List.setIfInBounds_toArray, List.set_cons_zero, List.set_cons_succ]
      refine wpAnyH_take (i := 16) (oi := { dst := some 71, op := Op.load 47 (Operand.tmp 70), type := 47, pos := "ref.go:67", after := #[{ on := 15, ground := Ground.data }], guard := none }) (v := .int .u64 (y3 : Int)) rfl (by kernel_rfl) (by kernel_rfl) (by kernel_rfl) (fun _ _ _ h => h) (Or.inl ⟨by rfl, ?_⟩) ⟨rfl, rfl⟩ ?_
      · (intro y hy; have h0 := (cell_heapM hy.1 _).trans k3; go_simp)
      simp only [Act.put, List.setIfInBounds_toArray, List.set_cons_zero, List.set_cons_succ]
      refine wpAnyH_take (i := 17) (oi := { dst := some 72, op := Op.convert 47 3 (Operand.tmp 71), type := 3, pos := "ref.go:67", after := #[{ on := 16, ground := Ground.data }], guard := none }) (v := ?_) rfl (by kernel_rfl) (by kernel_rfl) (by kernel_rfl) (fun _ _ _ h => h) (Or.inl ⟨by rfl, ?_⟩) ⟨rfl, rfl⟩ ?_
      rotate_left
      · (intro y hy; go_simp; try (with_reducible rfl))
      simp only [Act.put, List.setIfInBounds_toArray, List.set_cons_zero, List.set_cons_succ]
      refine wpAnyH_take (i := 18) (oi := { dst := some 73, op := Op.build 24 #[(0, Operand.tmp 56), (1, Operand.tmp 60), (2, Operand.tmp 64), (3, Operand.tmp 68), (4, Operand.tmp 72)], type := 24, pos := "ref.go:67", after := #[{ on := 1, ground := Ground.data }, { on := 5, ground := Ground.data }, { on := 9, ground := Ground.data }, { on := 13, ground := Ground.data }, { on := 17, ground := Ground.data }], guard := none }) (v := ?_) rfl (by kernel_rfl) (by kernel_rfl) (by kernel_rfl) (fun _ _ _ h => h) (Or.inl ⟨by rfl, ?_⟩) ⟨rfl, rfl⟩ ?_
      rotate_left
      · (intro y hy; go_simp; try (with_reducible rfl))
      simp only [Act.put, List.setIfInBounds_toArray, List.set_cons_zero, List.set_cons_succ]
      refine wpAnyH_ready (rs := [19]) (by kernel_rfl) (by simp) ?_
      refine AllReadyH.cons (o := { dst := some 10, op := Op.alloc 24, type := 0, pos := "ref.go:67", after := #[], guard := none }) rfl (fun K hK => ?_) AllReadyH.nil
      have HSL : Hid ((wr.drew.alloc (.cells #[.int .i64 0, .int .i64 0, .int .i64 0, .int .i64 0, .int .i64 0, .slice none 0 0] 24)).heap[b3]? = wr.heap[b3]? ∧ (wr.drew.alloc (.cells #[.int .i64 0, .int .i64 0, .int .i64 0, .int .i64 0, .int .i64 0, .slice none 0 0] 24)).heap[w1.heap.size]? = wr.heap[w1.heap.size]?) := ⟨Below.heap_alloc _ _ b3 HLL2.out.1, Below.heap_alloc _ _ _ HLL2.out.2⟩
      go_simp
      (refine hK _ _ HSL.out ?_; clear hK K; intro _)
      try simp only [Act.put, List.setIfInBounds_toArray, List.set_cons_zero, List.set_cons_succ]
      refine wpAnyH_ready (rs := [20]) (by kernel_rfl) (by simp) ?_
      refine AllReadyH.cons (o := { dst := none, op := Op.store 24 (Operand.tmp 10) (Operand.tmp 73), type := 0, pos := "ref.go:67", after := #[{ on := 19, ground := Ground.data }, { on := 18, ground := Ground.data }, { on := 0, ground := Ground.phase }, { on := 1, ground := Ground.phase }, { on := 2, ground := Ground.phase }, { on := 3, ground := Ground.phase }, { on := 4, ground := Ground.phase }, { on := 5, ground := Ground.phase }, { on := 6, ground := Ground.phase }, { on := 7, ground := Ground.phase }, { on := 8, ground := Ground.phase }, { on := 9, ground := Ground.phase }, { on := 10, ground := Ground.phase }, { on := 11, ground := Ground.phase }, { on := 12, ground := Ground.phase }, { on := 13, ground := Ground.phase }, { on := 14, ground := Ground.phase }, { on := 15, ground := Ground.phase }, { on := 16, ground := Ground.phase }, { on := 17, ground := Ground.phase }, { on := 18, ground := Ground.phase }, { on := 19, ground := Ground.phase }], guard := none }) rfl (fun K hK => ?_) AllReadyH.nil
      refine step_store_mf (m := zeroM) (v := .slice none 0 0) (m2 := ⟨(S : Int), toI y0, toI y1, toI y2, toI y3, []⟩) (a2 := none) (n2 := 0) (c2 := 0) rfl _ _ rfl (MfAt.new wr.drew zeroM (.slice none 0 0)) rfl rfl ?_
      intro W4 hm4 ho4 hk4 hs4
      have HSW : Hid (W4.heap[b3]? = wr.heap[b3]? ∧ W4.heap[w1.heap.size]? = wr.heap[w1.heap.size]?) := ⟨(hk4 _ (by have := HLL2.out; show b3 ≠ wr.heap.size; omega)).trans HSL.out.1, (hk4 _ (by have := HLL2.out; show w1.heap.size ≠ wr.heap.size; omega)).trans HSL.out.2⟩
      (refine hK _ _ HSW.out ?_; clear hK K; intro _)
      try simp only [Act.put, List.setIfInBounds_toArray, List.set_cons_zero, List.set_cons_succ]
      refine wpAnyH_done (by kernel_rfl) ?_ _
      go_wp2
      have hb4 : Below wr.heap.size wr W4 := ho4 _ _ ((Below.refl wr.heap.size wr).drew.alloc (Nat.le_refl _) _) (Nat.le_refl _)
      clear ho4 hk4 hs4
      have HI0 : Hid (DI w w.heap.size wr.heap.size W4.heap.size ⟨(S : Int), toI y0, toI y1, toI y2, toI y3, []⟩ [] W4) := ⟨⟨_, hm4, OwnSm.nil _ _⟩, HMR.out.after hb4, below_next HBR.out hb4, Nat.le_refl _⟩
      have HC4 : Hid (∀ i, i < (y0 :: y1 :: y2 :: y3 :: r).length → W4.cell? ⟨b3, o3 + i, none⟩ = some (.int .u64 ((y0 :: y1 :: y2 :: y3 :: r).getD i 0 : Nat))) := fun i hh => ((hbr.trans (hb4.mono hsz)).cell (p := ⟨b3, o3 + i, none⟩) hl3).trans (HC3.out i hh)
      have hl4 : wr.heap.size < W4.heap.size := hm4.lt
      have hwl : w.heap.size < wr.heap.size := HMR.out.lt
      have HLW : Hid (w.heap.size < wr.heap.size ∧ wr.heap.size < W4.heap.size) := ⟨hwl, hl4⟩
      have HNM : Hid (n ≤ maxLen) := hnmx.out
      clear k0 k1 k2 k3 kf hlf hb4 hm4 HC3 n0 n1 n2 n3 m1 m2 m3 e0 e1 e2 e3
      obtain ⟨wo, hwo⟩ : ∃ wo, wo = wr := ⟨_, rfl⟩
      subst hwo
      go_loopw [11] (fun vi W => ∃ (k I : Nat), vi = .int .i64 (I : Int) ∧ Hid (I = 4 + 4 * k) ∧ k ≤ (smsOf r).length ∧ I ≤ u + 3 ∧ Hid (DI w w.heap.size wo.heap.size W4.heap.size ⟨(S : Int), toI y0, toI y1, toI y2, toI y3, []⟩ ((smsOf r).take k) W) ∧ Hid (KE W4.heap.size wo.heap.size W4 W)) (fun vi _ => (u + 8) - (intOf vi).toNat)
      case atStart => exact ⟨0, 4, rfl, rfl, Nat.zero_le _, by omega, by rw [List.take_zero]; exact HI0.out, ⟨Nat.le_refl _, fun _ _ _ _ => rfl⟩⟩
      case round =>
        obtain ⟨k, I, rfl, HIK, hks, hIu, HDI, HKE⟩ := hrel
        have hIuI : (I : Int) ≤ 1031 := by omega
        by_cases hIc : I + 3 < u
        · have dI : decide ((I : Int) + 3 < (u : Int)) = true := by simp; omega
          have hrl : 4 * k + 3 < r.length := by have := HIK.out; have := HUL.out.2; omega
          have hget := smsOf_get r k hrl
          obtain ⟨X0, hX0⟩ : ∃ X, r.getD (4 * k) 0 = X := ⟨_, rfl⟩
          obtain ⟨X1, hX1⟩ : ∃ X, r.getD (4 * k + 1) 0 = X := ⟨_, rfl⟩
          obtain ⟨X2, hX2⟩ : ∃ X, r.getD (4 * k + 2) 0 = X := ⟨_, rfl⟩
          obtain ⟨X3, hX3⟩ : ∃ X, r.getD (4 * k + 3) 0 = X := ⟨_, rfl⟩
          rw [hX0, hX1, hX2, hX3] at hget
          have cell : ∀ j X, j < 4 → r.getD (4 * k + j) 0 = X → wr.cell? ⟨b3, o3 + (I + j), none⟩ = some (.int .u64 (X : Int)) := by
            intro j X hj hX
            have h1 := HC4.out (I + j) (by rw [HUL.out.1]; omega)
            rw [show I + j = 4 * k + j + 4 from by rw [HIK.out]; omega] at h1 ⊢
            have h2 : (y0 :: y1 :: y2 :: y3 :: r).getD (4 * k + j + 4) 0 = r.getD (4 * k + j) 0 := by simp
            rw [h2, hX] at h1
            rw [← h1]
            have hlb : b3 < W4.heap.size := by omega
            simp only [World.cell?, HKE.out.2 b3 hlb (by omega) hlb]
          have q0 := cell 0 X0 (by omega) hX0
          have q1 := cell 1 X1 (by omega) hX1
          have q2 := cell 2 X2 (by omega) hX2
          have q3 := cell 3 X3 (by omega) hX3
          rw [Nat.add_zero] at q0
          obtain ⟨I1, hI1⟩ : ∃ I1, I + 1 = I1 := ⟨_, rfl⟩
          obtain ⟨I2, hI2⟩ : ∃ I2, I + 2 = I2 := ⟨_, rfl⟩
          obtain ⟨I3, hI3⟩ : ∃ I3, I + 3 = I3 := ⟨_, rfl⟩
          rw [hI1] at q1
          rw [hI2] at q2
          rw [hI3] at q3
          have g1 : IntKind.i64.wrap ((I : Int) + 1) = (I1 : Int) := by rw [wrap_i64]; omega
          have g2 : IntKind.i64.wrap ((I : Int) + 2) = (I2 : Int) := by rw [wrap_i64]; omega
          have g3 : IntKind.i64.wrap ((I : Int) + 3) = (I3 : Int) := by rw [wrap_i64]; omega
          have j0 : (I : Int) < (u : Int) := by omega
          have j1 : (I1 : Int) < (u : Int) := by omega
          have j2 : (I2 : Int) < (u : Int) := by omega
          have j3 : (I3 : Int) < (u : Int) := by omega
          have E0 := toI_eq X0
          have E1 := toI_eq X1
          have E2 := toI_eq X2
          have E3 := toI_eq X3
          obtain ⟨v0, hv0, hrow⟩ := HDI.out.mf
          have htl : ((smsOf r).take k).length = k := by rw [List.length_take]; omega
          obtain ⟨ga, gc, hsv, _, _, _, _⟩ := hrow.shape
          rw [htl] at hsv
          subst hsv
          have HROW : Hid (MfAt wr wo.heap.size ⟨(S : Int), toI y0, toI y1, toI y2, toI y3, []⟩ (.slice ga k gc) ∧ OwnSm wr W4.heap.size (.slice ga k gc) ((smsOf r).take k)) := ⟨hv0, hrow⟩
          have HTL : Hid (((smsOf r).take k).length = k ∧ (smsOf r).take (k + 1) = (smsOf r).take k ++ [⟨toI X0, toI X1, toI X2, toI X3⟩]) := ⟨htl, sm_take _ _ _ hget⟩
          have hk256 : k + 1 ≤ 257 := by have := smsOf_len r; have := HUL.out.2; omega
          have HKL : Hid (k + 1 ≤ (smsOf r).length) := by rw [smsOf_len]; show _ ≤ _; omega
          have c5 : wr.cell? ⟨wo.heap.size, 5, none⟩ = some (.slice ga k gc) := hv0.cell 5 _ rfl
          have c5d : wr.drew.cell? ⟨wo.heap.size, 5, none⟩ = some (.slice ga k gc) := c5
          have c5a : (wr.drew.alloc (.cells #[.int .i64 (toI X0), .int .i64 (toI X1), .int .i64 (toI X2), .int .i64 (toI X3)] 43)).cell? ⟨wo.heap.size, 5, none⟩ = some (.slice ga k gc) := (hv0.after ((Below.refl wr.heap.size wr).drew.alloc (Nat.le_refl _) (.cells #[.int .i64 (toI X0), .int .i64 (toI X1), .int .i64 (toI X2), .int .i64 (toI X3)] 43))).cell 5 _ rfl
          have c5b : (wr.alloc (.cells #[.int .i64 (toI X0), .int .i64 (toI X1), .int .i64 (toI X2), .int .i64 (toI X3)] 43)).cell? ⟨wo.heap.size, 5, none⟩ = some (.slice ga k gc) := c5a
          have hlm := hv0.lt
          have hlr : b3 < wr.heap.size := by omega
          have HO5 : Hid ((wr.drew.alloc (.cells #[.int .i64 (toI X0), .int .i64 (toI X1), .int .i64 (toI X2), .int .i64 (toI X3)] 43)).ownsRow W4.heap.size 43 4 (.slice ga k gc) k (sfl ((smsOf r).take k))) := by have h := OwnSm.keep hrow ((Below.refl wr.heap.size wr).drew.alloc (Nat.le_refl _) (.cells #[.int .i64 (toI X0), .int .i64 (toI X1), .int .i64 (toI X2), .int .i64 (toI X3)] 43)); unfold OwnSm at h; rw [htl] at h; exact h
          have HNW : Hid (∀ j u, [.int .i64 (toI X0), .int .i64 (toI X1), .int .i64 (toI X2), .int .i64 (toI X3)][j]? = some u → (wr.drew.alloc (.cells #[.int .i64 (toI X0), .int .i64 (toI X1), .int .i64 (toI X2), .int .i64 (toI X3)] 43)).cell? ((⟨wr.heap.size, 0, none⟩ : Addr).add j) = some u) := cell_newS wr.drew ⟨toI X0, toI X1, toI X2, toI X3⟩
          have HBS : Hid (W4.heap.size ≤ wr.heap.size) := HDI.out.siz
          have HB5 : Hid (Below wr.heap.size wr (wr.drew.alloc (.cells #[.int .i64 (toI X0), .int .i64 (toI X1), .int .i64 (toI X2), .int .i64 (toI X3)] 43))) := (Below.refl _ _).drew.alloc (Nat.le_refl _) _
          have hbI : ¬ wo.heap.size = wr.heap.size := by omega
          have hbI2 : ¬ wr.heap.size = wo.heap.size := by omega
          clear hv0 hrow htl hget cell hX0 hX1 hX2 hX3 hI1 hI2 hI3 hrl hIc
          go_wp2
          have HLB : Hid (b3 < W4.heap.size ∧ b3 < wo.heap.size) := ⟨by omega, by omega⟩
          have HSB : Hid ((wr.drew.alloc (.cells #[.int .i64 (toI X0), .int .i64 (toI X1), .int .i64 (toI X2), .int .i64 (toI X3)] 43)).heap[b3]? = wr.heap[b3]?) := HB5.out.block b3 hlr
          refine wp_region_held (S := (fun y => y.heap[b3]? = wr.heap[b3]?)) (by kernel_rfl) ?_
          change wpAnyH _ _ _ _ _ _ _ _ (World.drew _)
          refine wpAnyH_take (i := 0) (oi := { dst := some 81, op := Op.fieldAddr 24 (Operand.tmp 10) 5, type := 0, pos := "ref.go:69", after := #[], guard := none }) (v := ?_) rfl (by kernel_rfl) (by kernel_rfl) (by kernel_rfl) (fun _ _ _ h => h) (Or.inl ⟨by rfl, ?_⟩) rfl ?_
          rotate_left
          · (intro y hy; go_simp; try (with_reducible rfl))
          simp only [Act.put, List.setIfInBounds_toArray, List.set_cons_zero, List.set_cons_succ]
          refine wpAnyH_take (i := 2) (oi := { dst := some 83, op := Op.move (Operand.tmp 7), type := 48, pos := "ref.go:69", after := #[], guard := none }) (v := ?_) rfl (by kernel_rfl) (by kernel_rfl) (by kernel_rfl) (fun _ _ _ h => h) (Or.inl ⟨by rfl, ?_⟩) rfl ?_
          rotate_left
          · (intro y hy; go_simp; try (with_reducible rfl))
          simp only [Act.put, List.setIfInBounds_toArray, List.set_cons_zero, List.set_cons_succ]
          refine wpAnyH_take (i := 3) (oi := { dst := some 84, op := Op.move (Operand.tmp 11), type := 3, pos := "ref.go:69", after := #[], guard := none }) (v := ?_) rfl (by kernel_rfl) (by kernel_rfl) (by kernel_rfl) (fun _ _ _ h => h) (Or.inl ⟨by rfl, ?_⟩) rfl ?_
          rotate_left
          · (intro y hy; go_simp; try (with_reducible rfl))
          simp only [Act.put, List.setIfInBounds_toArray, List.set_cons_zero, List.set_cons_succ]
          refine wpAnyH_take (i := 4) (oi := { dst := some 85, op := Op.indexAddr 48 (Operand.tmp 83) (Operand.tmp 84), type := 0, pos := "ref.go:69", after := #[{ on := 2, ground := Ground.data }, { on := 3, ground := Ground.data }], guard := none }) (v := ?_) rfl (by kernel_rfl) (by kernel_rfl) (by kernel_rfl) (fun _ _ _ h => h) (Or.inl ⟨by rfl, ?_⟩) rfl ?_
          rotate_left
          · (intro y hy; go_simp; try (with_reducible rfl))
          simp only [Act.put, List.setIfInBounds_toArray, List.set_cons_zero, List.set_cons_succ]
          refine wpAnyH_take (i := 5) (oi := { dst := some 86, op := Op.load 47 (Operand.tmp 85), type := 47, pos := "ref.go:69", after := #[{ on := 4, ground := Ground.data }], guard := none }) (v := .int .u64 (X0 : Int)) rfl (by kernel_rfl) (by kernel_rfl) (by kernel_rfl) (fun _ _ _ h => h) (Or.inl ⟨by rfl, ?_⟩) rfl ?_
          · (intro y hy; have h0 := (cell_heapM hy _).trans q0; go_simp)
          simp only [Act.put, List.setIfInBounds_toArray, List.set_cons_zero, List.set_cons_succ]
          refine wpAnyH_take (i := 6) (oi := { dst := some 87, op := Op.convert 47 3 (Operand.tmp 86), type := 3, pos := "ref.go:69", after := #[{ on := 5, ground := Ground.data }], guard := none }) (v := ?_) rfl (by kernel_rfl) (by kernel_rfl) (by kernel_rfl) (fun _ _ _ h => h) (Or.inl ⟨by rfl, ?_⟩) rfl ?_
          rotate_left
          · (intro y hy; go_simp; try (with_reducible rfl))
          simp only [Act.put, List.setIfInBounds_toArray, List.set_cons_zero, List.set_cons_succ]
          refine wpAnyH_take (i := 7) (oi := { dst := some 88, op := Op.move (Operand.tmp 7), type := 48, pos := "ref.go:69", after := #[], guard := none }) (v := ?_) rfl (by kernel_rfl) (by kernel_rfl) (by kernel_rfl) (fun _ _ _ h => h) (Or.inl ⟨by rfl, ?_⟩) rfl ?_
          rotate_left
          · (intro y hy; go_simp; try (with_reducible rfl))
          simp only [Act.put, List.setIfInBounds_toArray, List.set_cons_zero, List.set_cons_succ]
          refine wpAnyH_take (i := 8) (oi := { dst := some 89, op := Op.move (Operand.tmp 11), type := 3, pos := "ref.go:69", after := #[], guard := none }) (v := ?_) rfl (by kernel_rfl) (by kernel_rfl) (by kernel_rfl) (fun _ _ _ h => h) (Or.inl ⟨by rfl, ?_⟩) rfl ?_
          rotate_left
          · (intro y hy; go_simp; try (with_reducible rfl))
          simp only [Act.put, List.setIfInBounds_toArray, List.set_cons_zero, List.set_cons_succ]
          refine wpAnyH_take (i := 9) (oi := { dst := some 90, op := Op.binOp BinOp.add 3 (Operand.tmp 89) (Operand.const (Value.int IntKind.i64 1)) 3, type := 3, pos := "ref.go:69", after := #[{ on := 8, ground := Ground.data }], guard := none }) (v := ?_) rfl (by kernel_rfl) (by kernel_rfl) (by kernel_rfl) (fun _ _ _ h => h) (Or.inl ⟨by rfl, ?_⟩) rfl ?_
          rotate_left
          · (intro y hy; go_simp; try (with_reducible rfl))
          simp only [Act.put, List.setIfInBounds_toArray, List.set_cons_zero, List.set_cons_succ]
          refine wpAnyH_take (i := 10) (oi := { dst := some 91, op := Op.indexAddr 48 (Operand.tmp 88) (Operand.tmp 90), type := 0, pos := "ref.go:69", after := #[{ on := 7, ground := Ground.data }, { on := 9, ground := Ground.data }], guard := none }) (v := ?_) rfl (by kernel_rfl) (by kernel_rfl) (by kernel_rfl) (fun _ _ _ h => h) (Or.inl ⟨by rfl, ?_⟩) rfl ?_
          rotate_left
          · (intro y hy; go_simp; try (with_reducible rfl))
          simp only [Act.put, List.setIfInBounds_toArray, List.set_cons_zero, List.set_cons_succ]
          refine wpAnyH_take (i := 11) (oi := { dst := some 92, op := Op.load 47 (Operand.tmp 91), type := 47, pos := "ref.go:69", after := #[{ on := 10, ground := Ground.data }], guard := none }) (v := .int .u64 (X1 : Int)) rfl (by kernel_rfl) (by kernel_rfl) (by kernel_rfl) (fun _ _ _ h => h) (Or.inl ⟨by rfl, ?_⟩) rfl ?_
          · (intro y hy; have h0 := (cell_heapM hy _).trans q1; go_simp)
          simp only [Act.put, List.setIfInBounds_toArray, List.set_cons_zero, List.set_cons_succ]
          refine wpAnyH_take (i := 12) (oi := { dst := some 93, op := Op.convert 47 3 (Operand.tmp 92), type := 3, pos := "ref.go:69", after := #[{ on := 11, ground := Ground.data }], guard := none }) (v := ?_) rfl (by kernel_rfl) (by kernel_rfl) (by kernel_rfl) (fun _ _ _ h => h) (Or.inl ⟨by rfl, ?_⟩) rfl ?_
          rotate_left
          · (intro y hy; go_simp; try (with_reducible rfl))
          simp only [Act.put, List.setIfInBounds_toArray, List.set_cons_zero, List.set_cons_succ]
          refine wpAnyH_take (i := 13) (oi := { dst := some 94, op := Op.move (Operand.tmp 7), type := 48, pos := "ref.go:69", after := #[], guard := none }) (v := ?_) rfl (by kernel_rfl) (by kernel_rfl) (by kernel_rfl) (fun _ _ _ h => h) (Or.inl ⟨by rfl, ?_⟩) rfl ?_
          rotate_left
          · (intro y hy; go_simp; try (with_reducible rfl))
          simp only [Act.put, List.setIfInBounds_toArray, List.set_cons_zero, List.set_cons_succ]
          refine wpAnyH_take (i := 14) (oi := { dst := some 95, op := Op.move (Operand.tmp 11), type := 3, pos := "ref.go:69", after := #[], guard := none }) (v := ?_) rfl (by kernel_rfl) (by kernel_rfl) (by kernel_rfl) (fun _ _ _ h => h) (Or.inl ⟨by rfl, ?_⟩) rfl ?_
          rotate_left
          · (intro y hy; go_simp; try (with_reducible rfl))
          simp only [Act.put, List.setIfInBounds_toArray, List.set_cons_zero, List.set_cons_succ]
          refine wpAnyH_take (i := 15) (oi := { dst := some 96, op := Op.binOp BinOp.add 3 (Operand.tmp 95) (Operand.const (Value.int IntKind.i64 2)) 3, type := 3, pos := "ref.go:69", after := #[{ on := 14, ground := Ground.data }], guard := none }) (v := ?_) rfl (by kernel_rfl) (by kernel_rfl) (by kernel_rfl) (fun _ _ _ h => h) (Or.inl ⟨by rfl, ?_⟩) rfl ?_
          rotate_left
          · (intro y hy; go_simp; try (with_reducible rfl))
          simp only [Act.put, List.setIfInBounds_toArray, List.set_cons_zero, List.set_cons_succ]
          refine wpAnyH_take (i := 16) (oi := { dst := some 97, op := Op.indexAddr 48 (Operand.tmp 94) (Operand.tmp 96), type := 0, pos := "ref.go:69", after := #[{ on := 13, ground := Ground.data }, { on := 15, ground := Ground.data }], guard := none }) (v := ?_) rfl (by kernel_rfl) (by kernel_rfl) (by kernel_rfl) (fun _ _ _ h => h) (Or.inl ⟨by rfl, ?_⟩) rfl ?_
          rotate_left
          · (intro y hy; go_simp; try (with_reducible rfl))
          simp only [Act.put, List.setIfInBounds_toArray, List.set_cons_zero, List.set_cons_succ]
          refine wpAnyH_take (i := 17) (oi := { dst := some 98, op := Op.load 47 (Operand.tmp 97), type := 47, pos := "ref.go:69", after := #[{ on := 16, ground := Ground.data }], guard := none }) (v := .int .u64 (X2 : Int)) rfl (by kernel_rfl) (by kernel_rfl) (by kernel_rfl) (fun _ _ _ h => h) (Or.inl ⟨by rfl, ?_⟩) rfl ?_
          · (intro y hy; have h0 := (cell_heapM hy _).trans q2; go_simp)
          simp only [Act.put, List.setIfInBounds_toArray, List.set_cons_zero, List.set_cons_succ]
          refine wpAnyH_take (i := 18) (oi := { dst := some 99, op := Op.convert 47 3 (Operand.tmp 98), type := 3, pos := "ref.go:69", after := #[{ on := 17, ground := Ground.data }], guard := none }) (v := ?_) rfl (by kernel_rfl) (by kernel_rfl) (by kernel_rfl) (fun _ _ _ h => h) (Or.inl ⟨by rfl, ?_⟩) rfl ?_
          rotate_left
          · (intro y hy; go_simp; try (with_reducible rfl))
          simp only [Act.put, List.setIfInBounds_toArray, List.set_cons_zero, List.set_cons_succ]
          refine wpAnyH_take (i := 19) (oi := { dst := some 100, op := Op.move (Operand.tmp 7), type := 48, pos := "ref.go:69", after := #[], guard := none }) (v := ?_) rfl (by kernel_rfl) (by kernel_rfl) (by kernel_rfl) (fun _ _ _ h => h) (Or.inl ⟨by rfl, ?_⟩) rfl ?_
          rotate_left
          · (intro y hy; go_simp; try (with_reducible rfl))
          simp only [Act.put, List.setIfInBounds_toArray, List.set_cons_zero, List.set_cons_succ]
          refine wpAnyH_take (i := 20) (oi := { dst := some 101, op := Op.move (Operand.tmp 11), type := 3, pos := "ref.go:69", after := #[], guard := none }) (v := ?_) rfl (by kernel_rfl) (by kernel_rfl) (by kernel_rfl) (fun _ _ _ h => h) (Or.inl ⟨by rfl, ?_⟩) rfl ?_
          rotate_left
          · (intro y hy; go_simp; try (with_reducible rfl))
          simp only [Act.put, List.setIfInBounds_toArray, List.set_cons_zero, List.set_cons_succ]
          refine wpAnyH_take (i := 21) (oi := { dst := some 102, op := Op.binOp BinOp.add 3 (Operand.tmp 101) (Operand.const (Value.int IntKind.i64 3)) 3, type := 3, pos := "ref.go:69", after := #[{ on := 20, ground := Ground.data }], guard := none }) (v := ?_) rfl (by kernel_rfl) (by kernel_rfl) (by kernel_rfl) (fun _ _ _ h => h) (Or.inl ⟨by rfl, ?_⟩) rfl ?_
          rotate_left
          · (intro y hy; go_simp; try (with_reducible rfl))
          simp only [Act.put, List.setIfInBounds_toArray, List.set_cons_zero, List.set_cons_succ]
          refine wpAnyH_take (i := 22) (oi := { dst := some 103, op := Op.indexAddr 48 (Operand.tmp 100) (Operand.tmp 102), type := 0, pos := "ref.go:69", after := #[{ on := 19, ground := Ground.data }, { on := 21, ground := Ground.data }], guard := none }) (v := ?_) rfl (by kernel_rfl) (by kernel_rfl) (by kernel_rfl) (fun _ _ _ h => h) (Or.inl ⟨by rfl, ?_⟩) rfl ?_
          rotate_left
          · (intro y hy; go_simp; try (with_reducible rfl))
          simp only [Act.put, List.setIfInBounds_toArray, List.set_cons_zero, List.set_cons_succ]
          refine wpAnyH_take (i := 23) (oi := { dst := some 104, op := Op.load 47 (Operand.tmp 103), type := 47, pos := "ref.go:69", after := #[{ on := 22, ground := Ground.data }], guard := none }) (v := .int .u64 (X3 : Int)) rfl (by kernel_rfl) (by kernel_rfl) (by kernel_rfl) (fun _ _ _ h => h) (Or.inl ⟨by rfl, ?_⟩) rfl ?_
          · (intro y hy; have h0 := (cell_heapM hy _).trans q3; go_simp)
          simp only [Act.put, List.setIfInBounds_toArray, List.set_cons_zero, List.set_cons_succ]
          refine wpAnyH_take (i := 24) (oi := { dst := some 105, op := Op.convert 47 3 (Operand.tmp 104), type := 3, pos := "ref.go:69", after := #[{ on := 23, ground := Ground.data }], guard := none }) (v := ?_) rfl (by kernel_rfl) (by kernel_rfl) (by kernel_rfl) (fun _ _ _ h => h) (Or.inl ⟨by rfl, ?_⟩) rfl ?_
          rotate_left
          · (intro y hy; go_simp; try (with_reducible rfl))
          simp only [Act.put, List.setIfInBounds_toArray, List.set_cons_zero, List.set_cons_succ]
          refine wpAnyH_take (i := 25) (oi := { dst := some 106, op := Op.build 43 #[(0, Operand.tmp 87), (1, Operand.tmp 93), (2, Operand.tmp 99), (3, Operand.tmp 105)], type := 43, pos := "ref.go:69", after := #[{ on := 6, ground := Ground.data }, { on := 12, ground := Ground.data }, { on := 18, ground := Ground.data }, { on := 24, ground := Ground.data }], guard := none }) (v := ?_) rfl (by kernel_rfl) (by kernel_rfl) (by kernel_rfl) (fun _ _ _ h => h) (Or.inl ⟨by rfl, ?_⟩) rfl ?_
          rotate_left
          · (intro y hy; go_simp; try (with_reducible rfl))
          simp only [Act.put, List.setIfInBounds_toArray, List.set_cons_zero, List.set_cons_succ]
          refine wpAnyH_ready (rs := [1, 26]) (by kernel_rfl) (by simp) ?_
          refine AllReadyH.cons (o := { dst := some 82, op := Op.load 22 (Operand.tmp 81), type := 22, pos := "ref.go:69", after := #[{ on := 0, ground := Ground.data }], guard := none }) rfl (fun K hK => ?_) (AllReadyH.cons (o := { dst := some 107, op := Op.buildSlice 22 1 #[(0, Operand.tmp 106)], type := 22, pos := "ref.go:69", after := #[{ on := 25, ground := Ground.data }], guard := none }) rfl (fun K hK => ?_) AllReadyH.nil)
          · go_simp
            (refine hK _ _ rfl ?_; clear hK K; intro _)
            try simp only [Act.put, List.setIfInBounds_toArray, List.set_cons_zero, List.set_cons_succ]
            refine wpAnyH_ready (rs := [26]) (by kernel_rfl) (by simp) ?_
            refine AllReadyH.cons (o := { dst := some 107, op := Op.buildSlice 22 1 #[(0, Operand.tmp 106)], type := 22, pos := "ref.go:69", after := #[{ on := 25, ground := Ground.data }], guard := none }) rfl (fun K hK => ?_) AllReadyH.nil
            go_simp
            (refine hK _ _ HSB.out ?_; clear hK K; intro _)
            try simp only [Act.put, List.setIfInBounds_toArray, List.set_cons_zero, List.set_cons_succ]
            refine wpAnyH_ready (rs := [27]) (by kernel_rfl) (by simp) ?_
            refine AllReadyH.cons (o := { dst := some 108, op := Op.call { callee := Callee.builtin Builtin.append, args := #[Operand.tmp 82, Operand.tmp 107], argTypes := #[22, 22] }, type := 22, pos := "ref.go:69", after := #[{ on := 1, ground := Ground.data }, { on := 26, ground := Ground.data }], guard := none }) rfl (fun K hK => ?_) AllReadyH.nil
            (refine step_append_lies _ (by rfl) _ _ 22 (by rfl) W4.heap.size 43 i0 _ 4 32 Tryd.underlying22 hi hz0 hz1 hz2 rfl (by decide) (.slice ga k gc) k (sfl ((smsOf r).take k)) (by rfl) HO5.out ⟨wr.heap.size, 0, none⟩ 1 1 [.int .i64 (toI X0), .int .i64 (toI X1), .int .i64 (toI X2), .int .i64 (toI X3)] (by rfl) (by rfl) HNW.out (one_new4 _ _ _ _) (by omega) (by unfold maxLen; omega) (by omega) (by have := HBS.out; simp; omega) (wr.heap.size + 1) (by simp) ?_)
            intro g4 cap4 w4 ho4 hg4 hat4 hlt4
            have hp4 : MfAt w4 wo.heap.size ⟨(S : Int), toI y0, toI y1, toI y2, toI y3, []⟩ (.slice ga k gc) := grown_boxM HO5.out hg4 (HROW.out.1.after HB5.out) (by decide)
            have d5 := hp4.cell 5 (.slice ga k gc) rfl
            have d5f := hp4.froz 5
            have HG4 : Hid (_) := hg4
            have HO4 : Hid (_) := ho4
            have HSA : Hid (w4.heap[b3]? = wr.heap[b3]?) := (hg4.block b3 (Nat.lt_of_lt_of_le hlr HB5.out.size) (fun e => by have := (HO5.out.lt b3 e.symm).1; have := HLB.out; omega)).trans HSB.out
            clear ho4 hg4 hat4 hlt4 hp4
            (refine hK _ _ HSA.out ?_; clear hK K; intro _)
            try simp only [Act.put, List.setIfInBounds_toArray, List.set_cons_zero, List.set_cons_succ]
            refine wpAnyH_take (i := 28) (oi := { dst := some 109, op := Op.fieldAddr 24 (Operand.tmp 10) 5, type := 0, pos := "ref.go:69", after := #[{ on := 0, ground := Ground.phase }, { on := 1, ground := Ground.phase }, { on := 2, ground := Ground.phase }, { on := 3, ground := Ground.phase }, { on := 4, ground := Ground.phase }, { on := 5, ground := Ground.phase }, { on := 6, ground := Ground.phase }, { on := 7, ground := Ground.phase }, { on := 8, ground := Ground.phase }, { on := 9, ground := Ground.phase }, { on := 10, ground := Ground.phase }, { on := 11, ground := Ground.phase }, { on := 12, ground := Ground.phase }, { on := 13, ground := Ground.phase }, { on := 14, ground := Ground.phase }, { on := 15, ground := Ground.phase }, { on := 16, ground := Ground.phase }, { on := 17, ground := Ground.phase }, { on := 18, ground := Ground.phase }, { on := 19, ground := Ground.phase }, { on := 20, ground := Ground.phase }, { on := 21, ground := Ground.phase }, { on := 22, ground := Ground.phase }, { on := 23, ground := Ground.phase }, { on := 24, ground := Ground.phase }, { on := 25, ground := Ground.phase }, { on := 26, ground := Ground.phase }, { on := 27, ground := Ground.phase }], guard := none }) (v := ?_) rfl (by kernel_rfl) (by kernel_rfl) (by kernel_rfl) (fun _ _ _ h => h) (Or.inl ⟨by rfl, ?_⟩) HSA.out ?_
            rotate_left
            · (intro y hy; go_simp; try (with_reducible rfl))
            simp only [Act.put, List.setIfInBounds_toArray, List.set_cons_zero, List.set_cons_succ]
            refine wpAnyH_ready (rs := [29]) (by kernel_rfl) (by simp) ?_
            refine AllReadyH.cons (o := { dst := none, op := Op.store 22 (Operand.tmp 109) (Operand.tmp 108), type := 0, pos := "ref.go:69", after := #[{ on := 28, ground := Ground.data }, { on := 27, ground := Ground.data }, { on := 27, ground := Ground.chain }, { on := 0, ground := Ground.phase }, { on := 1, ground := Ground.phase }, { on := 2, ground := Ground.phase }, { on := 3, ground := Ground.phase }, { on := 4, ground := Ground.phase }, { on := 5, ground := Ground.phase }, { on := 6, ground := Ground.phase }, { on := 7, ground := Ground.phase }, { on := 8, ground := Ground.phase }, { on := 9, ground := Ground.phase }, { on := 10, ground := Ground.phase }, { on := 11, ground := Ground.phase }, { on := 12, ground := Ground.phase }, { on := 13, ground := Ground.phase }, { on := 14, ground := Ground.phase }, { on := 15, ground := Ground.phase }, { on := 16, ground := Ground.phase }, { on := 17, ground := Ground.phase }, { on := 18, ground := Ground.phase }, { on := 19, ground := Ground.phase }, { on := 20, ground := Ground.phase }, { on := 21, ground := Ground.phase }, { on := 22, ground := Ground.phase }, { on := 23, ground := Ground.phase }, { on := 24, ground := Ground.phase }, { on := 25, ground := Ground.phase }, { on := 26, ground := Ground.phase }, { on := 27, ground := Ground.phase }], guard := none }) rfl (fun K hK => ?_) AllReadyH.nil
            have HSS : Hid ((w4.setCell ⟨wo.heap.size, 5, none⟩ (.slice (some ⟨g4, 0, none⟩) (k + 1) cap4)).heap[b3]? = wr.heap[b3]?) := (heap_setCell_other w4 ⟨wo.heap.size, 5, none⟩ b3 _ (by have := HLB.out; show b3 ≠ wo.heap.size; omega)).trans HSA.out
            go_simp
            (refine hK _ _ HSS.out ?_; clear hK K; intro _)
            try simp only [Act.put, List.setIfInBounds_toArray, List.set_cons_zero, List.set_cons_succ]
            refine wpAnyH_done (by kernel_rfl) ?_ _
            have hst := DI.step (x := ⟨toI X0, toI X1, toI X2, toI X3⟩) HDI.out HB5.out HROW.out.1 (by rw [HTL.out.1]; exact HO5.out) HG4.out (by rw [HTL.out.1]; exact HO4.out) (by have := HLW.out; omega) (by have := HLW.out; omega) (by have := HLW.out; omega) 0
            have HST : Hid (_) := hst
            clear hst d5 d5f
            go_wp2
            go_roundw
            case rel => exact ⟨k + 1, I + 4, by go_num, (by have := HIK.out; show _ = _; omega), HKL.out, by omega, by rw [HTL.out.2]; exact HST.out.2.2, HKE.out.trans HST.out.2.1⟩
            case measure => simp [intOf]; omega
          · go_simp
            (refine hK _ _ HSB.out ?_; clear hK K; intro _)
            try simp only [Act.put, List.setIfInBounds_toArray, List.set_cons_zero, List.set_cons_succ]
            refine wpAnyH_ready (rs := [1]) (by kernel_rfl) (by simp) ?_
            refine AllReadyH.cons (o := { dst := some 82, op := Op.load 22 (Operand.tmp 81), type := 22, pos := "ref.go:69", after := #[{ on := 0, ground := Ground.data }], guard := none }) rfl (fun K hK => ?_) AllReadyH.nil
            go_simp
            (refine hK _ _ HSB.out ?_; clear hK K; intro _)
            try simp only [Act.put, List.setIfInBounds_toArray, List.set_cons_zero, List.set_cons_succ]
            refine wpAnyH_ready (rs := [27]) (by kernel_rfl) (by simp) ?_
            refine AllReadyH.cons (o := { dst := some 108, op := Op.call { callee := Callee.builtin Builtin.append, args := #[Operand.tmp 82, Operand.tmp 107], argTypes := #[22, 22] }, type := 22, pos := "ref.go:69", after := #[{ on := 1, ground := Ground.data }, { on := 26, ground := Ground.data }], guard := none }) rfl (fun K hK => ?_) AllReadyH.nil
            (refine step_append_lies _ (by rfl) _ _ 22 (by rfl) W4.heap.size 43 i0 _ 4 32 Tryd.underlying22 hi hz0 hz1 hz2 rfl (by decide) (.slice ga k gc) k (sfl ((smsOf r).take k)) (by rfl) HO5.out ⟨wr.heap.size, 0, none⟩ 1 1 [.int .i64 (toI X0), .int .i64 (toI X1), .int .i64 (toI X2), .int .i64 (toI X3)] (by rfl) (by rfl) HNW.out (one_new4 _ _ _ _) (by omega) (by unfold maxLen; omega) (by omega) (by have := HBS.out; simp; omega) (wr.heap.size + 1) (by simp) ?_)
            intro g4 cap4 w4 ho4 hg4 hat4 hlt4
            have hp4 : MfAt w4 wo.heap.size ⟨(S : Int), toI y0, toI y1, toI y2, toI y3, []⟩ (.slice ga k gc) := grown_boxM HO5.out hg4 (HROW.out.1.after HB5.out) (by decide)
            have d5 := hp4.cell 5 (.slice ga k gc) rfl
            have d5f := hp4.froz 5
            have HG4 : Hid (_) := hg4
            have HO4 : Hid (_) := ho4
            have HSA : Hid (w4.heap[b3]? = wr.heap[b3]?) := (hg4.block b3 (Nat.lt_of_lt_of_le hlr HB5.out.size) (fun e => by have := (HO5.out.lt b3 e.symm).1; have := HLB.out; omega)).trans HSB.out
            clear ho4 hg4 hat4 hlt4 hp4
            (refine hK _ _ HSA.out ?_; clear hK K; intro _)
            try simp only [Act.put, List.setIfInBounds_toArray, List.set_cons_zero, List.set_cons_succ]
            refine wpAnyH_take (i := 28) (oi := { dst := some 109, op := Op.fieldAddr 24 (Operand.tmp 10) 5, type := 0, pos := "ref.go:69", after := #[{ on := 0, ground := Ground.phase }, { on := 1, ground := Ground.phase }, { on := 2, ground := Ground.phase }, { on := 3, ground := Ground.phase }, { on := 4, ground := Ground.phase }, { on := 5, ground := Ground.phase }, { on := 6, ground := Ground.phase }, { on := 7, ground := Ground.phase }, { on := 8, ground := Ground.phase }, { on := 9, ground := Ground.phase }, { on := 10, ground := Ground.phase }, { on := 11, ground := Ground.phase }, { on := 12, ground := Ground.phase }, { on := 13, ground := Ground.phase }, { on := 14, ground := Ground.phase }, { on := 15, ground := Ground.phase }, { on := 16, ground := Ground.phase }, { on := 17, ground := Ground.phase }, { on := 18, ground := Ground.phase }, { on := 19, ground := Ground.phase }, { on := 20, ground := Ground.phase }, { on := 21, ground := Ground.phase }, { on := 22, ground := Ground.phase }, { on := 23, ground := Ground.phase }, { on := 24, ground := Ground.phase }, { on := 25, ground := Ground.phase }, { on := 26, ground := Ground.phase }, { on := 27, ground := Ground.phase }], guard := none }) (v := ?_) rfl (by kernel_rfl) (by kernel_rfl) (by kernel_rfl) (fun _ _ _ h => h) (Or.inl ⟨by rfl, ?_⟩) HSA.out ?_
            rotate_left
            · (intro y hy; go_simp; try (with_reducible rfl))
            simp only [Act.put, List.setIfInBounds_toArray, List.set_cons_zero, List.set_cons_succ]
            refine wpAnyH_ready (rs := [29]) (by kernel_rfl) (by simp) ?_
            refine AllReadyH.cons (o := { dst := none, op := Op.store 22 (Operand.tmp 109) (Operand.tmp 108), type := 0, pos := "ref.go:69", after := #[{ on := 28, ground := Ground.data }, { on := 27, ground := Ground.data }, { on := 27, ground := Ground.chain }, { on := 0, ground := Ground.phase }, { on := 1, ground := Ground.phase }, { on := 2, ground := Ground.phase }, { on := 3, ground := Ground.phase }, { on := 4, ground := Ground.phase }, { on := 5, ground := Ground.phase }, { on := 6, ground := Ground.phase }, { on := 7, ground := Ground.phase }, { on := 8, ground := Ground.phase }, { on := 9, ground := Ground.phase }, { on := 10, ground := Ground.phase }, { on := 11, ground := Ground.phase }, { on := 12, ground := Ground.phase }, { on := 13, ground := Ground.phase }, { on := 14, ground := Ground.phase }, { on := 15, ground := Ground.phase }, { on := 16, ground := Ground.phase }, { on := 17, ground := Ground.phase }, { on := 18, ground := Ground.phase }, { on := 19, ground := Ground.phase }, { on := 20, ground := Ground.phase }, { on := 21, ground := Ground.phase }, { on := 22, ground := Ground.phase }, { on := 23, ground := Ground.phase }, { on := 24, ground := Ground.phase }, { on := 25, ground := Ground.phase }, { on := 26, ground := Ground.phase }, { on := 27, ground := Ground.phase }], guard := none }) rfl (fun K hK => ?_) AllReadyH.nil
            have HSS : Hid ((w4.setCell ⟨wo.heap.size, 5, none⟩ (.slice (some ⟨g4, 0, none⟩) (k + 1) cap4)).heap[b3]? = wr.heap[b3]?) := (heap_setCell_other w4 ⟨wo.heap.size, 5, none⟩ b3 _ (by have := HLB.out; show b3 ≠ wo.heap.size; omega)).trans HSA.out
            go_simp
            (refine hK _ _ HSS.out ?_; clear hK K; intro _)
            try simp only [Act.put, List.setIfInBounds_toArray, List.set_cons_zero, List.set_cons_succ]
            refine wpAnyH_done (by kernel_rfl) ?_ _
            have hst := DI.step (x := ⟨toI X0, toI X1, toI X2, toI X3⟩) HDI.out HB5.out HROW.out.1 (by rw [HTL.out.1]; exact HO5.out) HG4.out (by rw [HTL.out.1]; exact HO4.out) (by have := HLW.out; omega) (by have := HLW.out; omega) (by have := HLW.out; omega) 0
            have HST : Hid (_) := hst
            clear hst d5 d5f
            go_wp2
            go_roundw
            case rel => exact ⟨k + 1, I + 4, by go_num, (by have := HIK.out; show _ = _; omega), HKL.out, by omega, by rw [HTL.out.2]; exact HST.out.2.2, HKE.out.trans HST.out.2.1⟩
            case measure => simp [intOf]; omega
        · have dI : decide ((I : Int) + 3 < (u : Int)) = false := by simp; omega
          have hkz : k = (smsOf r).length := by have := HIK.out; have := HUL.out.2; have := smsOf_len r; omega
          have hdi := HDI.out
          rw [hkz, List.take_length] at hdi
          obtain ⟨⟨v5, hv5, hr5⟩, hz5, hb5, hs5⟩ := hdi
          obtain ⟨z, hz⟩ : ∃ z, (smsOf r).length = z := ⟨_, rfl⟩
          have HZL : Hid ((smsOf r).length = z) := hz
          have hz256 : z ≤ 257 := by have := HUL.out.2; have := smsOf_len r; omega
          obtain ⟨a5, c5, hvv, _, _, hsm, _⟩ := hr5.shape
          rw [hz] at hvv
          subst hvv
          have HS5 : Hid (Sms wr a5 (smsOf r)) := hsm
          have HB0 : Hid (Below w.heap.size w wr) := hb5
          have HM0 : Hid (MfAt wr w.heap.size zeroM (.slice none 0 0)) := hz5
          have HV0 : Hid (MfAt wr wo.heap.size ⟨(S : Int), toI y0, toI y1, toI y2, toI y3, smsOf r⟩ (.slice a5 z c5)) := hv5
          have HR0 : Hid (OwnSm wr W4.heap.size (.slice a5 z c5) (smsOf r)) := hr5
          have TL1 : Hid True := trivial
          have TE1 : Hid True := trivial
          clear hkz hz hv5 hr5 hz5 hb5 hs5 hsm HDI HKE hIc
          rcases HRR.out with ⟨hv, hf, hRM, hRE⟩ | ⟨hv, hf, hRM, hRE⟩ | ⟨hv, hRM, hRE⟩
          · have HEE : Hid (mfE ⟨(S : Int), toI y0, toI y1, toI y2, toI y3, smsOf r⟩ = 0) := by show _ = _; rw [← HMC.out]; exact if_pos hv
            have HLL : Hid (mfL ⟨(S : Int), toI y0, toI y1, toI y2, toI y3, smsOf r⟩ = l) := by show _ = _; rw [← HMC.out]; exact hf
            have HRES : Hid (RM = ⟨(S : Int), toI y0, toI y1, toI y2, toI y3, smsOf r⟩ ∧ RE = 0) := ⟨by rw [hRM, HMC.out], hRE⟩
            clear hv hf hRM hRE HRR HMC HALL HD
            go_wp2_with (first
                | ((with_reducible refine frm_load 24 ?_); clear TL1; refine wpList_load_mf rfl _ rfl HV0.out rfl ?_)
                | (go_at_call 8; clear TE1; refine (rmenc_any ⟨(S : Int), toI y0, toI y1, toI y2, toI y3, smsOf r⟩ z a5 c5 _ HZL.out HS5.out (by unfold maxLen; omega) trivial).mono ?_; rw [HEE.out]; rintro _ q1 ⟨v1, rfl, ho, hb⟩; rw [HLL.out] at ho; obtain ⟨a6, c6, hv6, hc6, _, hy6, _⟩ := ho.shape; rw [HX.out.1] at hv6; subst hv6; have HB1 : Hid (Below w.heap.size w q1) := below_next HB0.out hb; have HM1 : Hid (MfAt q1 w.heap.size zeroM (.slice none 0 0)) := HM0.out.after hb; have HV1 : Hid (MfAt q1 wo.heap.size ⟨(S : Int), toI y0, toI y1, toI y2, toI y3, smsOf r⟩ (.slice a5 z c5)) := HV0.out.after hb; have HR1 : Hid (OwnSm q1 W4.heap.size (.slice a5 z c5) (smsOf r)) := HR0.out.keep hb; have HE1 : Hid (Bytes q1 a6 l) := hy6; clear ho hb hy6 hc6)
                | (go_at_call 10; refine (same_yes l n n a6 a c6 cap _ HX.out.1 HX.out.1 HE1.out (HX.out.2.1.keep HB1.out) HNM.out).mono ?_; rintro _ q2 ⟨rfl, hb⟩; have HB2 : Hid (Below w.heap.size w q2) := below_next HB1.out hb; have HM2 : Hid (MfAt q2 w.heap.size zeroM (.slice none 0 0)) := HM1.out.after hb; have HV2 : Hid (MfAt q2 wo.heap.size ⟨(S : Int), toI y0, toI y1, toI y2, toI y3, smsOf r⟩ (.slice a5 z c5)) := HV1.out.after hb; have HR2 : Hid (OwnSm q2 W4.heap.size (.slice a5 z c5) (smsOf r)) := HR1.out.keep hb; have HE2 : Hid (Bytes q2 a6 l) := HE1.out.keep hb; clear hb)
                | ((with_reducible refine frm_load 24 ?_); refine wpList_load_mf rfl _ rfl HV2.out rfl ?_)
                | ((with_reducible refine frm_store 24 ?_); refine wpList_store_mf rfl _ _ rfl rfl HM2.out rfl (m2 := ⟨(S : Int), toI y0, toI y1, toI y2, toI y3, smsOf r⟩) (a2 := a5) (n2 := z) (c2 := c5) rfl ?_; intro z9 hf9 ho9 hh9 hs9; have HF9 : Hid (_) := hf9; have HB9 : Hid (Below w.heap.size w z9) := ho9 _ _ HB2.out (Nat.le_refl _); have HH9 : Hid (_) := hh9; clear hf9 ho9 hh9 hs9))
            (try simp only [Exit.inBlock, Exit.then])
            have hfin : OwnSm z9 w.heap.size (.slice a5 z c5) (smsOf r) := World.ownsRow.mono (OwnSm.otherM HR2.out (by have := HLW.out; omega) HH9.out) (by have := HLW.out; omega)
            exact bodyPost_ret (results_mf2 rfl _ _ w.heap.size _ rfl rfl HF9.out) rfl ⟨_, by rw [HRES.out.1, HRES.out.2]; rfl, by rw [HRES.out.1]; exact hfin, HB9.out⟩
          · have HEE : Hid (mfE ⟨(S : Int), toI y0, toI y1, toI y2, toI y3, smsOf r⟩ = 0) := by show _ = _; rw [← HMC.out]; exact if_pos hv
            have HLL : Hid (mfL ⟨(S : Int), toI y0, toI y1, toI y2, toI y3, smsOf r⟩ ≠ l) := by show _ ≠ _; rw [← HMC.out]; exact hf
            have HRES : Hid (RM = zeroM ∧ RE = 80) := ⟨hRM, hRE⟩
            clear hv hf hRM hRE HRR HMC HALL HD
            go_wp2_with (first
                | ((with_reducible refine frm_load 24 ?_); clear TL1; refine wpList_load_mf rfl _ rfl HV0.out rfl ?_)
                | (go_at_call 8; clear TE1; refine (rmenc_any ⟨(S : Int), toI y0, toI y1, toI y2, toI y3, smsOf r⟩ z a5 c5 _ HZL.out HS5.out (by unfold maxLen; omega) trivial).mono ?_; rw [HEE.out]; rintro _ q1 ⟨v1, rfl, ho, hb⟩; obtain ⟨a6, c6, hv6, hc6, _, hy6, _⟩ := ho.shape; obtain ⟨m6, hm6⟩ : ∃ m6, (mfL ⟨(S : Int), toI y0, toI y1, toI y2, toI y3, smsOf r⟩).length = m6 := ⟨_, rfl⟩; rw [hm6] at hv6; subst hv6; have HM6 : Hid ((mfL ⟨(S : Int), toI y0, toI y1, toI y2, toI y3, smsOf r⟩).length = m6) := hm6; have HM6L : Hid (m6 ≤ maxLen) := (by have h9 := mf_len ⟨(S : Int), toI y0, toI y1, toI y2, toI y3, smsOf r⟩; rw [hm6] at h9; show _ ≤ _; unfold maxLen; omega); have HB1 : Hid (Below w.heap.size w q1) := below_next HB0.out hb; have HM1 : Hid (MfAt q1 w.heap.size zeroM (.slice none 0 0)) := HM0.out.after hb; have HV1 : Hid (MfAt q1 wo.heap.size ⟨(S : Int), toI y0, toI y1, toI y2, toI y3, smsOf r⟩ (.slice a5 z c5)) := HV0.out.after hb; have HR1 : Hid (OwnSm q1 W4.heap.size (.slice a5 z c5) (smsOf r)) := HR0.out.keep hb; have HE1 : Hid (Bytes q1 a6 (mfL ⟨(S : Int), toI y0, toI y1, toI y2, toI y3, smsOf r⟩)) := hy6; clear ho hb hy6 hc6)
                | (go_at_call 10; refine (same_no (mfL ⟨(S : Int), toI y0, toI y1, toI y2, toI y3, smsOf r⟩) l m6 n a6 a c6 cap _ HLL.out HM6.out HX.out.1 HE1.out (HX.out.2.1.keep HB1.out) HM6L.out HNM.out).mono ?_; rintro _ q2 ⟨rfl, hb⟩; have HB2 : Hid (Below w.heap.size w q2) := below_next HB1.out hb; have HM2 : Hid (MfAt q2 w.heap.size zeroM (.slice none 0 0)) := HM1.out.after hb; have HV2 : Hid (MfAt q2 wo.heap.size ⟨(S : Int), toI y0, toI y1, toI y2, toI y3, smsOf r⟩ (.slice a5 z c5)) := HV1.out.after hb; have HR2 : Hid (OwnSm q2 W4.heap.size (.slice a5 z c5) (smsOf r)) := HR1.out.keep hb; have HE2 : Hid (Bytes q2 a6 (mfL ⟨(S : Int), toI y0, toI y1, toI y2, toI y3, smsOf r⟩)) := HE1.out.keep hb; clear hb)
                | ((with_reducible refine frm_store 24 ?_); refine wpList_store_mf rfl _ _ rfl rfl HM2.out rfl (m2 := zeroM) (a2 := none) (n2 := 0) (c2 := 0) rfl ?_; intro z9 hf9 ho9 hh9 hs9; have HF9 : Hid (_) := hf9; have HB9 : Hid (Below w.heap.size w z9) := ho9 _ _ HB2.out (Nat.le_refl _); have HH9 : Hid (_) := hh9; clear hf9 ho9 hh9 hs9))
            (try simp only [Exit.inBlock, Exit.then])
            exact bodyPost_ret (results_mf2 rfl _ _ w.heap.size _ rfl rfl HF9.out) rfl ⟨_, by rw [HRES.out.1, HRES.out.2]; rfl, by rw [HRES.out.1]; exact OwnSm.nil _ _, HB9.out⟩
          · have HEE : Hid (mfE ⟨(S : Int), toI y0, toI y1, toI y2, toI y3, smsOf r⟩ = 80) := by show _ = _; rw [← HMC.out]; exact if_neg (by rw [hv]; simp)
            have HRES : Hid (RM = zeroM ∧ RE = 80) := ⟨hRM, hRE⟩
            clear hv hRM hRE HRR HMC HALL HD
            go_wp2_with (first
                | ((with_reducible refine frm_load 24 ?_); clear TL1; refine wpList_load_mf rfl _ rfl HV0.out rfl ?_)
                | (go_at_call 8; clear TE1; refine (rmenc_any ⟨(S : Int), toI y0, toI y1, toI y2, toI y3, smsOf r⟩ z a5 c5 _ HZL.out HS5.out (by unfold maxLen; omega) trivial).mono ?_; rw [HEE.out]; rintro _ q1 ⟨v1, rfl, ho, hb⟩; obtain ⟨a6, c6, hv6, hc6, _, hy6, _⟩ := ho.shape; obtain ⟨m6, hm6⟩ : ∃ m6, (mfL ⟨(S : Int), toI y0, toI y1, toI y2, toI y3, smsOf r⟩).length = m6 := ⟨_, rfl⟩; rw [hm6] at hv6; subst hv6; have HM6 : Hid ((mfL ⟨(S : Int), toI y0, toI y1, toI y2, toI y3, smsOf r⟩).length = m6) := hm6; have HM6L : Hid (m6 ≤ maxLen) := (by have h9 := mf_len ⟨(S : Int), toI y0, toI y1, toI y2, toI y3, smsOf r⟩; rw [hm6] at h9; show _ ≤ _; unfold maxLen; omega); have HB1 : Hid (Below w.heap.size w q1) := below_next HB0.out hb; have HM1 : Hid (MfAt q1 w.heap.size zeroM (.slice none 0 0)) := HM0.out.after hb; have HV1 : Hid (MfAt q1 wo.heap.size ⟨(S : Int), toI y0, toI y1, toI y2, toI y3, smsOf r⟩ (.slice a5 z c5)) := HV0.out.after hb; have HR1 : Hid (OwnSm q1 W4.heap.size (.slice a5 z c5) (smsOf r)) := HR0.out.keep hb; have HE1 : Hid (Bytes q1 a6 (mfL ⟨(S : Int), toI y0, toI y1, toI y2, toI y3, smsOf r⟩)) := hy6; clear ho hb hy6 hc6)
                | ((with_reducible refine frm_store 24 ?_); refine wpList_store_mf rfl _ _ rfl rfl HM1.out rfl (m2 := zeroM) (a2 := none) (n2 := 0) (c2 := 0) rfl ?_; intro z9 hf9 ho9 hh9 hs9; have HF9 : Hid (_) := hf9; have HB9 : Hid (Below w.heap.size w z9) := ho9 _ _ HB1.out (Nat.le_refl _); have HH9 : Hid (_) := hh9; clear hf9 ho9 hh9 hs9))
            (try simp only [Exit.inBlock, Exit.then])
            exact bodyPost_ret (results_mf2 rfl _ _ w.heap.size _ rfl rfl HF9.out) rfl ⟨_, by rw [HRES.out.1, HRES.out.2]; rfl, by rw [HRES.out.1]; exact OwnSm.nil _ _, HB9.out⟩
end Go.Proofs.YtoneaannbmkeiaaDoor
