/- Own texts, joined: Sh1. -/
import Derived.Test.YtfnkhpijcbpeoaaDoorK52
import Derived.Test.YtfnkhpijcbpeoaaDoorK46
import Derived.Test.YtfnkhpijcbpeoaaDoorK24
import Derived.BigQuiet
import Derived.Deep.QuietTactic
namespace Go.Proofs.YtfnkhpijcbpeoaaDoor
open Go.ChangeShapes Go.WideShapes Go.ChangeAt Go.RowKit
set_option linter.unusedVariables false
theorem Tryd.infoU9 : (Tryd.prog.info? 62).map (fun i => (i.zero, i.size, i.bytes)) = some (some (.int .u64 0), 1, 8) := by kernel_rfl
def UL (l : List Nat) : List Value := l.map fun (n : Nat) => Value.int .u64 (n : Int)
theorem UL_snoc (xs : List Nat) (x : Nat) : UL (xs ++ [x]) = UL xs ++ [.int .u64 (x : Int)] := by simp [UL]
theorem ul_shape {w : World} {base n : Nat} {v : Value} {xs : List Value} (h : w.ownsRow base 62 1 v n xs) : ∃ a c, v = .slice a n c := by
  rcases h.2 with ⟨h1, h2⟩ | ⟨g, cp, cur, h1, _⟩
  · exact ⟨none, 0, by rw [h1, h2]⟩
  · exact ⟨_, cp, h1⟩
theorem ul_cells {w : World} {base n : Nat} {a : Option Addr} {c : Nat} {xs : List Nat} (h : w.ownsRow base 62 1 (.slice a n c) n (UL xs)) (hn : 0 < n) (hx : xs.length = n) : ∃ g, a = some ⟨g, 0, none⟩ ∧ g < w.heap.size ∧ ∀ j, j < n → w.cell? ⟨g, j, none⟩ = some (.int .u64 ((xs.getD j 0 : Nat) : Int)) := by
  rcases h.2 with ⟨h1, h2⟩ | ⟨g, cp, cur, h1, _, hg, _⟩
  · omega
  · injection h1 with h1a
    refine ⟨g, h1a, lt_of_heap hg, fun j hj => ?_⟩
    rw [h1a] at h
    have h5 := World.ownsRow.cellAt h j (by omega)
    rw [h5]
    unfold UL
    rw [List.getElem?_map, List.getElem?_eq_getElem (by omega), List.getD_eq_getElem?_getD, List.getElem?_eq_getElem (by omega)]
    rfl
theorem blk_far {x y : World} {base b n : Nat} {v : Value} {xs : List Value} (ho : x.ownsRow base 62 1 v n xs) (hx : b < base) (hlt : b < x.heap.size) (hg : x.grownBy y v.ownBlock) : y.heap[b]? = x.heap[b]? :=
  hg.block b hlt (fun hh => by
    rcases ho.2 with ⟨h1, _⟩ | ⟨g, cp, cur, h1, h2, _⟩
    · rw [h1] at hh; simp [Value.ownBlock] at hh
    · rw [h1] at hh; simp [Value.ownBlock] at hh; omega)
set_option maxRecDepth 20000 in
set_option maxHeartbeats 8000000 in
theorem rclosing_any (l : List Nat) (num first count foot : Int) (m : Nat) (ab : Option Addr) (capb : Nat) (w : World) (hm : l.length = m) (hb : Bytes w ab l) (hcapb : m ≤ capb) (hml : m ≤ 140737488351232) :
    Calls Tryd.prog 7 #[.slice ab m capb, SeV num first count foot] w fun e w' => ∃ v, e = .returned (.tuple #[v, .int .i64 (clS l num first count foot : Nat), .int .i64 (clE l num first count foot : Nat)]) ∧ OwnM w' w.heap.size v (clM l num first count foot) ∧ Below w.heap.size w w' := by
  have HB : Hid (Bytes w ab l ∧ l.length = m) := ⟨hb, hm⟩
  have hmem := hb.mem
  obtain ⟨j0, ji, jz0, jz1, jz2⟩ := info_parts Tryd.infoU9
  have HW0 : Hid (Below w.heap.size w (w.alloc (.cells #[.int .i64 num, .int .i64 first, .int .i64 count, .int .i64 foot] 24)) ∧ SeAt (w.alloc (.cells #[.int .i64 num, .int .i64 first, .int .i64 count, .int .i64 foot] 24)) w.heap.size num first count foot) := ⟨(Below.refl _ _).alloc (Nat.le_refl _) _, heap_alloc_new w _⟩
  clear hb hm
  by_cases hE : whE l 3 = 0
  · have h0 : decE l = 0 := by
      apply Decidable.byContradiction
      intro hc
      unfold whE at hE
      rw [if_pos hc] at hE
      exact hc hE
    obtain ⟨b1, b2, b3, b4, b5, b6, b7⟩ := decB_facts hmem h0
    obtain ⟨P, hP⟩ : ∃ P, pk l = P := ⟨_, rfl⟩
    obtain ⟨S, hS⟩ : ∃ S, ps l = S := ⟨_, rfl⟩
    obtain ⟨B, hB⟩ : ∃ B, pn l = B := ⟨_, rfl⟩
    have hwb : whB l 3 = decB l := (wv_good l 3 (.int .i64 0) hE).2
    have HWV : Hid (∀ v, WV l 3 v = .tuple #[FrV (P : Int) (S : Int) v, .int .i64 0]) := fun v => by rw [← hP, ← hS]; exact (wv_good l 3 v hE).1
    have HBL : Hid ((whB l 3).length = B) := by show _ = _; rw [hwb]; exact b3.trans hB
    have hBb : B ≤ 16384 := by omega
    by_cases hSN : (S : Int) = num
    · have hSb : ((S : Int) != num) = false := by simp; omega
      obtain ⟨D, hD⟩ : ∃ D, whB l 3 = D := ⟨_, rfl⟩
      have HDD : Hid (decB l = D) := hwb.symm.trans hD
      have HMM : Hid (∀ x ∈ D, x < 256) := by intro x hx; rw [← hD, hwb] at hx; exact b1 x hx
      have HX : Hid (clX l num first count foot = clT first count foot (nrB 3 D)) := by
        show _ = _
        unfold clX
        rw [if_pos ⟨hE, by rw [hS]; exact hSN⟩, HDD.out]
      rw [hD] at HBL
      have HDB : Hid (whB l 3 = D) := hD
      clear hP hS hB b1 b2 b3 b4 b5 b6 b7 h0 hE hwb hSN hmem hD
      go_enter Tryd.func7, Tryd.ntmps7
      go_wp2_with (first
        | (go_at_call 20; refine (rfwhole_any l 3 m ab capb _ HB.out.2 (HB.out.1.keep HW0.out.1) (by rw [HB.out.2]; omega) (by rw [HB.out.2]; omega)).mono ?_; rintro r w1 ⟨v1, rfl, ho1, hb1⟩; rw [HWV.out v1]; obtain ⟨a1, c1, hv1, hc1, _, hy1, _⟩ := ho1.shape; rw [HDB.out] at hy1 hv1 hc1; rw [HBL.out] at hv1 hc1; subst hv1; have HB1 : Hid (Below w.heap.size w w1 ∧ Bytes w1 a1 D ∧ SeAt w1 w.heap.size num first count foot) := ⟨HW0.out.1.trans (hb1.mono HW0.out.1.size), hy1, HW0.out.2.keep hb1⟩; obtain ⟨n0, n1, n2, n3⟩ := HB1.out.2.2.cells; have hlw1 : w.heap.size < w1.heap.size := lt_of_heap HB1.out.2.2; clear ho1 hb1 hy1)
        | fail)
      obtain ⟨W, hW⟩ : ∃ W, (w1.alloc (.cells #[.int .i64 (P : Int), .int .i64 (S : Int), .slice a1 B c1] 49)).alloc (.cells #[] 62) = W := ⟨_, rfl⟩
      have hWF : FrmAt W w1.heap.size (P : Int) (S : Int) (.slice a1 B c1) := by rw [← hW]; exact (FrmAt.new w1 (P : Int) (S : Int) (.slice a1 B c1)).keep ((Below.refl _ _).alloc (Nat.le_refl _) _)
      have hWB : Below w1.heap.size w1 W := by rw [← hW]; exact ((Below.refl _ _).alloc (Nat.le_refl _) _).alloc (by simp) _
      have hWO : W.ownsRow (w1.heap.size + 1) 62 1 (.slice (some ⟨w1.heap.size + 1, 0, none⟩) 0 0) 0 (UL []) := by
        have h := World.ownsRow_lit (w1.alloc (.cells #[.int .i64 (P : Int), .int .i64 (S : Int), .slice a1 B c1] 49)) (e := 62) (size := 1) #[] 0 (Nat.le_refl _) (by simp) rfl
        rw [hW] at h
        have h2 : W.ownsRow (w1.heap.size + 1) 62 1 (.slice (some ⟨w1.heap.size + 1, 0, none⟩) 0 0) 0 [] := by simpa using h
        exact h2
      have HWS : Hid (FrmAt W w1.heap.size (P : Int) (S : Int) (.slice a1 B c1) ∧ Below w1.heap.size w1 W ∧ W.ownsRow (w1.heap.size + 1) 62 1 (.slice (some ⟨w1.heap.size + 1, 0, none⟩) 0 0) 0 (UL [])) := ⟨hWF, hWB, hWO⟩
      rw [hW]
      clear hW hWF hWB hWO
      go_loopw [9, 10] (fun vv vi wr => ∃ (va : Option Addr) (k vc A : Nat) (acc : List Nat), vv = .slice va k vc ∧ k ≤ 3 ∧ vi = .int .i64 A ∧ A ≤ B ∧ Hid ((acc.length = k ∧ ∀ x ∈ acc, x ≤ 2199023255552) ∧ nrB 3 D = (nrB (3 - k) (D.drop A)).map (fun q => (acc ++ q.1, q.2)) ∧ wr.ownsRow (w1.heap.size + 1) 62 1 (.slice va k vc) k (UL acc) ∧ Below w1.heap.size w1 wr ∧ FrmAt wr w1.heap.size (P : Int) (S : Int) (.slice a1 B c1))) (fun vv _ _ => 3 - (match vv with | .slice _ k _ => k | _ => 0))
      case atStart => exact ⟨_, 0, 0, 0, [], rfl, by omega, rfl, Nat.zero_le _, ⟨rfl, fun x hx => by cases hx⟩, by simp, HWS.out.2.2, HWS.out.2.1, HWS.out.1⟩
      case round =>
        clear HWS n0 n1 n2 n3
        obtain ⟨va, k, vc, A, acc, rfl, hk, rfl, hA, HI⟩ := hrel
        have hAI : (A : Int) ≤ (B : Int) := by omega
        obtain ⟨q0, q1, q2⟩ := HI.out.2.2.2.2.cells
        have HBW : Hid (Below w.heap.size w wr) := below_next HB1.out.1 HI.out.2.2.2.1
        have HLD : Hid ((D.drop A).length = B - A) := by show _ = _; rw [List.length_drop, HBL.out]
        have HYD : Hid (Bytes wr a1 D) := HB1.out.2.1.keep HI.out.2.2.2.1
        have hsz := HI.out.2.2.2.1.size
        have hlt := lt_of_heap HI.out.2.2.2.2
        by_cases hk3 : k < 3
        · have hkI : (k : Int) < 3 := by omega
          rcases hd : dec 0 0 (D.drop A) with ⟨u, z, e⟩
          have HD : Hid (dec 0 0 (D.drop A) = (u, z, e)) := hd
          have hck : 3 - k = (3 - (k + 1)) + 1 := by omega
          by_cases he : e = 0
          · subst he
            have hf := vdec_form (D.drop A) (fun x hx => HMM.out x (List.mem_of_mem_drop hx)) (by rw [hd])
            rw [hd] at hf
            obtain ⟨_, f2, _, f4, _⟩ := hf
            simp only at f2 f4
            rw [HLD.out] at f2
            have hu0 : (0 : Int) ≤ (u : Int) := by omega
            by_cases hub : u ≤ 2199023255552
            · have hubI : decide ((2199023255552 : Int) < (u : Int)) = false := by simp; omega
              have HN : Hid (nrB 3 D = (nrB (3 - (k + 1)) (D.drop (A + z))).map (fun q => ((acc ++ [u]) ++ q.1, q.2))) := by
                have h := HI.out.2.1
                rw [hck] at h
                have h2 := nrB_go 3 D acc (D.drop A) _ u z hd hub h
                rw [List.drop_drop] at h2
                exact h2
              clear hd hck
              go_wp2_with (first
                | ((with_reducible refine at_slice ?_); refine wpList_slice_l2 rfl _ _ rfl rfl rfl hA hc1 HBL.out ?_; intro y hy; have HY : Hid (Bytes wr y (D.drop A)) := hy wr HYD.out; clear hy)
                | (go_at_call 21; refine (rdec_at (D.drop A) (B - A) u z 0 y (c1 - A) wr HLD.out HD.out HY.out (by rw [HLD.out]; unfold maxLen; omega)).mono ?_; rintro _ w2 ⟨rfl, rfl⟩)
                | (at_builtin; refine wpList_append_own _ rfl _ _ 61 rfl (w1.heap.size + 1) 62 j0 (.int .u64 0) 1 8 Tryd.underlying61 ji jz0 jz1 jz2 rfl (by decide) _ _ _ rfl (World.ownsRow.alloc HI.out.2.2.1 _) ⟨wr.heap.size, 0, none⟩ 1 1 [.int .u64 (u : Int)] rfl rfl (cell_new _ _ _) (one_new _) (by unfold maxLen; omega) (by omega) (by simp <;> omega) ?_; intro v6 w6 ho6 hg6 _; have HW6 : Hid (Below w1.heap.size w1 w6) := grown_row (HI.out.2.2.2.1.alloc hsz _) (World.ownsRow.mono (World.ownsRow.alloc HI.out.2.2.1 _) (Nat.le_succ _)) (by simp <;> omega) hg6; have HF6 : Hid (FrmAt w6 w1.heap.size (P : Int) (S : Int) (.slice a1 B c1)) := (blk_far (World.ownsRow.alloc HI.out.2.2.1 _) (by omega) (by simp <;> omega) hg6).trans (HI.out.2.2.2.2.keep ((Below.refl _ _).alloc (Nat.le_refl _) _)); obtain ⟨a6, c6, h6⟩ := ul_shape ho6; subst h6; have HE6 : Hid (w6.ownsRow (w1.heap.size + 1) 62 1 (.slice a6 (k + 1) c6) (k + 1) (UL (acc ++ [u]))) := (by show World.ownsRow _ _ _ _ _ _ _; rw [UL_snoc]; exact ho6); clear ho6 hg6))
              go_roundw
              case rel => exact ⟨a6, k + 1, c6, A + z, acc ++ [u], rfl, by omega, by go_num, by omega, ⟨by rw [List.length_append, HI.out.1.1]; rfl, fun x hx => by rcases List.mem_append.1 hx with h | h; exact HI.out.1.2 x h; rw [List.mem_singleton.1 h]; exact hub⟩, HN.out, HE6.out, HW6.out, HF6.out⟩
              case measure => simp; omega
            · have hubI : (2199023255552 : Int) < (u : Int) := by omega
              have HCL : Hid (clS l num first count foot = 0 ∧ clE l num first count foot = 70 ∧ clM l num first count foot = []) := by
                obtain ⟨h1, h2, h3⟩ := cl_none (l := l) (num := num) (first := first) (count := count) (foot := foot) (by rw [← clX_eq]; rw [HX.out, HI.out.2.1, hck, nrB_step _ _ _ _ _ hd, if_neg (fun h => hub h.2)]; rfl)
                exact ⟨h2, h1, h3⟩
              clear hd hck
              go_wp2_with (first
                | ((with_reducible refine at_slice ?_); refine wpList_slice_l2 rfl _ _ rfl rfl rfl hA hc1 HBL.out ?_; intro y hy; have HY : Hid (Bytes wr y (D.drop A)) := hy wr HYD.out; clear hy)
                | (go_at_call 21; refine (rdec_at (D.drop A) (B - A) u z 0 y (c1 - A) wr HLD.out HD.out HY.out (by rw [HLD.out]; unfold maxLen; omega)).mono ?_; rintro _ w2 ⟨rfl, rfl⟩))
              go_ret3
              exact ⟨.slice none 0 0, by rw [HCL.out.1, HCL.out.2.1]; rfl, by rw [HCL.out.2.2]; exact OwnM.nil _ _, HBW.out⟩
          · have heb : ((e : Int) != 0) = true := by simp; omega
            have HCL : Hid (clS l num first count foot = 0 ∧ clE l num first count foot = 70 ∧ clM l num first count foot = []) := by
              obtain ⟨h1, h2, h3⟩ := cl_none (l := l) (num := num) (first := first) (count := count) (foot := foot) (by rw [← clX_eq]; rw [HX.out, HI.out.2.1, hck, nrB_step _ _ _ _ _ hd, if_neg (fun h => he h.1)]; rfl)
              exact ⟨h2, h1, h3⟩
            clear hd hck
            go_wp2_with (first
              | ((with_reducible refine at_slice ?_); refine wpList_slice_l2 rfl _ _ rfl rfl rfl hA hc1 HBL.out ?_; intro y hy; have HY : Hid (Bytes wr y (D.drop A)) := hy wr HYD.out; clear hy)
              | (go_at_call 21; refine (rdec_at (D.drop A) (B - A) u z e y (c1 - A) wr HLD.out HD.out HY.out (by rw [HLD.out]; unfold maxLen; omega)).mono ?_; rintro _ w2 ⟨rfl, rfl⟩))
            go_ret3
            exact ⟨.slice none 0 0, by rw [HCL.out.1, HCL.out.2.1]; rfl, by rw [HCL.out.2.2]; exact OwnM.nil _ _, HBW.out⟩
        · obtain rfl : k = 3 := by omega
          obtain ⟨g, hva, hglt, hcl⟩ := ul_cells HI.out.2.2.1 (by omega) HI.out.1.1
          subst hva
          obtain ⟨u, v, st, hacc⟩ : ∃ u v st, acc = [u, v, st] := by
            have h3 := HI.out.1.1
            match acc, h3 with
            | [u, v, st], _ => exact ⟨u, v, st, rfl⟩
          subst hacc
          have g0 : wr.cell? ⟨g, 0, none⟩ = some (.int .u64 (u : Int)) := hcl 0 (by omega)
          have g1 : wr.cell? ⟨g, 1, none⟩ = some (.int .u64 (v : Int)) := hcl 1 (by omega)
          have g2 : wr.cell? ⟨g, 2, none⟩ = some (.int .u64 (st : Int)) := hcl 2 (by omega)
          have hub : u ≤ 2199023255552 := HI.out.1.2 u (by simp)
          have hvb : v ≤ 2199023255552 := HI.out.1.2 v (by simp)
          have hsb : st ≤ 2199023255552 := HI.out.1.2 st (by simp)
          obtain ⟨M, e2, hMD⟩ : ∃ M e2, mDec (D.drop A) = (M, e2) := ⟨_, _, rfl⟩
          have HMD : Hid (mDec (D.drop A) = (M, e2)) := hMD
          have HX2 : Hid (clX l num first count foot = if (e2 = 0 ∧ 1 ≤ v ∧ 1 ≤ st ∧ st ≤ 64 ∧ (u : Int) = first ∧ (v : Int) = count) ∧ lpB u st foot count 0 M = true then some (M, st) else none) := by
            show _ = _
            rw [HX.out, HI.out.2.1]
            show clT first count foot (some ([u, v, st] ++ [], D.drop A)) = _
            simp only [List.append_nil, clT]
            rw [hMD]
          obtain ⟨N, hNN⟩ : ∃ N, M.length = N := ⟨_, rfl⟩
          have HNN : Hid (M.length = N) := hNN
          have HN5 : Hid (e2 = 0 → N ≤ 512) := fun h0 => by
            have h9 := valid_len (mDec_valid (r := D.drop A) (by rw [hMD]; exact h0))
            rw [hMD] at h9
            rw [← hNN]; exact h9
          have HSE : Hid (SeAt wr w.heap.size num first count foot) := HB1.out.2.2.keep HI.out.2.2.2.1
          clear hcl hMD hNN
          go_wp2_with (first
            | ((with_reducible refine at_slice ?_); refine wpList_slice_l2 rfl _ _ rfl rfl rfl hA hc1 HBL.out ?_; intro y hy; have HY : Hid (Bytes wr y (D.drop A)) := hy wr HYD.out; clear hy)
            | (go_at_call 22; refine (rdec2_any (D.drop A) (B - A) y (c1 - A) wr HLD.out HY.out (by omega) (by omega)).mono ?_; rw [HMD.out]; rintro _ x2 ⟨v2, rfl, ho2, hb2⟩; obtain ⟨a2, c2, hv2, _, _, hm2, _⟩ := ho2.shape; simp only [HNN.out] at hv2; subst hv2; have HM2 : Hid (Marks x2 a2 M) := hm2; have HO2 : Hid (OwnM x2 wr.heap.size (.slice a2 N c2) M) := ho2; have HB2 : Hid (Below w.heap.size w x2) := below_next HBW.out hb2; have HS2 : Hid (SeAt x2 w.heap.size num first count foot) := HSE.out.keep hb2; obtain ⟨n0, n1, n2, n3⟩ := HS2.out.cells; have k0 := (hb2.cell (p := ⟨g, 0, none⟩) hglt).trans g0; have k1 := (hb2.cell (p := ⟨g, 1, none⟩) hglt).trans g1; have k2 := (hb2.cell (p := ⟨g, 2, none⟩) hglt).trans g2; clear ho2 hb2 hm2))
          clear g0 g1 g2 q0 q1 q2
          have huI : (u : Int) ≤ 2199023255552 := by omega
          have hvI : (v : Int) ≤ 2199023255552 := by omega
          have hsI : (st : Int) ≤ 2199023255552 := by omega
          have hu0 : (0 : Int) ≤ (u : Int) := by omega
          have hv0 : (0 : Int) ≤ (v : Int) := by omega
          have hs0 : (0 : Int) ≤ (st : Int) := by omega
          by_cases t0 : e2 = 0
          · have s0 : ((e2 : Int) != 0) = false := by simp; omega
            by_cases t1 : 1 ≤ v
            · have s1 : decide ((v : Int) < 1) = false := by simp; omega
              by_cases t2 : 1 ≤ st
              · have s2 : decide ((st : Int) < 1) = false := by simp; omega
                by_cases t3 : st ≤ 64
                · have s3 : decide ((64 : Int) < (st : Int)) = false := by simp; omega
                  by_cases t4 : (u : Int) = first
                  · have s4 : ((u : Int) != first) = false := by simp; omega
                    by_cases t5 : (v : Int) = count
                    · have s5 : ((v : Int) != count) = false := by simp; omega
                      subst t0
                      have hN5 : N ≤ 512 := HN5.out rfl
                      subst t4
                      subst t5
                      go_quiet (fail)
                      go_wp2
                      go_loopw [16, 112] (fun vl vi wr2 => ∃ (i : Nat) (Lf : Int), i ≤ N ∧ vi = .int .i64 i ∧ vl = .int .i64 Lf ∧ Lf ≤ 2199023255552 ∧ -32768 ≤ Lf ∧ Hid ((Lf = (v : Int) - ((i * st : Nat) : Int) ∧ lpB u st foot (v : Int) 0 M = lpB u st foot Lf i (M.drop i)) ∧ Below x2.heap.size x2 wr2)) (fun _ vi _ => N - (intOf vi).toNat)
                      case atStart => exact ⟨0, (v : Int), Nat.zero_le _, rfl, rfl, by omega, by omega, ⟨by simp, rfl⟩, below_drewN (Below.refl _ _) _⟩
                      case round =>
                        obtain ⟨i, Lf, hi, rfl, rfl, hLb, hLc, HJ⟩ := hrel
                        have hse := HS2.out.keep HJ.out.2
                        obtain ⟨m0, m1, m2, m3⟩ := hse.cells
                        have HBF : Hid (Below w.heap.size w _) := below_next HB2.out HJ.out.2
                        by_cases hiN : i < N
                        · obtain ⟨⟨px, pz⟩, hp⟩ := get_of_lt (L := M) (k := i) (by rw [HNN.out]; exact hiN)
                          rcases HM2.out.keep HJ.out.2 with h0 | ⟨b, off, hab, hltb, hclb⟩
                          · rw [h0] at hp; simp at hp
                          subst hab
                          obtain ⟨c0, c9⟩ := Marks.cells hclb i (px, pz) hp
                          simp only at c0 c9
                          have hdr : M.drop i = (px, pz) :: M.drop (i + 1) := by
                            rw [List.drop_eq_getElem_cons (by rw [HNN.out]; exact hiN)]
                            congr 1
                            exact (List.getElem?_eq_some_iff.1 hp).2
                          have HST : Hid (lpB u st foot (Lf) i (M.drop i) = if Lf ≤ 0 ∨ px ≠ ((u + i * st : Nat) : Int) ∨ foot ≤ pz then false else lpB u st foot (Lf - (st : Int)) (i + 1) (M.drop (i + 1))) := by show _ = _; rw [hdr]; rfl
                          obtain ⟨Z, hZ⟩ : ∃ Z, u + i * st = Z := ⟨_, rfl⟩
                          have hkst : i * st ≤ 512 * 64 := Nat.mul_le_mul (by omega) t3
                          have hSI : (u : Int) + (i : Int) * (st : Int) = (Z : Int) := by rw [← hZ]; push_cast; rfl
                          have hksI : (i : Int) * (st : Int) ≤ 32768 := by have : ((i * st : Nat) : Int) ≤ 32768 := (by omega); push_cast at this; exact this
                          have hks0 : (0 : Int) ≤ (i : Int) * (st : Int) := by have : (0 : Int) ≤ ((i * st : Nat) : Int) := (by omega); push_cast at this; exact this
                          have hZb : (Z : Int) ≤ 2199023288320 := by omega
                          rw [hZ] at HST
                          have hiI : (i : Int) < (N : Int) := by omega
                          have HL1 : Hid (Lf - (st : Int) = (v : Int) - (((i + 1) * st : Nat) : Int) ∧ -32768 ≤ Lf - (st : Int)) := by
                            have h1 := HJ.out.1.1
                            have h2 : (i + 1) * st ≤ 512 * 64 := Nat.mul_le_mul (by omega) t3
                            rw [Nat.succ_mul] at h2 ⊢
                            constructor <;> omega
                          clear hclb hp hdr
                          by_cases hl0 : Lf ≤ 0
                          · have HCL : Hid (clS l num (u : Int) (v : Int) foot = 0 ∧ clE l num (u : Int) (v : Int) foot = 70 ∧ clM l num (u : Int) (v : Int) foot = []) := by
                              obtain ⟨h1, h2, h3⟩ := cl_none (l := l) (num := num) (first := (u : Int)) (count := (v : Int)) (foot := foot) (by rw [← clX_eq]; rw [HX2.out, if_neg (fun h => by rw [HJ.out.1.2, HST.out, if_pos (.inl hl0)] at h; exact absurd h.2 (by simp))])
                              exact ⟨h2, h1, h3⟩
                            go_wp2
                            go_quiet (fail)
                            go_wp2
                            go_ret3
                            exact ⟨.slice none 0 0, by rw [HCL.out.1, HCL.out.2.1]; rfl, by rw [HCL.out.2.2]; exact OwnM.nil _ _, below_drewN HBF.out _⟩
                          · have hld : decide (Lf ≤ 0) = false := by simp; omega
                            by_cases hx : px = (Z : Int)
                            · have hxb : (px != (Z : Int)) = false := by simp; omega
                              by_cases hz : pz < foot
                              · have hzI : decide (foot ≤ pz) = false := by simp; omega
                                have HT : Hid (lpB u st foot (v : Int) 0 M = lpB u st foot (Lf - (st : Int)) (i + 1) (M.drop (i + 1))) := by
                                  show _ = _
                                  rw [HJ.out.1.2, HST.out, if_neg (by intro h; rcases h with h | h | h; exact hl0 h; exact h hx; omega)]
                                subst hx
                                go_wp2
                                go_quiet (fail)
                                go_wp2
                                go_roundw
                                case rel => exact ⟨i + 1, Lf - (st : Int), by omega, by go_num, by go_num, by omega, HL1.out.2, ⟨HL1.out.1, HT.out⟩, below_drewN HJ.out.2 _⟩
                                case measure => simp [intOf]; omega
                              · have hzI : foot ≤ pz := by omega
                                have HCL : Hid (clS l num (u : Int) (v : Int) foot = 0 ∧ clE l num (u : Int) (v : Int) foot = 70 ∧ clM l num (u : Int) (v : Int) foot = []) := by
                                  obtain ⟨h1, h2, h3⟩ := cl_none (l := l) (num := num) (first := (u : Int)) (count := (v : Int)) (foot := foot) (by rw [← clX_eq]; rw [HX2.out, if_neg (fun h => by rw [HJ.out.1.2, HST.out, if_pos (.inr (.inr hzI))] at h; exact absurd h.2 (by simp))])
                                  exact ⟨h2, h1, h3⟩
                                go_wp2
                                go_quiet (fail)
                                go_wp2
                                go_ret3
                                exact ⟨.slice none 0 0, by rw [HCL.out.1, HCL.out.2.1]; rfl, by rw [HCL.out.2.2]; exact OwnM.nil _ _, below_drewN HBF.out _⟩
                            · have hxb : (px != (Z : Int)) = true := by simp; omega
                              have HCL : Hid (clS l num (u : Int) (v : Int) foot = 0 ∧ clE l num (u : Int) (v : Int) foot = 70 ∧ clM l num (u : Int) (v : Int) foot = []) := by
                                obtain ⟨h1, h2, h3⟩ := cl_none (l := l) (num := num) (first := (u : Int)) (count := (v : Int)) (foot := foot) (by rw [← clX_eq]; rw [HX2.out, if_neg (fun h => by rw [HJ.out.1.2, HST.out, if_pos (.inr (.inl hx))] at h; exact absurd h.2 (by simp))])
                                exact ⟨h2, h1, h3⟩
                              go_wp2
                              go_quiet (fail)
                              go_wp2
                              go_ret3
                              exact ⟨.slice none 0 0, by rw [HCL.out.1, HCL.out.2.1]; rfl, by rw [HCL.out.2.2]; exact OwnM.nil _ _, below_drewN HBF.out _⟩
                        · obtain rfl : i = N := by omega
                          have HT : Hid (lpB u st foot (v : Int) 0 M = decide (Lf ≤ 0)) := by show _ = _; rw [HJ.out.1.2, List.drop_of_length_le (by rw [HNN.out]; exact Nat.le_refl _)]; rfl
                          by_cases hl0 : Lf ≤ 0
                          · have hld : decide ((0 : Int) < Lf) = false := by simp; omega
                            have HCL : Hid (clS l num (u : Int) (v : Int) foot = st ∧ clE l num (u : Int) (v : Int) foot = 0 ∧ clM l num (u : Int) (v : Int) foot = M) := by
                              obtain ⟨h1, h2, h3⟩ := cl_some (l := l) (num := num) (first := (u : Int)) (count := (v : Int)) (foot := foot) (M := M) (s := st) (by rw [← clX_eq, HX2.out, if_pos ⟨⟨by simp, t1, t2, t3, by simp, by simp⟩, by rw [HT.out]; exact decide_eq_true hl0⟩])
                              exact ⟨h2, h1, h3⟩
                            go_wp2
                            go_ret3
                            exact ⟨.slice a2 i c2, by rw [HCL.out.1, HCL.out.2.1]; rfl, by rw [HCL.out.2.2]; exact World.ownsRow.mono (OwnM.keep HO2.out HJ.out.2) HBW.out.size, HBF.out⟩
                          · have hld : (0 : Int) < Lf := by omega
                            have HCL : Hid (clS l num (u : Int) (v : Int) foot = 0 ∧ clE l num (u : Int) (v : Int) foot = 70 ∧ clM l num (u : Int) (v : Int) foot = []) := by
                              obtain ⟨h1, h2, h3⟩ := cl_none (l := l) (num := num) (first := (u : Int)) (count := (v : Int)) (foot := foot) (by rw [← clX_eq]; rw [HX2.out, if_neg (fun h => by have h9 := h.2; rw [HT.out] at h9; exact hl0 (of_decide_eq_true h9))])
                              exact ⟨h2, h1, h3⟩
                            go_wp2
                            go_ret3
                            exact ⟨.slice none 0 0, by rw [HCL.out.1, HCL.out.2.1]; rfl, by rw [HCL.out.2.2]; exact OwnM.nil _ _, HBF.out⟩
                    · have s5 : ((v : Int) != count) = true := by (simp; omega)
                      have HCL : Hid (clS l num first count foot = 0 ∧ clE l num first count foot = 70 ∧ clM l num first count foot = []) := by
                        obtain ⟨h1, h2, h3⟩ := cl_none (l := l) (num := num) (first := first) (count := count) (foot := foot) (by rw [← clX_eq]; rw [HX2.out, if_neg (fun h => t5 h.1.2.2.2.2.2)])
                        exact ⟨h2, h1, h3⟩
                      go_quiet (fail)
                      go_wp2
                      go_ret3
                      exact ⟨.slice none 0 0, by rw [HCL.out.1, HCL.out.2.1]; rfl, by rw [HCL.out.2.2]; exact OwnM.nil _ _, below_drewN HB2.out _⟩
                  · have s4 : ((u : Int) != first) = true := by (simp; omega)
                    have HCL : Hid (clS l num first count foot = 0 ∧ clE l num first count foot = 70 ∧ clM l num first count foot = []) := by
                      obtain ⟨h1, h2, h3⟩ := cl_none (l := l) (num := num) (first := first) (count := count) (foot := foot) (by rw [← clX_eq]; rw [HX2.out, if_neg (fun h => t4 h.1.2.2.2.2.1)])
                      exact ⟨h2, h1, h3⟩
                    go_quiet (fail)
                    go_wp2
                    go_ret3
                    exact ⟨.slice none 0 0, by rw [HCL.out.1, HCL.out.2.1]; rfl, by rw [HCL.out.2.2]; exact OwnM.nil _ _, below_drewN HB2.out _⟩
                · have s3 : (64 : Int) < (st : Int) := by omega
                  have HCL : Hid (clS l num first count foot = 0 ∧ clE l num first count foot = 70 ∧ clM l num first count foot = []) := by
                    obtain ⟨h1, h2, h3⟩ := cl_none (l := l) (num := num) (first := first) (count := count) (foot := foot) (by rw [← clX_eq]; rw [HX2.out, if_neg (fun h => t3 h.1.2.2.2.1)])
                    exact ⟨h2, h1, h3⟩
                  go_quiet (fail)
                  go_wp2
                  go_ret3
                  exact ⟨.slice none 0 0, by rw [HCL.out.1, HCL.out.2.1]; rfl, by rw [HCL.out.2.2]; exact OwnM.nil _ _, below_drewN HB2.out _⟩
              · have s2 : (st : Int) < 1 := by omega
                have HCL : Hid (clS l num first count foot = 0 ∧ clE l num first count foot = 70 ∧ clM l num first count foot = []) := by
                  obtain ⟨h1, h2, h3⟩ := cl_none (l := l) (num := num) (first := first) (count := count) (foot := foot) (by rw [← clX_eq]; rw [HX2.out, if_neg (fun h => t2 h.1.2.2.1)])
                  exact ⟨h2, h1, h3⟩
                go_quiet (fail)
                go_wp2
                go_ret3
                exact ⟨.slice none 0 0, by rw [HCL.out.1, HCL.out.2.1]; rfl, by rw [HCL.out.2.2]; exact OwnM.nil _ _, below_drewN HB2.out _⟩
            · have s1 : (v : Int) < 1 := by omega
              have HCL : Hid (clS l num first count foot = 0 ∧ clE l num first count foot = 70 ∧ clM l num first count foot = []) := by
                obtain ⟨h1, h2, h3⟩ := cl_none (l := l) (num := num) (first := first) (count := count) (foot := foot) (by rw [← clX_eq]; rw [HX2.out, if_neg (fun h => t1 h.1.2.1)])
                exact ⟨h2, h1, h3⟩
              go_quiet (fail)
              go_wp2
              go_ret3
              exact ⟨.slice none 0 0, by rw [HCL.out.1, HCL.out.2.1]; rfl, by rw [HCL.out.2.2]; exact OwnM.nil _ _, below_drewN HB2.out _⟩
          · have s0 : ((e2 : Int) != 0) = true := by (simp; omega)
            have HCL : Hid (clS l num first count foot = 0 ∧ clE l num first count foot = 70 ∧ clM l num first count foot = []) := by
              obtain ⟨h1, h2, h3⟩ := cl_none (l := l) (num := num) (first := first) (count := count) (foot := foot) (by rw [← clX_eq]; rw [HX2.out, if_neg (fun h => t0 h.1.1)])
              exact ⟨h2, h1, h3⟩
            go_quiet (fail)
            go_wp2
            go_ret3
            exact ⟨.slice none 0 0, by rw [HCL.out.1, HCL.out.2.1]; rfl, by rw [HCL.out.2.2]; exact OwnM.nil _ _, below_drewN HB2.out _⟩
    · have hSb : ((S : Int) != num) = true := by simp; omega
      have HCL : Hid (clS l num first count foot = 0 ∧ clE l num first count foot = 70 ∧ clM l num first count foot = []) := by
        obtain ⟨h1, h2, h3⟩ := cl_none (l := l) (num := num) (first := first) (count := count) (foot := foot) (by rw [← clX_eq]; unfold clX; rw [if_neg (fun h => hSN (by rw [← hS]; exact h.2))])
        exact ⟨h2, h1, h3⟩
      clear hP hS hB b1 b2 b3 b4 b5 b6 b7 h0 hE hwb hSN hmem
      go_enter Tryd.func7, Tryd.ntmps7
      go_wp2_with (first
        | (go_at_call 20; refine (rfwhole_any l 3 m ab capb _ HB.out.2 (HB.out.1.keep HW0.out.1) (by rw [HB.out.2]; omega) (by rw [HB.out.2]; omega)).mono ?_; rintro r w1 ⟨v1, rfl, ho1, hb1⟩; rw [HWV.out v1]; obtain ⟨a1, c1, hv1, hc1, _, hy1, _⟩ := ho1.shape; subst hv1; have HB1 : Hid (Below w.heap.size w w1 ∧ Bytes w1 a1 (whB l 3) ∧ SeAt w1 w.heap.size num first count foot) := ⟨HW0.out.1.trans (hb1.mono HW0.out.1.size), hy1, HW0.out.2.keep hb1⟩; obtain ⟨n0, n1, n2, n3⟩ := HB1.out.2.2.cells; have hlw1 : w.heap.size < w1.heap.size := lt_of_heap HB1.out.2.2; clear ho1 hb1 hy1)
        | fail)
      go_ret3
      exact ⟨.slice none 0 0, by rw [HCL.out.1, HCL.out.2.1]; rfl, by rw [HCL.out.2.2]; exact OwnM.nil _ _, HB1.out.1.alloc (Nat.le_of_lt hlw1) _⟩
  · have HWV : Hid (∀ v, WV l 3 v = .tuple #[FrV 0 0 v, .int .i64 (whE l 3 : Int)]) := fun v => (wv_bad l 3 v _ rfl hE).1
    have heb : ((whE l 3 : Int) != 0) = true := by simp; omega
    have HCL : Hid (clS l num first count foot = 0 ∧ clE l num first count foot = 70 ∧ clM l num first count foot = []) := by
      obtain ⟨h1, h2, h3⟩ := cl_none (l := l) (num := num) (first := first) (count := count) (foot := foot) (by rw [← clX_eq]; unfold clX; rw [if_neg (fun h => hE h.1)])
      exact ⟨h2, h1, h3⟩
    clear hE hmem
    go_enter Tryd.func7, Tryd.ntmps7
    go_wp2_with (first
      | (go_at_call 20; refine (rfwhole_any l 3 m ab capb _ HB.out.2 (HB.out.1.keep HW0.out.1) (by rw [HB.out.2]; omega) (by rw [HB.out.2]; omega)).mono ?_; rintro r w1 ⟨v1, rfl, ho1, hb1⟩; rw [HWV.out v1]; obtain ⟨a1, c1, hv1, hc1, _, hy1, _⟩ := ho1.shape; subst hv1; have HB1 : Hid (Below w.heap.size w w1 ∧ Bytes w1 a1 (whB l 3) ∧ SeAt w1 w.heap.size num first count foot) := ⟨HW0.out.1.trans (hb1.mono HW0.out.1.size), hy1, HW0.out.2.keep hb1⟩; obtain ⟨n0, n1, n2, n3⟩ := HB1.out.2.2.cells; have hlw1 : w.heap.size < w1.heap.size := lt_of_heap HB1.out.2.2; clear ho1 hb1 hy1)
      | fail)
    go_ret3
    exact ⟨.slice none 0 0, by rw [HCL.out.1, HCL.out.2.1]; rfl, by rw [HCL.out.2.2]; exact OwnM.nil _ _, HB1.out.1.alloc (Nat.le_of_lt hlw1) _⟩
end Go.Proofs.YtfnkhpijcbpeoaaDoor
