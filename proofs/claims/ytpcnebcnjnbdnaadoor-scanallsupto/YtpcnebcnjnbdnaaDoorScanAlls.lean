/- For every text: scan.All answers as the document says, leaves the text as it was, and the bodies are new memory. Condition: the arguments hold together at most 1048576 values and letters (the second form). -/
import Derived.Test.YtpcnebcnjnbdnaaDoorCrcTie
import Derived.Test.YtpcnebcnjnbdnaaDoorSc11
import Derived.Test.YtpcnebcnjnbdnaaDoorCopy
import Derived.Test.YtpcnebcnjnbdnaaDoorBulk
import Derived.Deep.CondSized
import Derived.SizedLaws
import Derived.ChangeOld
namespace Go.Proofs.YtpcnebcnjnbdnaaDoor.scanAlls
open Go.ChangeShapes Go.WideShapes Go.ChangeAt Go.RowKit
set_option linter.unusedVariables false
set_option maxRecDepth 20000 in
set_option maxHeartbeats 4000000 in
theorem walk (l : List Nat) (a : Option Addr) (cap : Nat) (w : World) (hb : Bytes w a l) (hc : Came w a l.length cap 1) (hsum : cap ≤ 1048576) (ht : Tab w) :
    Calls Tryd.prog 3 #[.slice a l.length cap] w fun e w' => e = .returned (.bool true) ∧ Below w.heap.size w w' := by
  obtain ⟨hf, hr, hn⟩ := hc
  have HB : Hid (Bytes w a l) := hb
  have HT : Hid (Tab w) := ht
  obtain ⟨n, hN⟩ : ∃ n, l.length = n := ⟨_, rfl⟩
  have HN : Hid (l.length = n) := hN
  have HCP : Hid (∀ w1, Below w.heap.size w w1 → Calls Tryd.prog 10 #[.slice a n cap] w1 fun e w' => ∃ v, e = .returned v ∧ Own w' w1.heap.size v l ∧ Below w1.heap.size w1 w') := fun w1 hb1 => by
    have := copy_any l a cap w1 (hb.keep hb1) (by omega)
    rw [hN] at this
    exact this
  rw [hN] at hf ⊢
  have hn2 : n ≤ 1048576 := by omega
  have HNC : Hid (n ≤ cap) := hf
  obtain ⟨EZ, hEZ⟩ : ∃ x, endZ 0 (scanL l) = x := ⟨_, rfl⟩
  obtain ⟨AE, hAE⟩ : ∃ x, allE l = x := ⟨_, rfl⟩
  have HE : Hid (endZ 0 (scanL l) = EZ ∧ allE l = AE) := ⟨hEZ, hAE⟩
  obtain ⟨N, hNN⟩ : ∃ N, (scanL l).length = N := ⟨_, rfl⟩
  have hN20 : 20 * N ≤ n := by have := scanL_count l; omega
  have HNN : Hid (∀ zs : List It, zs.map It.fm = scanL l → zs.length = N) := fun zs h => by rw [← hNN, ← h, List.length_map]
  clear hb ht hN hn hr hf hEZ hAE hNN
  go_enter Tryd.func3, Tryd.ntmps3
  go_wp2_with (first
    | (go_at_call 9; refine (head12_any w HT.out).mono ?_; rintro e w1 ⟨rfl, hb1⟩; have HB1 : Hid (Below w.heap.size w w1) := hb1; clear hb1)
    | (go_at_call 10; refine (HCP.out _ HB1.out).mono ?_; rintro r w2 ⟨v2, rfl, ho2, hb2⟩; obtain ⟨a2, c2, hv2, hc2, _, hy2, _⟩ := ho2.shape; rw [HN.out] at hv2 hc2; subst hv2; have HO2 : Hid (Own w2 w1.heap.size (.slice a2 n c2) l ∧ Bytes w2 a2 l ∧ n ≤ c2 ∧ Below w1.heap.size w1 w2) := ⟨ho2, hy2, hc2, hb2⟩; have HB2 : Hid (Below w.heap.size w w2) := below_next HB1.out hb2; clear ho2 hb2 hy2 hc2)
    | (go_at_call 11; refine (rall_any l n a cap _ HN.out (HB.out.keep HB2.out) HNC.out (by omega)).mono ?_; rw [HE.out.1, HE.out.2]; rintro e w3 ⟨xs, v3, rfl, hx3, hp3, hb3⟩; obtain ⟨a3, c3, rfl⟩ := hp3.shape; have hl3 := HNN.out xs hx3; rw [hl3] at hp3 ⊢; have HX3 : Hid (xs.map It.fm = scanL l ∧ OwnP w3 w2.heap.size (.slice a3 N c3) xs ∧ xs.length = N ∧ Below w2.heap.size w2 w3) := ⟨hx3, hp3, hl3, hb3⟩; have HB3 : Hid (Below w.heap.size w w3) := below_next HB2.out hb3; clear hx3 hp3 hb3 hl3)
    | (go_at_call 12; refine (all_any l n a2 c2 w4 HN.out ((HO2.out.2.1.keep HX3.out.2.2.2).keep HX4.out.2.2.2) HO2.out.2.2.1 (by omega) (HT.out.keep HB4.out)).mono ?_; rw [HE.out.1, HE.out.2]; rintro e w5 ⟨zs, v, rfl, hx, hr, hy, hb⟩; obtain ⟨a5, c5, rfl⟩ := row_shape hr; have hl := HNN.out zs hx; rw [hl] at hr ⊢; have HX5 : Hid (zs.map It.fm = scanL l ∧ OwnP w5 w4.heap.size (.slice a5 N c5) zs ∧ zs.length = N ∧ Below w4.heap.size w4 w5) := ⟨hx, OwnP.of (by rw [hl]; exact hr) hy, hl, hb⟩; have HB5 : Hid (Below w.heap.size w w5) := below_next HB4.out hb; clear hx hr hy hb hl)
    | (go_at_call 12; refine (all_any l n a2 c2 w3 HN.out (HO2.out.2.1.keep HX3.out.2.2.2) HO2.out.2.2.1 (by omega) (HT.out.keep HB3.out)).mono ?_; rw [HE.out.1, HE.out.2]; rintro e w4 ⟨ys, v, rfl, hx, hr, hy, hb⟩; obtain ⟨a4, c4, rfl⟩ := row_shape hr; have hl := HNN.out ys hx; rw [hl] at hr ⊢; have HX4 : Hid (ys.map It.fm = scanL l ∧ OwnP w4 w3.heap.size (.slice a4 N c4) ys ∧ ys.length = N ∧ Below w3.heap.size w3 w4) := ⟨hx, OwnP.of (by rw [hl]; exact hr) hy, hl, hb⟩; have HB4 : Hid (Below w.heap.size w w4) := below_next HB3.out hb; clear hx hr hy hb hl)
    | (go_at_call 13; refine (psame_any ys xs N a4 a3 _ _ w5 (HX4.out.1.trans HX3.out.1.symm) HX4.out.2.2.1 ((plc_of HX4.out.2.1 HX4.out.2.2.1).keep HX5.out.2.2.2) (((plc_of HX3.out.2.1 HX3.out.2.2.1).keep HX4.out.2.2.2).keep HX5.out.2.2.2) (by omega)).mono ?_; rintro e w6 ⟨rfl, hb6⟩; have HX6 : Hid (Below w5.heap.size w5 w6) := hb6; have HB6 : Hid (Below w.heap.size w w6) := below_next HB5.out hb6; clear hb6)
    | (go_at_call 14; refine (same_at l l n n a2 a _ _ w6 HN.out HN.out (((((HO2.out.2.1.keep HX3.out.2.2.2).keep HX4.out.2.2.2).keep HX5.out.2.2.2)).keep HX6.out) (HB.out.keep HB6.out) (by rw [HN.out]; unfold maxLen; omega) (by rw [HN.out]; unfold maxLen; omega)).mono ?_; simp only [decide_true]; rintro e w7 ⟨rfl, q7, rfl⟩))
  have HB7 : Hid (Below w5.heap.size w5 (w6.drewN q7)) := below_drewN HX6.out q7
  generalize w6.drewN q7 = W at *
  have HI0 : Hid (BI w3.heap.size w4.heap.size (.slice a4 N c4) ys W W) := BI.start HX4.out.2.1 (HX5.out.2.2.2.trans (HB7.out.mono HX5.out.2.2.2.size))
  have hNI : (N : Int) ≤ 1048576 := by omega
  have hnI : (n : Int) ≤ 1048576 := by omega
  go_loopw [60] (fun vi wr => ∃ i : Nat, i ≤ N ∧ vi = .int .i64 i ∧ BI w3.heap.size w4.heap.size (.slice a4 N c4) ys W wr) (fun vi _ => N - (intOf vi).toNat)
  case atStart => exact ⟨0, Nat.zero_le _, rfl, HI0.out⟩
  case round =>
    rename World => wr
    obtain ⟨i, hi, rfl, hBI⟩ := hrel
    have HBI : Hid (BI w3.heap.size w4.heap.size (.slice a4 N c4) ys W wr) := hBI
    clear hBI HI0
    by_cases hiN : i < N
    · obtain ⟨x, hx⟩ := lt_get (L := ys) (k := i) (by rw [HX4.out.2.2.1]; exact hiN)
      obtain ⟨g4, hv4, hlt4, k4⟩ := HBI.out.at2 i x hx
      subst hv4
      obtain ⟨l0, hl0, ho0⟩ := HBI.out.byt x (List.mem_of_getElem? hx)
      obtain ⟨ab, cb, hbv, hcb, _, _, _⟩ := ho0.shape
      rw [hl0] at hbv
      obtain ⟨L, hL⟩ : ∃ L, x.fm.body.length = L := ⟨_, rfl⟩
      rw [hL] at hbv
      rw [hbv] at k4
      have hLm : L ≤ 16384 := by
        rw [← hL]
        exact (scanL_facts l x.fm (by rw [← HX4.out.1]; exact List.mem_map.2 ⟨x, List.mem_of_getElem? hx, rfl⟩)).1
      have HXX : Hid (x ∈ ys ∧ ys[i]? = some x ∧ x.bv = .slice ab L cb ∧ x.fm.body.length = L) := ⟨List.mem_of_getElem? hx, hx, hbv, hL⟩
      have d0 : decide ((i : Int) < (N : Int)) = true := by simp; omega
      have hLI : (L : Int) ≤ 16384 := by omega
      clear hx hl0 ho0 hbv hL
      go_wp2
      go_loopw [70] (fun vj wa => ∃ j : Nat, j ≤ L ∧ vj = .int .i64 j ∧ BI w3.heap.size w4.heap.size (.slice (some ⟨g4, 0, none⟩) N c4) ys W wa) (fun vj _ => L - (intOf vj).toNat)
      case atStart => exact ⟨0, Nat.zero_le _, rfl, HBI.out⟩
      case round =>
        rename World => wa
        obtain ⟨j, hj, rfl, hBJ⟩ := hrel
        have HBJ : Hid (BI w3.heap.size w4.heap.size (.slice (some ⟨g4, 0, none⟩) N c4) ys W wa) := hBJ
        clear hBJ k4 hlt4
        by_cases hjL : j < L
        · obtain ⟨g5, hv5, hlt5, k5⟩ := HBJ.out.at2 i x HXX.out.2.1
          cases hv5
          rw [HXX.out.2.2.1] at k5
          obtain ⟨l1, hl1, ho1⟩ := HBJ.out.byt x HXX.out.1
          have hne : l1 ≠ [] := by rintro rfl; rw [HXX.out.2.2.2] at hl1; simp at hl1; omega
          obtain ⟨gb, cb2, hvb, _, hyb⟩ := ho1.row hne
          rw [hl1, HXX.out.2.2.2] at hvb
          have hvb2 := hvb
          rw [HXX.out.2.2.1] at hvb2
          cases hvb2
          have hl1L : l1.length = L := hl1.trans HXX.out.2.2.2
          obtain ⟨y, hy⟩ : ∃ y, y = l1.getD j 0 := ⟨_, rfl⟩
          have hy256 : y < 256 := by rw [hy]; exact ho1.1 j
          obtain ⟨e9, hlt9⟩ := xor255 y hy256
          have hor := ho1.2
          rw [hvb, hl1L] at hor
          have q2 := hor.cellAt j (by omega)
          rw [B8_get l1 j (by omega), ← hy] at q2
          have q3 := hor.frozenAt j
          have HST : Hid (BI w3.heap.size w4.heap.size (.slice (some ⟨g4, 0, none⟩) N c4) ys W (wa.setCell ⟨gb, j, none⟩ (.int .u8 ((y ^^^ 255 : Nat) : Int)))) := HBJ.out.set HXX.out.1 hvb j _ hlt9
          generalize y ^^^ 255 = z at *
          have d3 : decide ((j : Int) < (L : Int)) = true := by simp; omega
          clear hor hyb hy hlt9 ho1 hvb
          go_wp2
          go_roundw
          case rel => exact ⟨j + 1, by omega, by go_num, HST.out⟩
          case measure => simp [intOf]; omega
        · have d3 : decide ((j : Int) < (L : Int)) = false := by simp; omega
          go_wp2
          go_roundw
          case rel => exact ⟨i + 1, by omega, by go_num, HBJ.out⟩
          case measure => simp [intOf]; omega
    · have d0 : decide ((i : Int) < (N : Int)) = false := by simp; omega
      have HB3W : Hid (Below w3.heap.size w3 W) := HX4.out.2.2.2.trans ((HX5.out.2.2.2.trans (HB7.out.mono HX5.out.2.2.2.size)).mono HX4.out.2.2.2.size)
      have HB2r : Hid (Below w2.heap.size w2 wr) := HX3.out.2.2.2.trans ((HB3W.out.trans HBI.out.btw.low).mono HX3.out.2.2.2.size)
      have HM : Hid (Some8 wr w1.heap.size (.slice a2 n c2) n) := ⟨l, HN.out, HO2.out.1.1, own_below HO2.out.1.2 HB2r.out⟩
      have HZ : Hid (HX2W w2 w3 w4 w5 W wr) := ⟨HX3.out.2.2.2.size, HX4.out.2.2.2.size, HX5.out.2.2.2.size, HB7.out.size, HBI.out.btw.low.size, HB3W.out, HB7.out, HBI.out.btw⟩
      clear HBI HB3W
      go_wp2
      go_loopw [88] (fun vk wb => ∃ k : Nat, k ≤ n ∧ vk = .int .i64 k ∧ Some8 wb w1.heap.size (.slice a2 n c2) n ∧ Btw w1.heap.size w2.heap.size wr wb) (fun vk _ => n - (intOf vk).toNat)
      case atStart => exact ⟨0, Nat.zero_le _, rfl, HM.out, Btw.refl _ _ _⟩
      case round =>
        rename World => wb
        obtain ⟨k, hk, rfl, hS8, hbt⟩ := hrel
        have HS8 : Hid (Some8 wb w1.heap.size (.slice a2 n c2) n ∧ Btw w1.heap.size w2.heap.size wr wb) := ⟨hS8, hbt⟩
        clear HM hbt
        by_cases hkn : k < n
        · obtain ⟨l1, hl1, ho1⟩ := hS8
          have hne : l1 ≠ [] := by rintro rfl; simp at hl1; omega
          obtain ⟨gb, cb2, hvb, _, hyb⟩ := ho1.row hne
          rw [hl1] at hvb
          have hlo := HO2.out.1.2.lt gb (by rw [hvb]; simp [Value.ownBlock])
          have hvb2 := hvb
          cases hvb2
          have hor := ho1.2
          rw [hl1] at hor
          have q2 := hor.cellAt k (by omega)
          rw [B8_get l1 k (by omega)] at q2
          have q3 := hor.frozenAt k
          have HST : Hid (Some8 (wb.setCell ⟨gb, k, none⟩ (.int .u8 238)) w1.heap.size (.slice (some ⟨gb, 0, none⟩) n c2) n ∧ Btw w1.heap.size w2.heap.size wr (wb.setCell ⟨gb, k, none⟩ (.int .u8 238))) := ⟨HS8.out.1.set gb k 238 (by omega), HS8.out.2.set gb k _ hlo.1 hlo.2⟩
          have d3 : decide ((k : Int) < (n : Int)) = true := by simp; omega
          clear hor hyb ho1 hlo hl1 hne hvb
          go_wp2
          go_roundw
          case rel => exact ⟨k + 1, by omega, by go_num, HST.out.1, HST.out.2⟩
          case measure => simp [intOf]; omega
        · have d3 : decide ((k : Int) < (n : Int)) = false := by simp; omega
          have HQ : Hid (PlcA wb a5 zs) := plc_of (HX5.out.2.1.same (HZ.out.hi HS8.out.2)) HX5.out.2.2.1
          have HP : Hid (PlcA wb a3 xs) := plc_of (HX3.out.2.1.same (HZ.out.lo HS8.out.2)) HX3.out.2.2.1
          have HBw : Hid (Below w.heap.size w wb) := (HB2.out.trans (HB2r.out.mono HB2.out.size)).trans (HS8.out.2.low.mono HB1.out.size)
          clear hS8
          go_wp2_with (go_at_call 13; refine (psame_any zs xs N a5 a3 _ _ wb (HX5.out.1.trans HX3.out.1.symm) HX5.out.2.2.1 HQ.out HP.out (by omega)).mono ?_; rintro e w9 ⟨rfl, hb9⟩)
          go_ret
          exact ⟨rfl, below_next HBw.out hb9⟩
theorem own : ownKnob Tryd.prog.godebug = none := by kernel_rfl
theorem laidOut : laidOutB Tryd.prog = true := by kernel_rfl
set_option maxRecDepth 100000 in
theorem contract (H : Type) (enc : TypeId × Value → H) (W : World) (base : Nat) (args : Array Value) (ds gs : List (DataW H)) (before : List MemPlace)
    (hval : ∀ (j : Nat) t v, Tryd.f3.params[j]? = some t → args[j]? = some v → Value.okWide Tryd.prog W .any base t v)
    (hW : DataW.Whole enc Tryd.prog Tryd.f3.params.toList Rows.scanAllsSpec.vars false W args.toList ds gs before)
    (hsz : (DataW.weightsEach Tryd.prog (Tryd.f3.params.toList ++ Rows.scanAllsSpec.plain.varTypes Tryd.prog) (ds ++ gs)).all (· ≤ reachBytes) = true) (hk : Rows.uptoSmall H (ds ++ gs) = true) (hL : laidMetH Tryd.prog ([("daybook/crc.halves", Rows.laid_daybook_crc_halves)]) W) :
    Calls Tryd.prog 3 args W fun e W' => ∃ v, e = .returned v ∧ Rows.scanAllsSpec.post enc Tryd.prog Tryd.f3 false true false false W args v W' := by
  have hW' := hW
  obtain ⟨p, q, hA0, hV, rfl, hfz, hnd⟩ := hW
  have hA : DataW.TrodAll enc Tryd.prog W 0 (fun _ => true) true Tryd.f3.params.toList args.toList ds p := hA0
  rw [Tryd.params3] at hA hval hsz
  obtain ⟨v0, vs0, d0, ds0, p0, q0, hargs, rfl, rfl, h0, r0⟩ := trodAll_cons hA
  obtain ⟨rfl, rfl, rfl⟩ := trodAll_nil r0
  obtain rfl : args = #[v0] := by cases args; simp_all
  obtain ⟨rfl, rfl⟩ := trodVars_none hV
  obtain ⟨a0, len0, cap0, rfl⟩ := okWide_slice Tryd.underlying22 (hval 0 22 v0 rfl rfl)
  have k0 := h0
  have lt0 : ∀ x ∈ p0, x.block < W.heap.size := by obtain ⟨m, hm⟩ := k0; exact DataW.trod_lt m _ _ _ hm
  obtain ⟨l0, hlen0, w0, c0, u0⟩ : ∃ l : List Nat, l.length = len0 ∧ Bytes W a0 l ∧ Came W a0 len0 cap0 1 ∧ cap0 + 1 ≤ Rows.uptoBulk d0 := by
    obtain ⟨fuel, hf⟩ := h0
    rcases open_ints Tryd.underlying22 Tryd.underlying5 (by kernel_rfl) hf with ⟨hcs, hx⟩ | ⟨x, l, c, zs, hcs, _, hl, hm, hz, hx, hcell, hwz⟩
    · simp [Value.cells] at hcs
      obtain ⟨rfl, rfl, rfl⟩ := hcs
      obtain ⟨rfl, rfl⟩ := Prod.mk.inj hx
      exact ⟨[], rfl, ⟨by simp, .inl rfl⟩, ⟨Nat.le_refl _, by simp, fun _ => rfl⟩, by simp [Rows.uptoBulk]⟩
    · simp [Value.cells] at hcs
      obtain ⟨rfl, rfl, rfl⟩ := hcs
      have hz2 : zs.length = cap0 := by simpa using hz
      obtain ⟨ll, e1, e2, e3⟩ := row_nats .u8 256 (by decide) wf_u8 W x zs len0 (by omega) hcell hwz
      have hd : d0 = .slice (lits .u8 (zs.take len0)) (lits .u8 (zs.drop len0)) := (Prod.mk.inj hx).1
      have hreach : cap0 * 1 ≤ 140737488351232 := by
        have := sized_slice hsz (j := 0) (t := 22) (e := 5) rfl (by rw [hd]; rfl) Tryd.underlying22
        rw [show Tryd.prog.bytesOf 5 = 1 from by kernel_rfl] at this
        simp only [lits, List.length_map, List.length_take, List.length_drop, reachBytes] at this
        have hmin : min len0 zs.length = len0 := Nat.min_eq_left (by omega)
        rw [hmin] at this
        have hcap : len0 + (zs.length - len0) = cap0 := by omega
        rw [hcap] at this
        exact this
      refine ⟨ll, e1, ⟨e2, e3⟩, ⟨hl, hreach, fun h => by cases h⟩, ?_⟩
      rw [hd]
      have := bulks.slice_le (lits (H := H) .u8 (zs.take len0)) (lits .u8 (zs.drop len0))
      simp only [lits, List.length_map, List.length_take, List.length_drop] at this ⊢
      omega
  subst hlen0
  have hbk := bulks.bound hk
  simp only [List.append_nil, Rows.uptoBulkAll] at hbk
  have hsum : cap0 ≤ 1048576 := by omega
  clear hA0
  refine (walk l0 a0 cap0 W w0 c0 hsum (tab_of hL)).mono fun e W' ⟨he, bel⟩ => ?_
  subst he
  exact ⟨_, rfl, _, _, _, [], _, [], hW', trodAll_mk1 (shut_bool Tryd.underlying4 _), (trodAll_cons_mk (Below.trod laidOut (by kernel_rfl) (of_decide_eq_true (by kernel_rfl)) k0 bel lt0) trodAll_mk0), rfl, bel.frame _, fun h => by cases h⟩
set_option maxRecDepth 100000 in
theorem start (os : Os) : ∃ w0 : World, w0.os = os ∧ (w0.forCall (fun _ _ => 0) ⟨#[], #[.slice none 0 0], []⟩).variablesB Tryd.prog = true ∧
    ((w0.forCall (fun _ _ => 0) ⟨#[], #[.slice none 0 0], []⟩).heap.toList.drop Tryd.prog.globals.size).take ((begin Tryd.prog (fun _ _ => 0) default).world.heap.size - Tryd.prog.globals.size) = (begin Tryd.prog (fun _ _ => 0) default).world.heap.toList.drop Tryd.prog.globals.size ∧
    Input.okWideB Tryd.prog (w0.forCall (fun _ _ => 0) ⟨#[], #[.slice none 0 0], []⟩) 3 ⟨#[], #[.slice none 0 0], []⟩ = true ∧
    laidMet Tryd.prog Rows.scanAllsUptoRow.laid (w0.forCall (fun _ _ => 0) ⟨#[], #[.slice none 0 0], []⟩).memory ∧
    ∀ (H : Type) (enc : TypeId × Value → H), DataW.whole enc Tryd.prog (w0.forCall (fun _ _ => 0) ⟨#[], #[.slice none 0 0], []⟩).memory Tryd.f3.params.toList Rows.scanAllsSpec.vars false (#[.slice none 0 0] : Array Value).toList 8 = some ([.nil], [], []) :=
  ⟨{ World.holding Tryd.prog os ⟨#[], #[], []⟩ with heap := (World.holding Tryd.prog os ⟨#[], #[], []⟩).heap.modify 0 fun
      | .cells _ t frozen => .cells #[.int .u32 0, .int .u32 498536548, .int .u32 997073096, .int .u32 651767980, .int .u32 1994146192, .int .u32 1802195444, .int .u32 1303535960, .int .u32 1342533948, .int .u32 3988292384, .int .u32 4027552580, .int .u32 3604390888, .int .u32 3412177804, .int .u32 2607071920, .int .u32 2262029012, .int .u32 2685067896, .int .u32 3183342108] t frozen
      | o => o }, rfl, by kernel_rfl, by kernel_rfl, by kernel_rfl, laidMet_of_run' 8 (by kernel_rfl) (by kernel_rfl), fun _ _ => by kernel_rfl⟩
set_option maxRecDepth 100000 in
theorem lifted (os : Os) (started : os.Started) (H : Type) (enc : TypeId × Value → H) (F : Stop.Interp) :
    ReturnsInHanded {} Tryd.checked os 3 .any ((Rows.OpenSpec.upto Rows.scanAllsSpec).preRow enc Tryd.prog Tryd.f3 Rows.scanAllsUptoRow.domain false Rows.scanAllsUptoRow.laid) (((Rows.OpenSpec.upto Rows.scanAllsSpec).at F).post enc Tryd.prog Tryd.f3 false true false false) := by
  obtain ⟨w0, h1, h2, h3, h4, h5, h6⟩ := start os
  refine returnsInHanded_of_row (C := Tryd.checked) (s := Rows.OpenSpec.upto Rows.scanAllsSpec) own started (by kernel_rfl) Tryd.func3
    (witness_row_at (enc := enc) (C := Tryd.checked) false w0 #[.slice none 0 0] h1 h2 h3 h4
      (OpenSpec.preRow_of_cond 8 (h6 H enc) (by kernel_rfl) (fun k hk => by cases hk; kernel_rfl) (by kernel_rfl) h5)) ?_
  intro W base args ds gs before hval hW _ hcond hsz hL _ _
  exact contract H enc W base args ds gs before hval hW hsz (hcond _ rfl) hL
theorem said : Rows.ScanAllsUptoSaid :=
  OpenClaim.holds_of_cond 3 Tryd.f3 rfl rfl rfl rfl rfl rfl rfl ⟨rfl, rfl, rfl, rfl, rfl⟩ rfl rfl rfl rfl rfl (by kernel_rfl) Tryd.func3 (by kernel_rfl)
    (of_decide_eq_true (by kernel_rfl)) (by unfold Func.isWrapper; first | (rw [if_pos (by decide +kernel)]; kernel_rfl) | (rw [if_neg (by decide +kernel)]; exact ⟨rfl, rfl⟩))
    (fun os started H enc _ F => by rw [OpenClaim.pre_eq_preRow]; exact lifted os started H enc F)
theorem plain (f : FuncId) (fn : Func) (hf : Tryd.pinned.checked.prog.funcNamed "daybook/daybooklaw12.ScanAlls" = some f) (hfn : Tryd.pinned.checked.prog.funcs[f]? = some fn) :
    false = Tryd.pinned.checked.prog.looks [] ∧ ∀ (j : Nat) t, fn.params[j]? = some t → Tryd.pinned.checked.prog.wantsStandIn t = false := by
  obtain rfl : f = 3 := Option.some.inj ((show Tryd.prog.funcNamed "daybook/daybooklaw12.ScanAlls" = some 3 by kernel_rfl).symm.trans hf) |>.symm
  obtain rfl : fn = Tryd.f3 := (Option.some.inj (Tryd.func3.symm.trans hfn)).symm
  refine ⟨by kernel_rfl, fun j t ht => ?_⟩
  rw [Tryd.params3] at ht
  have hm := Array.mem_of_getElem? ht
  have hall : ∀ t ∈ (#[22] : Array TypeId), Tryd.prog.wantsStandIn t = false := by
    intro t ht
    simp only [List.mem_toArray, List.mem_cons, List.not_mem_nil, or_false] at ht
    rcases ht with rfl <;> kernel_rfl
  exact hall t hm
theorem card : Rows.ScanAllsUptoCardSaid :=
  Claim7.holds_tied_plain_at .later [] _ _ _ _ said (fun _ h => by cases h) (by kernel_rfl) (fun _ h => by cases h) scanAllsUpto_row_tie rfl ⟨rfl, rfl⟩ (by kernel_rfl) rfl plain (by kernel_rfl)
end Go.Proofs.YtpcnebcnjnbdnaaDoor.scanAlls
