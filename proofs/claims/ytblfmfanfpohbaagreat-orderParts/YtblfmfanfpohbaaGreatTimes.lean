/- What the reference's Times answers. -/
import Derived.Test.YtblfmfanfpohbaaGreatTmath
import Derived.Test.YtblfmfanfpohbaaGreatPlus
namespace Go.Proofs.YtblfmfanfpohbaaGreat
open Go.ChangeShapes Go.WideShapes Go.ChangeAt Go.RowKit
/-- the four long numbers that lie in a call of Times -/
structure TimesAt (w wr : World) (s t : Bool) (x y z : Nat → Nat) : Prop where
  lx : LongAt wr w.heap.size s x
  ly : LongAt wr (w.heap.size + 1) t y
  lr : LongAt wr (w.heap.size + 1 + 1) false (fun _ => 0)
  lz : LongAt wr (w.heap.size + 1 + 1 + 1) false z
  bel : Below w.heap.size w wr
theorem lay4t (w : World) (b c : Bool) (x y : Nat → Nat) (X Y Z : Array Value) (hX : LA b x = X) (hY : LA c y = Y) (hZ : LA false (fun _ => 0) = Z) : TimesAt w ((((w.alloc (.cells X 61)).alloc (.cells Y 61)).alloc (.cells Z 61)).alloc (.cells Z 61)) b c x y (fun _ => 0) := by
  subst hX hY hZ
  refine ⟨?_, ?_, ?_, ?_, bal (bal (bel2 _ _ _) _) _⟩ <;> (unfold LongAt; simp only [World.alloc, Array.getElem?_push, Array.size_push]; first | (simp; done) | (rw [if_neg (by omega), if_neg (by omega)]; simp))
theorem TimesAt.put {w wr : World} {s t : Bool} {x y z : Nat → Nat} (h : TimesAt w wr s t x y z) (n k v : Nat) (hk : k < 16) : TimesAt w ((wr.drewN n).setCell ⟨w.heap.size + 1 + 1 + 1, 1 + k, none⟩ (.int .u64 (v : Int))) s t x y (upd z k v) :=
  ⟨(h.lx.drewN n).other _ _ (by simp; omega), (h.ly.drewN n).other _ _ (by simp), (h.lr.drewN n).other _ _ (by simp), (h.lz.drewN n).put k v hk, (below_drewN h.bel n).setCell (by simp; omega) _⟩
theorem TimesAt.put0 {w wr : World} {s t : Bool} {x y z : Nat → Nat} (h : TimesAt w wr s t x y z) (k v : Nat) (hk : k < 16) : TimesAt w (wr.setCell ⟨w.heap.size + 1 + 1 + 1, 1 + k, none⟩ (.int .u64 (v : Int))) s t x y (upd z k v) :=
  ⟨h.lx.other _ _ (by simp; omega), h.ly.other _ _ (by simp), h.lr.other _ _ (by simp), h.lz.put k v hk, h.bel.setCell (by simp; omega) _⟩
theorem flipped {w : World} {b : Nat} {s : Bool} {d : Nat → Nat} (h : LongAt w b s d) (t : Bool) : LongAt (w.setCell ⟨b, 0, none⟩ (.bool t)) b t d := by
  unfold LongAt
  rw [heap_setCell_same w b 0 _ _ _ h]
  rfl
set_option maxRecDepth 20000 in
set_option maxHeartbeats 2000000 in
theorem times_any (s t : Bool) (x y : Nat → Nat) (w : World) (hx : Dig x) (hy : Dig y) :
    Calls Tryz.prog 38 #[.agg (LA s x), .agg (LA t y)] w fun e w' => ∃ z, e = .returned (.agg (LA (s != t) z)) ∧ Dig z ∧ V z 16 = V x 8 * V y 8 ∧ Below w.heap.size w w' := by
  obtain ⟨X, hX⟩ : ∃ X, LA s x = X := ⟨_, rfl⟩
  obtain ⟨Y, hY⟩ : ∃ Y, LA t y = Y := ⟨_, rfl⟩
  have HL0 : Hid (TimesAt _ _ _ _ _ _ _) := lay4t w s t x y X Y #[Value.bool false, Value.int .u64 0, Value.int .u64 0, Value.int .u64 0, Value.int .u64 0, Value.int .u64 0, Value.int .u64 0, Value.int .u64 0, Value.int .u64 0, Value.int .u64 0, Value.int .u64 0, Value.int .u64 0, Value.int .u64 0, Value.int .u64 0, Value.int .u64 0, Value.int .u64 0, Value.int .u64 0] hX hY rfl
  have HDx : Hid (Dig x) := hx
  have HDy : Hid (Dig y) := hy
  rw [hX, hY]
  have hsx : X.size = 17 := by rw [← hX]; rfl
  have hsy : Y.size = 17 := by rw [← hY]; rfl
  clear hX hY hx hy
  go_enter Tryz.func38, Tryz.ntmps38
  go_wp2
  go_loopw [6, 7, 8, 9, 10, 11] (fun v6 _ _ _ _ _ wr => ∃ (i : Nat) (z : Nat → Nat), i ≤ 8 ∧ v6 = .int .i64 i ∧ Hid (Dig z ∧ V z 16 = V x i * V y 8) ∧ Hid (TimesAt w wr s t x y z)) (fun v6 _ _ _ _ _ _ => 8 - (intOf v6).toNat)
  case atStart => exact ⟨0, fun _ => 0, Nat.zero_le _, rfl, ⟨fun _ => by simp, Tm.v_nought y⟩, HL0.out⟩
  case round =>
    obtain ⟨i, z, hi, rfl, HI, HL⟩ := hrel
    by_cases hi8 : i < 8
    · have hd8 : decide ((i : Int) < 8) = true := by simp; omega
      go_wp2
      go_loopw [7, 8, 9] (fun v7 v8 _ wr2 => ∃ (j c : Nat) (z2 : Nat → Nat), j ≤ 8 ∧ v8 = .int .i64 j ∧ v7 = .int .u64 c ∧ c ≤ 65535 ∧ Hid (Dig z2 ∧ V z2 16 + c * 65536 ^ (i + j) = V x i * V y 8 + x i * 65536 ^ i * V y j) ∧ Hid (TimesAt w wr2 s t x y z2)) (fun _ v8 _ _ => 8 - (intOf v8).toNat)
      case atStart => exact ⟨0, 0, z, Nat.zero_le _, rfl, rfl, Nat.zero_le _, ⟨HI.out.1, Tm.begin_row HI.out.2⟩, HL.out⟩
      case round =>
        obtain ⟨j, c, z2, hj, rfl, rfl, hc, HJ, HM⟩ := hrel
        by_cases hj8 : j < 8
        · have hcx := HM.out.lx.digit i (by omega)
          have hcy := HM.out.ly.digit j (by omega)
          have hcz := HM.out.lz.digit (i + j) (by omega)
          have hfz := HM.out.lz.free (1 + (i + j))
          have b1 := HDx.out i
          have b2 := HDy.out j
          have b3 := HJ.out.1 (i + j)
          obtain ⟨xi, exi⟩ : ∃ v, x i = v := ⟨_, rfl⟩
          obtain ⟨yj, eyj⟩ : ∃ v, y j = v := ⟨_, rfl⟩
          obtain ⟨zm, ezm⟩ : ∃ v, z2 (i + j) = v := ⟨_, rfl⟩
          rw [exi] at hcx b1
          rw [eyj] at hcy b2
          rw [ezm] at hcz b3
          have hpb : xi * yj ≤ 65535 * 65535 := Nat.mul_le_mul (by omega) (by omega)
          obtain ⟨p, ep⟩ : ∃ p, p = xi * yj := ⟨_, rfl⟩
          rw [← ep] at hpb
          have f1 : IntKind.u64.wrap ((xi : Int) * (yj : Int)) = (p : Int) := by rw [← Int.natCast_mul, ← ep, IntKind.wrap_u64]; omega
          have f2 : (xi : Int) * (yj : Int) = (p : Int) := by rw [← Int.natCast_mul, ← ep]
          have HE : Hid (x i = xi ∧ y j = yj ∧ z2 (i + j) = zm ∧ p = xi * yj) := ⟨exi, eyj, ezm, ep⟩
          clear exi eyj ezm ep
          go_wp2
          go_quiet (fail)
          go_wp2
          go_round
          case rel =>
            obtain ⟨k1, k2⟩ := HJ.out
            obtain ⟨q1, q2, q3, q4⟩ := HE.out
            refine ⟨j + 1, (zm + p + c) / 65536, upd z2 (i + j) ((zm + p + c) % 65536), by omega, by go_num, ?_, by omega, ⟨k1.upd _ _ (by omega), ?_⟩, ?_⟩
            · exact congrArg _ (by omega)
            · have h1 := Tm.V_upd_any z2 (i + j) ((zm + p + c) % 65536) 16 (by omega)
              rw [q3] at h1
              exact Tm.inner_row q1 q2 q4 h1 k2
            · rw [show ((zm : Int) + p + c) % 65536 = (((zm + p + c) % 65536 : Nat) : Int) from by omega]
              exact HM.out.put _ (i + j) _ (by omega)
          case measure => first | (simp [intOf]; done) | (simp [intOf]; omega)
        · have hj9 : Hid (j = 8) := by show _ = _; omega
          have HT : Hid (Dig z2 ∧ V z2 16 + c * 65536 ^ (i + 8) = V x (i + 1) * V y 8) := by
            have h8 := HJ.out
            rw [hj9.out] at h8
            exact ⟨h8.1, h8.2.trans (Tm.next_row x y i)⟩
          have HTL : Hid (V x (i + 1) * V y 8 < 65536 ^ 16) := Tm.prod_lt HDx.out HDy.out (by omega)
          go_wp2
          go_loopw [7, 10, 11] (fun v7 v10 _ wr3 => ∃ (k c3 : Nat) (z3 : Nat → Nat), i + 8 ≤ k ∧ k ≤ 16 ∧ v10 = .int .i64 k ∧ v7 = .int .u64 c3 ∧ c3 ≤ 65535 ∧ Hid (Dig z3 ∧ V z3 16 + c3 * 65536 ^ k = V x (i + 1) * V y 8) ∧ Hid (TimesAt w wr3 s t x y z3)) (fun _ v10 _ _ => 16 - (intOf v10).toNat)
          case atStart => exact ⟨i + 8, c, z2, Nat.le_refl _, by omega, by go_num, rfl, hc, HT.out, HM.out⟩
          case round =>
            obtain ⟨k, c3, z3, hk8, hk, rfl, rfl, hc3, HK, HN⟩ := hrel
            by_cases hgo : k < 16 ∧ 0 < c3
            · obtain ⟨hk16, hc0⟩ := hgo
              have hcz := HN.out.lz.digit k hk16
              have hfz := HN.out.lz.free (1 + k)
              have b3 := HK.out.1 k
              obtain ⟨zk, ezk⟩ : ∃ v, z3 k = v := ⟨_, rfl⟩
              rw [ezk] at hcz b3
              have HE : Hid (z3 k = zk) := ezk
              clear ezk
              go_wp2
              go_round
              case rel =>
                obtain ⟨k1, k2⟩ := HK.out
                refine ⟨k + 1, (zk + c3) / 65536, upd z3 k ((zk + c3) % 65536), by omega, by omega, by go_num, ?_, by omega, ⟨k1.upd _ _ (by omega), ?_⟩, ?_⟩
                · exact congrArg _ (by omega)
                · have h1 := Tm.V_upd_any z3 k ((zk + c3) % 65536) 16 hk16
                  rw [HE.out] at h1
                  exact Tm.carry_row h1 k2
                · rw [show ((zk : Int) + c3) % 65536 = (((zk + c3) % 65536 : Nat) : Int) from by omega]
                  exact HN.out.put0 k _ hk16
              case measure => first | (simp [intOf]; done) | (simp [intOf]; omega)
            · have hc0 : c3 = 0 := by
                by_cases h16 : k < 16
                · omega
                · obtain rfl : k = 16 := by omega
                  exact Tm.no_carry HK.out.2 HTL.out
              subst hc0
              have HR : Hid (Dig z3 ∧ V z3 16 = V x (i + 1) * V y 8) := ⟨HK.out.1, Tm.drop_nought HK.out.2⟩
              by_cases h16 : k < 16
              · go_wp2
                go_round
                case rel => exact ⟨i + 1, z3, by omega, by go_num, HR.out, HN.out⟩
                case measure => first | (simp [intOf]; done) | (simp [intOf]; omega)
              · go_wp2
                go_round
                case rel => exact ⟨i + 1, z3, by omega, by go_num, HR.out, HN.out⟩
                case measure => first | (simp [intOf]; done) | (simp [intOf]; omega)
    · obtain rfl : i = 8 := by omega
      have hcx := HL.out.lx.sign
      have hcy := HL.out.ly.sign
      have hcz := HL.out.lz.sign
      have hfz := HL.out.lz.free 0
      have H3 : Hid (∀ r, LongAt (wr.setCell ⟨w.heap.size + 1 + 1 + 1, 0, none⟩ (.bool r)) (w.heap.size + 1 + 1 + 1) r z ∧ LongAt (wr.setCell ⟨w.heap.size + 1 + 1 + 1, 0, none⟩ (.bool r)) (w.heap.size + 1 + 1) false (fun _ => 0) ∧ Below w.heap.size w (wr.setCell ⟨w.heap.size + 1 + 1 + 1, 0, none⟩ (.bool r))) :=
        fun r => ⟨flipped HL.out.lz r, HL.out.lr.other _ _ (by simp), HL.out.bel.setCell (by simp; omega) _⟩
      have hI := HI.out
      have HI2 : Hid (_ ∧ _) := hI
      clear hI HI HL HL0
      cases s <;> cases t
      all_goals
        go_wp2_with (first
          | ((with_reducible refine guard_load 61 ?_); refine wpList_load_long rfl _ rfl (H3.out _).1 rfl ?_)
          | ((with_reducible refine guard_store 61 ?_); refine wpList_store_long rfl _ _ rfl (H3.out _).2.1 rfl rfl ?_; intro w2 hL2 hB2))
        refine bodyPost_ret (results_cell rfl _ _ _ _ rfl hL2.loadVar) rfl ?_
        exact ⟨z, rfl, HI2.out.1, HI2.out.2, hB2 _ _ (H3.out _).2.2 (by omega)⟩
end Go.Proofs.YtblfmfanfpohbaaGreat
