/- What the reference's Sum answers. -/
import Derived.Test.YtblfmfanfpohbaaGreatPlus
import Derived.Test.YtblfmfanfpohbaaGreatInts
import Derived.Deep.RegionWith
namespace Go.Proofs.YtblfmfanfpohbaaGreat
open Go.ChangeShapes Go.WideShapes Go.ChangeAt Go.RowKit
theorem cells17s {w : World} {b : Nat} {s : Bool} {d : Nat → Nat} (h : LongAt w b s d) : w.cell? ⟨b, 0, none⟩ = some (.bool s) ∧ w.cell? ⟨b, 1, none⟩ = some (.int .u64 (d 0 : Int)) ∧ w.cell? ⟨b, 2, none⟩ = some (.int .u64 (d 1 : Int)) ∧ w.cell? ⟨b, 3, none⟩ = some (.int .u64 (d 2 : Int)) ∧ w.cell? ⟨b, 4, none⟩ = some (.int .u64 (d 3 : Int)) ∧ w.cell? ⟨b, 5, none⟩ = some (.int .u64 (d 4 : Int)) ∧ w.cell? ⟨b, 6, none⟩ = some (.int .u64 (d 5 : Int)) ∧ w.cell? ⟨b, 7, none⟩ = some (.int .u64 (d 6 : Int)) ∧ w.cell? ⟨b, 8, none⟩ = some (.int .u64 (d 7 : Int)) ∧ w.cell? ⟨b, 9, none⟩ = some (.int .u64 (d 8 : Int)) ∧ w.cell? ⟨b, 10, none⟩ = some (.int .u64 (d 9 : Int)) ∧ w.cell? ⟨b, 11, none⟩ = some (.int .u64 (d 10 : Int)) ∧ w.cell? ⟨b, 12, none⟩ = some (.int .u64 (d 11 : Int)) ∧ w.cell? ⟨b, 13, none⟩ = some (.int .u64 (d 12 : Int)) ∧ w.cell? ⟨b, 14, none⟩ = some (.int .u64 (d 13 : Int)) ∧ w.cell? ⟨b, 15, none⟩ = some (.int .u64 (d 14 : Int)) ∧ w.cell? ⟨b, 16, none⟩ = some (.int .u64 (d 15 : Int)) :=
  ⟨h.sign, h.digit 0 (by omega), h.digit 1 (by omega), h.digit 2 (by omega), h.digit 3 (by omega), h.digit 4 (by omega), h.digit 5 (by omega), h.digit 6 (by omega), h.digit 7 (by omega), h.digit 8 (by omega), h.digit 9 (by omega), h.digit 10 (by omega), h.digit 11 (by omega), h.digit 12 (by omega), h.digit 13 (by omega), h.digit 14 (by omega), h.digit 15 (by omega)⟩
theorem free17 {w : World} {b : Nat} {s : Bool} {d : Nat → Nat} (h : LongAt w b s d) : w.frozen? ⟨b, 0, none⟩ = false ∧ w.frozen? ⟨b, 1, none⟩ = false ∧ w.frozen? ⟨b, 2, none⟩ = false ∧ w.frozen? ⟨b, 3, none⟩ = false ∧ w.frozen? ⟨b, 4, none⟩ = false ∧ w.frozen? ⟨b, 5, none⟩ = false ∧ w.frozen? ⟨b, 6, none⟩ = false ∧ w.frozen? ⟨b, 7, none⟩ = false ∧ w.frozen? ⟨b, 8, none⟩ = false ∧ w.frozen? ⟨b, 9, none⟩ = false ∧ w.frozen? ⟨b, 10, none⟩ = false ∧ w.frozen? ⟨b, 11, none⟩ = false ∧ w.frozen? ⟨b, 12, none⟩ = false ∧ w.frozen? ⟨b, 13, none⟩ = false ∧ w.frozen? ⟨b, 14, none⟩ = false ∧ w.frozen? ⟨b, 15, none⟩ = false ∧ w.frozen? ⟨b, 16, none⟩ = false :=
  ⟨h.free 0, h.free 1, h.free 2, h.free 3, h.free 4, h.free 5, h.free 6, h.free 7, h.free 8, h.free 9, h.free 10, h.free 11, h.free 12, h.free 13, h.free 14, h.free 15, h.free 16⟩
theorem lay2z (w : World) (Z : Array Value) (hZ : LA false (fun _ => 0) = Z) : LongAt ((w.alloc (.cells Z 61)).alloc (.cells Z 61)) w.heap.size false (fun _ => 0) ∧ LongAt ((w.alloc (.cells Z 61)).alloc (.cells Z 61)) (w.heap.size + 1) false (fun _ => 0) ∧ Below w.heap.size w ((w.alloc (.cells Z 61)).alloc (.cells Z 61)) := by
  subst hZ
  refine ⟨?_, ?_, bel2 _ _ _⟩ <;> (unfold LongAt; simp only [World.alloc, Array.getElem?_push, Array.size_push]; simp)
theorem step_load_long {ops : Array Oper} {o : Oper} {a : Act} {w : World} {K : Act → World → Prop} {Q : Exit → Act → World → Prop} {E : Prop} (hg : o.guard = none) (x : Operand) (ho : o.op = .load 61 x)
    {b : Nat} {s : Bool} {d : Nat → Nat} (hL : LongAt w b s d) (hx : a.eval x = .pointer (some ⟨b, 0, none⟩)) (hK : K (a.put o.dst (.agg (LA s d))) w) :
    if Region.wanted o (yielded ops a.tmps) = true then Oper.wp Tryz.prog o a w K Q else E := by
  have hw : Region.wanted o (yielded ops a.tmps) = true := by simp [Region.wanted, hg]
  rw [if_pos hw]
  unfold Oper.wp execOp
  simp only [ho, hx, Sem.run_bind, Sem.run_pure, Result.andThen_ok, hL.load]
  exact hK
theorem step_store_long {ops : Array Oper} {o : Oper} {a : Act} {w : World} {K : Act → World → Prop} {Q : Exit → Act → World → Prop} {E : Prop} (hg : o.guard = none) (x y : Operand) (ho : o.op = .store 61 x y)
    {b : Nat} {s s2 : Bool} {d d2 : Nat → Nat} (hL : LongAt w b s d) (hx : a.eval x = .pointer (some ⟨b, 0, none⟩)) (hy : a.eval y = .agg (LA s2 d2))
    (hK : ∀ w2, LongAt w2 b s2 d2 → (∀ B a, Below B a w → B ≤ b → Below B a w2) → K (a.put o.dst undef) w2) :
    if Region.wanted o (yielded ops a.tmps) = true then Oper.wp Tryz.prog o a w K Q else E := by
  have hw : Region.wanted o (yielded ops a.tmps) = true := by simp [Region.wanted, hg]
  rw [if_pos hw]
  obtain ⟨w2, h1, h2, h3⟩ := hL.store s2 d2
  unfold Oper.wp execOp
  simp only [ho, hx, hy, Sem.run_bind, Sem.run_pure, Result.andThen_ok, h1]
  exact hK w2 h2 h3
theorem nought_sum (l : List Int) : sgn false (V (fun _ => 0) 16) = (l.take 0).sum := by
  rw [V_zero (x := fun _ => 0) (n := 0) 16 (fun _ _ _ => rfl) (by omega)]
  rfl
theorem sum_small (l : List Int) (h : ∀ x ∈ l, inI x) (hl : l.length ≤ maxLen) (k : Nat) : (l.take k).sum.natAbs + 9223372036854775808 < 65536 ^ 16 := by
  have h1 := sum_range l h hl k
  have h2 : (2 : Nat) ^ 128 ≤ 65536 ^ 16 := by decide
  refine Nat.lt_of_lt_of_le ?_ h2
  omega
theorem small_step {S x : Int} {P : Nat} (h : S.natAbs + 9223372036854775808 < P) (hx : inI x) : S.natAbs + x.natAbs < P := by
  unfold inI at hx
  omega
set_option maxRecDepth 20000 in
set_option maxHeartbeats 4000000 in
theorem rsum_any (l : List Int) (n : Nat) (a : Option Addr) (cap : Nat) (w : World) (hn : l.length = n) (hI : Ints w a l) (hl : n ≤ maxLen) :
    Calls Tryz.prog 33 #[.slice a n cap] w fun e w' => ∃ v, e = .returned v ∧ IsL v l.sum ∧ Below w.heap.size w w' := by
  have HN : Hid (l.length = n) := hn
  have HI : Hid (Ints w a l) := hI
  have HS : Hid (∀ k, (l.take k).sum.natAbs + 9223372036854775808 < 65536 ^ 16) := sum_small l hI.1 (by rw [hn]; exact hl)
  have hl2 : (n : Int) ≤ 9223372036854775807 := by unfold maxLen at hl; omega
  have HL0 : Hid (_ ∧ _ ∧ _) := lay2z w #[Value.bool false, Value.int .u64 0, Value.int .u64 0, Value.int .u64 0, Value.int .u64 0, Value.int .u64 0, Value.int .u64 0, Value.int .u64 0, Value.int .u64 0, Value.int .u64 0, Value.int .u64 0, Value.int .u64 0, Value.int .u64 0, Value.int .u64 0, Value.int .u64 0, Value.int .u64 0, Value.int .u64 0] rfl
  clear hn hI hl
  go_enter Tryz.func33, Tryz.ntmps33
  go_wp2
  go_loopw [4] (fun vi wr => ∃ (k : Nat) (s : Bool) (d : Nat → Nat), k ≤ n ∧ vi = .int .i64 k ∧ Hid (Dig d ∧ sgn s (V d 16) = (l.take k).sum) ∧ Hid (LongAt wr w.heap.size false (fun _ => 0) ∧ LongAt wr (w.heap.size + 1) s d ∧ Below w.heap.size w wr)) (fun vi _ => n - (intOf vi).toNat)
  case atStart => exact ⟨0, false, fun _ => 0, Nat.zero_le _, rfl, ⟨fun _ => by simp, nought_sum l⟩, HL0.out⟩
  case round =>
    obtain ⟨k, s, d, hk, rfl, HD, HL⟩ := hrel
    by_cases hkn : k < n
    · have hIw := HI.out.keep HL.out.2.2
      obtain ⟨b, off, ha, hx⟩ : ∃ b off, a = some ⟨b, off, none⟩ ∧ wr.cell? ⟨b, off + k, none⟩ = some (.int .i64 (l.getD k 0)) := by
        rcases hIw.2 with h | ⟨b, off, ha, _, hc⟩
        · have := HN.out; rw [h] at this; simp at this; omega
        · exact ⟨b, off, ha, hc k (by rw [HN.out]; exact hkn)⟩
      subst ha
      have HX : Hid (inI (l.getD k 0)) := by
        show inI _
        rw [List.getD_eq_getElem?_getD, List.getElem?_eq_getElem (by rw [HN.out]; exact hkn)]
        exact hIw.1 _ (List.getElem_mem _)
      obtain ⟨x, ex⟩ : ∃ x, l.getD k 0 = x := ⟨_, rfl⟩
      rw [ex] at hx HX
      obtain ⟨S, eS⟩ : ∃ S, (l.take k).sum = S := ⟨_, rfl⟩
      have HXE : Hid ((l.take (k + 1)).sum = S + x) := by show _ = _; rw [sum_step l k (by rw [HN.out]; exact hkn), eS, ex]
      have hsm := HS.out k
      have hdd := HD.out
      rw [eS] at hsm hdd
      have HSM : Hid (S.natAbs + x.natAbs < 65536 ^ 16) := small_step hsm HX.out
      have HIL : Hid (IsL (.agg (LA s d)) S) := ⟨s, d, rfl, hdd.1, hdd.2⟩
      clear hIw ex eS hsm hdd
      go_wp2
      refine wp_region_any (by kernel_rfl) ?_
      change wpAny _ _ _ _ _ _ _ (World.drew _)
      refine wpAny_take (i := 1) (v := ?_) rfl (by kernel_rfl) (by kernel_rfl) (by kernel_rfl) (fun _ _ _ h => h) (Or.inl ⟨by rfl, ?_⟩) ?_
      rotate_left
      · (intro w; go_simp; try (with_reducible rfl))
      refine wpAny_take (i := 2) (v := ?_) rfl (by kernel_rfl) (by kernel_rfl) (by kernel_rfl) (fun _ _ _ h => h) (Or.inl ⟨by rfl, ?_⟩) ?_
      rotate_left
      · (intro w; go_simp; try (with_reducible rfl))
      refine wpAny_ready (rs := [0, 3]) (by kernel_rfl) (by simp) ?_
      refine AllReady.cons rfl (fun K hK => ?_) ?_
      · refine step_load_long rfl _ rfl (show LongAt wr.drew _ _ _ from HL.out.2.1) rfl ?_
        (refine hK _ _ ?_; clear hK K)
        refine wpAny_ready (rs := [3]) (by kernel_rfl) (by simp) ?_
        refine AllReady.cons rfl (fun K hK => ?_) ?_
        · go_simp
          (refine hK _ _ ?_; clear hK K)
          refine wpAny_ready (rs := [4]) (by kernel_rfl) (by simp) ?_
          refine AllReady.cons rfl (fun K hK => ?_) ?_
          · go_simp
            (refine hK _ _ ?_; clear hK K)
            refine wpAny_ready (rs := [5]) (by kernel_rfl) (by simp) ?_
            refine AllReady.cons rfl (fun K hK => ?_) ?_
            · go_simp
              go_wp2_with (go_at_call 36; refine (of_is x _ HX.out).mono ?_; rintro e w2 ⟨rx, rfl, hrx, hb2⟩; have HRX : Hid (IsL rx x) := hrx; have hk2 := LongAt.stay (show LongAt wr.drew _ _ _ from HL.out.2.1) hb2; have HK2 : Hid (LongAt w2 (w.heap.size + 1) s d) := hk2; clear hrx hk2)
              refine wpAny_ready (rs := [6]) (by kernel_rfl) (by simp) ?_
              refine AllReady.cons rfl (fun K hK => ?_) ?_
              · go_simp
                go_wp2_with (go_at_call 39; refine (plus_is (.agg (LA s d)) rx S x _ HIL.out HRX.out HSM.out).mono ?_; rintro e w3 ⟨rp, rfl, hrp, hb3⟩; obtain ⟨s2, d2, rfl, hd2, hL2⟩ := hrp; have HP : Hid (Dig d2 ∧ sgn s2 (V d2 16) = S + x) := ⟨hd2, hL2⟩; have hk3 := HK2.out.stay hb3; have HK3 : Hid (LongAt w3 (w.heap.size + 1) s d) := hk3; clear hd2 hL2 hk3)
                refine wpAny_ready (rs := [7]) (by kernel_rfl) (by simp) ?_
                refine AllReady.cons rfl (fun K hK => ?_) ?_
                · refine step_store_long rfl _ _ rfl HK3.out rfl rfl ?_
                  intro w4 hL4 hB4
                  have HW4 : Hid (Below w.heap.size w w3) := (HL.out.2.2.drew.trans (hb2.mono HL.out.2.2.size)).trans (hb3.mono (Nat.le_trans HL.out.2.2.size hb2.size))
                  (refine hK _ _ ?_; clear hK K)
                  refine wpAny_done (by kernel_rfl) ?_ _
                  go_wp2
                  go_round
                  case rel => exact ⟨k + 1, s2, d2, by omega, by go_num, by rw [HXE.out]; exact HP.out, ⟨((((show LongAt wr.drew _ _ _ from HL.out.1).stay hb2).stay hb3).keep (hB4 (w.heap.size + 1) w3 (Below.refl _ _) (Nat.le_refl _)) (by omega)), hL4, hB4 _ _ HW4.out (by omega)⟩⟩
                  case measure => first | (simp [intOf]; done) | (simp [intOf]; omega)
                exact AllReady.nil
              exact AllReady.nil
            exact AllReady.nil
          exact AllReady.nil
        exact AllReady.nil
      refine AllReady.cons rfl (fun K hK => ?_) ?_
      · go_simp
        (refine hK _ _ ?_; clear hK K)
        refine wpAny_ready (rs := [0, 4]) (by kernel_rfl) (by simp) ?_
        refine AllReady.cons rfl (fun K hK => ?_) ?_
        · refine step_load_long rfl _ rfl (show LongAt wr.drew _ _ _ from HL.out.2.1) rfl ?_
          (refine hK _ _ ?_; clear hK K)
          refine wpAny_ready (rs := [4]) (by kernel_rfl) (by simp) ?_
          refine AllReady.cons rfl (fun K hK => ?_) ?_
          · go_simp
            (refine hK _ _ ?_; clear hK K)
            refine wpAny_ready (rs := [5]) (by kernel_rfl) (by simp) ?_
            refine AllReady.cons rfl (fun K hK => ?_) ?_
            · go_simp
              go_wp2_with (go_at_call 36; refine (of_is x _ HX.out).mono ?_; rintro e w2 ⟨rx, rfl, hrx, hb2⟩; have HRX : Hid (IsL rx x) := hrx; have hk2 := LongAt.stay (show LongAt wr.drew _ _ _ from HL.out.2.1) hb2; have HK2 : Hid (LongAt w2 (w.heap.size + 1) s d) := hk2; clear hrx hk2)
              refine wpAny_ready (rs := [6]) (by kernel_rfl) (by simp) ?_
              refine AllReady.cons rfl (fun K hK => ?_) ?_
              · go_simp
                go_wp2_with (go_at_call 39; refine (plus_is (.agg (LA s d)) rx S x _ HIL.out HRX.out HSM.out).mono ?_; rintro e w3 ⟨rp, rfl, hrp, hb3⟩; obtain ⟨s2, d2, rfl, hd2, hL2⟩ := hrp; have HP : Hid (Dig d2 ∧ sgn s2 (V d2 16) = S + x) := ⟨hd2, hL2⟩; have hk3 := HK2.out.stay hb3; have HK3 : Hid (LongAt w3 (w.heap.size + 1) s d) := hk3; clear hd2 hL2 hk3)
                refine wpAny_ready (rs := [7]) (by kernel_rfl) (by simp) ?_
                refine AllReady.cons rfl (fun K hK => ?_) ?_
                · refine step_store_long rfl _ _ rfl HK3.out rfl rfl ?_
                  intro w4 hL4 hB4
                  have HW4 : Hid (Below w.heap.size w w3) := (HL.out.2.2.drew.trans (hb2.mono HL.out.2.2.size)).trans (hb3.mono (Nat.le_trans HL.out.2.2.size hb2.size))
                  (refine hK _ _ ?_; clear hK K)
                  refine wpAny_done (by kernel_rfl) ?_ _
                  go_wp2
                  go_round
                  case rel => exact ⟨k + 1, s2, d2, by omega, by go_num, by rw [HXE.out]; exact HP.out, ⟨((((show LongAt wr.drew _ _ _ from HL.out.1).stay hb2).stay hb3).keep (hB4 (w.heap.size + 1) w3 (Below.refl _ _) (Nat.le_refl _)) (by omega)), hL4, hB4 _ _ HW4.out (by omega)⟩⟩
                  case measure => first | (simp [intOf]; done) | (simp [intOf]; omega)
                exact AllReady.nil
              exact AllReady.nil
            exact AllReady.nil
          exact AllReady.nil
        refine AllReady.cons rfl (fun K hK => ?_) ?_
        · go_simp
          (refine hK _ _ ?_; clear hK K)
          refine wpAny_ready (rs := [0, 5]) (by kernel_rfl) (by simp) ?_
          refine AllReady.cons rfl (fun K hK => ?_) ?_
          · refine step_load_long rfl _ rfl (show LongAt wr.drew _ _ _ from HL.out.2.1) rfl ?_
            (refine hK _ _ ?_; clear hK K)
            refine wpAny_ready (rs := [5]) (by kernel_rfl) (by simp) ?_
            refine AllReady.cons rfl (fun K hK => ?_) ?_
            · go_simp
              go_wp2_with (go_at_call 36; refine (of_is x _ HX.out).mono ?_; rintro e w2 ⟨rx, rfl, hrx, hb2⟩; have HRX : Hid (IsL rx x) := hrx; have hk2 := LongAt.stay (show LongAt wr.drew _ _ _ from HL.out.2.1) hb2; have HK2 : Hid (LongAt w2 (w.heap.size + 1) s d) := hk2; clear hrx hk2)
              refine wpAny_ready (rs := [6]) (by kernel_rfl) (by simp) ?_
              refine AllReady.cons rfl (fun K hK => ?_) ?_
              · go_simp
                go_wp2_with (go_at_call 39; refine (plus_is (.agg (LA s d)) rx S x _ HIL.out HRX.out HSM.out).mono ?_; rintro e w3 ⟨rp, rfl, hrp, hb3⟩; obtain ⟨s2, d2, rfl, hd2, hL2⟩ := hrp; have HP : Hid (Dig d2 ∧ sgn s2 (V d2 16) = S + x) := ⟨hd2, hL2⟩; have hk3 := HK2.out.stay hb3; have HK3 : Hid (LongAt w3 (w.heap.size + 1) s d) := hk3; clear hd2 hL2 hk3)
                refine wpAny_ready (rs := [7]) (by kernel_rfl) (by simp) ?_
                refine AllReady.cons rfl (fun K hK => ?_) ?_
                · refine step_store_long rfl _ _ rfl HK3.out rfl rfl ?_
                  intro w4 hL4 hB4
                  have HW4 : Hid (Below w.heap.size w w3) := (HL.out.2.2.drew.trans (hb2.mono HL.out.2.2.size)).trans (hb3.mono (Nat.le_trans HL.out.2.2.size hb2.size))
                  (refine hK _ _ ?_; clear hK K)
                  refine wpAny_done (by kernel_rfl) ?_ _
                  go_wp2
                  go_round
                  case rel => exact ⟨k + 1, s2, d2, by omega, by go_num, by rw [HXE.out]; exact HP.out, ⟨((((show LongAt wr.drew _ _ _ from HL.out.1).stay hb2).stay hb3).keep (hB4 (w.heap.size + 1) w3 (Below.refl _ _) (Nat.le_refl _)) (by omega)), hL4, hB4 _ _ HW4.out (by omega)⟩⟩
                  case measure => first | (simp [intOf]; done) | (simp [intOf]; omega)
                exact AllReady.nil
              exact AllReady.nil
            exact AllReady.nil
          refine AllReady.cons rfl (fun K hK => ?_) ?_
          · go_simp
            go_wp2_with (go_at_call 36; refine (of_is x _ HX.out).mono ?_; rintro e w2 ⟨rx, rfl, hrx, hb2⟩; have HRX : Hid (IsL rx x) := hrx; have hk2 := LongAt.stay (show LongAt wr.drew _ _ _ from HL.out.2.1) hb2; have HK2 : Hid (LongAt w2 (w.heap.size + 1) s d) := hk2; clear hrx hk2)
            refine wpAny_ready (rs := [0]) (by kernel_rfl) (by simp) ?_
            refine AllReady.cons rfl (fun K hK => ?_) ?_
            · refine step_load_long rfl _ rfl HK2.out rfl ?_
              (refine hK _ _ ?_; clear hK K)
              refine wpAny_ready (rs := [6]) (by kernel_rfl) (by simp) ?_
              refine AllReady.cons rfl (fun K hK => ?_) ?_
              · go_simp
                go_wp2_with (go_at_call 39; refine (plus_is (.agg (LA s d)) rx S x _ HIL.out HRX.out HSM.out).mono ?_; rintro e w3 ⟨rp, rfl, hrp, hb3⟩; obtain ⟨s2, d2, rfl, hd2, hL2⟩ := hrp; have HP : Hid (Dig d2 ∧ sgn s2 (V d2 16) = S + x) := ⟨hd2, hL2⟩; have hk3 := HK2.out.stay hb3; have HK3 : Hid (LongAt w3 (w.heap.size + 1) s d) := hk3; clear hd2 hL2 hk3)
                refine wpAny_ready (rs := [7]) (by kernel_rfl) (by simp) ?_
                refine AllReady.cons rfl (fun K hK => ?_) ?_
                · refine step_store_long rfl _ _ rfl HK3.out rfl rfl ?_
                  intro w4 hL4 hB4
                  have HW4 : Hid (Below w.heap.size w w3) := (HL.out.2.2.drew.trans (hb2.mono HL.out.2.2.size)).trans (hb3.mono (Nat.le_trans HL.out.2.2.size hb2.size))
                  (refine hK _ _ ?_; clear hK K)
                  refine wpAny_done (by kernel_rfl) ?_ _
                  go_wp2
                  go_round
                  case rel => exact ⟨k + 1, s2, d2, by omega, by go_num, by rw [HXE.out]; exact HP.out, ⟨((((show LongAt wr.drew _ _ _ from HL.out.1).stay hb2).stay hb3).keep (hB4 (w.heap.size + 1) w3 (Below.refl _ _) (Nat.le_refl _)) (by omega)), hL4, hB4 _ _ HW4.out (by omega)⟩⟩
                  case measure => first | (simp [intOf]; done) | (simp [intOf]; omega)
                exact AllReady.nil
              exact AllReady.nil
            exact AllReady.nil
          exact AllReady.nil
        exact AllReady.nil
      exact AllReady.nil
    · obtain rfl : k = n := by omega
      have HF : Hid (IsL (.agg (LA s d)) l.sum) := by
        have h9 := HD.out
        rw [← HN.out, List.take_length] at h9
        exact ⟨s, d, rfl, h9.1, h9.2⟩
      go_wp2_with (first
        | ((with_reducible refine guard_load 61 ?_); refine wpList_load_long rfl _ rfl HL.out.2.1 rfl ?_)
        | ((with_reducible refine guard_store 61 ?_); refine wpList_store_long rfl _ _ rfl HL.out.1 rfl rfl ?_; intro w2 hL2 hB2))
      refine bodyPost_ret (results_cell rfl _ _ _ _ rfl hL2.loadVar) rfl ?_
      exact ⟨_, rfl, HF.out, hB2 _ _ HL.out.2.2 (by omega)⟩
end Go.Proofs.YtblfmfanfpohbaaGreat
