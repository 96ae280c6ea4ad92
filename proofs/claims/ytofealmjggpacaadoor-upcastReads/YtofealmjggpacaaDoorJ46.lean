/- Own texts, joined: Sr7, Sr8, Urd, Cpn. -/
import Derived.Test.YtofealmjggpacaaDoorJ45
import Derived.Test.YtofealmjggpacaaDoorJ14
import Derived.Test.YtofealmjggpacaaDoorJ18
import Derived.Test.YtofealmjggpacaaDoorJ44
import Derived.Deep.RegionWith
import Derived.Test.YtofealmjggpacaaDoorJ17
import Derived.Test.YtofealmjggpacaaDoorJ41
import Derived.Test.YtofealmjggpacaaDoorJ38
import Derived.Test.YtofealmjggpacaaDoorJ15
import Derived.Test.YtofealmjggpacaaDoorJ06
/-! Reference Decode of layer 6: whatever it is given. -/
namespace Go.Proofs.YtofealmjggpacaaDoor
open Go.ChangeShapes Go.WideShapes Go.ChangeAt Go.RowKit
set_option linter.unusedVariables false
set_option maxRecDepth 20000 in
set_option maxHeartbeats 1000000 in
theorem rdec06_bad (v : Int) (l : List Nat) (a : Option Addr) (n cap : Nat) (w : World) (hn : l.length = n) (hb : Bytes w a l) (hcap : n ≤ cap) (hm : n ≤ maxLen) (hv1 : 1 ≤ v) (hv5 : v ≤ 5) (he : (recs l).2.2 ≠ 0) :
    Calls Tryd.prog 39 #[.int .i64 v, .slice a n cap] w fun r w' => r = .returned (.tuple #[.agg (evA zeroE), .int .i64 ((recs l).2.2 : Int)]) ∧ Below w.heap.size w w' := by
  have d1 : decide (v < 1) = false := by simp; omega
  have d5 : decide (5 < v) = false := by simp; omega
  obtain ⟨W, hW, h0, h1, hbW⟩ := two_ev w
  have HW : Hid (_ = W) := hW
  have H0 : Hid (EvAt W w.heap.size zeroE) := h0
  have H1 : Hid (EvAt W (w.heap.size + 1) zeroE) := h1
  have HB : Hid (Below w.heap.size w W) := hbW
  have HBY : Hid (Bytes w a l) := hb
  have HN : Hid (_) := hn
  obtain ⟨e, hE⟩ : ∃ e, (recs l).2.2 = e := ⟨_, rfl⟩
  have HEE : Hid (_) := hE
  obtain ⟨i, hI⟩ : ∃ i, (recs l).2.1 = i := ⟨_, rfl⟩
  have HII : Hid (_) := hI
  rw [hE] at he ⊢
  have heb : ((e : Int) != 0) = true := by simp; omega
  have T1 : Hid True := trivial
  clear hW h0 h1 hbW hb hn he hE hI hv1 hv5
  go_enter Tryd.func39, Tryd.ntmps39
  go_wp2_with (first
    | ((with_reducible refine guard_store 25 ?_); clear T1; rw [show (w.alloc (.cells #[.int .i64 0, .int .i64 0, .int .i64 0, .int .i64 0, .int .i64 0, .int .i64 0, .int .i64 0, .string ⟨#[]⟩, .int .i64 0, .string ⟨#[]⟩] 25)).alloc (.cells #[.int .i64 0, .int .i64 0, .int .i64 0, .int .i64 0, .int .i64 0, .int .i64 0, .int .i64 0, .string ⟨#[]⟩, .int .i64 0, .string ⟨#[]⟩] 25) = W from HW.out]; refine wpList_store_ev (e := zeroE) (e2 := zeroE) rfl _ _ rfl H1.out rfl rfl ?_; intro x1 z1 z2 z3 z4; have HNN : Hid (EvAt x1 (w.heap.size + 1) zeroE) := z1; have HRR : Hid (EvAt x1 w.heap.size zeroE) := (z3 _ (by omega)).trans H0.out; have HBX : Hid (Below w.heap.size w x1) := z2 _ _ HB.out (by omega); clear z1 z2 z3 z4)
    | (go_at_call 69; refine (rtdec l a n cap _ HN.out (HBY.out.keep HBX.out) hcap hm).mono ?_; rintro r w3 ⟨vv, L, hr, hL, hR, hb3⟩; rw [HEE.out, HII.out] at hr; subst hr; clear hL hR; have HB3 : Hid (Below w.heap.size w w3) := below_next HBX.out hb3; have HN3 : Hid (EvAt w3 (w.heap.size + 1) zeroE) := HNN.out.after hb3; have HR3 : Hid (EvAt w3 w.heap.size zeroE) := HRR.out.after hb3; clear hb3)
    | ((with_reducible refine guard_load 25 ?_); refine wpList_load_ev rfl _ rfl HN3.out rfl ?_)
    | ((with_reducible refine guard_store 25 ?_); refine wpList_store_ev (e := zeroE) (e2 := zeroE) rfl _ _ rfl HR3.out rfl rfl ?_; intro x5 z1 z2 z3 z4))
  exact bodyPost_ret (results_ev rfl _ _ _ _ _ rfl rfl z1) rfl ⟨rfl, z2 _ _ HB3.out (Nat.le_refl _)⟩
theorem rdec06_any (v : Int) (l : List Nat) (a : Option Addr) (n cap : Nat) (w : World) (hn : l.length = n) (hb : Bytes w a l) (hcap : n ≤ cap) (hm : n ≤ maxLen) :
    Calls Tryd.prog 39 #[.int .i64 v, .slice a n cap] w fun r w' => r = .returned (.tuple #[.agg (evA (sdec v l).1), .int .i64 (sdec v l).2]) ∧ Below w.heap.size w w' := by
  by_cases hv : v < 1 ∨ 5 < v
  · rw [show sdec v l = (zeroE, 30) from if_pos hv]
    exact rdec06_no v a n cap w (by omega)
  · by_cases he : (recs l).2.2 = 0
    · exact rdec06_yes v l a n cap w hn hb hcap hm (by omega) (by omega) he
    · rw [show sdec v l = (zeroE, ((recs l).2.2 : Int)) from (show sdec v l = sdR v (evV v) (qtyV v) (tgV v) l from if_neg hv).trans (if_pos he)]
      exact rdec06_bad v l a n cap w hn hb hcap hm (by omega) (by omega) he
end Go.Proofs.YtofealmjggpacaaDoor
namespace Go.Proofs.YtofealmjggpacaaDoor
open Go.ChangeShapes Go.WideShapes Go.ChangeAt Go.RowKit
set_option linter.unusedVariables false
theorem slice_run (A : Option Addr) (n cap i : Nat) (l : List Nat) (hi : i ≤ n) (hn : n ≤ cap) (hl : l.length = n) : ∃ x, (∀ (o : Oper) (a : Act) (s lo : Operand), o.op = .slice 22 s (some lo) none none → a.eval s = .slice A n cap → a.eval lo = .int .i64 (i : Int) → ∀ w, (execOp a.eval o).run Tryd.prog w = .ok (.value (.slice x (n - i) (cap - i))) w) ∧ ∀ w0, Bytes w0 A l → Bytes w0 x (l.drop i) := by
  refine ⟨_, fun o a s lo ho hs hlo w => ?_, fun w0 hb => bytes_cut hb i cap (by omega) (by omega)⟩
  have hrun := run_slice_l (P := Tryd.prog) w 22 A n cap slice_under .i64 (i : Int) (by omega) (by omega)
  unfold execOp
  simp only [ho, hs, hlo, Option.map_some, Option.map_none, Sem.run_bind, Sem.run_pure, Result.andThen_ok, run_sliceAt_slice (P := Tryd.prog) w 22 _ _ _ _ slice_under, hrun, slice_size, sliced, Int.toNat_natCast]
theorem two_drew (w : World) : EvAt ((w.alloc (.cells (evA zeroE) 25)).drew.alloc (.cells (evA zeroE) 25)) (w.heap.size + 1) zeroE ∧ Below (w.alloc (.cells (evA zeroE) 25)).heap.size (w.alloc (.cells (evA zeroE) 25)) ((w.alloc (.cells (evA zeroE) 25)).drew.alloc (.cells (evA zeroE) 25)) := by
  refine ⟨?_, (Below.refl (w.alloc (.cells (evA zeroE) 25)).heap.size (w.alloc (.cells (evA zeroE) 25))).drew.alloc (Nat.le_refl _) _⟩
  have := evAt_new (w.alloc (.cells (evA zeroE) 25)).drew zeroE
  simpa using this

set_option maxRecDepth 20000 in
set_option maxHeartbeats 4000000 in
theorem runp06_any (l : List Nat) (a : Option Addr) (n cap : Nat) (w : World) (hn : l.length = n) (hb : Bytes w a l) (hcap : n ≤ cap) (hm : n ≤ maxLen) :
    Calls Tryd.prog 16 #[.slice a n cap] w fun r w' => r = .returned (.tuple #[.int .i64 (sunp l).1, .agg (evA (sunp l).2.1), .int .i64 (sunp l).2.2]) ∧ Below w.heap.size w w' := by
  have hl := lt_all hb.1
  have HN : Hid (_) := hn
  have HA : Hid (EvAt (w.alloc (.cells (evA zeroE) 25)) w.heap.size zeroE) := evAt_new w zeroE
  have hAB : Below w.heap.size w (w.alloc (.cells (evA zeroE) 25)) := (Below.refl _ _).alloc (Nat.le_refl _) _
  have HAB : Hid (Below w.heap.size w (w.alloc (.cells (evA zeroE) 25))) := hAB
  have HBY : Hid (Bytes (w.alloc (.cells (evA zeroE) 25)) a l) := hb.keep hAB
  have HLT : Hid (w.heap.size < (w.alloc (.cells (evA zeroE) 25)).heap.size) := by show _ < _; simp
  rcases hd : dec 0 0 l with ⟨u, sz, e⟩
  have HD : Hid (_) := hd
  by_cases he : e = 0
  · subst he
    have hf := vdec_form l hl (by rw [hd])
    rw [hd] at hf
    obtain ⟨_, hsz, _, _, _⟩ := hf
    simp only at hsz
    have hszn : sz ≤ n := by omega
    obtain ⟨E, c, hEc⟩ : ∃ E c, sdec (capN u) (l.drop sz) = (E, c) := ⟨_, _, rfl⟩
    have HE : Hid (_) := hEc
    have HSU : Hid (sunp l = if c ≠ 0 then (0, zeroE, c) else (capN u, E, 0)) := by
      show _ = _
      unfold sunp
      rw [hd]
      simp only [ne_eq, not_true_eq_false, if_false]
      rw [hEc]
    have HDL : Hid ((l.drop sz).length = n - sz) := by show _ = _; rw [List.length_drop]; omega
    have hcap2 : n - sz ≤ cap - sz := by omega
    have hm2 : n - sz ≤ maxLen := by omega
    clear hn hb hAB hd hl hEc
    have T1 : Hid True := trivial
    by_cases hc : c = 0
    · subst hc
      have HR : Hid (sunp l = (capN u, E, 0)) := by show _ = _; rw [HSU.out]; rfl
      clear HSU
      go_enter Tryd.func16, Tryd.ntmps16
      go_wp2_with (first
        | (go_at_call 29; refine (rdec_at l n u sz 0 a cap _ HN.out HD.out HBY.out (by rw [HN.out]; exact hm)).mono ?_; rintro _ w1 ⟨rfl, rfl⟩))
      have HTD : Hid (_) := two_drew w
      obtain ⟨xa, hsl, hxb⟩ := slice_run a n cap sz l hszn hcap HN.out
      have HXA : Hid (_) := hxb
      clear hxb
      refine wp_region_any (by kernel_rfl) ?_
      change wpAny _ _ _ _ _ _ _ (World.drew _)
      refine wpAny_take (i := 0) (v := ?_) rfl (by kernel_rfl) (by kernel_rfl) (by kernel_rfl) (fun _ _ _ h => h) (Or.inl ⟨by rfl, ?_⟩) ?_
      rotate_left
      · (intro w; go_simp; try (with_reducible rfl))
      refine wpAny_take (i := 2) (v := ?_) rfl (by kernel_rfl) (by kernel_rfl) (by kernel_rfl) (fun _ _ _ h => h) (Or.inl ⟨by rfl, ?_⟩) ?_
      rotate_left
      · (intro w; go_simp; try (with_reducible rfl))
      refine wpAny_take (i := 3) (v := ?_) rfl (by kernel_rfl) (by kernel_rfl) (by kernel_rfl) (fun _ _ _ h => h) (Or.inl ⟨by rfl, ?_⟩) ?_
      rotate_left
      · (intro w; go_simp; try (with_reducible rfl))
      refine wpAny_take (i := 4) (v := ?_) rfl (by kernel_rfl) (by kernel_rfl) (by kernel_rfl) (fun _ _ _ h => h) (Or.inl ⟨by rfl, ?_⟩) ?_
      rotate_left
      · exact fun w => by refine hsl _ _ (.tmp 22) (.tmp 23) ?_ ?_ ?_ w <;> rfl
      refine wpAny_ready (rs := [1, 9]) (by kernel_rfl) (by simp) ?_
      refine AllReady.cons rfl (fun K hK => ?_) (AllReady.cons rfl (fun K hK => ?_) AllReady.nil)
      · go_simp
        refine (clamp_any u _).mono ?_
        rintro _ y ⟨rfl, rfl⟩
        (refine hK _ _ ?_; clear hK K)
        refine wpAny_ready (rs := [5, 9]) (by kernel_rfl) (by simp) ?_
        refine AllReady.cons rfl (fun K hK => ?_) (AllReady.cons rfl (fun K hK => ?_) AllReady.nil)
        · go_simp
          refine (rdec06_any (capN u) (l.drop sz) xa (n - sz) (cap - sz) _ HDL.out (HXA.out _ (HBY.out.keep (Below.refl _ _).drew)) hcap2 hm2).mono ?_
          rw [HE.out]
          rintro _ w3 ⟨rfl, hb3⟩
          have HB3 : Hid (Below w.heap.size w w3) := below_next HAB.out.drew hb3
          have HA3 : Hid (EvAt w3 w.heap.size zeroE) := (show EvAt (w.alloc (.cells (evA zeroE) 25)).drew w.heap.size zeroE from HA.out).after hb3
          clear hb3
          (refine hK _ _ ?_; clear hK K)
          refine wpAny_take (i := 6) (v := ?_) rfl (by kernel_rfl) (by kernel_rfl) (by kernel_rfl) (fun _ _ _ h => h) (Or.inl ⟨by rfl, ?_⟩) ?_
          rotate_left
          · (intro w; go_simp; try (with_reducible rfl))
          refine wpAny_take (i := 7) (v := ?_) rfl (by kernel_rfl) (by kernel_rfl) (by kernel_rfl) (fun _ _ _ h => h) (Or.inl ⟨by rfl, ?_⟩) ?_
          rotate_left
          · (intro w; go_simp; try (with_reducible rfl))
          refine wpAny_take (i := 8) (v := ?_) rfl (by kernel_rfl) (by kernel_rfl) (by kernel_rfl) (fun _ _ _ h => h) (Or.inl ⟨by rfl, ?_⟩) ?_
          rotate_left
          · (intro w; go_simp; try (with_reducible rfl))
          refine wpAny_ready (rs := [9]) (by kernel_rfl) (by simp) ?_
          refine AllReady.cons rfl (fun K hK => ?_) AllReady.nil
          go_simp
          (refine hK _ _ ?_; clear hK K)
          refine wpAny_ready (rs := [10]) (by kernel_rfl) (by simp) ?_
          refine AllReady.cons rfl (fun K hK => ?_) AllReady.nil
          refine step_store_ev (e := zeroE) (e2 := E) rfl _ _ rfl (evAt_new w3 zeroE) rfl rfl ?_
          intro x2 z1 z2
          have HU : Hid (Below w3.heap.size w3 x2) := z2 _ _ ((Below.refl _ _).alloc (Nat.le_refl _) _) (Nat.le_refl _)
          have HA4 : Hid (EvAt x2 w.heap.size zeroE) := HA3.out.after HU.out
          have HB4 : Hid (Below w.heap.size w x2) := below_next HB3.out HU.out
          have HZ1 : Hid (EvAt x2 w3.heap.size E) := z1
          clear z1 z2 HU
          (refine hK _ _ ?_; clear hK K)
          refine wpAny_ready (rs := [11]) (by kernel_rfl) (by simp) ?_
          refine AllReady.cons rfl (fun K hK => ?_) AllReady.nil
          go_simp
          (refine hK _ _ ?_; clear hK K)
          refine wpAny_done (by kernel_rfl) ?_ _
          go_wp2
          refine wp_region_any (by kernel_rfl) ?_
          change wpAny _ _ _ _ _ _ _ (World.drew _)
          refine wpAny_take (i := 0) (v := ?_) rfl (by kernel_rfl) (by kernel_rfl) (by kernel_rfl) (fun _ _ _ h => h) (Or.inl ⟨by rfl, ?_⟩) ?_
          rotate_left
          · (intro w; go_simp; try (with_reducible rfl))
          refine wpAny_ready (rs := [1, 2]) (by kernel_rfl) (by simp) ?_
          refine AllReady.cons rfl (fun K hK => ?_) (AllReady.cons rfl (fun K hK => ?_) AllReady.nil)
          · go_simp
            refine (clamp_any u _).mono ?_
            rintro _ y ⟨rfl, rfl⟩
            (refine hK _ _ ?_; clear hK K)
            refine wpAny_take (i := 3) (v := ?_) rfl (by kernel_rfl) (by kernel_rfl) (by kernel_rfl) (fun _ _ _ h => h) (Or.inl ⟨by rfl, ?_⟩) ?_
            rotate_left
            · (intro w; go_simp; try (with_reducible rfl))
            refine wpAny_ready (rs := [2]) (by kernel_rfl) (by simp) ?_
            refine AllReady.cons rfl (fun K hK => ?_) AllReady.nil
            refine step_load_ev rfl _ rfl (show EvAt x2.drew _ E from HZ1.out) rfl ?_
            (refine hK _ _ ?_; clear hK K)
            refine wpAny_ready (rs := [4]) (by kernel_rfl) (by simp) ?_
            refine AllReady.cons rfl (fun K hK => ?_) AllReady.nil
            refine step_store_ev (e := zeroE) (e2 := E) rfl _ _ rfl (show EvAt x2.drew w.heap.size zeroE from HA4.out) rfl rfl ?_
            intro x5 z1 z2
            (refine hK _ _ ?_; clear hK K)
            refine wpAny_ready (rs := [5]) (by kernel_rfl) (by simp) ?_
            refine AllReady.cons rfl (fun K hK => ?_) AllReady.nil
            go_simp
            (refine hK _ _ ?_; clear hK K)
            refine wpAny_done (by kernel_rfl) ?_ _
            go_wp2
            rw [HR.out]
            exact bodyPost_ret (results_ev3 rfl _ _ _ _ _ _ rfl rfl rfl z1) rfl ⟨rfl, z2 _ _ HB4.out.drew (Nat.le_refl _)⟩
          · refine step_load_ev rfl _ rfl (show EvAt x2.drew _ E from HZ1.out) rfl ?_
            (refine hK _ _ ?_; clear hK K)
            refine wpAny_ready (rs := [1]) (by kernel_rfl) (by simp) ?_
            refine AllReady.cons rfl (fun K hK => ?_) AllReady.nil
            go_simp
            refine (clamp_any u _).mono ?_
            rintro _ y ⟨rfl, rfl⟩
            (refine hK _ _ ?_; clear hK K)
            refine wpAny_take (i := 3) (v := ?_) rfl (by kernel_rfl) (by kernel_rfl) (by kernel_rfl) (fun _ _ _ h => h) (Or.inl ⟨by rfl, ?_⟩) ?_
            rotate_left
            · (intro w; go_simp; try (with_reducible rfl))
            refine wpAny_ready (rs := [4]) (by kernel_rfl) (by simp) ?_
            refine AllReady.cons rfl (fun K hK => ?_) AllReady.nil
            refine step_store_ev (e := zeroE) (e2 := E) rfl _ _ rfl (show EvAt x2.drew w.heap.size zeroE from HA4.out) rfl rfl ?_
            intro x5 z1 z2
            (refine hK _ _ ?_; clear hK K)
            refine wpAny_ready (rs := [5]) (by kernel_rfl) (by simp) ?_
            refine AllReady.cons rfl (fun K hK => ?_) AllReady.nil
            go_simp
            (refine hK _ _ ?_; clear hK K)
            refine wpAny_done (by kernel_rfl) ?_ _
            go_wp2
            rw [HR.out]
            exact bodyPost_ret (results_ev3 rfl _ _ _ _ _ _ rfl rfl rfl z1) rfl ⟨rfl, z2 _ _ HB4.out.drew (Nat.le_refl _)⟩
        · go_simp
          (refine hK _ _ ?_; clear hK K)
          refine wpAny_ready (rs := [5]) (by kernel_rfl) (by simp) ?_
          refine AllReady.cons rfl (fun K hK => ?_) AllReady.nil
          go_simp
          refine (rdec06_any (capN u) (l.drop sz) xa (n - sz) (cap - sz) _ HDL.out (HXA.out _ (HBY.out.keep HTD.out.2)) hcap2 hm2).mono ?_
          rw [HE.out]
          rintro _ w3 ⟨rfl, hb3⟩
          have HB3 : Hid (Below w.heap.size w w3) := below_next (below_next HAB.out HTD.out.2) hb3
          have HA3 : Hid (EvAt w3 w.heap.size zeroE) := (HA.out.after HTD.out.2).after hb3
          have HZ3 : Hid (EvAt w3 (w.heap.size + 1) zeroE) := HTD.out.1.after hb3
          clear hb3
          (refine hK _ _ ?_; clear hK K)
          refine wpAny_take (i := 6) (v := ?_) rfl (by kernel_rfl) (by kernel_rfl) (by kernel_rfl) (fun _ _ _ h => h) (Or.inl ⟨by rfl, ?_⟩) ?_
          rotate_left
          · (intro w; go_simp; try (with_reducible rfl))
          refine wpAny_take (i := 7) (v := ?_) rfl (by kernel_rfl) (by kernel_rfl) (by kernel_rfl) (fun _ _ _ h => h) (Or.inl ⟨by rfl, ?_⟩) ?_
          rotate_left
          · (intro w; go_simp; try (with_reducible rfl))
          refine wpAny_take (i := 8) (v := ?_) rfl (by kernel_rfl) (by kernel_rfl) (by kernel_rfl) (fun _ _ _ h => h) (Or.inl ⟨by rfl, ?_⟩) ?_
          rotate_left
          · (intro w; go_simp; try (with_reducible rfl))
          refine wpAny_ready (rs := [10]) (by kernel_rfl) (by simp) ?_
          refine AllReady.cons rfl (fun K hK => ?_) AllReady.nil
          refine step_store_ev (e := zeroE) (e2 := E) rfl _ _ rfl HZ3.out rfl rfl ?_
          intro x2 z1 z2
          have HA4 : Hid (EvAt x2 w.heap.size zeroE) := ((z2 _ _ (Below.refl (w.heap.size + 1) w3) (by simp)).block w.heap.size (by omega)).trans HA3.out
          have HB4 : Hid (Below w.heap.size w x2) := z2 _ _ HB3.out (by simp)
          have HZ1 : Hid (EvAt x2 (w.heap.size + 1) E) := z1
          clear z1 z2
          (refine hK _ _ ?_; clear hK K)
          refine wpAny_ready (rs := [11]) (by kernel_rfl) (by simp) ?_
          refine AllReady.cons rfl (fun K hK => ?_) AllReady.nil
          go_simp
          (refine hK _ _ ?_; clear hK K)
          refine wpAny_done (by kernel_rfl) ?_ _
          go_wp2
          refine wp_region_any (by kernel_rfl) ?_
          change wpAny _ _ _ _ _ _ _ (World.drew _)
          refine wpAny_take (i := 0) (v := ?_) rfl (by kernel_rfl) (by kernel_rfl) (by kernel_rfl) (fun _ _ _ h => h) (Or.inl ⟨by rfl, ?_⟩) ?_
          rotate_left
          · (intro w; go_simp; try (with_reducible rfl))
          refine wpAny_ready (rs := [1, 2]) (by kernel_rfl) (by simp) ?_
          refine AllReady.cons rfl (fun K hK => ?_) (AllReady.cons rfl (fun K hK => ?_) AllReady.nil)
          · go_simp
            refine (clamp_any u _).mono ?_
            rintro _ y ⟨rfl, rfl⟩
            (refine hK _ _ ?_; clear hK K)
            refine wpAny_take (i := 3) (v := ?_) rfl (by kernel_rfl) (by kernel_rfl) (by kernel_rfl) (fun _ _ _ h => h) (Or.inl ⟨by rfl, ?_⟩) ?_
            rotate_left
            · (intro w; go_simp; try (with_reducible rfl))
            refine wpAny_ready (rs := [2]) (by kernel_rfl) (by simp) ?_
            refine AllReady.cons rfl (fun K hK => ?_) AllReady.nil
            refine step_load_ev rfl _ rfl (show EvAt x2.drew _ E from HZ1.out) rfl ?_
            (refine hK _ _ ?_; clear hK K)
            refine wpAny_ready (rs := [4]) (by kernel_rfl) (by simp) ?_
            refine AllReady.cons rfl (fun K hK => ?_) AllReady.nil
            refine step_store_ev (e := zeroE) (e2 := E) rfl _ _ rfl (show EvAt x2.drew w.heap.size zeroE from HA4.out) rfl rfl ?_
            intro x5 z1 z2
            (refine hK _ _ ?_; clear hK K)
            refine wpAny_ready (rs := [5]) (by kernel_rfl) (by simp) ?_
            refine AllReady.cons rfl (fun K hK => ?_) AllReady.nil
            go_simp
            (refine hK _ _ ?_; clear hK K)
            refine wpAny_done (by kernel_rfl) ?_ _
            go_wp2
            rw [HR.out]
            exact bodyPost_ret (results_ev3 rfl _ _ _ _ _ _ rfl rfl rfl z1) rfl ⟨rfl, z2 _ _ HB4.out.drew (Nat.le_refl _)⟩
          · refine step_load_ev rfl _ rfl (show EvAt x2.drew _ E from HZ1.out) rfl ?_
            (refine hK _ _ ?_; clear hK K)
            refine wpAny_ready (rs := [1]) (by kernel_rfl) (by simp) ?_
            refine AllReady.cons rfl (fun K hK => ?_) AllReady.nil
            go_simp
            refine (clamp_any u _).mono ?_
            rintro _ y ⟨rfl, rfl⟩
            (refine hK _ _ ?_; clear hK K)
            refine wpAny_take (i := 3) (v := ?_) rfl (by kernel_rfl) (by kernel_rfl) (by kernel_rfl) (fun _ _ _ h => h) (Or.inl ⟨by rfl, ?_⟩) ?_
            rotate_left
            · (intro w; go_simp; try (with_reducible rfl))
            refine wpAny_ready (rs := [4]) (by kernel_rfl) (by simp) ?_
            refine AllReady.cons rfl (fun K hK => ?_) AllReady.nil
            refine step_store_ev (e := zeroE) (e2 := E) rfl _ _ rfl (show EvAt x2.drew w.heap.size zeroE from HA4.out) rfl rfl ?_
            intro x5 z1 z2
            (refine hK _ _ ?_; clear hK K)
            refine wpAny_ready (rs := [5]) (by kernel_rfl) (by simp) ?_
            refine AllReady.cons rfl (fun K hK => ?_) AllReady.nil
            go_simp
            (refine hK _ _ ?_; clear hK K)
            refine wpAny_done (by kernel_rfl) ?_ _
            go_wp2
            rw [HR.out]
            exact bodyPost_ret (results_ev3 rfl _ _ _ _ _ _ rfl rfl rfl z1) rfl ⟨rfl, z2 _ _ HB4.out.drew (Nat.le_refl _)⟩
      · go_simp
        (refine hK _ _ ?_; clear hK K)
        refine wpAny_ready (rs := [1]) (by kernel_rfl) (by simp) ?_
        refine AllReady.cons rfl (fun K hK => ?_) AllReady.nil
        go_simp
        refine (clamp_any u _).mono ?_
        rintro _ y ⟨rfl, rfl⟩
        (refine hK _ _ ?_; clear hK K)
        refine wpAny_ready (rs := [5]) (by kernel_rfl) (by simp) ?_
        refine AllReady.cons rfl (fun K hK => ?_) AllReady.nil
        go_simp
        refine (rdec06_any (capN u) (l.drop sz) xa (n - sz) (cap - sz) _ HDL.out (HXA.out _ (HBY.out.keep HTD.out.2)) hcap2 hm2).mono ?_
        rw [HE.out]
        rintro _ w3 ⟨rfl, hb3⟩
        have HB3 : Hid (Below w.heap.size w w3) := below_next (below_next HAB.out HTD.out.2) hb3
        have HA3 : Hid (EvAt w3 w.heap.size zeroE) := (HA.out.after HTD.out.2).after hb3
        have HZ3 : Hid (EvAt w3 (w.heap.size + 1) zeroE) := HTD.out.1.after hb3
        clear hb3
        (refine hK _ _ ?_; clear hK K)
        refine wpAny_take (i := 6) (v := ?_) rfl (by kernel_rfl) (by kernel_rfl) (by kernel_rfl) (fun _ _ _ h => h) (Or.inl ⟨by rfl, ?_⟩) ?_
        rotate_left
        · (intro w; go_simp; try (with_reducible rfl))
        refine wpAny_take (i := 7) (v := ?_) rfl (by kernel_rfl) (by kernel_rfl) (by kernel_rfl) (fun _ _ _ h => h) (Or.inl ⟨by rfl, ?_⟩) ?_
        rotate_left
        · (intro w; go_simp; try (with_reducible rfl))
        refine wpAny_take (i := 8) (v := ?_) rfl (by kernel_rfl) (by kernel_rfl) (by kernel_rfl) (fun _ _ _ h => h) (Or.inl ⟨by rfl, ?_⟩) ?_
        rotate_left
        · (intro w; go_simp; try (with_reducible rfl))
        refine wpAny_ready (rs := [10]) (by kernel_rfl) (by simp) ?_
        refine AllReady.cons rfl (fun K hK => ?_) AllReady.nil
        refine step_store_ev (e := zeroE) (e2 := E) rfl _ _ rfl HZ3.out rfl rfl ?_
        intro x2 z1 z2
        have HA4 : Hid (EvAt x2 w.heap.size zeroE) := ((z2 _ _ (Below.refl (w.heap.size + 1) w3) (by simp)).block w.heap.size (by omega)).trans HA3.out
        have HB4 : Hid (Below w.heap.size w x2) := z2 _ _ HB3.out (by simp)
        have HZ1 : Hid (EvAt x2 (w.heap.size + 1) E) := z1
        clear z1 z2
        (refine hK _ _ ?_; clear hK K)
        refine wpAny_ready (rs := [11]) (by kernel_rfl) (by simp) ?_
        refine AllReady.cons rfl (fun K hK => ?_) AllReady.nil
        go_simp
        (refine hK _ _ ?_; clear hK K)
        refine wpAny_done (by kernel_rfl) ?_ _
        go_wp2
        refine wp_region_any (by kernel_rfl) ?_
        change wpAny _ _ _ _ _ _ _ (World.drew _)
        refine wpAny_take (i := 0) (v := ?_) rfl (by kernel_rfl) (by kernel_rfl) (by kernel_rfl) (fun _ _ _ h => h) (Or.inl ⟨by rfl, ?_⟩) ?_
        rotate_left
        · (intro w; go_simp; try (with_reducible rfl))
        refine wpAny_ready (rs := [1, 2]) (by kernel_rfl) (by simp) ?_
        refine AllReady.cons rfl (fun K hK => ?_) (AllReady.cons rfl (fun K hK => ?_) AllReady.nil)
        · go_simp
          refine (clamp_any u _).mono ?_
          rintro _ y ⟨rfl, rfl⟩
          (refine hK _ _ ?_; clear hK K)
          refine wpAny_take (i := 3) (v := ?_) rfl (by kernel_rfl) (by kernel_rfl) (by kernel_rfl) (fun _ _ _ h => h) (Or.inl ⟨by rfl, ?_⟩) ?_
          rotate_left
          · (intro w; go_simp; try (with_reducible rfl))
          refine wpAny_ready (rs := [2]) (by kernel_rfl) (by simp) ?_
          refine AllReady.cons rfl (fun K hK => ?_) AllReady.nil
          refine step_load_ev rfl _ rfl (show EvAt x2.drew _ E from HZ1.out) rfl ?_
          (refine hK _ _ ?_; clear hK K)
          refine wpAny_ready (rs := [4]) (by kernel_rfl) (by simp) ?_
          refine AllReady.cons rfl (fun K hK => ?_) AllReady.nil
          refine step_store_ev (e := zeroE) (e2 := E) rfl _ _ rfl (show EvAt x2.drew w.heap.size zeroE from HA4.out) rfl rfl ?_
          intro x5 z1 z2
          (refine hK _ _ ?_; clear hK K)
          refine wpAny_ready (rs := [5]) (by kernel_rfl) (by simp) ?_
          refine AllReady.cons rfl (fun K hK => ?_) AllReady.nil
          go_simp
          (refine hK _ _ ?_; clear hK K)
          refine wpAny_done (by kernel_rfl) ?_ _
          go_wp2
          rw [HR.out]
          exact bodyPost_ret (results_ev3 rfl _ _ _ _ _ _ rfl rfl rfl z1) rfl ⟨rfl, z2 _ _ HB4.out.drew (Nat.le_refl _)⟩
        · refine step_load_ev rfl _ rfl (show EvAt x2.drew _ E from HZ1.out) rfl ?_
          (refine hK _ _ ?_; clear hK K)
          refine wpAny_ready (rs := [1]) (by kernel_rfl) (by simp) ?_
          refine AllReady.cons rfl (fun K hK => ?_) AllReady.nil
          go_simp
          refine (clamp_any u _).mono ?_
          rintro _ y ⟨rfl, rfl⟩
          (refine hK _ _ ?_; clear hK K)
          refine wpAny_take (i := 3) (v := ?_) rfl (by kernel_rfl) (by kernel_rfl) (by kernel_rfl) (fun _ _ _ h => h) (Or.inl ⟨by rfl, ?_⟩) ?_
          rotate_left
          · (intro w; go_simp; try (with_reducible rfl))
          refine wpAny_ready (rs := [4]) (by kernel_rfl) (by simp) ?_
          refine AllReady.cons rfl (fun K hK => ?_) AllReady.nil
          refine step_store_ev (e := zeroE) (e2 := E) rfl _ _ rfl (show EvAt x2.drew w.heap.size zeroE from HA4.out) rfl rfl ?_
          intro x5 z1 z2
          (refine hK _ _ ?_; clear hK K)
          refine wpAny_ready (rs := [5]) (by kernel_rfl) (by simp) ?_
          refine AllReady.cons rfl (fun K hK => ?_) AllReady.nil
          go_simp
          (refine hK _ _ ?_; clear hK K)
          refine wpAny_done (by kernel_rfl) ?_ _
          go_wp2
          rw [HR.out]
          exact bodyPost_ret (results_ev3 rfl _ _ _ _ _ _ rfl rfl rfl z1) rfl ⟨rfl, z2 _ _ HB4.out.drew (Nat.le_refl _)⟩
    · have HR : Hid (sunp l = (0, zeroE, c)) := by show _ = _; rw [HSU.out, if_pos hc]
      have hcb : (c != 0) = true := by simpa using hc
      clear HSU
      go_enter Tryd.func16, Tryd.ntmps16
      go_wp2_with (first
        | (go_at_call 29; refine (rdec_at l n u sz 0 a cap _ HN.out HD.out HBY.out (by rw [HN.out]; exact hm)).mono ?_; rintro _ w1 ⟨rfl, rfl⟩))
      have HTD : Hid (_) := two_drew w
      obtain ⟨xa, hsl, hxb⟩ := slice_run a n cap sz l hszn hcap HN.out
      have HXA : Hid (_) := hxb
      clear hxb
      refine wp_region_any (by kernel_rfl) ?_
      change wpAny _ _ _ _ _ _ _ (World.drew _)
      refine wpAny_take (i := 0) (v := ?_) rfl (by kernel_rfl) (by kernel_rfl) (by kernel_rfl) (fun _ _ _ h => h) (Or.inl ⟨by rfl, ?_⟩) ?_
      rotate_left
      · (intro w; go_simp; try (with_reducible rfl))
      refine wpAny_take (i := 2) (v := ?_) rfl (by kernel_rfl) (by kernel_rfl) (by kernel_rfl) (fun _ _ _ h => h) (Or.inl ⟨by rfl, ?_⟩) ?_
      rotate_left
      · (intro w; go_simp; try (with_reducible rfl))
      refine wpAny_take (i := 3) (v := ?_) rfl (by kernel_rfl) (by kernel_rfl) (by kernel_rfl) (fun _ _ _ h => h) (Or.inl ⟨by rfl, ?_⟩) ?_
      rotate_left
      · (intro w; go_simp; try (with_reducible rfl))
      refine wpAny_take (i := 4) (v := ?_) rfl (by kernel_rfl) (by kernel_rfl) (by kernel_rfl) (fun _ _ _ h => h) (Or.inl ⟨by rfl, ?_⟩) ?_
      rotate_left
      · exact fun w => by refine hsl _ _ (.tmp 22) (.tmp 23) ?_ ?_ ?_ w <;> rfl
      refine wpAny_ready (rs := [1, 9]) (by kernel_rfl) (by simp) ?_
      refine AllReady.cons rfl (fun K hK => ?_) (AllReady.cons rfl (fun K hK => ?_) AllReady.nil)
      · go_simp
        refine (clamp_any u _).mono ?_
        rintro _ y ⟨rfl, rfl⟩
        (refine hK _ _ ?_; clear hK K)
        refine wpAny_ready (rs := [5, 9]) (by kernel_rfl) (by simp) ?_
        refine AllReady.cons rfl (fun K hK => ?_) (AllReady.cons rfl (fun K hK => ?_) AllReady.nil)
        · go_simp
          refine (rdec06_any (capN u) (l.drop sz) xa (n - sz) (cap - sz) _ HDL.out (HXA.out _ (HBY.out.keep (Below.refl _ _).drew)) hcap2 hm2).mono ?_
          rw [HE.out]
          rintro _ w3 ⟨rfl, hb3⟩
          have HB3 : Hid (Below w.heap.size w w3) := below_next HAB.out.drew hb3
          have HA3 : Hid (EvAt w3 w.heap.size zeroE) := (show EvAt (w.alloc (.cells (evA zeroE) 25)).drew w.heap.size zeroE from HA.out).after hb3
          clear hb3
          (refine hK _ _ ?_; clear hK K)
          refine wpAny_take (i := 6) (v := ?_) rfl (by kernel_rfl) (by kernel_rfl) (by kernel_rfl) (fun _ _ _ h => h) (Or.inl ⟨by rfl, ?_⟩) ?_
          rotate_left
          · (intro w; go_simp; try (with_reducible rfl))
          refine wpAny_take (i := 7) (v := ?_) rfl (by kernel_rfl) (by kernel_rfl) (by kernel_rfl) (fun _ _ _ h => h) (Or.inl ⟨by rfl, ?_⟩) ?_
          rotate_left
          · (intro w; go_simp; try (with_reducible rfl))
          refine wpAny_take (i := 8) (v := ?_) rfl (by kernel_rfl) (by kernel_rfl) (by kernel_rfl) (fun _ _ _ h => h) (Or.inl ⟨by rfl, ?_⟩) ?_
          rotate_left
          · (intro w; go_simp; try (with_reducible rfl))
          refine wpAny_ready (rs := [9]) (by kernel_rfl) (by simp) ?_
          refine AllReady.cons rfl (fun K hK => ?_) AllReady.nil
          go_simp
          (refine hK _ _ ?_; clear hK K)
          refine wpAny_ready (rs := [10]) (by kernel_rfl) (by simp) ?_
          refine AllReady.cons rfl (fun K hK => ?_) AllReady.nil
          refine step_store_ev (e := zeroE) (e2 := E) rfl _ _ rfl (evAt_new w3 zeroE) rfl rfl ?_
          intro x2 z1 z2
          have HU : Hid (Below w3.heap.size w3 x2) := z2 _ _ ((Below.refl _ _).alloc (Nat.le_refl _) _) (Nat.le_refl _)
          have HA4 : Hid (EvAt x2 w.heap.size zeroE) := HA3.out.after HU.out
          have HB4 : Hid (Below w.heap.size w x2) := below_next HB3.out HU.out
          have HZ1 : Hid (EvAt x2 w3.heap.size E) := z1
          clear z1 z2 HU
          (refine hK _ _ ?_; clear hK K)
          refine wpAny_ready (rs := [11]) (by kernel_rfl) (by simp) ?_
          refine AllReady.cons rfl (fun K hK => ?_) AllReady.nil
          go_simp
          (refine hK _ _ ?_; clear hK K)
          refine wpAny_done (by kernel_rfl) ?_ _
          go_wp2_with ((with_reducible refine guard_store 25 ?_); refine wpList_store_ev (e := zeroE) (e2 := zeroE) rfl _ _ rfl HA4.out rfl rfl ?_; intro x5 z1 z2 z3 z4)
          rw [HR.out]
          exact bodyPost_ret (results_ev3 rfl _ _ _ _ _ _ rfl rfl rfl z1) rfl ⟨rfl, z2 _ _ HB4.out (Nat.le_refl _)⟩
        · go_simp
          (refine hK _ _ ?_; clear hK K)
          refine wpAny_ready (rs := [5]) (by kernel_rfl) (by simp) ?_
          refine AllReady.cons rfl (fun K hK => ?_) AllReady.nil
          go_simp
          refine (rdec06_any (capN u) (l.drop sz) xa (n - sz) (cap - sz) _ HDL.out (HXA.out _ (HBY.out.keep HTD.out.2)) hcap2 hm2).mono ?_
          rw [HE.out]
          rintro _ w3 ⟨rfl, hb3⟩
          have HB3 : Hid (Below w.heap.size w w3) := below_next (below_next HAB.out HTD.out.2) hb3
          have HA3 : Hid (EvAt w3 w.heap.size zeroE) := (HA.out.after HTD.out.2).after hb3
          have HZ3 : Hid (EvAt w3 (w.heap.size + 1) zeroE) := HTD.out.1.after hb3
          clear hb3
          (refine hK _ _ ?_; clear hK K)
          refine wpAny_take (i := 6) (v := ?_) rfl (by kernel_rfl) (by kernel_rfl) (by kernel_rfl) (fun _ _ _ h => h) (Or.inl ⟨by rfl, ?_⟩) ?_
          rotate_left
          · (intro w; go_simp; try (with_reducible rfl))
          refine wpAny_take (i := 7) (v := ?_) rfl (by kernel_rfl) (by kernel_rfl) (by kernel_rfl) (fun _ _ _ h => h) (Or.inl ⟨by rfl, ?_⟩) ?_
          rotate_left
          · (intro w; go_simp; try (with_reducible rfl))
          refine wpAny_take (i := 8) (v := ?_) rfl (by kernel_rfl) (by kernel_rfl) (by kernel_rfl) (fun _ _ _ h => h) (Or.inl ⟨by rfl, ?_⟩) ?_
          rotate_left
          · (intro w; go_simp; try (with_reducible rfl))
          refine wpAny_ready (rs := [10]) (by kernel_rfl) (by simp) ?_
          refine AllReady.cons rfl (fun K hK => ?_) AllReady.nil
          refine step_store_ev (e := zeroE) (e2 := E) rfl _ _ rfl HZ3.out rfl rfl ?_
          intro x2 z1 z2
          have HA4 : Hid (EvAt x2 w.heap.size zeroE) := ((z2 _ _ (Below.refl (w.heap.size + 1) w3) (by simp)).block w.heap.size (by omega)).trans HA3.out
          have HB4 : Hid (Below w.heap.size w x2) := z2 _ _ HB3.out (by simp)
          have HZ1 : Hid (EvAt x2 (w.heap.size + 1) E) := z1
          clear z1 z2
          (refine hK _ _ ?_; clear hK K)
          refine wpAny_ready (rs := [11]) (by kernel_rfl) (by simp) ?_
          refine AllReady.cons rfl (fun K hK => ?_) AllReady.nil
          go_simp
          (refine hK _ _ ?_; clear hK K)
          refine wpAny_done (by kernel_rfl) ?_ _
          go_wp2_with ((with_reducible refine guard_store 25 ?_); refine wpList_store_ev (e := zeroE) (e2 := zeroE) rfl _ _ rfl HA4.out rfl rfl ?_; intro x5 z1 z2 z3 z4)
          rw [HR.out]
          exact bodyPost_ret (results_ev3 rfl _ _ _ _ _ _ rfl rfl rfl z1) rfl ⟨rfl, z2 _ _ HB4.out (Nat.le_refl _)⟩
      · go_simp
        (refine hK _ _ ?_; clear hK K)
        refine wpAny_ready (rs := [1]) (by kernel_rfl) (by simp) ?_
        refine AllReady.cons rfl (fun K hK => ?_) AllReady.nil
        go_simp
        refine (clamp_any u _).mono ?_
        rintro _ y ⟨rfl, rfl⟩
        (refine hK _ _ ?_; clear hK K)
        refine wpAny_ready (rs := [5]) (by kernel_rfl) (by simp) ?_
        refine AllReady.cons rfl (fun K hK => ?_) AllReady.nil
        go_simp
        refine (rdec06_any (capN u) (l.drop sz) xa (n - sz) (cap - sz) _ HDL.out (HXA.out _ (HBY.out.keep HTD.out.2)) hcap2 hm2).mono ?_
        rw [HE.out]
        rintro _ w3 ⟨rfl, hb3⟩
        have HB3 : Hid (Below w.heap.size w w3) := below_next (below_next HAB.out HTD.out.2) hb3
        have HA3 : Hid (EvAt w3 w.heap.size zeroE) := (HA.out.after HTD.out.2).after hb3
        have HZ3 : Hid (EvAt w3 (w.heap.size + 1) zeroE) := HTD.out.1.after hb3
        clear hb3
        (refine hK _ _ ?_; clear hK K)
        refine wpAny_take (i := 6) (v := ?_) rfl (by kernel_rfl) (by kernel_rfl) (by kernel_rfl) (fun _ _ _ h => h) (Or.inl ⟨by rfl, ?_⟩) ?_
        rotate_left
        · (intro w; go_simp; try (with_reducible rfl))
        refine wpAny_take (i := 7) (v := ?_) rfl (by kernel_rfl) (by kernel_rfl) (by kernel_rfl) (fun _ _ _ h => h) (Or.inl ⟨by rfl, ?_⟩) ?_
        rotate_left
        · (intro w; go_simp; try (with_reducible rfl))
        refine wpAny_take (i := 8) (v := ?_) rfl (by kernel_rfl) (by kernel_rfl) (by kernel_rfl) (fun _ _ _ h => h) (Or.inl ⟨by rfl, ?_⟩) ?_
        rotate_left
        · (intro w; go_simp; try (with_reducible rfl))
        refine wpAny_ready (rs := [10]) (by kernel_rfl) (by simp) ?_
        refine AllReady.cons rfl (fun K hK => ?_) AllReady.nil
        refine step_store_ev (e := zeroE) (e2 := E) rfl _ _ rfl HZ3.out rfl rfl ?_
        intro x2 z1 z2
        have HA4 : Hid (EvAt x2 w.heap.size zeroE) := ((z2 _ _ (Below.refl (w.heap.size + 1) w3) (by simp)).block w.heap.size (by omega)).trans HA3.out
        have HB4 : Hid (Below w.heap.size w x2) := z2 _ _ HB3.out (by simp)
        have HZ1 : Hid (EvAt x2 (w.heap.size + 1) E) := z1
        clear z1 z2
        (refine hK _ _ ?_; clear hK K)
        refine wpAny_ready (rs := [11]) (by kernel_rfl) (by simp) ?_
        refine AllReady.cons rfl (fun K hK => ?_) AllReady.nil
        go_simp
        (refine hK _ _ ?_; clear hK K)
        refine wpAny_done (by kernel_rfl) ?_ _
        go_wp2_with ((with_reducible refine guard_store 25 ?_); refine wpList_store_ev (e := zeroE) (e2 := zeroE) rfl _ _ rfl HA4.out rfl rfl ?_; intro x5 z1 z2 z3 z4)
        rw [HR.out]
        exact bodyPost_ret (results_ev3 rfl _ _ _ _ _ _ rfl rfl rfl z1) rfl ⟨rfl, z2 _ _ HB4.out (Nat.le_refl _)⟩
  · have HR : Hid (sunp l = (0, zeroE, (e : Int))) := by show _ = _; unfold sunp; rw [hd]; exact if_pos he
    have heb : ((e : Int) != 0) = true := by simp; omega
    have heb2 : ¬ (e : Int) = 0 := by omega
    clear hn hb hAB hd hl he
    go_enter Tryd.func16, Tryd.ntmps16
    go_wp2_with (first
      | (go_at_call 29; refine (rdec_at l n u sz e a cap _ HN.out HD.out HBY.out (by rw [HN.out]; exact hm)).mono ?_; rintro _ w1 ⟨rfl, rfl⟩)
      | ((with_reducible refine guard_store 25 ?_); refine wpList_store_ev (e := zeroE) (e2 := zeroE) rfl _ _ rfl HA.out rfl rfl ?_; intro x5 z1 z2 z3 z4))
    rw [HR.out]
    exact bodyPost_ret (results_ev3 rfl _ _ _ _ _ _ rfl rfl rfl z1) rfl ⟨rfl, z2 _ _ HAB.out (Nat.le_refl _)⟩
end Go.Proofs.YtofealmjggpacaaDoor
namespace Go.Proofs.YtofealmjggpacaaDoor
open Go.ChangeShapes Go.WideShapes Go.ChangeAt Go.RowKit
set_option linter.unusedVariables false
/-- what a reading answers -/
def upR (l : List Nat) : Ev × Int := if (sunp l).2.2 ≠ 0 then (zeroE, (sunp l).2.2) else (toR (sunp l).1 5 (sunp l).2.1, toC (sunp l).1 5 (sunp l).2.1)
theorem chain_five (f : Int) (e : Ev) : (if chk f e = 0 then chainE f e else zeroE) = toR f 5 e ∧ chk f e = toC f 5 e := by
  unfold toR toC
  by_cases hb : toBad f 5
  · have h30 : chk f e = 30 := if_pos (by unfold toBad at hb; omega)
    rw [if_pos hb, if_pos hb, h30]
    exact ⟨if_neg (by decide), rfl⟩
  · rw [if_neg hb, if_neg hb]
    unfold toBad at hb
    refine ⟨?_, rfl⟩
    split
    · exact (to_five e f (by omega) (by omega)).symm
    · rfl
set_option maxRecDepth 20000 in
set_option maxHeartbeats 1000000 in
theorem uread_ok (v : Int) (E : Ev) (l : List Nat) (a : Option Addr) (n cap : Nat) (w : World) (ht : Tax w) (hs : sunp l = (v, E, 0)) (hn : l.length = n) (hb : Bytes w a l) (hcap : n ≤ cap) (hm : n ≤ maxLen) :
    Calls Tryd.prog 5 #[.slice a n cap] w fun x w' => x = .returned (.tuple #[.agg (evA (toR v 5 E)), .int .i64 (toC v 5 E)]) ∧ Below w.heap.size w w' := by
  have HS : Hid (_) := hs
  have HN : Hid (_) := hn
  obtain ⟨G, hG⟩ : ∃ G, toR v 5 E = G := ⟨_, rfl⟩
  obtain ⟨C, hC⟩ : ∃ C, toC v 5 E = C := ⟨_, rfl⟩
  have HG : Hid ((if chk v E = 0 then chainE v E else zeroE) = G ∧ chk v E = C) := ⟨(chain_five v E).1.trans hG, (chain_five v E).2.trans hC⟩
  have HA : Hid (EvAt (w.alloc (.cells (evA zeroE) 25)) w.heap.size zeroE) := evAt_new w zeroE
  have hAB : Below w.heap.size w (w.alloc (.cells (evA zeroE) 25)) := (Below.refl _ _).alloc (Nat.le_refl _) _
  have HAB : Hid (Below w.heap.size w (w.alloc (.cells (evA zeroE) 25))) := hAB
  have HBY : Hid (Bytes (w.alloc (.cells (evA zeroE) 25)) a l) := hb.keep hAB
  have HT : Hid (Tax w) := ht
  have T1 : Hid True := trivial
  rw [hG, hC]
  clear hs hn hb ht hAB hG hC
  go_enter Tryd.func5, Tryd.ntmps5
  go_wp2_with (first
    | (go_at_call 14; refine (sunp_any l a n cap _ HN.out HBY.out hcap hm).mono ?_; rw [HS.out]; rintro _ w3 ⟨rfl, hb3⟩; have HB3 : Hid (Below w.heap.size w w3) := below_next HAB.out hb3; have HA3 : Hid (EvAt w3 w.heap.size zeroE) := HA.out.after hb3; clear hb3)
    | ((with_reducible refine guard_store 25 ?_); clear T1; refine wpList_store_ev (e := zeroE) (e2 := E) rfl _ _ rfl (evAt_new w3 zeroE) rfl rfl ?_; intro x2 z1 z2 z3 z4; have HU : Hid (Below w3.heap.size w3 x2) := z2 _ _ ((Below.refl _ _).alloc (Nat.le_refl _) _) (Nat.le_refl _); have HA4 : Hid (EvAt x2 w.heap.size zeroE) := HA3.out.after HU.out; have HB4 : Hid (Below w.heap.size w x2) := below_next HB3.out HU.out; have HZ1 : Hid (EvAt x2 w3.heap.size E) := z1; clear z1 z2 z3 z4 HU)
    | ((with_reducible refine guard_load 25 ?_); refine wpList_load_ev rfl _ rfl HZ1.out rfl ?_)
    | (go_at_call 15; refine (chain_any v E _ (HT.out.keep HB4.out)).mono ?_; rw [HG.out.1, HG.out.2]; rintro _ w5 ⟨rfl, hb5⟩; have HB5 : Hid (Below w.heap.size w w5) := below_next HB4.out hb5; have HA5 : Hid (EvAt w5 w.heap.size zeroE) := HA4.out.after hb5; clear hb5)
    | ((with_reducible refine guard_store 25 ?_); refine wpList_store_ev (e := zeroE) (e2 := G) rfl _ _ rfl HA5.out rfl rfl ?_; intro x5 z1 z2 z3 z4))
  exact bodyPost_ret (results_ev rfl _ _ _ _ _ rfl rfl z1) rfl ⟨rfl, z2 _ _ HB5.out (Nat.le_refl _)⟩
set_option maxRecDepth 20000 in
set_option maxHeartbeats 1000000 in
theorem uread_bad (v c : Int) (E : Ev) (l : List Nat) (a : Option Addr) (n cap : Nat) (w : World) (hs : sunp l = (v, E, c)) (hc : (c != 0) = true) (hn : l.length = n) (hb : Bytes w a l) (hcap : n ≤ cap) (hm : n ≤ maxLen) :
    Calls Tryd.prog 5 #[.slice a n cap] w fun x w' => x = .returned (.tuple #[.agg (evA zeroE), .int .i64 c]) ∧ Below w.heap.size w w' := by
  have HS : Hid (_) := hs
  have HN : Hid (_) := hn
  have HA : Hid (EvAt (w.alloc (.cells (evA zeroE) 25)) w.heap.size zeroE) := evAt_new w zeroE
  have hAB : Below w.heap.size w (w.alloc (.cells (evA zeroE) 25)) := (Below.refl _ _).alloc (Nat.le_refl _) _
  have HAB : Hid (Below w.heap.size w (w.alloc (.cells (evA zeroE) 25))) := hAB
  have HBY : Hid (Bytes (w.alloc (.cells (evA zeroE) 25)) a l) := hb.keep hAB
  have T1 : Hid True := trivial
  clear hs hn hb hAB
  go_enter Tryd.func5, Tryd.ntmps5
  go_wp2_with (first
    | (go_at_call 14; refine (sunp_any l a n cap _ HN.out HBY.out hcap hm).mono ?_; rw [HS.out]; rintro _ w3 ⟨rfl, hb3⟩; have HB3 : Hid (Below w.heap.size w w3) := below_next HAB.out hb3; have HA3 : Hid (EvAt w3 w.heap.size zeroE) := HA.out.after hb3; clear hb3)
    | ((with_reducible refine guard_store 25 ?_); clear T1; refine wpList_store_ev (e := zeroE) (e2 := E) rfl _ _ rfl (evAt_new w3 zeroE) rfl rfl ?_; intro x2 z1 z2 z3 z4; have HU : Hid (Below w3.heap.size w3 x2) := z2 _ _ ((Below.refl _ _).alloc (Nat.le_refl _) _) (Nat.le_refl _); have HA4 : Hid (EvAt x2 w.heap.size zeroE) := HA3.out.after HU.out; have HB4 : Hid (Below w.heap.size w x2) := below_next HB3.out HU.out; have HZ1 : Hid (EvAt x2 w3.heap.size E) := z1; clear z1 z2 z3 z4 HU)
    | ((with_reducible refine guard_store 25 ?_); refine wpList_store_ev (e := zeroE) (e2 := zeroE) rfl _ _ rfl HA4.out rfl rfl ?_; intro x5 z1 z2 z3 z4))
  exact bodyPost_ret (results_ev rfl _ _ _ _ _ rfl rfl z1) rfl ⟨rfl, z2 _ _ HB4.out (Nat.le_refl _)⟩
theorem uread_any (l : List Nat) (a : Option Addr) (n cap : Nat) (w : World) (ht : Tax w) (hn : l.length = n) (hb : Bytes w a l) (hcap : n ≤ cap) (hm : n ≤ maxLen) :
    Calls Tryd.prog 5 #[.slice a n cap] w fun x w' => x = .returned (.tuple #[.agg (evA (upR l).1), .int .i64 (upR l).2]) ∧ Below w.heap.size w w' := by
  rcases hs : sunp l with ⟨v, E, c⟩
  by_cases hc : c = 0
  · subst hc
    have e1 : upR l = (toR v 5 E, toC v 5 E) := by unfold upR; rw [hs]; rfl
    rw [e1]
    exact uread_ok v E l a n cap w ht hs hn hb hcap hm
  · have e1 : upR l = (zeroE, c) := by unfold upR; rw [hs]; exact if_pos hc
    rw [e1]
    exact uread_bad v c E l a n cap w hs (by simpa using hc) hn hb hcap hm
set_option maxRecDepth 20000 in
set_option maxHeartbeats 1000000 in
theorem urread_ok (v : Int) (E : Ev) (l : List Nat) (a : Option Addr) (n cap : Nat) (w : World) (ht : Tax w) (hs : sunp l = (v, E, 0)) (hn : l.length = n) (hb : Bytes w a l) (hcap : n ≤ cap) (hm : n ≤ maxLen) :
    Calls Tryd.prog 7 #[.slice a n cap] w fun x w' => x = .returned (.tuple #[.agg (evA (toR v 5 E)), .int .i64 (toC v 5 E)]) ∧ Below w.heap.size w w' := by
  have HS : Hid (_) := hs
  have HN : Hid (_) := hn
  obtain ⟨G, hG⟩ : ∃ G, toR v 5 E = G := ⟨_, rfl⟩
  obtain ⟨C, hC⟩ : ∃ C, toC v 5 E = C := ⟨_, rfl⟩
  have HG : Hid (toR v 5 E = G ∧ toC v 5 E = C) := ⟨hG, hC⟩
  have HA : Hid (EvAt (w.alloc (.cells (evA zeroE) 25)) w.heap.size zeroE) := evAt_new w zeroE
  have hAB : Below w.heap.size w (w.alloc (.cells (evA zeroE) 25)) := (Below.refl _ _).alloc (Nat.le_refl _) _
  have HAB : Hid (Below w.heap.size w (w.alloc (.cells (evA zeroE) 25))) := hAB
  have HBY : Hid (Bytes (w.alloc (.cells (evA zeroE) 25)) a l) := hb.keep hAB
  have HT : Hid (Tax w) := ht
  have T1 : Hid True := trivial
  rw [hG, hC]
  clear hs hn hb ht hAB hG hC
  go_enter Tryd.func7, Tryd.ntmps7
  go_wp2_with (first
    | (go_at_call 16; refine (runp06_any l a n cap _ HN.out HBY.out hcap hm).mono ?_; rw [HS.out]; rintro _ w3 ⟨rfl, hb3⟩; have HB3 : Hid (Below w.heap.size w w3) := below_next HAB.out hb3; have HA3 : Hid (EvAt w3 w.heap.size zeroE) := HA.out.after hb3; clear hb3)
    | ((with_reducible refine guard_store 25 ?_); clear T1; refine wpList_store_ev (e := zeroE) (e2 := E) rfl _ _ rfl (evAt_new w3 zeroE) rfl rfl ?_; intro x2 z1 z2 z3 z4; have HU : Hid (Below w3.heap.size w3 x2) := z2 _ _ ((Below.refl _ _).alloc (Nat.le_refl _) _) (Nat.le_refl _); have HA4 : Hid (EvAt x2 w.heap.size zeroE) := HA3.out.after HU.out; have HB4 : Hid (Below w.heap.size w x2) := below_next HB3.out HU.out; have HZ1 : Hid (EvAt x2 w3.heap.size E) := z1; clear z1 z2 z3 z4 HU)
    | ((with_reducible refine guard_load 25 ?_); refine wpList_load_ev rfl _ rfl HZ1.out rfl ?_)
    | (go_at_call 17; refine (rto_any v 5 E _ (HT.out.keep HB4.out)).mono ?_; rw [HG.out.1, HG.out.2]; rintro _ w5 ⟨rfl, hb5⟩; have HB5 : Hid (Below w.heap.size w w5) := below_next HB4.out hb5; have HA5 : Hid (EvAt w5 w.heap.size zeroE) := HA4.out.after hb5; clear hb5)
    | ((with_reducible refine guard_store 25 ?_); refine wpList_store_ev (e := zeroE) (e2 := G) rfl _ _ rfl HA5.out rfl rfl ?_; intro x5 z1 z2 z3 z4))
  exact bodyPost_ret (results_ev rfl _ _ _ _ _ rfl rfl z1) rfl ⟨rfl, z2 _ _ HB5.out (Nat.le_refl _)⟩
set_option maxRecDepth 20000 in
set_option maxHeartbeats 1000000 in
theorem urread_bad (v c : Int) (E : Ev) (l : List Nat) (a : Option Addr) (n cap : Nat) (w : World) (hs : sunp l = (v, E, c)) (hc : (c != 0) = true) (hn : l.length = n) (hb : Bytes w a l) (hcap : n ≤ cap) (hm : n ≤ maxLen) :
    Calls Tryd.prog 7 #[.slice a n cap] w fun x w' => x = .returned (.tuple #[.agg (evA zeroE), .int .i64 c]) ∧ Below w.heap.size w w' := by
  have HS : Hid (_) := hs
  have HN : Hid (_) := hn
  have HA : Hid (EvAt (w.alloc (.cells (evA zeroE) 25)) w.heap.size zeroE) := evAt_new w zeroE
  have hAB : Below w.heap.size w (w.alloc (.cells (evA zeroE) 25)) := (Below.refl _ _).alloc (Nat.le_refl _) _
  have HAB : Hid (Below w.heap.size w (w.alloc (.cells (evA zeroE) 25))) := hAB
  have HBY : Hid (Bytes (w.alloc (.cells (evA zeroE) 25)) a l) := hb.keep hAB
  have T1 : Hid True := trivial
  clear hs hn hb hAB
  go_enter Tryd.func7, Tryd.ntmps7
  go_wp2_with (first
    | (go_at_call 16; refine (runp06_any l a n cap _ HN.out HBY.out hcap hm).mono ?_; rw [HS.out]; rintro _ w3 ⟨rfl, hb3⟩; have HB3 : Hid (Below w.heap.size w w3) := below_next HAB.out hb3; have HA3 : Hid (EvAt w3 w.heap.size zeroE) := HA.out.after hb3; clear hb3)
    | ((with_reducible refine guard_store 25 ?_); clear T1; refine wpList_store_ev (e := zeroE) (e2 := E) rfl _ _ rfl (evAt_new w3 zeroE) rfl rfl ?_; intro x2 z1 z2 z3 z4; have HU : Hid (Below w3.heap.size w3 x2) := z2 _ _ ((Below.refl _ _).alloc (Nat.le_refl _) _) (Nat.le_refl _); have HA4 : Hid (EvAt x2 w.heap.size zeroE) := HA3.out.after HU.out; have HB4 : Hid (Below w.heap.size w x2) := below_next HB3.out HU.out; have HZ1 : Hid (EvAt x2 w3.heap.size E) := z1; clear z1 z2 z3 z4 HU)
    | ((with_reducible refine guard_store 25 ?_); refine wpList_store_ev (e := zeroE) (e2 := zeroE) rfl _ _ rfl HA4.out rfl rfl ?_; intro x5 z1 z2 z3 z4))
  exact bodyPost_ret (results_ev rfl _ _ _ _ _ rfl rfl z1) rfl ⟨rfl, z2 _ _ HB4.out (Nat.le_refl _)⟩
theorem urread_any (l : List Nat) (a : Option Addr) (n cap : Nat) (w : World) (ht : Tax w) (hn : l.length = n) (hb : Bytes w a l) (hcap : n ≤ cap) (hm : n ≤ maxLen) :
    Calls Tryd.prog 7 #[.slice a n cap] w fun x w' => x = .returned (.tuple #[.agg (evA (upR l).1), .int .i64 (upR l).2]) ∧ Below w.heap.size w w' := by
  rcases hs : sunp l with ⟨v, E, c⟩
  by_cases hc : c = 0
  · subst hc
    have e1 : upR l = (toR v 5 E, toC v 5 E) := by unfold upR; rw [hs]; rfl
    rw [e1]
    exact urread_ok v E l a n cap w ht hs hn hb hcap hm
  · have e1 : upR l = (zeroE, c) := by unfold upR; rw [hs]; exact if_pos hc
    rw [e1]
    exact urread_bad v c E l a n cap w hs (by simpa using hc) hn hb hcap hm
end Go.Proofs.YtofealmjggpacaaDoor
namespace Go.Proofs.YtofealmjggpacaaDoor
open Go.ChangeShapes Go.WideShapes Go.ChangeAt Go.RowKit
set_option linter.unusedVariables false
theorem bel_drewN {B : Nat} {a w : World} (h : Below B a w) (n : Nat) : Below B a (w.drewN n) := by
  induction n with
  | zero => exact h
  | succ n ih => exact ih.drew
theorem copy_nn (l : List Nat) (a : Option Addr) (n cap : Nat) (w : World) (hn : l.length = n) (hb : Bytes w a l) (hl : n ≤ 281474976710656) :
    Calls Tryd.prog 6 #[.slice a n cap] w fun e w' => ∃ a2 cap2, e = .returned (.slice a2 n cap2) ∧ n ≤ cap2 ∧ Bytes w' a2 l ∧ Own w' w.heap.size (.slice a2 n cap2) l ∧ Below w.heap.size w w' := by
  subst hn
  refine (copy_any l a cap w hb hl).mono ?_
  rintro e w' ⟨v, rfl, ho, hb'⟩
  obtain ⟨a2, cap2, rfl, h1, _, h3, _⟩ := ho.shape
  exact ⟨a2, cap2, rfl, h1, h3, ho, hb'⟩
theorem same_yes (l : List Nat) (n1 n2 : Nat) (a1 a2 : Option Addr) (c1 c2 : Nat) (w : World) (e1 : l.length = n1) (e2 : l.length = n2) (hb1 : Bytes w a1 l) (hb2 : Bytes w a2 l) (hl : n1 ≤ maxLen) :
    Calls Tryd.prog 8 #[.slice a1 n1 c1, .slice a2 n2 c2] w fun e w' => e = .returned (.bool true) ∧ Below w.heap.size w w' := by
  refine (same_at l l n1 n2 a1 a2 c1 c2 w e1 e2 hb1 hb2 (by rw [e1]; exact hl) (by rw [e1]; exact hl)).mono ?_
  rw [decide_eq_true rfl]
  rintro e w' ⟨rfl, m, rfl⟩
  exact ⟨rfl, bel_drewN (Below.refl _ _) m⟩
theorem same_no (l m : List Nat) (n1 n2 : Nat) (a1 a2 : Option Addr) (c1 c2 : Nat) (w : World) (hne : l ≠ m) (e1 : l.length = n1) (e2 : m.length = n2) (hb1 : Bytes w a1 l) (hb2 : Bytes w a2 m) (hl : n1 ≤ maxLen) (hm : n2 ≤ maxLen) :
    Calls Tryd.prog 8 #[.slice a1 n1 c1, .slice a2 n2 c2] w fun e w' => e = .returned (.bool false) ∧ Below w.heap.size w w' := by
  refine (same_at l m n1 n2 a1 a2 c1 c2 w e1 e2 hb1 hb2 (by rw [e1]; exact hl) (by rw [e2]; exact hm)).mono ?_
  rw [decide_eq_false hne]
  rintro e w' ⟨rfl, m, rfl⟩
  exact ⟨rfl, bel_drewN (Below.refl _ _) m⟩
end Go.Proofs.YtofealmjggpacaaDoor
