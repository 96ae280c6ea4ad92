/- Own texts, joined: Sr8. -/
import Derived.Test.YtfhcbdmmckjmaaaJ16
import Derived.Test.YtfhcbdmmckjmaaaJ23
import Derived.Test.YtfhcbdmmckjmaaaJ25
import Derived.Deep.RegionWith
import Derived.Test.YtfhcbdmmckjmaaaJ15
namespace Go.Proofs.Ytfhcbdmmckjmaaa
open Go.ChangeShapes Go.WideShapes Go.ChangeAt Go.RowKit
set_option linter.unusedVariables false
set_option maxRecDepth 20000 in
set_option maxHeartbeats 1000000 in
theorem rpack06_no (v : Int) (E : Ev) (w : World) (hc : chk v E ≠ 0) : Calls Try.prog 18 #[.int .i64 v, .agg (evA E)] w fun r w' => r = .returned (.tuple #[.slice none 0 0, .int .i64 (chk v E)]) ∧ Below w.heap.size w w' := by
  have e1 : senc v E = ([], chk v E) := if_pos hc
  obtain ⟨c, hC⟩ : ∃ c, chk v E = c := ⟨_, rfl⟩
  rw [hC] at hc e1 ⊢
  have HC : Hid (_) := e1
  have hcb : (c != 0) = true := by simpa using hc
  clear hC e1
  have HA : Hid (EvAt (w.alloc (.cells (evA E) 24)) w.heap.size E) := evAt_new w E
  have HAB : Hid (Below w.heap.size w (w.alloc (.cells (evA E) 24))) := (Below.refl _ _).alloc (Nat.le_refl _) _
  go_enter Try.func18, Try.ntmps18
  go_wp2_with (first
    | ((with_reducible refine guard_load 24 ?_); refine wpList_load_ev rfl _ rfl HA.out rfl ?_)
    | (go_at_call 12; refine (renc06_any v E _).mono ?_; unfold SencPost; rw [HC.out]; rintro _ w1 ⟨v1, rfl, ho1, hb1⟩; have HB1 : Hid (Below w.heap.size w w1) := below_next HAB.out hb1; clear hb1 ho1))
  go_ret2
  exact ⟨rfl, HB1.out⟩
set_option maxRecDepth 20000 in
set_option maxHeartbeats 1000000 in
theorem rpack06_yes (V : Nat) (E : Ev) (w : World) (hc : chk V E = 0) (hv : V ≤ 5) : Calls Try.prog 18 #[.int .i64 (V : Int), .agg (evA E)] w fun r w' => ∃ v', r = .returned (.tuple #[v', .int .i64 0]) ∧ Own w' w.heap.size v' (enc V ++ ones (efs V E)) ∧ Below w.heap.size w w' := by
  obtain ⟨i0, hi, hz0, hz1, hz2⟩ := info_parts Try.info5
  have hw := wrapN (k := V) (by omega)
  have e1 : senc V E = (ones (efs V E), 0) := if_neg (by simp [hc])
  have HC : Hid (_) := e1
  have HEL : Hid ((ones (efs V E)).length ≤ 1024) := by
    have h1 := encs_pre _ _ _ _ (efs_encs (right_of hc))
    exact h1.2
  have HV : Hid (V ≤ 18446744073709551615) := by show _ ≤ _; omega
  have HLV : Hid ((enc V).length ≤ 10) := (enc_length_le V (by omega)).2
  clear hc hv e1
  have HA : Hid (EvAt (w.alloc (.cells (evA E) 24)) w.heap.size E) := evAt_new w E
  have HAB : Hid (Below w.heap.size w (w.alloc (.cells (evA E) 24))) := (Below.refl _ _).alloc (Nat.le_refl _) _
  go_enter Try.func18, Try.ntmps18
  go_wp2_with (first
    | ((with_reducible refine guard_load 24 ?_); refine wpList_load_ev rfl _ rfl HA.out rfl ?_)
    | (go_at_call 12; refine (renc06_any V E _).mono ?_; unfold SencPost; rw [HC.out]; rintro _ w1 ⟨v1, rfl, ho1, hb1⟩; have hB1 : Below w.heap.size w w1 := below_next HAB.out hb1; have HO1 : Hid (Own w1 w.heap.size v1 (ones (efs V E))) := ⟨ho1.1, ho1.2.mono HAB.out.size⟩; have HB1 : Hid (Below w.heap.size w w1) := hB1; clear hb1 ho1 hB1)
    | (go_at_call 39; refine (rencode_at (V : Int) V rfl _ HV.out).mono ?_; rintro _ w2 ⟨v2, rfl, ho2, hb2⟩; have HO2 : Hid (Own w2 w.heap.size v2 (enc V)) := ⟨ho2.1, ho2.2.mono HB1.out.size⟩; have HP2 : Hid (Own w2 w.heap.size v1 (ones (efs V E))) := own_app HO1.out hb2; have HB2 : Hid (Below w.heap.size w w2) := below_next HB1.out hb2; clear hb2 ho2; obtain ⟨xa, xc, hv1, _, _, hxb, hxs⟩ := HP2.out.shape; subst hv1; have HXB : Hid (_) := hxb; have HXC : Hid (xa = none → xc = 0) := (fun h => by rcases hxs with ⟨_, _, h3⟩ | ⟨g, h3, _⟩; exact h3; rw [h] at h3; cases h3); clear hxb hxs)
    | (at_builtin; refine wpList_append_b rfl _ _ 30 rfl w.heap.size i0 Try.underlying30 hi hz0 hz1 hz2 v2 _ _ rfl HO2.out.2 xa _ xc (ones (efs V E)) rfl rfl HXB.out HXC.out (by have := HEL.out; have := HLV.out; omega) HB2.out.size ?_; intro v3 w3 ho3 hg3; have HO3 : Hid (_) := ho3; have HB3 : Hid (Below w.heap.size w w3) := grown_row HB2.out HO2.out.2 HB2.out.size hg3; clear ho3 hg3))
  go_ret2
  refine ⟨_, rfl, ⟨lt_getD (fun x hx => ?_), ?_⟩, HB3.out⟩
  · rcases List.mem_append.1 hx with h | h
    · exact lt_all HO2.out.1 x h
    · exact lt_all HP2.out.1 x h
  · have h3 := HO3.out
    rw [← B8_append, ← List.length_append] at h3
    exact h3
theorem rpack06_any (v : Int) (E : Ev) (w : World) : Calls Try.prog 18 #[.int .i64 v, .agg (evA E)] w fun r w' => SpkPost w v E r w' := by
  by_cases hc : chk v E = 0
  · have hr := right_of hc
    obtain ⟨V, rfl⟩ := Int.eq_ofNat_of_zero_le (by have := hr.v1; omega : 0 ≤ v)
    have e1 : spk V E = (enc V ++ ones (efs V E), 0) := if_neg (by simp [hc])
    refine (rpack06_yes V E w hc (by have := hr.v5; omega)).mono ?_
    rintro r w' ⟨v', h1, h2, h3⟩
    exact ⟨v', by rw [e1]; exact h1, by rw [e1]; exact h2, h3⟩
  · have e1 : spk v E = ([], chk v E) := if_pos hc
    refine (rpack06_no v E w hc).mono ?_
    rintro r w' ⟨h1, h3⟩
    exact ⟨_, by rw [e1]; exact h1, by rw [e1]; exact ⟨by simp, World.ownsRow_nil _ _ _ 1⟩, h3⟩

theorem slice_run (A : Option Addr) (n cap i : Nat) (l : List Nat) (hi : i ≤ n) (hn : n ≤ cap) (hl : l.length = n) : ∃ x, (∀ (o : Oper) (a : Act) (s lo : Operand), o.op = .slice 30 s (some lo) none none → a.eval s = .slice A n cap → a.eval lo = .int .i64 (i : Int) → ∀ w, (execOp a.eval o).run Try.prog w = .ok (.value (.slice x (n - i) (cap - i))) w) ∧ ∀ w0, Bytes w0 A l → Bytes w0 x (l.drop i) := by
  refine ⟨_, fun o a s lo ho hs hlo w => ?_, fun w0 hb => bytes_cut hb i cap (by omega) (by omega)⟩
  have hrun := run_slice_l (P := Try.prog) w 30 A n cap slice_under .i64 (i : Int) (by omega) (by omega)
  unfold execOp
  simp only [ho, hs, hlo, Option.map_some, Option.map_none, Sem.run_bind, Sem.run_pure, Result.andThen_ok, run_sliceAt_slice (P := Try.prog) w 30 _ _ _ _ slice_under, hrun, slice_size, sliced, Int.toNat_natCast]
theorem two_drew (w : World) : EvAt ((w.alloc (.cells (evA zeroE) 24)).drew.alloc (.cells (evA zeroE) 24)) (w.heap.size + 1) zeroE ∧ Below (w.alloc (.cells (evA zeroE) 24)).heap.size (w.alloc (.cells (evA zeroE) 24)) ((w.alloc (.cells (evA zeroE) 24)).drew.alloc (.cells (evA zeroE) 24)) := by
  refine ⟨?_, (Below.refl (w.alloc (.cells (evA zeroE) 24)).heap.size (w.alloc (.cells (evA zeroE) 24))).drew.alloc (Nat.le_refl _) _⟩
  have := evAt_new (w.alloc (.cells (evA zeroE) 24)).drew zeroE
  simpa using this

set_option maxRecDepth 20000 in
set_option maxHeartbeats 4000000 in
theorem runp06_any (l : List Nat) (a : Option Addr) (n cap : Nat) (w : World) (hn : l.length = n) (hb : Bytes w a l) (hcap : n ≤ cap) (hm : n ≤ maxLen) :
    Calls Try.prog 20 #[.slice a n cap] w fun r w' => r = .returned (.tuple #[.int .i64 (sunp l).1, .agg (evA (sunp l).2.1), .int .i64 (sunp l).2.2]) ∧ Below w.heap.size w w' := by
  have hl := lt_all hb.1
  have HN : Hid (_) := hn
  have HA : Hid (EvAt (w.alloc (.cells (evA zeroE) 24)) w.heap.size zeroE) := evAt_new w zeroE
  have hAB : Below w.heap.size w (w.alloc (.cells (evA zeroE) 24)) := (Below.refl _ _).alloc (Nat.le_refl _) _
  have HAB : Hid (Below w.heap.size w (w.alloc (.cells (evA zeroE) 24))) := hAB
  have HBY : Hid (Bytes (w.alloc (.cells (evA zeroE) 24)) a l) := hb.keep hAB
  have HLT : Hid (w.heap.size < (w.alloc (.cells (evA zeroE) 24)).heap.size) := by show _ < _; simp
  rcases hd : dec 0 0 l with ⟨u, sz, e⟩
  have HD : Hid (_) := hd
  by_cases he : e = 0
  · subst he
    have hf := vdec_form l hl (by rw [hd])
    rw [hd] at hf
    obtain ⟨_, hsz, _, _, _⟩ := hf
    simp only at hsz
    have hszn : sz ≤ n := by omega
    obtain ⟨E, c, hEc⟩ : ∃ E c, sdec (capN u) (l.drop sz) = (E, c) := ⟨_, _, rfl⟩
    have HE : Hid (_) := hEc
    have HSU : Hid (sunp l = if c ≠ 0 then (0, zeroE, c) else (capN u, E, 0)) := by
      show _ = _
      unfold sunp
      rw [hd]
      simp only [ne_eq, not_true_eq_false, if_false]
      rw [hEc]
    have HDL : Hid ((l.drop sz).length = n - sz) := by show _ = _; rw [List.length_drop]; omega
    have hcap2 : n - sz ≤ cap - sz := by omega
    have hm2 : n - sz ≤ maxLen := by omega
    clear hn hb hAB hd hl hEc
    have T1 : Hid True := trivial
    by_cases hc : c = 0
    · subst hc
      have HR : Hid (sunp l = (capN u, E, 0)) := by show _ = _; rw [HSU.out]; rfl
      clear HSU
      go_enter Try.func20, Try.ntmps20
      go_wp2_with (first
        | (go_at_call 41; refine (rdec_at l n u sz 0 a cap _ HN.out HD.out HBY.out (by rw [HN.out]; exact hm)).mono ?_; rintro _ w1 ⟨rfl, rfl⟩))
      have HTD : Hid (_) := two_drew w
      obtain ⟨xa, hsl, hxb⟩ := slice_run a n cap sz l hszn hcap HN.out
      have HXA : Hid (_) := hxb
      clear hxb
      refine wp_region_any (by kernel_rfl) ?_
      change wpAny _ _ _ _ _ _ _ (World.drew _)
      refine wpAny_take (i := 0) (v := ?_) rfl (by kernel_rfl) (by kernel_rfl) (by kernel_rfl) (fun _ _ _ h => h) (Or.inl ⟨by rfl, ?_⟩) ?_
      rotate_left
      · (intro w; go_simp; try (with_reducible rfl))
      refine wpAny_take (i := 2) (v := ?_) rfl (by kernel_rfl) (by kernel_rfl) (by kernel_rfl) (fun _ _ _ h => h) (Or.inl ⟨by rfl, ?_⟩) ?_
      rotate_left
      · (intro w; go_simp; try (with_reducible rfl))
      refine wpAny_take (i := 3) (v := ?_) rfl (by kernel_rfl) (by kernel_rfl) (by kernel_rfl) (fun _ _ _ h => h) (Or.inl ⟨by rfl, ?_⟩) ?_
      rotate_left
      · (intro w; go_simp; try (with_reducible rfl))
      refine wpAny_take (i := 4) (v := ?_) rfl (by kernel_rfl) (by kernel_rfl) (by kernel_rfl) (fun _ _ _ h => h) (Or.inl ⟨by rfl, ?_⟩) ?_
      rotate_left
      · exact fun w => by refine hsl _ _ (.tmp 22) (.tmp 23) ?_ ?_ ?_ w <;> rfl
      refine wpAny_ready (rs := [1, 9]) (by kernel_rfl) (by simp) ?_
      refine AllReady.cons rfl (fun K hK => ?_) (AllReady.cons rfl (fun K hK => ?_) AllReady.nil)
      · go_simp
        refine (clamp_any u _).mono ?_
        rintro _ y ⟨rfl, rfl⟩
        (refine hK _ _ ?_; clear hK K)
        refine wpAny_ready (rs := [5, 9]) (by kernel_rfl) (by simp) ?_
        refine AllReady.cons rfl (fun K hK => ?_) (AllReady.cons rfl (fun K hK => ?_) AllReady.nil)
        · go_simp
          refine (rdec06_any (capN u) (l.drop sz) xa (n - sz) (cap - sz) _ HDL.out (HXA.out _ (HBY.out.keep (Below.refl _ _).drew)) hcap2 hm2).mono ?_
          rw [HE.out]
          rintro _ w3 ⟨rfl, hb3⟩
          have HB3 : Hid (Below w.heap.size w w3) := below_next HAB.out.drew hb3
          have HA3 : Hid (EvAt w3 w.heap.size zeroE) := (show EvAt (w.alloc (.cells (evA zeroE) 24)).drew w.heap.size zeroE from HA.out).after hb3
          clear hb3
          (refine hK _ _ ?_; clear hK K)
          refine wpAny_take (i := 6) (v := ?_) rfl (by kernel_rfl) (by kernel_rfl) (by kernel_rfl) (fun _ _ _ h => h) (Or.inl ⟨by rfl, ?_⟩) ?_
          rotate_left
          · (intro w; go_simp; try (with_reducible rfl))
          refine wpAny_take (i := 7) (v := ?_) rfl (by kernel_rfl) (by kernel_rfl) (by kernel_rfl) (fun _ _ _ h => h) (Or.inl ⟨by rfl, ?_⟩) ?_
          rotate_left
          · (intro w; go_simp; try (with_reducible rfl))
          refine wpAny_take (i := 8) (v := ?_) rfl (by kernel_rfl) (by kernel_rfl) (by kernel_rfl) (fun _ _ _ h => h) (Or.inl ⟨by rfl, ?_⟩) ?_
          rotate_left
          · (intro w; go_simp; try (with_reducible rfl))
          refine wpAny_ready (rs := [9]) (by kernel_rfl) (by simp) ?_
          refine AllReady.cons rfl (fun K hK => ?_) AllReady.nil
          go_simp
          (refine hK _ _ ?_; clear hK K)
          refine wpAny_ready (rs := [10]) (by kernel_rfl) (by simp) ?_
          refine AllReady.cons rfl (fun K hK => ?_) AllReady.nil
          refine step_store_ev (e := zeroE) (e2 := E) rfl _ _ rfl (evAt_new w3 zeroE) rfl rfl ?_
          intro x2 z1 z2
          have HU : Hid (Below w3.heap.size w3 x2) := z2 _ _ ((Below.refl _ _).alloc (Nat.le_refl _) _) (Nat.le_refl _)
          have HA4 : Hid (EvAt x2 w.heap.size zeroE) := HA3.out.after HU.out
          have HB4 : Hid (Below w.heap.size w x2) := below_next HB3.out HU.out
          have HZ1 : Hid (EvAt x2 w3.heap.size E) := z1
          clear z1 z2 HU
          (refine hK _ _ ?_; clear hK K)
          refine wpAny_ready (rs := [11]) (by kernel_rfl) (by simp) ?_
          refine AllReady.cons rfl (fun K hK => ?_) AllReady.nil
          go_simp
          (refine hK _ _ ?_; clear hK K)
          refine wpAny_done (by kernel_rfl) ?_ _
          go_wp2
          refine wp_region_any (by kernel_rfl) ?_
          change wpAny _ _ _ _ _ _ _ (World.drew _)
          refine wpAny_take (i := 0) (v := ?_) rfl (by kernel_rfl) (by kernel_rfl) (by kernel_rfl) (fun _ _ _ h => h) (Or.inl ⟨by rfl, ?_⟩) ?_
          rotate_left
          · (intro w; go_simp; try (with_reducible rfl))
          refine wpAny_ready (rs := [1, 2]) (by kernel_rfl) (by simp) ?_
          refine AllReady.cons rfl (fun K hK => ?_) (AllReady.cons rfl (fun K hK => ?_) AllReady.nil)
          · go_simp
            refine (clamp_any u _).mono ?_
            rintro _ y ⟨rfl, rfl⟩
            (refine hK _ _ ?_; clear hK K)
            refine wpAny_take (i := 3) (v := ?_) rfl (by kernel_rfl) (by kernel_rfl) (by kernel_rfl) (fun _ _ _ h => h) (Or.inl ⟨by rfl, ?_⟩) ?_
            rotate_left
            · (intro w; go_simp; try (with_reducible rfl))
            refine wpAny_ready (rs := [2]) (by kernel_rfl) (by simp) ?_
            refine AllReady.cons rfl (fun K hK => ?_) AllReady.nil
            refine step_load_ev rfl _ rfl (show EvAt x2.drew _ E from HZ1.out) rfl ?_
            (refine hK _ _ ?_; clear hK K)
            refine wpAny_ready (rs := [4]) (by kernel_rfl) (by simp) ?_
            refine AllReady.cons rfl (fun K hK => ?_) AllReady.nil
            refine step_store_ev (e := zeroE) (e2 := E) rfl _ _ rfl (show EvAt x2.drew w.heap.size zeroE from HA4.out) rfl rfl ?_
            intro x5 z1 z2
            (refine hK _ _ ?_; clear hK K)
            refine wpAny_ready (rs := [5]) (by kernel_rfl) (by simp) ?_
            refine AllReady.cons rfl (fun K hK => ?_) AllReady.nil
            go_simp
            (refine hK _ _ ?_; clear hK K)
            refine wpAny_done (by kernel_rfl) ?_ _
            go_wp2
            rw [HR.out]
            exact bodyPost_ret (results_ev3 rfl _ _ _ _ _ _ rfl rfl rfl z1) rfl ⟨rfl, z2 _ _ HB4.out.drew (Nat.le_refl _)⟩
          · refine step_load_ev rfl _ rfl (show EvAt x2.drew _ E from HZ1.out) rfl ?_
            (refine hK _ _ ?_; clear hK K)
            refine wpAny_ready (rs := [1]) (by kernel_rfl) (by simp) ?_
            refine AllReady.cons rfl (fun K hK => ?_) AllReady.nil
            go_simp
            refine (clamp_any u _).mono ?_
            rintro _ y ⟨rfl, rfl⟩
            (refine hK _ _ ?_; clear hK K)
            refine wpAny_take (i := 3) (v := ?_) rfl (by kernel_rfl) (by kernel_rfl) (by kernel_rfl) (fun _ _ _ h => h) (Or.inl ⟨by rfl, ?_⟩) ?_
            rotate_left
            · (intro w; go_simp; try (with_reducible rfl))
            refine wpAny_ready (rs := [4]) (by kernel_rfl) (by simp) ?_
            refine AllReady.cons rfl (fun K hK => ?_) AllReady.nil
            refine step_store_ev (e := zeroE) (e2 := E) rfl _ _ rfl (show EvAt x2.drew w.heap.size zeroE from HA4.out) rfl rfl ?_
            intro x5 z1 z2
            (refine hK _ _ ?_; clear hK K)
            refine wpAny_ready (rs := [5]) (by kernel_rfl) (by simp) ?_
            refine AllReady.cons rfl (fun K hK => ?_) AllReady.nil
            go_simp
            (refine hK _ _ ?_; clear hK K)
            refine wpAny_done (by kernel_rfl) ?_ _
            go_wp2
            rw [HR.out]
            exact bodyPost_ret (results_ev3 rfl _ _ _ _ _ _ rfl rfl rfl z1) rfl ⟨rfl, z2 _ _ HB4.out.drew (Nat.le_refl _)⟩
        · go_simp
          (refine hK _ _ ?_; clear hK K)
          refine wpAny_ready (rs := [5]) (by kernel_rfl) (by simp) ?_
          refine AllReady.cons rfl (fun K hK => ?_) AllReady.nil
          go_simp
          refine (rdec06_any (capN u) (l.drop sz) xa (n - sz) (cap - sz) _ HDL.out (HXA.out _ (HBY.out.keep HTD.out.2)) hcap2 hm2).mono ?_
          rw [HE.out]
          rintro _ w3 ⟨rfl, hb3⟩
          have HB3 : Hid (Below w.heap.size w w3) := below_next (below_next HAB.out HTD.out.2) hb3
          have HA3 : Hid (EvAt w3 w.heap.size zeroE) := (HA.out.after HTD.out.2).after hb3
          have HZ3 : Hid (EvAt w3 (w.heap.size + 1) zeroE) := HTD.out.1.after hb3
          clear hb3
          (refine hK _ _ ?_; clear hK K)
          refine wpAny_take (i := 6) (v := ?_) rfl (by kernel_rfl) (by kernel_rfl) (by kernel_rfl) (fun _ _ _ h => h) (Or.inl ⟨by rfl, ?_⟩) ?_
          rotate_left
          · (intro w; go_simp; try (with_reducible rfl))
          refine wpAny_take (i := 7) (v := ?_) rfl (by kernel_rfl) (by kernel_rfl) (by kernel_rfl) (fun _ _ _ h => h) (Or.inl ⟨by rfl, ?_⟩) ?_
          rotate_left
          · (intro w; go_simp; try (with_reducible rfl))
          refine wpAny_take (i := 8) (v := ?_) rfl (by kernel_rfl) (by kernel_rfl) (by kernel_rfl) (fun _ _ _ h => h) (Or.inl ⟨by rfl, ?_⟩) ?_
          rotate_left
          · (intro w; go_simp; try (with_reducible rfl))
          refine wpAny_ready (rs := [10]) (by kernel_rfl) (by simp) ?_
          refine AllReady.cons rfl (fun K hK => ?_) AllReady.nil
          refine step_store_ev (e := zeroE) (e2 := E) rfl _ _ rfl HZ3.out rfl rfl ?_
          intro x2 z1 z2
          have HA4 : Hid (EvAt x2 w.heap.size zeroE) := ((z2 _ _ (Below.refl (w.heap.size + 1) w3) (by simp)).block w.heap.size (by omega)).trans HA3.out
          have HB4 : Hid (Below w.heap.size w x2) := z2 _ _ HB3.out (by simp)
          have HZ1 : Hid (EvAt x2 (w.heap.size + 1) E) := z1
          clear z1 z2
          (refine hK _ _ ?_; clear hK K)
          refine wpAny_ready (rs := [11]) (by kernel_rfl) (by simp) ?_
          refine AllReady.cons rfl (fun K hK => ?_) AllReady.nil
          go_simp
          (refine hK _ _ ?_; clear hK K)
          refine wpAny_done (by kernel_rfl) ?_ _
          go_wp2
          refine wp_region_any (by kernel_rfl) ?_
          change wpAny _ _ _ _ _ _ _ (World.drew _)
          refine wpAny_take (i := 0) (v := ?_) rfl (by kernel_rfl) (by kernel_rfl) (by kernel_rfl) (fun _ _ _ h => h) (Or.inl ⟨by rfl, ?_⟩) ?_
          rotate_left
          · (intro w; go_simp; try (with_reducible rfl))
          refine wpAny_ready (rs := [1, 2]) (by kernel_rfl) (by simp) ?_
          refine AllReady.cons rfl (fun K hK => ?_) (AllReady.cons rfl (fun K hK => ?_) AllReady.nil)
          · go_simp
            refine (clamp_any u _).mono ?_
            rintro _ y ⟨rfl, rfl⟩
            (refine hK _ _ ?_; clear hK K)
            refine wpAny_take (i := 3) (v := ?_) rfl (by kernel_rfl) (by kernel_rfl) (by kernel_rfl) (fun _ _ _ h => h) (Or.inl ⟨by rfl, ?_⟩) ?_
            rotate_left
            · (intro w; go_simp; try (with_reducible rfl))
            refine wpAny_ready (rs := [2]) (by kernel_rfl) (by simp) ?_
            refine AllReady.cons rfl (fun K hK => ?_) AllReady.nil
            refine step_load_ev rfl _ rfl (show EvAt x2.drew _ E from HZ1.out) rfl ?_
            (refine hK _ _ ?_; clear hK K)
            refine wpAny_ready (rs := [4]) (by kernel_rfl) (by simp) ?_
            refine AllReady.cons rfl (fun K hK => ?_) AllReady.nil
            refine step_store_ev (e := zeroE) (e2 := E) rfl _ _ rfl (show EvAt x2.drew w.heap.size zeroE from HA4.out) rfl rfl ?_
            intro x5 z1 z2
            (refine hK _ _ ?_; clear hK K)
            refine wpAny_ready (rs := [5]) (by kernel_rfl) (by simp) ?_
            refine AllReady.cons rfl (fun K hK => ?_) AllReady.nil
            go_simp
            (refine hK _ _ ?_; clear hK K)
            refine wpAny_done (by kernel_rfl) ?_ _
            go_wp2
            rw [HR.out]
            exact bodyPost_ret (results_ev3 rfl _ _ _ _ _ _ rfl rfl rfl z1) rfl ⟨rfl, z2 _ _ HB4.out.drew (Nat.le_refl _)⟩
          · refine step_load_ev rfl _ rfl (show EvAt x2.drew _ E from HZ1.out) rfl ?_
            (refine hK _ _ ?_; clear hK K)
            refine wpAny_ready (rs := [1]) (by kernel_rfl) (by simp) ?_
            refine AllReady.cons rfl (fun K hK => ?_) AllReady.nil
            go_simp
            refine (clamp_any u _).mono ?_
            rintro _ y ⟨rfl, rfl⟩
            (refine hK _ _ ?_; clear hK K)
            refine wpAny_take (i := 3) (v := ?_) rfl (by kernel_rfl) (by kernel_rfl) (by kernel_rfl) (fun _ _ _ h => h) (Or.inl ⟨by rfl, ?_⟩) ?_
            rotate_left
            · (intro w; go_simp; try (with_reducible rfl))
            refine wpAny_ready (rs := [4]) (by kernel_rfl) (by simp) ?_
            refine AllReady.cons rfl (fun K hK => ?_) AllReady.nil
            refine step_store_ev (e := zeroE) (e2 := E) rfl _ _ rfl (show EvAt x2.drew w.heap.size zeroE from HA4.out) rfl rfl ?_
            intro x5 z1 z2
            (refine hK _ _ ?_; clear hK K)
            refine wpAny_ready (rs := [5]) (by kernel_rfl) (by simp) ?_
            refine AllReady.cons rfl (fun K hK => ?_) AllReady.nil
            go_simp
            (refine hK _ _ ?_; clear hK K)
            refine wpAny_done (by kernel_rfl) ?_ _
            go_wp2
            rw [HR.out]
            exact bodyPost_ret (results_ev3 rfl _ _ _ _ _ _ rfl rfl rfl z1) rfl ⟨rfl, z2 _ _ HB4.out.drew (Nat.le_refl _)⟩
      · go_simp
        (refine hK _ _ ?_; clear hK K)
        refine wpAny_ready (rs := [1]) (by kernel_rfl) (by simp) ?_
        refine AllReady.cons rfl (fun K hK => ?_) AllReady.nil
        go_simp
        refine (clamp_any u _).mono ?_
        rintro _ y ⟨rfl, rfl⟩
        (refine hK _ _ ?_; clear hK K)
        refine wpAny_ready (rs := [5]) (by kernel_rfl) (by simp) ?_
        refine AllReady.cons rfl (fun K hK => ?_) AllReady.nil
        go_simp
        refine (rdec06_any (capN u) (l.drop sz) xa (n - sz) (cap - sz) _ HDL.out (HXA.out _ (HBY.out.keep HTD.out.2)) hcap2 hm2).mono ?_
        rw [HE.out]
        rintro _ w3 ⟨rfl, hb3⟩
        have HB3 : Hid (Below w.heap.size w w3) := below_next (below_next HAB.out HTD.out.2) hb3
        have HA3 : Hid (EvAt w3 w.heap.size zeroE) := (HA.out.after HTD.out.2).after hb3
        have HZ3 : Hid (EvAt w3 (w.heap.size + 1) zeroE) := HTD.out.1.after hb3
        clear hb3
        (refine hK _ _ ?_; clear hK K)
        refine wpAny_take (i := 6) (v := ?_) rfl (by kernel_rfl) (by kernel_rfl) (by kernel_rfl) (fun _ _ _ h => h) (Or.inl ⟨by rfl, ?_⟩) ?_
        rotate_left
        · (intro w; go_simp; try (with_reducible rfl))
        refine wpAny_take (i := 7) (v := ?_) rfl (by kernel_rfl) (by kernel_rfl) (by kernel_rfl) (fun _ _ _ h => h) (Or.inl ⟨by rfl, ?_⟩) ?_
        rotate_left
        · (intro w; go_simp; try (with_reducible rfl))
        refine wpAny_take (i := 8) (v := ?_) rfl (by kernel_rfl) (by kernel_rfl) (by kernel_rfl) (fun _ _ _ h => h) (Or.inl ⟨by rfl, ?_⟩) ?_
        rotate_left
        · (intro w; go_simp; try (with_reducible rfl))
        refine wpAny_ready (rs := [10]) (by kernel_rfl) (by simp) ?_
        refine AllReady.cons rfl (fun K hK => ?_) AllReady.nil
        refine step_store_ev (e := zeroE) (e2 := E) rfl _ _ rfl HZ3.out rfl rfl ?_
        intro x2 z1 z2
        have HA4 : Hid (EvAt x2 w.heap.size zeroE) := ((z2 _ _ (Below.refl (w.heap.size + 1) w3) (by simp)).block w.heap.size (by omega)).trans HA3.out
        have HB4 : Hid (Below w.heap.size w x2) := z2 _ _ HB3.out (by simp)
        have HZ1 : Hid (EvAt x2 (w.heap.size + 1) E) := z1
        clear z1 z2
        (refine hK _ _ ?_; clear hK K)
        refine wpAny_ready (rs := [11]) (by kernel_rfl) (by simp) ?_
        refine AllReady.cons rfl (fun K hK => ?_) AllReady.nil
        go_simp
        (refine hK _ _ ?_; clear hK K)
        refine wpAny_done (by kernel_rfl) ?_ _
        go_wp2
        refine wp_region_any (by kernel_rfl) ?_
        change wpAny _ _ _ _ _ _ _ (World.drew _)
        refine wpAny_take (i := 0) (v := ?_) rfl (by kernel_rfl) (by kernel_rfl) (by kernel_rfl) (fun _ _ _ h => h) (Or.inl ⟨by rfl, ?_⟩) ?_
        rotate_left
        · (intro w; go_simp; try (with_reducible rfl))
        refine wpAny_ready (rs := [1, 2]) (by kernel_rfl) (by simp) ?_
        refine AllReady.cons rfl (fun K hK => ?_) (AllReady.cons rfl (fun K hK => ?_) AllReady.nil)
        · go_simp
          refine (clamp_any u _).mono ?_
          rintro _ y ⟨rfl, rfl⟩
          (refine hK _ _ ?_; clear hK K)
          refine wpAny_take (i := 3) (v := ?_) rfl (by kernel_rfl) (by kernel_rfl) (by kernel_rfl) (fun _ _ _ h => h) (Or.inl ⟨by rfl, ?_⟩) ?_
          rotate_left
          · (intro w; go_simp; try (with_reducible rfl))
          refine wpAny_ready (rs := [2]) (by kernel_rfl) (by simp) ?_
          refine AllReady.cons rfl (fun K hK => ?_) AllReady.nil
          refine step_load_ev rfl _ rfl (show EvAt x2.drew _ E from HZ1.out) rfl ?_
          (refine hK _ _ ?_; clear hK K)
          refine wpAny_ready (rs := [4]) (by kernel_rfl) (by simp) ?_
          refine AllReady.cons rfl (fun K hK => ?_) AllReady.nil
          refine step_store_ev (e := zeroE) (e2 := E) rfl _ _ rfl (show EvAt x2.drew w.heap.size zeroE from HA4.out) rfl rfl ?_
          intro x5 z1 z2
          (refine hK _ _ ?_; clear hK K)
          refine wpAny_ready (rs := [5]) (by kernel_rfl) (by simp) ?_
          refine AllReady.cons rfl (fun K hK => ?_) AllReady.nil
          go_simp
          (refine hK _ _ ?_; clear hK K)
          refine wpAny_done (by kernel_rfl) ?_ _
          go_wp2
          rw [HR.out]
          exact bodyPost_ret (results_ev3 rfl _ _ _ _ _ _ rfl rfl rfl z1) rfl ⟨rfl, z2 _ _ HB4.out.drew (Nat.le_refl _)⟩
        · refine step_load_ev rfl _ rfl (show EvAt x2.drew _ E from HZ1.out) rfl ?_
          (refine hK _ _ ?_; clear hK K)
          refine wpAny_ready (rs := [1]) (by kernel_rfl) (by simp) ?_
          refine AllReady.cons rfl (fun K hK => ?_) AllReady.nil
          go_simp
          refine (clamp_any u _).mono ?_
          rintro _ y ⟨rfl, rfl⟩
          (refine hK _ _ ?_; clear hK K)
          refine wpAny_take (i := 3) (v := ?_) rfl (by kernel_rfl) (by kernel_rfl) (by kernel_rfl) (fun _ _ _ h => h) (Or.inl ⟨by rfl, ?_⟩) ?_
          rotate_left
          · (intro w; go_simp; try (with_reducible rfl))
          refine wpAny_ready (rs := [4]) (by kernel_rfl) (by simp) ?_
          refine AllReady.cons rfl (fun K hK => ?_) AllReady.nil
          refine step_store_ev (e := zeroE) (e2 := E) rfl _ _ rfl (show EvAt x2.drew w.heap.size zeroE from HA4.out) rfl rfl ?_
          intro x5 z1 z2
          (refine hK _ _ ?_; clear hK K)
          refine wpAny_ready (rs := [5]) (by kernel_rfl) (by simp) ?_
          refine AllReady.cons rfl (fun K hK => ?_) AllReady.nil
          go_simp
          (refine hK _ _ ?_; clear hK K)
          refine wpAny_done (by kernel_rfl) ?_ _
          go_wp2
          rw [HR.out]
          exact bodyPost_ret (results_ev3 rfl _ _ _ _ _ _ rfl rfl rfl z1) rfl ⟨rfl, z2 _ _ HB4.out.drew (Nat.le_refl _)⟩
    · have HR : Hid (sunp l = (0, zeroE, c)) := by show _ = _; rw [HSU.out, if_pos hc]
      have hcb : (c != 0) = true := by simpa using hc
      clear HSU
      go_enter Try.func20, Try.ntmps20
      go_wp2_with (first
        | (go_at_call 41; refine (rdec_at l n u sz 0 a cap _ HN.out HD.out HBY.out (by rw [HN.out]; exact hm)).mono ?_; rintro _ w1 ⟨rfl, rfl⟩))
      have HTD : Hid (_) := two_drew w
      obtain ⟨xa, hsl, hxb⟩ := slice_run a n cap sz l hszn hcap HN.out
      have HXA : Hid (_) := hxb
      clear hxb
      refine wp_region_any (by kernel_rfl) ?_
      change wpAny _ _ _ _ _ _ _ (World.drew _)
      refine wpAny_take (i := 0) (v := ?_) rfl (by kernel_rfl) (by kernel_rfl) (by kernel_rfl) (fun _ _ _ h => h) (Or.inl ⟨by rfl, ?_⟩) ?_
      rotate_left
      · (intro w; go_simp; try (with_reducible rfl))
      refine wpAny_take (i := 2) (v := ?_) rfl (by kernel_rfl) (by kernel_rfl) (by kernel_rfl) (fun _ _ _ h => h) (Or.inl ⟨by rfl, ?_⟩) ?_
      rotate_left
      · (intro w; go_simp; try (with_reducible rfl))
      refine wpAny_take (i := 3) (v := ?_) rfl (by kernel_rfl) (by kernel_rfl) (by kernel_rfl) (fun _ _ _ h => h) (Or.inl ⟨by rfl, ?_⟩) ?_
      rotate_left
      · (intro w; go_simp; try (with_reducible rfl))
      refine wpAny_take (i := 4) (v := ?_) rfl (by kernel_rfl) (by kernel_rfl) (by kernel_rfl) (fun _ _ _ h => h) (Or.inl ⟨by rfl, ?_⟩) ?_
      rotate_left
      · exact fun w => by refine hsl _ _ (.tmp 22) (.tmp 23) ?_ ?_ ?_ w <;> rfl
      refine wpAny_ready (rs := [1, 9]) (by kernel_rfl) (by simp) ?_
      refine AllReady.cons rfl (fun K hK => ?_) (AllReady.cons rfl (fun K hK => ?_) AllReady.nil)
      · go_simp
        refine (clamp_any u _).mono ?_
        rintro _ y ⟨rfl, rfl⟩
        (refine hK _ _ ?_; clear hK K)
        refine wpAny_ready (rs := [5, 9]) (by kernel_rfl) (by simp) ?_
        refine AllReady.cons rfl (fun K hK => ?_) (AllReady.cons rfl (fun K hK => ?_) AllReady.nil)
        · go_simp
          refine (rdec06_any (capN u) (l.drop sz) xa (n - sz) (cap - sz) _ HDL.out (HXA.out _ (HBY.out.keep (Below.refl _ _).drew)) hcap2 hm2).mono ?_
          rw [HE.out]
          rintro _ w3 ⟨rfl, hb3⟩
          have HB3 : Hid (Below w.heap.size w w3) := below_next HAB.out.drew hb3
          have HA3 : Hid (EvAt w3 w.heap.size zeroE) := (show EvAt (w.alloc (.cells (evA zeroE) 24)).drew w.heap.size zeroE from HA.out).after hb3
          clear hb3
          (refine hK _ _ ?_; clear hK K)
          refine wpAny_take (i := 6) (v := ?_) rfl (by kernel_rfl) (by kernel_rfl) (by kernel_rfl) (fun _ _ _ h => h) (Or.inl ⟨by rfl, ?_⟩) ?_
          rotate_left
          · (intro w; go_simp; try (with_reducible rfl))
          refine wpAny_take (i := 7) (v := ?_) rfl (by kernel_rfl) (by kernel_rfl) (by kernel_rfl) (fun _ _ _ h => h) (Or.inl ⟨by rfl, ?_⟩) ?_
          rotate_left
          · (intro w; go_simp; try (with_reducible rfl))
          refine wpAny_take (i := 8) (v := ?_) rfl (by kernel_rfl) (by kernel_rfl) (by kernel_rfl) (fun _ _ _ h => h) (Or.inl ⟨by rfl, ?_⟩) ?_
          rotate_left
          · (intro w; go_simp; try (with_reducible rfl))
          refine wpAny_ready (rs := [9]) (by kernel_rfl) (by simp) ?_
          refine AllReady.cons rfl (fun K hK => ?_) AllReady.nil
          go_simp
          (refine hK _ _ ?_; clear hK K)
          refine wpAny_ready (rs := [10]) (by kernel_rfl) (by simp) ?_
          refine AllReady.cons rfl (fun K hK => ?_) AllReady.nil
          refine step_store_ev (e := zeroE) (e2 := E) rfl _ _ rfl (evAt_new w3 zeroE) rfl rfl ?_
          intro x2 z1 z2
          have HU : Hid (Below w3.heap.size w3 x2) := z2 _ _ ((Below.refl _ _).alloc (Nat.le_refl _) _) (Nat.le_refl _)
          have HA4 : Hid (EvAt x2 w.heap.size zeroE) := HA3.out.after HU.out
          have HB4 : Hid (Below w.heap.size w x2) := below_next HB3.out HU.out
          have HZ1 : Hid (EvAt x2 w3.heap.size E) := z1
          clear z1 z2 HU
          (refine hK _ _ ?_; clear hK K)
          refine wpAny_ready (rs := [11]) (by kernel_rfl) (by simp) ?_
          refine AllReady.cons rfl (fun K hK => ?_) AllReady.nil
          go_simp
          (refine hK _ _ ?_; clear hK K)
          refine wpAny_done (by kernel_rfl) ?_ _
          go_wp2_with ((with_reducible refine guard_store 24 ?_); refine wpList_store_ev (e := zeroE) (e2 := zeroE) rfl _ _ rfl HA4.out rfl rfl ?_; intro x5 z1 z2 z3 z4)
          rw [HR.out]
          exact bodyPost_ret (results_ev3 rfl _ _ _ _ _ _ rfl rfl rfl z1) rfl ⟨rfl, z2 _ _ HB4.out (Nat.le_refl _)⟩
        · go_simp
          (refine hK _ _ ?_; clear hK K)
          refine wpAny_ready (rs := [5]) (by kernel_rfl) (by simp) ?_
          refine AllReady.cons rfl (fun K hK => ?_) AllReady.nil
          go_simp
          refine (rdec06_any (capN u) (l.drop sz) xa (n - sz) (cap - sz) _ HDL.out (HXA.out _ (HBY.out.keep HTD.out.2)) hcap2 hm2).mono ?_
          rw [HE.out]
          rintro _ w3 ⟨rfl, hb3⟩
          have HB3 : Hid (Below w.heap.size w w3) := below_next (below_next HAB.out HTD.out.2) hb3
          have HA3 : Hid (EvAt w3 w.heap.size zeroE) := (HA.out.after HTD.out.2).after hb3
          have HZ3 : Hid (EvAt w3 (w.heap.size + 1) zeroE) := HTD.out.1.after hb3
          clear hb3
          (refine hK _ _ ?_; clear hK K)
          refine wpAny_take (i := 6) (v := ?_) rfl (by kernel_rfl) (by kernel_rfl) (by kernel_rfl) (fun _ _ _ h => h) (Or.inl ⟨by rfl, ?_⟩) ?_
          rotate_left
          · (intro w; go_simp; try (with_reducible rfl))
          refine wpAny_take (i := 7) (v := ?_) rfl (by kernel_rfl) (by kernel_rfl) (by kernel_rfl) (fun _ _ _ h => h) (Or.inl ⟨by rfl, ?_⟩) ?_
          rotate_left
          · (intro w; go_simp; try (with_reducible rfl))
          refine wpAny_take (i := 8) (v := ?_) rfl (by kernel_rfl) (by kernel_rfl) (by kernel_rfl) (fun _ _ _ h => h) (Or.inl ⟨by rfl, ?_⟩) ?_
          rotate_left
          · (intro w; go_simp; try (with_reducible rfl))
          refine wpAny_ready (rs := [10]) (by kernel_rfl) (by simp) ?_
          refine AllReady.cons rfl (fun K hK => ?_) AllReady.nil
          refine step_store_ev (e := zeroE) (e2 := E) rfl _ _ rfl HZ3.out rfl rfl ?_
          intro x2 z1 z2
          have HA4 : Hid (EvAt x2 w.heap.size zeroE) := ((z2 _ _ (Below.refl (w.heap.size + 1) w3) (by simp)).block w.heap.size (by omega)).trans HA3.out
          have HB4 : Hid (Below w.heap.size w x2) := z2 _ _ HB3.out (by simp)
          have HZ1 : Hid (EvAt x2 (w.heap.size + 1) E) := z1
          clear z1 z2
          (refine hK _ _ ?_; clear hK K)
          refine wpAny_ready (rs := [11]) (by kernel_rfl) (by simp) ?_
          refine AllReady.cons rfl (fun K hK => ?_) AllReady.nil
          go_simp
          (refine hK _ _ ?_; clear hK K)
          refine wpAny_done (by kernel_rfl) ?_ _
          go_wp2_with ((with_reducible refine guard_store 24 ?_); refine wpList_store_ev (e := zeroE) (e2 := zeroE) rfl _ _ rfl HA4.out rfl rfl ?_; intro x5 z1 z2 z3 z4)
          rw [HR.out]
          exact bodyPost_ret (results_ev3 rfl _ _ _ _ _ _ rfl rfl rfl z1) rfl ⟨rfl, z2 _ _ HB4.out (Nat.le_refl _)⟩
      · go_simp
        (refine hK _ _ ?_; clear hK K)
        refine wpAny_ready (rs := [1]) (by kernel_rfl) (by simp) ?_
        refine AllReady.cons rfl (fun K hK => ?_) AllReady.nil
        go_simp
        refine (clamp_any u _).mono ?_
        rintro _ y ⟨rfl, rfl⟩
        (refine hK _ _ ?_; clear hK K)
        refine wpAny_ready (rs := [5]) (by kernel_rfl) (by simp) ?_
        refine AllReady.cons rfl (fun K hK => ?_) AllReady.nil
        go_simp
        refine (rdec06_any (capN u) (l.drop sz) xa (n - sz) (cap - sz) _ HDL.out (HXA.out _ (HBY.out.keep HTD.out.2)) hcap2 hm2).mono ?_
        rw [HE.out]
        rintro _ w3 ⟨rfl, hb3⟩
        have HB3 : Hid (Below w.heap.size w w3) := below_next (below_next HAB.out HTD.out.2) hb3
        have HA3 : Hid (EvAt w3 w.heap.size zeroE) := (HA.out.after HTD.out.2).after hb3
        have HZ3 : Hid (EvAt w3 (w.heap.size + 1) zeroE) := HTD.out.1.after hb3
        clear hb3
        (refine hK _ _ ?_; clear hK K)
        refine wpAny_take (i := 6) (v := ?_) rfl (by kernel_rfl) (by kernel_rfl) (by kernel_rfl) (fun _ _ _ h => h) (Or.inl ⟨by rfl, ?_⟩) ?_
        rotate_left
        · (intro w; go_simp; try (with_reducible rfl))
        refine wpAny_take (i := 7) (v := ?_) rfl (by kernel_rfl) (by kernel_rfl) (by kernel_rfl) (fun _ _ _ h => h) (Or.inl ⟨by rfl, ?_⟩) ?_
        rotate_left
        · (intro w; go_simp; try (with_reducible rfl))
        refine wpAny_take (i := 8) (v := ?_) rfl (by kernel_rfl) (by kernel_rfl) (by kernel_rfl) (fun _ _ _ h => h) (Or.inl ⟨by rfl, ?_⟩) ?_
        rotate_left
        · (intro w; go_simp; try (with_reducible rfl))
        refine wpAny_ready (rs := [10]) (by kernel_rfl) (by simp) ?_
        refine AllReady.cons rfl (fun K hK => ?_) AllReady.nil
        refine step_store_ev (e := zeroE) (e2 := E) rfl _ _ rfl HZ3.out rfl rfl ?_
        intro x2 z1 z2
        have HA4 : Hid (EvAt x2 w.heap.size zeroE) := ((z2 _ _ (Below.refl (w.heap.size + 1) w3) (by simp)).block w.heap.size (by omega)).trans HA3.out
        have HB4 : Hid (Below w.heap.size w x2) := z2 _ _ HB3.out (by simp)
        have HZ1 : Hid (EvAt x2 (w.heap.size + 1) E) := z1
        clear z1 z2
        (refine hK _ _ ?_; clear hK K)
        refine wpAny_ready (rs := [11]) (by kernel_rfl) (by simp) ?_
        refine AllReady.cons rfl (fun K hK => ?_) AllReady.nil
        go_simp
        (refine hK _ _ ?_; clear hK K)
        refine wpAny_done (by kernel_rfl) ?_ _
        go_wp2_with ((with_reducible refine guard_store 24 ?_); refine wpList_store_ev (e := zeroE) (e2 := zeroE) rfl _ _ rfl HA4.out rfl rfl ?_; intro x5 z1 z2 z3 z4)
        rw [HR.out]
        exact bodyPost_ret (results_ev3 rfl _ _ _ _ _ _ rfl rfl rfl z1) rfl ⟨rfl, z2 _ _ HB4.out (Nat.le_refl _)⟩
  · have HR : Hid (sunp l = (0, zeroE, (e : Int))) := by show _ = _; unfold sunp; rw [hd]; exact if_pos he
    have heb : ((e : Int) != 0) = true := by simp; omega
    have heb2 : ¬ (e : Int) = 0 := by omega
    clear hn hb hAB hd hl he
    go_enter Try.func20, Try.ntmps20
    go_wp2_with (first
      | (go_at_call 41; refine (rdec_at l n u sz e a cap _ HN.out HD.out HBY.out (by rw [HN.out]; exact hm)).mono ?_; rintro _ w1 ⟨rfl, rfl⟩)
      | ((with_reducible refine guard_store 24 ?_); refine wpList_store_ev (e := zeroE) (e2 := zeroE) rfl _ _ rfl HA.out rfl rfl ?_; intro x5 z1 z2 z3 z4))
    rw [HR.out]
    exact bodyPost_ret (results_ev3 rfl _ _ _ _ _ _ rfl rfl rfl z1) rfl ⟨rfl, z2 _ _ HAB.out (Nat.le_refl _)⟩
end Go.Proofs.Ytfhcbdmmckjmaaa
