/- What crc's twice answers. -/
import Derived.Test.YtnecnedkoddihaaDoorLinC
namespace Go.Proofs.YtnecnedkoddihaaDoor
open Go.ChangeShapes Go.WideShapes Go.ChangeAt Go.RowKit
/-- the three blocks of twice -/
def Tw (d e : Nat → Nat) (k : Nat) (w wr : World) : Prop := (∀ i, i < k → e i = ofN d (d i) 32) ∧ (∀ i, e i < 4294967296) ∧ LinAt wr w.heap.size d ∧ LinAt wr (w.heap.size + 1) (fun _ => 0) ∧ LinAt wr (w.heap.size + 2) e ∧ Below w.heap.size w wr
theorem lay3 (w : World) (d : Nat → Nat) (X : Array Value) (h : X = LN d) : Tw d (fun _ => 0) 0 w (((w.alloc (.cells X 40)).alloc (.cells #[.int .u32 0, .int .u32 0, .int .u32 0, .int .u32 0, .int .u32 0, .int .u32 0, .int .u32 0, .int .u32 0, .int .u32 0, .int .u32 0, .int .u32 0, .int .u32 0, .int .u32 0, .int .u32 0, .int .u32 0, .int .u32 0, .int .u32 0, .int .u32 0, .int .u32 0, .int .u32 0, .int .u32 0, .int .u32 0, .int .u32 0, .int .u32 0, .int .u32 0, .int .u32 0, .int .u32 0, .int .u32 0, .int .u32 0, .int .u32 0, .int .u32 0, .int .u32 0] 40)).alloc (.cells #[.int .u32 0, .int .u32 0, .int .u32 0, .int .u32 0, .int .u32 0, .int .u32 0, .int .u32 0, .int .u32 0, .int .u32 0, .int .u32 0, .int .u32 0, .int .u32 0, .int .u32 0, .int .u32 0, .int .u32 0, .int .u32 0, .int .u32 0, .int .u32 0, .int .u32 0, .int .u32 0, .int .u32 0, .int .u32 0, .int .u32 0, .int .u32 0, .int .u32 0, .int .u32 0, .int .u32 0, .int .u32 0, .int .u32 0, .int .u32 0, .int .u32 0, .int .u32 0] 40)) := by
  have h1 := LinAt.new (w.alloc (.cells X 40)) (fun _ => 0) #[.int .u32 0, .int .u32 0, .int .u32 0, .int .u32 0, .int .u32 0, .int .u32 0, .int .u32 0, .int .u32 0, .int .u32 0, .int .u32 0, .int .u32 0, .int .u32 0, .int .u32 0, .int .u32 0, .int .u32 0, .int .u32 0, .int .u32 0, .int .u32 0, .int .u32 0, .int .u32 0, .int .u32 0, .int .u32 0, .int .u32 0, .int .u32 0, .int .u32 0, .int .u32 0, .int .u32 0, .int .u32 0, .int .u32 0, .int .u32 0, .int .u32 0, .int .u32 0] rfl
  have h2 := LinAt.new ((w.alloc (.cells X 40)).alloc (.cells #[.int .u32 0, .int .u32 0, .int .u32 0, .int .u32 0, .int .u32 0, .int .u32 0, .int .u32 0, .int .u32 0, .int .u32 0, .int .u32 0, .int .u32 0, .int .u32 0, .int .u32 0, .int .u32 0, .int .u32 0, .int .u32 0, .int .u32 0, .int .u32 0, .int .u32 0, .int .u32 0, .int .u32 0, .int .u32 0, .int .u32 0, .int .u32 0, .int .u32 0, .int .u32 0, .int .u32 0, .int .u32 0, .int .u32 0, .int .u32 0, .int .u32 0, .int .u32 0] 40)) (fun _ => 0) #[.int .u32 0, .int .u32 0, .int .u32 0, .int .u32 0, .int .u32 0, .int .u32 0, .int .u32 0, .int .u32 0, .int .u32 0, .int .u32 0, .int .u32 0, .int .u32 0, .int .u32 0, .int .u32 0, .int .u32 0, .int .u32 0, .int .u32 0, .int .u32 0, .int .u32 0, .int .u32 0, .int .u32 0, .int .u32 0, .int .u32 0, .int .u32 0, .int .u32 0, .int .u32 0, .int .u32 0, .int .u32 0, .int .u32 0, .int .u32 0, .int .u32 0, .int .u32 0] rfl
  rw [World.size_alloc] at h1 h2
  rw [World.size_alloc] at h2
  exact ⟨fun i hi => by omega, fun _ => by simp, ((LinAt.new w d X h).alloc _).alloc _, h1.alloc _, h2, (((Below.refl _ _).alloc (Nat.le_refl _) _).alloc (by simp) _).alloc (by simp; omega) _⟩
theorem tw_next (d e : Nat → Nat) (k v : Nat) {w wr w2 : World} (hk : k < 32) (HI : Hid (Tw d e k w wr)) (HB : Hid (Below wr.heap.size wr.drew w2)) (HV : Hid (v = ofN d (d k) 32)) (HL : Hid (v < 4294967296)) : Hid (Tw d (updL e k v) (k + 1) w (w2.setCell ⟨w.heap.size + 2, k, none⟩ (.int .u32 (v : Int)))) := by
  obtain ⟨h1, h2, h3, h4, h5, h6⟩ := HI.out
  have g3 := (h3.drew).keep HB.out h3.lt
  have g4 := (h4.drew).keep HB.out h4.lt
  have g5 := (h5.drew).keep HB.out h5.lt
  have g6 : Below w.heap.size w w2 := h6.drew.trans (HB.out.mono h6.size)
  refine ⟨fun i hi => ?_, fun i => ?_, g3.other _ _ (by show w.heap.size ≠ w.heap.size + 2; omega), g4.other _ _ (by show w.heap.size + 1 ≠ w.heap.size + 2; omega), g5.put k v hk, g6.setCell (p := ⟨w.heap.size + 2, k, none⟩) (by show w.heap.size ≤ w.heap.size + 2; omega) _⟩
  · unfold updL; split
    · rename_i e; rw [e, HV.out]
    · exact h1 i (by omega)
  · unfold updL; split
    · exact HL.out
    · exact h2 i
set_option maxRecDepth 100000 in
set_option maxHeartbeats 2000000 in
theorem twice_lin (d : Nat → Nat) (w : World) (hd : ∀ i, d i < 4294967296) :
    Calls Tryd.prog 21 #[.agg (LN d)] w fun r w' => ∃ e, r = .returned (.agg (LN e)) ∧ (∀ i, i < 32 → e i = ofN d (d i) 32) ∧ (∀ i, e i < 4294967296) ∧ Below w.heap.size w w' := by
  obtain ⟨X, hX⟩ : ∃ X, LN d = X := ⟨_, rfl⟩
  have hsx : X.size = 32 := by rw [← hX]; rfl
  have HL0 : Hid (Tw _ _ _ _ _) := lay3 w d X hX.symm
  have HD : Hid (∀ i, d i < 4294967296) := hd
  rw [hX]
  clear hX hd
  go_enter Tryd.func21, Tryd.ntmps21
  go_wp2
  obtain ⟨wz, hwz⟩ : ∃ wz, ((w.alloc (.cells X 40)).alloc (.cells #[.int .u32 0, .int .u32 0, .int .u32 0, .int .u32 0, .int .u32 0, .int .u32 0, .int .u32 0, .int .u32 0, .int .u32 0, .int .u32 0, .int .u32 0, .int .u32 0, .int .u32 0, .int .u32 0, .int .u32 0, .int .u32 0, .int .u32 0, .int .u32 0, .int .u32 0, .int .u32 0, .int .u32 0, .int .u32 0, .int .u32 0, .int .u32 0, .int .u32 0, .int .u32 0, .int .u32 0, .int .u32 0, .int .u32 0, .int .u32 0, .int .u32 0, .int .u32 0] 40)).alloc (.cells #[.int .u32 0, .int .u32 0, .int .u32 0, .int .u32 0, .int .u32 0, .int .u32 0, .int .u32 0, .int .u32 0, .int .u32 0, .int .u32 0, .int .u32 0, .int .u32 0, .int .u32 0, .int .u32 0, .int .u32 0, .int .u32 0, .int .u32 0, .int .u32 0, .int .u32 0, .int .u32 0, .int .u32 0, .int .u32 0, .int .u32 0, .int .u32 0, .int .u32 0, .int .u32 0, .int .u32 0, .int .u32 0, .int .u32 0, .int .u32 0, .int .u32 0, .int .u32 0] 40) = wz := ⟨_, rfl⟩
  rw [hwz] at HL0 ⊢
  clear hwz
  go_loopw [4, 5] (fun _ vi wr => ∃ (k : Nat) (e : Nat → Nat), k ≤ 32 ∧ vi = .int .i64 k ∧ Hid (Tw d e k w wr)) (fun _ vi _ => 32 - (intOf vi).toNat)
  case atStart => exact ⟨0, fun _ => 0, Nat.zero_le _, rfl, HL0⟩
  case round =>
    obtain ⟨k, e, hk, rfl, HI⟩ := hrel
    clear HL0
    by_cases hkl : k < 32
    · have hc := HI.out.2.2.1.bit k hkl
      obtain ⟨z, hz⟩ : ∃ z, d k = z := ⟨_, rfl⟩
      have HZ : Hid (z < 4294967296) := by show z < 4294967296; rw [← hz]; exact HD.out k
      obtain ⟨v, hv⟩ : ∃ v, ofN d z 32 = v := ⟨_, rfl⟩
      have HVE : Hid (ofN d z 32 = v) := hv
      have HVS : Hid (v = ofN d (d k) 32) := by show _ = _; rw [← hv, ← hz]
      have HVL : Hid (v < 4294967296) := by show v < 4294967296; rw [← hv]; exact ofN_lt d z 32 HD.out
      rw [hz] at hc
      clear hz hv
      go_wp2
      refine wp_region_any (by kernel_rfl) ?_
      change wpAny _ _ _ _ _ _ _ (World.drew _)
      refine wpAny_take (i := 0) (v := ?_) rfl (by kernel_rfl) (by kernel_rfl) (by kernel_rfl) (fun _ _ _ h => h) (Or.inl ⟨by rfl, ?_⟩) ?_
      rotate_left
      · (intro w; go_simp; try (with_reducible rfl))
      refine wpAny_take (i := 2) (v := ?_) rfl (by kernel_rfl) (by kernel_rfl) (by kernel_rfl) (fun _ _ _ h => h) (Or.inl ⟨by rfl, ?_⟩) ?_
      rotate_left
      · (intro w; go_simp; try (with_reducible rfl))
      refine wpAny_take (i := 3) (v := ?_) rfl (by kernel_rfl) (by kernel_rfl) (by kernel_rfl) (fun _ _ _ h => h) (Or.inl ⟨by rfl, ?_⟩) ?_
      rotate_left
      · (intro w; go_simp; try (with_reducible rfl))
      refine wpAny_ready (rs := [1, 4]) (by kernel_rfl) (by simp) ?_
      refine AllReady.cons rfl (fun K hK => ?_) ?_
      · refine step_load_lin rfl _ rfl (show LinAt wr.drew _ _ from HI.out.2.2.1) rfl ?_
        (refine hK _ _ ?_; clear hK K)
        refine wpAny_ready (rs := [4]) (by kernel_rfl) (by simp) ?_
        refine AllReady.cons rfl (fun K hK => ?_) ?_
        · go_simp
          (refine hK _ _ ?_; clear hK K)
          refine wpAny_ready (rs := [5]) (by kernel_rfl) (by simp) ?_
          refine AllReady.cons rfl (fun K hK => ?_) ?_
          · go_simp
            go_wp2_with (go_at_call 20; refine (of_lin d z _ HD.out HZ.out).mono ?_; rw [HVE.out]; rintro e w2 ⟨rfl, hb2⟩; have HB2 : Hid (Below wr.heap.size wr.drew w2) := hb2; clear hb2; have hc2 := ((HI.out.2.2.2.2.1.drew).keep HB2.out HI.out.2.2.2.2.1.lt).bit k hkl; have hf2 := ((HI.out.2.2.2.2.1.drew).keep HB2.out HI.out.2.2.2.2.1.lt).free k)
            refine wpAny_ready (rs := [6]) (by kernel_rfl) (by simp) ?_
            refine AllReady.cons rfl (fun K hK => ?_) ?_
            · go_simp
              (refine hK _ _ ?_; clear hK K)
              refine wpAny_ready (rs := [7]) (by kernel_rfl) (by simp) ?_
              refine AllReady.cons rfl (fun K hK => ?_) ?_
              · go_simp
                (refine hK _ _ ?_; clear hK K)
                refine wpAny_done (by kernel_rfl) ?_ _
                go_wp2
                go_roundw
                case rel => exact ⟨k + 1, updL e k v, by omega, by go_num, tw_next d e k v hkl HI HB2 HVS HVL⟩
                case measure => simp [intOf]; omega
              exact AllReady.nil
            exact AllReady.nil
          exact AllReady.nil
        exact AllReady.nil
      refine AllReady.cons rfl (fun K hK => ?_) ?_
      · go_simp
        (refine hK _ _ ?_; clear hK K)
        refine wpAny_ready (rs := [1]) (by kernel_rfl) (by simp) ?_
        refine AllReady.cons rfl (fun K hK => ?_) ?_
        · refine step_load_lin rfl _ rfl (show LinAt wr.drew _ _ from HI.out.2.2.1) rfl ?_
          (refine hK _ _ ?_; clear hK K)
          refine wpAny_ready (rs := [5]) (by kernel_rfl) (by simp) ?_
          refine AllReady.cons rfl (fun K hK => ?_) ?_
          · go_simp
            go_wp2_with (go_at_call 20; refine (of_lin d z _ HD.out HZ.out).mono ?_; rw [HVE.out]; rintro e w2 ⟨rfl, hb2⟩; have HB2 : Hid (Below wr.heap.size wr.drew w2) := hb2; clear hb2; have hc2 := ((HI.out.2.2.2.2.1.drew).keep HB2.out HI.out.2.2.2.2.1.lt).bit k hkl; have hf2 := ((HI.out.2.2.2.2.1.drew).keep HB2.out HI.out.2.2.2.2.1.lt).free k)
            refine wpAny_ready (rs := [6]) (by kernel_rfl) (by simp) ?_
            refine AllReady.cons rfl (fun K hK => ?_) ?_
            · go_simp
              (refine hK _ _ ?_; clear hK K)
              refine wpAny_ready (rs := [7]) (by kernel_rfl) (by simp) ?_
              refine AllReady.cons rfl (fun K hK => ?_) ?_
              · go_simp
                (refine hK _ _ ?_; clear hK K)
                refine wpAny_done (by kernel_rfl) ?_ _
                go_wp2
                go_roundw
                case rel => exact ⟨k + 1, updL e k v, by omega, by go_num, tw_next d e k v hkl HI HB2 HVS HVL⟩
                case measure => simp [intOf]; omega
              exact AllReady.nil
            exact AllReady.nil
          exact AllReady.nil
        exact AllReady.nil
      exact AllReady.nil
    · have hk2 : k = 32 := by omega
      subst hk2
      go_wp2_with (first
        | ((with_reducible refine guard_loadL 40 ?_); refine wpList_load_lin rfl _ rfl HI.out.2.2.2.2.1 rfl ?_)
        | ((with_reducible refine guard_storeL 40 ?_); refine wpList_store_lin rfl _ _ rfl rfl HI.out.2.2.2.1 rfl rfl ?_; intro w2 hL2 hB2))
      refine bodyPost_ret (results_lin rfl _ _ _ _ rfl hL2.loadVar) rfl ?_
      exact ⟨e, rfl, HI.out.1, HI.out.2.1, hB2 _ _ HI.out.2.2.2.2.2 (by omega)⟩
end Go.Proofs.YtnecnedkoddihaaDoor
