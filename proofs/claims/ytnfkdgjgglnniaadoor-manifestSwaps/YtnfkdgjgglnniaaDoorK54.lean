/- Own texts, joined: Fsn, Fso, Fsh. -/
import Derived.Test.YtnfkdgjgglnniaaDoorK53
namespace Go.Proofs.YtnfkdgjgglnniaaDoor
open Go.ChangeShapes Go.WideShapes Go.ChangeAt Go.RowKit
set_option linter.unusedVariables false
set_option linter.unusedSimpArgs false

theorem barred_two (w : World) (base q b : Nat) (D : Dk) (h : DkAt w base q b D) (nm to : List UInt8) (g : Nat) (hg : w.heap.size = g) (hl : nm.length ≤ 281474976710656) (hl2 : to.length ≤ 281474976710656) :
    Calls Tryd.prog 37 #[.pointer (some ⟨q, 0, none⟩), .slice (some ⟨g, 0, none⟩) 2 2] (w.alloc (.cells #[.string (bs nm), .string (bs to)] 9)) fun r w' => r = .returned (.int .i64 (barE D [nm, to] : Nat)) ∧ w' = w.alloc (.cells #[.string (bs nm), .string (bs to)] 9) := by
  subst hg
  have hb : Below w.heap.size w (w.alloc (.cells #[.string (bs nm), .string (bs to)] 9)) := (Below.refl _ _).alloc (Nat.le_refl _) _
  refine (barred_any _ base q b D (h.keep hb) w.heap.size 2 [nm, to] rfl (by omega) (fun x hx => ?_) (fun i x hx => ?_)).mono ?_
  · rcases List.mem_cons.1 hx with h1 | h1
    · rw [h1]; exact hl
    · rw [List.mem_singleton.1 h1]; exact hl2
  · match i with
    | 0 =>
      simp only [List.getElem?_cons_zero, Option.some.injEq] at hx
      subst hx
      rw [cell_of_row _ _ 0 _ _ _ (heap_alloc_new w (.cells #[.string (bs nm), .string (bs to)] 9))]
      rfl
    | 1 =>
      simp only [List.getElem?_cons_succ, List.getElem?_cons_zero, Option.some.injEq] at hx
      subst hx
      rw [cell_of_row _ _ 1 _ _ _ (heap_alloc_new w (.cells #[.string (bs nm), .string (bs to)] 9))]
      rfl
    | i + 2 => simp at hx
  · rintro _ w' ⟨h1, h2⟩
    exact ⟨h1, h2.symm⟩
theorem bar_one {D : Dk} {nm to : List UInt8} (h : barE D [nm, to] = 0) : barE D [nm] = 0 := by
  unfold barE at h ⊢
  split at h
  · cases h
  · rename_i h1
    rw [if_neg h1]
    split at h
    · rename_i h2
      rw [if_pos]
      simp only [List.all_cons, List.all_nil, Bool.and_true, Bool.and_eq_true] at h2 ⊢
      exact h2.1
    · cases h
set_option maxRecDepth 100000 in
set_option maxHeartbeats 2000000 in
theorem rename_bar (w : World) (base q b : Nat) (D : Dk) (h : DkAt w base q b D) (ho : DkOk D) (nm to : List UInt8) (hl : nm.length ≤ 281474976710656) (hl2 : to.length ≤ 281474976710656) (hE : barE D [nm, to] ≠ 0) : Calls Tryd.prog 24 #[.pointer (some ⟨q, 0, none⟩), .string (bs nm), .string (bs to)] w fun r w' => r = .returned (.int .i64 (barE D [nm, to] : Nat)) ∧ Below w.heap.size w w' := by
  obtain ⟨E, hEE⟩ : ∃ E, barE D [nm, to] = E := ⟨_, rfl⟩
  have HBE : Hid (barE D [nm, to] = E) := hEE
  rw [hEE] at hE ⊢
  have hq : ((E : Int) != 0) = true := by simp; exact hE
  have HD : Hid (DkAt w base q b D) := h
  have HL : Hid (nm.length ≤ 281474976710656) := hl
  have HL2 : Hid (to.length ≤ 281474976710656) := hl2
  have hb0 : Below w.heap.size w (w.alloc (.cells #[.string (bs nm), .string (bs to)] 9)) := (Below.refl _ _).alloc (Nat.le_refl _) _
  have HB0 : Hid (Below w.heap.size w (w.alloc (.cells #[.string (bs nm), .string (bs to)] 9))) := hb0
  have HD0 : Hid (DkAt (w.alloc (.cells #[.string (bs nm), .string (bs to)] 9)) base q b D) := h.keep hb0
  clear hb0
  clear hE hEE h ho hl hl2
  go_enter Tryd.func24, Tryd.ntmps24
  go_wp2_with (first
    | (go_at_call 37; refine (barred_two _ base q b D HD.out nm to w.heap.size rfl HL.out HL2.out).mono ?_; rw [HBE.out]; rintro _ x0 ⟨rfl, rfl⟩)
    | go_in)
  go_ret
  exact ⟨rfl, HB0.out⟩
set_option maxRecDepth 100000 in
set_option maxHeartbeats 2000000 in
theorem rename_none (w : World) (base q b : Nat) (D : Dk) (h : DkAt w base q b D) (ho : DkOk D) (nm to : List UInt8) (hl : nm.length ≤ 281474976710656) (hl2 : to.length ≤ 281474976710656) (hE : barE D [nm, to] = 0) (hN : getN D.fs nm = none) : Calls Tryd.prog 24 #[.pointer (some ⟨q, 0, none⟩), .string (bs nm), .string (bs to)] w fun r w' => r = .returned (.int .i64 (findE D nm : Nat)) ∧ Below w.heap.size w w' := by
  have hE0 := (found_no (R := Nat) (.inr hN) id (fun _ => 0)).2
  obtain ⟨E, hEE⟩ : ∃ E, findE D nm = E := ⟨_, rfl⟩
  have HFE : Hid (findE D nm = E) := hEE
  rw [hEE] at hE0 ⊢
  have hq : ((E : Int) != 0) = true := by simp; exact hE0
  have HBE : Hid (barE D [nm, to] = 0) := hE
  have HX : Hid (barE D [nm] ≠ 0 ∨ getN D.fs nm = none) := .inr hN
  have HD : Hid (DkAt w base q b D) := h
  have HL : Hid (nm.length ≤ 281474976710656) := hl
  have HL2 : Hid (to.length ≤ 281474976710656) := hl2
  have hb0 : Below w.heap.size w (w.alloc (.cells #[.string (bs nm), .string (bs to)] 9)) := (Below.refl _ _).alloc (Nat.le_refl _) _
  have HB0 : Hid (Below w.heap.size w (w.alloc (.cells #[.string (bs nm), .string (bs to)] 9))) := hb0
  have HD0 : Hid (DkAt (w.alloc (.cells #[.string (bs nm), .string (bs to)] 9)) base q b D) := h.keep hb0
  clear hb0
  clear hE0 hEE h ho hl hl2 hE hN
  go_enter Tryd.func24, Tryd.ntmps24
  go_wp2_with (first
    | (go_at_call 37; refine (barred_two _ base q b D HD.out nm to w.heap.size rfl HL.out HL2.out).mono ?_; rw [HBE.out]; rintro _ x0 ⟨rfl, rfl⟩)
    | (go_at_call 39; refine (find_err _ base q b D HD0.out nm HL.out HX.out).mono ?_; rw [HFE.out]; rintro _ x1 ⟨rfl, hb1⟩; have HB1 : Hid (Below w.heap.size w x1) := HB0.out.trans (hb1.mono HB0.out.size); have HF1 : Hid (FiAt (x1.alloc (.cells #[.slice none 0 0, .int .i64 0] 60)) x1.heap.size (.slice none 0 0) 0) := FiAt.new x1 _ _; clear hb1)
    | ((with_reducible refine guard_store 60 ?_); refine wpList_store_fi rfl _ _ rfl rfl HF1.out rfl rfl rfl (v2 := .slice none 0 0) (s2 := 0) ?_; intro x3 hf ho hh hs; have HB3 : Hid (Below w.heap.size w x3) := ho _ _ (HB1.out.alloc HB1.out.size _) HB1.out.size; have HF3 : Hid (FiAt x3 x1.heap.size (.slice none 0 0) (0)) := hf; have cf3 := hf.cells.1; clear hf ho hh hs)
    | go_in)
  go_ret
  exact ⟨rfl, HB3.out⟩
set_option maxRecDepth 100000 in
set_option maxHeartbeats 2000000 in
theorem rename_fail (w : World) (base q b : Nat) (D : Dk) (h : DkAt w base q b D) (ho : DkOk D) (nm to : List UInt8) (hl : nm.length ≤ 281474976710656) (hl2 : to.length ≤ 281474976710656) (hE : barE D [nm, to] = 0) (f : Fi) (hN : getN D.fs nm = some f) (hS : D.fuse = 1) : Calls Tryd.prog 24 #[.pointer (some ⟨q, 0, none⟩), .string (bs nm), .string (bs to)] w fun r w' => r = .returned (.int .i64 3) ∧ To base q b D.fs (stepA D.ab) w w' := by
  have HSE : Hid (stepE D = 3) := if_pos hS
  clear hS
  obtain ⟨hfm, hfn⟩ := getN_mem hN
  obtain ⟨a, c, hv, hc1, hc2, hby, hnil, hone⟩ := (h.dat f hfm).bytes
  have hmI : (f.l.length : Int) ≤ 67108864 := by have := usedN_mem hfm; have := ho.used; have := ho.room; omega
  have hsm : (f.s : Int) ≤ f.l.length := by have := ho.safe f hfm; omega
  obtain ⟨m, hm⟩ : ∃ m, f.l.length = m := ⟨_, rfl⟩
  rw [hm] at hv hc1 hmI hsm
  obtain ⟨S, hS⟩ : ∃ S : Int, (f.s : Int) = S := ⟨_, rfl⟩
  have hS0 : 0 ≤ S := by omega
  rw [hS] at hsm
  have HVS : Hid (FiV f = fiV (.slice a m c) S) := by show Value.agg #[f.v, _] = _; rw [hv, ← hS]
  have HONE : Hid ((Value.slice a m c).oneCell' = true) := by show _ = _; rw [← hv]; exact hone
  have HV : Hid (f.v = .slice a m c ∧ (f.s : Int) = S ∧ f.l.length = m ∧ f ∈ D.fs ∧ f.name = nm) := ⟨hv, hS, hm, hfm, hfn⟩
  have HBY : Hid (Bytes w a f.l ∧ m ≤ c ∧ c ≤ maxLen ∧ (a = none → c = 0)) := ⟨hby, hc1, hc2, hnil⟩
  have HO : Hid (DkOk D) := ho
  have HE : Hid (barE D [nm] = 0) := bar_one hE
  have HBE : Hid (barE D [nm, to] = 0) := hE
  have HN : Hid (getN D.fs nm = some f) := hN
  have HD : Hid (DkAt w base q b D) := h
  have HL : Hid (nm.length ≤ 281474976710656) := hl
  have HL2 : Hid (to.length ≤ 281474976710656) := hl2
  have hb0 : Below w.heap.size w (w.alloc (.cells #[.string (bs nm), .string (bs to)] 9)) := (Below.refl _ _).alloc (Nat.le_refl _) _
  have HB0 : Hid (Below w.heap.size w (w.alloc (.cells #[.string (bs nm), .string (bs to)] 9))) := hb0
  have HD0 : Hid (DkAt (w.alloc (.cells #[.string (bs nm), .string (bs to)] 9)) base q b D) := h.keep hb0
  clear hb0
  have hm0 : (0 : Int) ≤ (m : Int) := by omega
  clear h ho hE hl hl2 hN hv hS hm hfm hfn hone hby hc2 hnil
  go_enter Tryd.func24, Tryd.ntmps24
  go_wp2_with (first
    | (go_at_call 37; refine (barred_two _ base q b D HD.out nm to w.heap.size rfl HL.out HL2.out).mono ?_; rw [HBE.out]; rintro _ x0 ⟨rfl, rfl⟩)
    | (go_at_call 39; refine (find_ok _ base q b D HD0.out nm HL.out HE.out f HN.out).mono ?_; rw [HVS.out]; rintro _ x1 ⟨rfl, hb1⟩; have HB1 : Hid (Below w.heap.size w x1) := HB0.out.trans (hb1.mono HB0.out.size); have HF1 : Hid (FiAt (x1.alloc (.cells #[.slice none 0 0, .int .i64 0] 60)) x1.heap.size (.slice none 0 0) 0) := FiAt.new x1 _ _; clear hb1)
    | ((with_reducible refine guard_store 60 ?_); refine wpList_store_fi rfl _ _ rfl rfl HF1.out HONE.out rfl rfl (v2 := .slice a m c) (s2 := S) ?_; intro x3 hf ho hh hs; have HB3 : Hid (Below w.heap.size w x3) := ho _ _ (HB1.out.alloc HB1.out.size _) HB1.out.size; have HF3 : Hid (FiAt x3 x1.heap.size (.slice a m c) (S)) := hf; have cf3 := hf.cells.1; clear hf ho hh hs)
    | (go_at_call 38; refine (step_any _ base q b D (HD.out.keep HB3.out) HO.out.fuse.1 HO.out.fuse.2).mono ?_; rw [HSE.out]; rintro _ x4 ⟨rfl, hd4, ho4⟩; have HD4 : Hid (DkAt x4 base q b (stepD D)) := hd4; have HC4 : Hid (Chg q b D.fs D.fs w x4) := (Chg.of_below HB3.out).on ho4; have HF4 : Hid (FiAt x4 x1.heap.size (.slice a m c) S) := box_step HD.out HB1.out.size ho4 HF3.out; have cf4 := HF4.out.cells.1; have cs4 := HF4.out.cells.2; have zf4 := HF4.out.froz 1; have cm4 := HD4.out.cells.2.1; clear hd4 ho4)
    | go_in)
  go_ret
  exact ⟨rfl, To.lay HD4.out (by rw [stepD_fs]; exact HC4.out) (step_ab D).symm⟩
theorem ren_ab (D : Dk) (t : List UInt8) (f : Fi) : (putD ({ stepD D with fs := delN (stepD D).fs t } : Dk) f).ab = (stepA D.ab).put (insA f.ab (delA D.ab.fs t)) := by
  rw [step_ab]
  show Ak.mk _ _ _ _ _ ((insN f (delN (stepD D).fs t)).map Fi.ab) = _
  rw [ins_ab, del_ab, stepD_fs]
  rfl
set_option maxRecDepth 100000 in
set_option maxHeartbeats 2000000 in
theorem rename_ok (w : World) (base q b : Nat) (D : Dk) (h : DkAt w base q b D) (ho : DkOk D) (nm to : List UInt8) (hl : nm.length ≤ 281474976710656) (hl2 : to.length ≤ 281474976710656) (hE : barE D [nm, to] = 0) (f : Fi) (hN : getN D.fs nm = some f) (hS : D.fuse ≠ 1) : Calls Tryd.prog 24 #[.pointer (some ⟨q, 0, none⟩), .string (bs nm), .string (bs to)] w fun r w' => r = .returned (.int .i64 0) ∧ To base q b D.fs ((stepA D.ab).put (insA ⟨to, f.l, f.s⟩ (delA D.ab.fs nm))) w w' := by
  have HSE : Hid (stepE D = 0) := if_neg hS
  clear hS
  obtain ⟨hfm, hfn⟩ := getN_mem hN
  obtain ⟨a, c, hv, hc1, hc2, hby, hnil, hone⟩ := (h.dat f hfm).bytes
  have hmI : (f.l.length : Int) ≤ 67108864 := by have := usedN_mem hfm; have := ho.used; have := ho.room; omega
  have hsm : (f.s : Int) ≤ f.l.length := by have := ho.safe f hfm; omega
  obtain ⟨m, hm⟩ : ∃ m, f.l.length = m := ⟨_, rfl⟩
  rw [hm] at hv hc1 hmI hsm
  obtain ⟨S, hS⟩ : ∃ S : Int, (f.s : Int) = S := ⟨_, rfl⟩
  have hS0 : 0 ≤ S := by omega
  rw [hS] at hsm
  have HVS : Hid (FiV f = fiV (.slice a m c) S) := by show Value.agg #[f.v, _] = _; rw [hv, ← hS]
  have HONE : Hid ((Value.slice a m c).oneCell' = true) := by show _ = _; rw [← hv]; exact hone
  have HV : Hid (f.v = .slice a m c ∧ (f.s : Int) = S ∧ f.l.length = m ∧ f ∈ D.fs ∧ f.name = nm) := ⟨hv, hS, hm, hfm, hfn⟩
  have HBY : Hid (Bytes w a f.l ∧ m ≤ c ∧ c ≤ maxLen ∧ (a = none → c = 0)) := ⟨hby, hc1, hc2, hnil⟩
  have HO : Hid (DkOk D) := ho
  have HE : Hid (barE D [nm] = 0) := bar_one hE
  have HBE : Hid (barE D [nm, to] = 0) := hE
  have HN : Hid (getN D.fs nm = some f) := hN
  have HD : Hid (DkAt w base q b D) := h
  have HL : Hid (nm.length ≤ 281474976710656) := hl
  have HL2 : Hid (to.length ≤ 281474976710656) := hl2
  have hb0 : Below w.heap.size w (w.alloc (.cells #[.string (bs nm), .string (bs to)] 9)) := (Below.refl _ _).alloc (Nat.le_refl _) _
  have HB0 : Hid (Below w.heap.size w (w.alloc (.cells #[.string (bs nm), .string (bs to)] 9))) := hb0
  have HD0 : Hid (DkAt (w.alloc (.cells #[.string (bs nm), .string (bs to)] 9)) base q b D) := h.keep hb0
  clear hb0
  have hm0 : (0 : Int) ≤ (m : Int) := by omega
  clear h ho hE hl hl2 hN hv hS hm hfm hfn hone hby hc2 hnil
  have HFEW : Hid ((delN (stepD D).fs nm).length < maxLen) := by
    show _ < _
    have h1 := step_few HO.out
    have h2 : (delN (stepD D).fs nm).length ≤ (stepD D).fs.length := List.length_filter_le ..
    omega
  have HDS : Hid (∀ g ∈ delN (stepD D).fs nm, g.name ≠ to → ∀ k, (Value.slice a m c).ownBlock = some k → g.v.ownBlock ≠ some k) := by
    intro g hg hne k hk
    have hg2 := List.mem_filter.1 hg
    exact step_dist HD.out HV.out.2.2.2.1 g hg2.1 (by rw [HV.out.2.2.2.2]; simpa using hg2.2) k (by rw [HV.out.1]; exact hk)
  have HOB : Hid (∀ k, (Value.slice a m c).ownBlock = some k → Ob q b D.fs k ∨ w.heap.size ≤ k) := fun k hk => .inl (.inr (.inr ⟨f, HV.out.2.2.2.1, by rw [HV.out.1]; exact hk⟩))
  go_enter Tryd.func24, Tryd.ntmps24
  go_wp2_with (first
    | (go_at_call 37; refine (barred_two _ base q b D HD.out nm to w.heap.size rfl HL.out HL2.out).mono ?_; rw [HBE.out]; rintro _ x0 ⟨rfl, rfl⟩)
    | (go_at_call 39; refine (find_ok _ base q b D HD0.out nm HL.out HE.out f HN.out).mono ?_; rw [HVS.out]; rintro _ x1 ⟨rfl, hb1⟩; have HB1 : Hid (Below w.heap.size w x1) := HB0.out.trans (hb1.mono HB0.out.size); have HF1 : Hid (FiAt (x1.alloc (.cells #[.slice none 0 0, .int .i64 0] 60)) x1.heap.size (.slice none 0 0) 0) := FiAt.new x1 _ _; clear hb1)
    | ((with_reducible refine guard_store 60 ?_); refine wpList_store_fi rfl _ _ rfl rfl HF1.out HONE.out rfl rfl (v2 := .slice a m c) (s2 := S) ?_; intro x3 hf ho hh hs; have HB3 : Hid (Below w.heap.size w x3) := ho _ _ (HB1.out.alloc HB1.out.size _) HB1.out.size; have HF3 : Hid (FiAt x3 x1.heap.size (.slice a m c) (S)) := hf; have cf3 := hf.cells.1; clear hf ho hh hs)
    | (go_at_call 38; refine (step_any _ base q b D (HD.out.keep HB3.out) HO.out.fuse.1 HO.out.fuse.2).mono ?_; rw [HSE.out]; rintro _ x4 ⟨rfl, hd4, ho4⟩; have HD4 : Hid (DkAt x4 base q b (stepD D)) := hd4; have HC4 : Hid (Chg q b D.fs D.fs w x4) := (Chg.of_below HB3.out).on ho4; have HF4 : Hid (FiAt x4 x1.heap.size (.slice a m c) S) := box_step HD.out HB1.out.size ho4 HF3.out; have cf4 := HF4.out.cells.1; have cs4 := HF4.out.cells.2; have zf4 := HF4.out.froz 1; have cm4 := HD4.out.cells.2.1; obtain ⟨M4, hm4, hr4⟩ := hd4.map; have HM4 : Hid (x4.ownsMap Tryd.prog 9 hvS b (stepD D).fs.length M4 ∧ RepN M4 (stepD D).fs) := ⟨hm4, hr4⟩; clear hm4 hr4; clear hd4 ho4)
    | (at_delete; refine wpList_delete_own _ rfl _ _ 46 9 rfl 60 fs_keyed Tryd.underlying46 hvS b _ M4 rfl HM4.out.1 _ _ rfl (fs_key HL.out) ?_; intro x5 hm5 ht5; have hon5 := on_turned ht5; have HD5 : Hid (DkAt x5 base q b { stepD D with fs := delN (stepD D).fs nm }) := HD4.out.delTo HM4.out.2 hm5 hon5; have HC5 : Hid (Chg q b D.fs (delN D.fs nm) w x5) := HC4.out.del nm hon5; have HF5 : Hid (FiAt x5 x1.heap.size (.slice a m c) S) := (hon5.block _ (by have := HD.out.lt; have := HB1.out.size; omega)).trans HF4.out; have HDT5 : Hid (DatAt x5 base (.slice a m c) f.l) := (by have hd := step_dat HD4.out HV.out.2.2.2.1; have hn := HD4.out.dat_ne hd; rw [HV.out.1] at hd hn; exact hd.moved (fun k _ _ hk => hon5.block k (hn k hk).2)); clear hm5 ht5 hon5)
    | ((with_reducible refine guard_load 60 ?_); refine wpList_load_fi rfl _ rfl HF5.out rfl ?_)
    | (go_at_call 28; rw [← HV.out.2.1]; refine (fput_any x5 base q b { stepD D with fs := delN (stepD D).fs nm } HD5.out HFEW.out to (.slice a m c) f.l f.s HL2.out HDT5.out HDS.out).mono ?_; rintro _ x6 ⟨rfl, hd6, hk6⟩; have HD6 : Hid (DkAt x6 base q b (putD { stepD D with fs := delN (stepD D).fs nm } ⟨to, .slice a m c, f.l, f.s⟩)) := hd6; have HC6 : Hid (Chg q b D.fs (insN ⟨to, .slice a m c, f.l, f.s⟩ (delN D.fs nm)) w x6) := HC5.out.put _ hk6 HOB.out; clear hd6 hk6)
    | go_in)
  go_ret
  exact ⟨rfl, To.lay HD6.out (by show Chg q b D.fs (insN _ (delN (stepD D).fs nm)) w x6; rw [stepD_fs]; exact HC6.out) (ren_ab D nm _)⟩
theorem rename_any (w : World) (base q b : Nat) (D : Dk) (h : DkAt w base q b D) (ho : DkOk D) (nm to : List UInt8) (hl : nm.length ≤ 281474976710656) (hl2 : to.length ≤ 281474976710656) : Calls Tryd.prog 24 #[.pointer (some ⟨q, 0, none⟩), .string (bs nm), .string (bs to)] w fun r w' => r = .returned (.int .i64 ((renameA D.ab nm to).2 : Nat)) ∧ To base q b D.fs (renameA D.ab nm to).1 w w' := by
  by_cases hE : barE D [nm, to] = 0
  · have h1 := bar_one hE
    have e0 : renameA D.ab nm to = foundA D.ab nm (fun e => (D.ab, e)) fun f => stepTo D.ab (insA ⟨to, f.l, f.s⟩ (delA D.ab.fs nm)) := by
      unfold renameA
      rw [if_neg (by show ¬ barE D [nm, to] ≠ 0; omega)]
    rw [e0]
    cases hN : getN D.fs nm with
    | none =>
      rw [(found_no (.inr hN) _ _).1]
      exact (rename_none w base q b D h ho nm to hl hl2 hE hN).mono (fun r w' hr => ⟨hr.1, To.of_below h hr.2⟩)
    | some f =>
      rw [found_ok hN h1]
      by_cases hS : D.fuse = 1
      · rw [show stepTo D.ab (insA ⟨to, f.ab.l, f.ab.s⟩ (delA D.ab.fs nm)) = (stepA D.ab, 3) from if_pos hS]
        exact rename_fail w base q b D h ho nm to hl hl2 hE f hN hS
      · rw [show stepTo D.ab (insA ⟨to, f.ab.l, f.ab.s⟩ (delA D.ab.fs nm)) = ((stepA D.ab).put (insA ⟨to, f.ab.l, f.ab.s⟩ (delA D.ab.fs nm)), 0) from if_neg hS]
        exact rename_ok w base q b D h ho nm to hl hl2 hE f hN hS
  · have e0 : renameA D.ab nm to = (D.ab, barE D [nm, to]) := by unfold renameA; exact if_pos hE
    rw [e0]
    exact (rename_bar w base q b D h ho nm to hl hl2 hE).mono (fun r w' hr => ⟨hr.1, To.of_below h hr.2⟩)
end Go.Proofs.YtnfkdgjgglnniaaDoor
namespace Go.Proofs.YtnfkdgjgglnniaaDoor
open Go.ChangeShapes Go.WideShapes Go.ChangeAt Go.RowKit
set_option linter.unusedVariables false
theorem bar_name {A : Ak} {nm : List UInt8} (h : barA A [nm] = 0) : nm.length ≤ 24 := right_len ((bar_right h).2 nm (List.mem_singleton.2 rfl))
theorem foundA_ok {A : Ak} {nm : List UInt8} {R : Type} {P : R → Prop} {bad : Nat → R} {X : Fa → R} (h1 : ∀ e, P (bad e)) (h2 : ∀ f, getA A.fs nm = some f → barA A [nm] = 0 → P (X f)) : P (foundA A nm bad X) := by
  unfold foundA
  cases hg : getA A.fs nm with
  | none => exact h1 _
  | some f =>
    simp only
    by_cases hb : barA A [nm] = 0
    · rw [if_neg (by omega)]; exact h2 f hg hb
    · rw [if_pos hb]; exact h1 _
theorem createA_ok {A : Ak} (h : AkOk A) (nm : List UInt8) : AkOk (createA A nm).1 := by
  unfold createA
  by_cases h1 : barA A [nm] = 0
  · rw [if_neg (by omega)]
    by_cases h2 : (getA A.fs nm).isSome = true
    · rw [if_pos h2]; exact h
    · rw [if_neg h2]
      by_cases h3 : 700 ≤ A.fs.length
      · rw [if_pos h3]; exact h
      · rw [if_neg h3]
        by_cases h4 : A.fuse = 1
        · rw [if_pos h4]; exact stepA_ok h
        · rw [if_neg h4]
          exact h.step_ins (f := ⟨nm, [], 0⟩) (bar_name h1) (Nat.zero_le _) (by have := h.used; show (usedA A.fs : Int) + (0 : Nat) ≤ _; omega) (by have := lenA_ins ⟨nm, [], 0⟩ (L := A.fs); omega)
  · rw [if_pos h1]; exact h
theorem stepTo_ok {A : Ak} (h : AkOk A) {L : List Fa} (hL : AkOk ((stepA A).put L)) : AkOk (stepTo A L).1 := by
  unfold stepTo
  split
  · exact stepA_ok h
  · exact hL
theorem same_ok {A : Ak} (h : AkOk A) {nm : List UInt8} {f : Fa} (hf : getA A.fs nm = some f) {l : List Nat} {s : Nat} (hs : s ≤ l.length) (hu : (usedA A.fs : Int) + l.length ≤ A.room + f.l.length) : AkOk ((stepA A).put (insA ⟨f.name, l, s⟩ A.fs)) := by
  obtain ⟨hm, hn⟩ := getA_mem hf
  have hg : getA A.fs f.name = some f := by rw [hn]; exact hf
  refine h.step_ins (f := ⟨f.name, l, s⟩) (h.name f hm) hs (by show (usedA A.fs : Int) + l.length ≤ A.room + (oldA A.fs f.name : Nat); rw [oldA_some hg]; exact hu) ?_
  rw [lenA_ins_old (f := ⟨f.name, l, s⟩) h.sort (show (getA A.fs f.name).isSome = true by rw [hg]; rfl)]
  exact h.few
theorem appendA_ok {A : Ak} (h : AkOk A) (nm : List UInt8) (l : List Nat) : AkOk (appendA A nm l).1 := by
  unfold appendA
  refine foundA_ok (P := fun r : Ak × Nat => AkOk r.1) (fun e => h) (fun f hf hb => ?_)
  split
  · exact h
  · have hs := h.safe f (getA_mem hf).1
    exact same_ok h hf (by rw [List.length_append]; omega) (by rw [List.length_append]; omega)
theorem syncA_ok {A : Ak} (h : AkOk A) (nm : List UInt8) : AkOk (syncA A nm).1 := by
  unfold syncA
  refine foundA_ok (P := fun r : Ak × Nat => AkOk r.1) (fun e => h) (fun f hf hb => stepTo_ok h (same_ok h hf (Nat.le_refl _) (by have := h.used; omega)))
theorem cutA_ok {A : Ak} (h : AkOk A) (nm : List UInt8) (n : Int) : AkOk (cutA A nm n).1 := by
  unfold cutA
  refine foundA_ok (P := fun r : Ak × Nat => AkOk r.1) (fun e => h) (fun f hf hb => ?_)
  by_cases hc : n < 0 ∨ (f.l.length : Int) < n
  · rw [if_pos hc]; exact h
  · rw [if_neg hc]
    have hs := h.safe f (getA_mem hf).1
    have hu := h.used
    exact stepTo_ok h (same_ok h hf (by rw [List.length_take]; omega) (by rw [List.length_take]; omega))
theorem removeA_ok {A : Ak} (h : AkOk A) (nm : List UInt8) : AkOk (removeA A nm).1 := by
  unfold removeA
  exact foundA_ok (P := fun r : Ak × Nat => AkOk r.1) (fun e => h) (fun f hf hb => stepTo_ok h (h.step_del nm))
theorem renameA_ok {A : Ak} (h : AkOk A) (nm to : List UInt8) : AkOk (renameA A nm to).1 := by
  unfold renameA
  by_cases hb0 : barA A [nm, to] = 0
  · rw [if_neg (by omega)]
    refine foundA_ok (P := fun r : Ak × Nat => AkOk r.1) (fun e => h) (fun f hf hb => stepTo_ok h ?_)
    obtain ⟨hm, hn⟩ := getA_mem hf
    have h1 := h.step_del nm
    have hd := usedA_del nm h.sort
    rw [oldA_some hf] at hd
    have hl := lenA_del_old (L := A.fs) (t := nm) (by rw [hf]; rfl)
    have hi := lenA_ins ⟨to, f.l, f.s⟩ (L := delA A.fs nm)
    have hu := h.used
    have hfew := h.few
    exact h1.ins (f := ⟨to, f.l, f.s⟩) (right_len ((bar_right hb0).2 to (by simp))) (h.safe f hm) (by show (usedA (delA A.fs nm) : Int) + f.l.length ≤ (stepA A).room + _; rw [stepA_room]; omega) (by show (insA ⟨to, f.l, f.s⟩ (delA A.fs nm)).length ≤ 700; omega)
  · rw [if_pos hb0]; exact h
theorem readA_ok {A : Ak} (h : AkOk A) (nm : List UInt8) (i n : Int) : AkOk (readA A nm i n).1 := by
  unfold readA
  refine foundA_ok (P := fun r : Ak × List Nat × Nat => AkOk r.1) (fun e => h) (fun f hf hb => ?_)
  split
  · exact h
  · exact ⟨h.room, h.used, h.fuse, h.steps, wrap_rg _, h.few, h.name, h.safe, h.sort⟩
theorem fuseA_ok {A : Ak} (h : AkOk A) {n : Int} (hn : n ≤ 9223372036854775807) : AkOk (fuseA A n) := by
  refine ⟨h.room, h.used, ?_, h.steps, h.read, h.few, h.name, h.safe, h.sort⟩
  show 0 ≤ (if n < 0 then 0 else n) ∧ (if n < 0 then 0 else n) ≤ 9223372036854775807
  split <;> omega
theorem keepN_le {f : Fa} (h : f.s ≤ f.l.length) (k : Int) : keepN f k ≤ f.l.length := by
  unfold keepN
  split <;> omega
theorem lose_mem : ∀ {X : List Fa} {ks : List Int} {g : Fa}, g ∈ loseA X ks → ∃ f ∈ X, ∃ k, g = lostA f k
  | [], _, g, h => by cases ‹List Int› <;> cases h
  | f :: X, [], g, h => by
    rcases List.mem_cons.1 h with h1 | h1
    · exact ⟨f, by simp, 0, h1⟩
    · obtain ⟨f', h2, k, h3⟩ := lose_mem h1; exact ⟨f', by simp [h2], k, h3⟩
  | f :: X, k :: ks, g, h => by
    rcases List.mem_cons.1 h with h1 | h1
    · exact ⟨f, by simp, k, h1⟩
    · obtain ⟨f', h2, k', h3⟩ := lose_mem h1; exact ⟨f', by simp [h2], k', h3⟩
theorem lost_used (f : Fa) (k : Int) : (lostA f k).l.length ≤ f.l.length := by
  show (f.l.take _).length ≤ _
  rw [List.length_take]; omega
theorem lose_used : ∀ (X : List Fa) (ks : List Int), usedA (loseA X ks) ≤ usedA X
  | [], ks => by cases ks <;> exact Nat.le_refl _
  | f :: X, [] => by
    have := lose_used X []; have := lost_used f 0
    simp only [loseA, usedA_cons]; omega
  | f :: X, k :: ks => by
    have := lose_used X ks; have := lost_used f k
    simp only [loseA, usedA_cons]; omega
theorem restartA_ok {A : Ak} (h : AkOk A) (ks : List Int) : AkOk (restartA A ks) := by
  refine ⟨h.room, ?_, ⟨by show (0 : Int) ≤ 0; omega, by show (0 : Int) ≤ _; omega⟩, h.steps, h.read, ?_, fun g hg => ?_, fun g hg => ?_, ?_⟩
  · have h1 := lose_used A.fs ks
    have h2 := h.used
    show (usedA (loseA A.fs ks) : Int) ≤ A.room
    omega
  · show (loseA A.fs ks).length ≤ 700
    rw [lose_len]; exact h.few
  · obtain ⟨f, hf, k, e⟩ := lose_mem hg
    rw [e]; exact h.name f hf
  · obtain ⟨f, hf, k, e⟩ := lose_mem hg
    rw [e]
    show keepN f k ≤ (f.l.take (keepN f k)).length
    rw [List.length_take, Nat.min_eq_left (keepN_le (h.safe f hf) k)]
    exact Nat.le_refl _
  · show SortA (loseA A.fs ks)
    have h1 : ((loseA A.fs ks).map (·.name)).Pairwise (fun a b => a < b) := by
      rw [lose_names]
      exact List.pairwise_map.2 h.sort
    exact List.pairwise_map.1 h1
theorem newA_ok (n : Int) : AkOk (newD n).ab := ⟨room_ok n, (room_ok n).1, ⟨by show (0 : Int) ≤ 0; omega, by show (0 : Int) ≤ _; omega⟩, ⟨by show _ ≤ (0 : Int); omega, by show (0 : Int) ≤ _; omega⟩, ⟨by show _ ≤ (0 : Int); omega, by show (0 : Int) ≤ _; omega⟩, Nat.zero_le _, (fun f hf => by cases hf), (fun f hf => by cases hf), List.Pairwise.nil⟩
end Go.Proofs.YtnfkdgjgglnniaaDoor
namespace Go.Proofs.YtnfkdgjgglnniaaDoor
open Go.ChangeShapes Go.WideShapes Go.ChangeAt Go.RowKit
set_option linter.unusedVariables false
set_option linter.unusedSimpArgs false
abbrev nA : List UInt8 := [97]
abbrev fA : Fi := ⟨nA, .slice none 0 0, [], 0⟩
abbrev dA1 : Dk := putD (stepD (newD 10)) fA
abbrev dA2 (v : Value) : Dk := apD dA1 fA v [1, 2, 3]
theorem a0_bar : barE (newD 10) [nA] = 0 := by decide
theorem a1_bar : barE dA1 [nA] = 0 := by decide
theorem a2_bar (v : Value) : barE (dA2 v) [nA] = 0 := rfl
theorem a1_get : getN dA1.fs nA = some fA := rfl
theorem a2_get (v : Value) : getN (dA2 v).fs nA = some ⟨nA, v, [1, 2, 3], 0⟩ := rfl
theorem a1_ok : DkOk dA1 := ⟨⟨by decide, by decide⟩, by decide, ⟨by decide, by decide⟩, wrap_rng (0 + 1), ⟨by decide, by decide⟩, by decide, fun f hf => by rcases List.mem_singleton.1 hf with rfl; decide, fun f hf => by rcases List.mem_singleton.1 hf with rfl; decide⟩
theorem a2_used (v : Value) : usedN (dA2 v).fs = 3 := rfl
theorem a2_room (v : Value) : (dA2 v).room = 10 := rfl
theorem a2_ok (v : Value) : DkOk (dA2 v) := ⟨⟨by rw [a2_room]; decide, by rw [a2_room]; decide⟩, by rw [a2_used, a2_room]; decide, ⟨by show (0 : Int) ≤ 0; decide, by show (0 : Int) ≤ _; decide⟩, wrap_rng (wrap64 (0 + 1) + 1), ⟨by show _ ≤ (0 : Int); decide, by show (0 : Int) ≤ _; decide⟩, by show 1 ≤ 700; decide, fun f hf => by rcases List.mem_singleton.1 hf with rfl; show 1 ≤ 24; decide, fun f hf => by rcases List.mem_singleton.1 hf with rfl; exact Nat.zero_le _⟩
theorem bytes_lit3 (x : World) : Bytes (x.alloc (.cells #[.int .u8 1, .int .u8 2, .int .u8 3] 5)) (some ⟨x.heap.size, 0, none⟩) [1, 2, 3] := by
  refine ⟨fun i => ?_, .inr ⟨x.heap.size, 0, rfl, by simp, fun i hi => ?_⟩⟩
  · match i with
    | 0 => decide
    | 1 => decide
    | 2 => decide
    | _ + 3 => simp
  · rw [Nat.zero_add, cell_of_row _ _ i _ _ _ (heap_alloc_new x _)]
    match i, hi with
    | 0, _ => rfl
    | 1, _ => rfl
    | 2, _ => rfl
    | _ + 3, h => exact absurd h (by simp)
end Go.Proofs.YtnfkdgjgglnniaaDoor
