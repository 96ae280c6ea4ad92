/- Own texts, joined: Fsd. -/
import Derived.Test.YtnfkdgjgglnniaaDoorK49
namespace Go.Proofs.YtnfkdgjgglnniaaDoor
open Go.ChangeShapes Go.WideShapes Go.ChangeAt Go.RowKit
set_option linter.unusedVariables false
set_option linter.unusedSimpArgs false

theorem To.lay {base q b : Nat} {D' : Dk} {L : List Fi} {A : Ak} {w w' : World} (h : DkAt w' base q b D') (hc : Chg q b L D'.fs w w') (e : D'.ab = A) : To base q b L A w w' := ⟨D', h, e, hc⟩
theorem box_step {w x1 x3 x4 : World} {base q b : Nat} {D : Dk} {v : Value} {S : Int} (h : DkAt w base q b D) (hs : w.heap.size ≤ x1.heap.size) (ho : On q x3 x4) (hf : FiAt x3 x1.heap.size v S) : FiAt x4 x1.heap.size v S :=
  (ho.block _ (by have := h.lt; omega)).trans hf
theorem DkAt.delTo {w w' : World} {base q b n : Nat} {D : Dk} {M : DataW Value} (h : DkAt w base q b D) {t : List UInt8} (hr : RepN M D.fs) (hm : w'.ownsMap Tryd.prog 9 hvS b n (M.del (.string t))) (ho : On b w w') : DkAt w' base q b { D with fs := delN D.fs t } := by
  have hrp := hr.del h.srt t
  have hmt := owns_tight hm
  rw [hrp.sz] at hmt
  have hsub : (delN D.fs t).Sublist D.fs := List.filter_sublist
  exact ⟨(ho.block q h.ne).trans h.blk, ⟨_, hmt, hrp⟩, h.srt.sublist hsub, fun g hg => (h.dat g (hsub.subset hg)).moved (fun k _ _ hk => ho.block k (h.dat_ne (h.dat g (hsub.subset hg)) k hk).2), h.dist.sublist hsub, h.lo⟩
theorem Chg.del {q b : Nat} {L L1 : List Fi} {w w1 w2 : World} (h : Chg q b L L1 w w1) (t : List UInt8) (g : On b w1 w2) : Chg q b L (delN L1 t) w w2 := by
  refine ⟨g.os.trans h.os, g.tape.trans h.tape, g.output.trans h.output, by rw [g.size]; exact h.size, fun k hk hn => (g.block k (fun e => hn (.inr (.inl e)))).trans (h.block k hk hn), fun k hk => ?_⟩
  rcases hk with h1 | h1 | ⟨x, hx, hxo⟩
  · exact .inl (.inl h1)
  · exact .inl (.inr (.inl h1))
  · exact h.own k (.inr (.inr ⟨x, List.filter_sublist.subset hx, hxo⟩))
theorem del_ab2 (D : Dk) (t : List UInt8) : ({ stepD D with fs := delN (stepD D).fs t } : Dk).ab = (stepA D.ab).put (delA D.ab.fs t) := by
  rw [step_ab]
  show Ak.mk _ _ _ _ _ ((delN (stepD D).fs t).map Fi.ab) = _
  rw [del_ab, stepD_fs]
  rfl
theorem dat_addr {w : World} {base : Nat} {a : Option Addr} {m c : Nat} {l : List Nat} (h : DatAt w base (.slice a m c) l) : a = none ∨ ∃ g, a = some ⟨g, 0, none⟩ := by
  rcases h with ⟨h1, _⟩ | ⟨g, cap, cur, h1, _⟩
  · injection h1 with e1; exact .inl e1
  · injection h1 with e1; exact .inr ⟨g, e1⟩
theorem own_cut (a : Option Addr) (m c n : Nat) : (Value.slice a n n).ownBlock = (Value.slice a m c).ownBlock := by cases a <;> rfl
theorem step_few {D : Dk} (h : DkOk D) : (stepD D).fs.length < maxLen := by rw [stepD_fs]; have := h.few; unfold maxLen; omega
theorem step_dist {w : World} {base q b : Nat} {D : Dk} (h : DkAt w base q b D) {f : Fi} (hf : f ∈ D.fs) : ∀ g ∈ (stepD D).fs, g.name ≠ f.name → ∀ k, f.v.ownBlock = some k → g.v.ownBlock ≠ some k := by
  intro g hg hne k hk
  rw [stepD_fs] at hg
  exact dist_ne h.dist hf hg hne k hk
theorem step_dat {w : World} {base q b : Nat} {D : Dk} (h : DkAt w base q b (stepD D)) {f : Fi} (hf : f ∈ D.fs) : DatAt w base f.v f.l := h.dat f (by rw [stepD_fs]; exact hf)
set_option maxRecDepth 100000 in
set_option maxHeartbeats 2000000 in
theorem sync_err (w : World) (base q b : Nat) (D : Dk) (h : DkAt w base q b D) (nm : List UInt8) (hl : nm.length ≤ 281474976710656) (hE : barE D [nm] ≠ 0 ∨ getN D.fs nm = none) :
    Calls Tryd.prog 22 #[.pointer (some ⟨q, 0, none⟩), .string (bs nm)] w fun r w' => r = .returned (.int .i64 (findE D nm : Nat)) ∧ Below w.heap.size w w' := by
  have hE0 := (found_no (R := Nat) hE id (fun _ => 0)).2
  obtain ⟨E, hEE⟩ : ∃ E, findE D nm = E := ⟨_, rfl⟩
  have HFE : Hid (findE D nm = E) := hEE
  rw [hEE] at hE0 ⊢
  have hq : ((E : Int) != 0) = true := by simp; exact hE0
  have HD : Hid (DkAt w base q b D) := h
  have HX : Hid (barE D [nm] ≠ 0 ∨ getN D.fs nm = none) := hE
  have HL : Hid (nm.length ≤ 281474976710656) := hl
  clear h hE hl hE0 hEE
  go_enter Tryd.func22, Tryd.ntmps22
  go_wp2_with (first
    | (go_at_call 39; refine (find_err _ base q b D HD.out nm HL.out HX.out).mono ?_; rw [HFE.out]; rintro _ x1 ⟨rfl, hb1⟩; have HB1 : Hid (Below w.heap.size w x1) := hb1; have HF1 : Hid (FiAt (x1.alloc (.cells #[.slice none 0 0, .int .i64 0] 60)) x1.heap.size (.slice none 0 0) 0) := FiAt.new x1 _ _; clear hb1)
    | ((with_reducible refine guard_store 60 ?_); refine wpList_store_fi rfl _ _ rfl rfl HF1.out rfl rfl rfl (v2 := .slice none 0 0) (s2 := 0) ?_; intro x3 hf ho hh hs; have HB3 : Hid (Below w.heap.size w x3) := ho _ _ (HB1.out.alloc HB1.out.size _) HB1.out.size; have HF3 : Hid (FiAt x3 x1.heap.size (.slice none 0 0) (0)) := hf; have cf3 := hf.cells.1; clear hf ho hh hs)
    | go_in)
  go_ret
  exact ⟨rfl, HB3.out⟩
set_option maxRecDepth 100000 in
set_option maxHeartbeats 2000000 in
theorem sync_fail (w : World) (base q b : Nat) (D : Dk) (h : DkAt w base q b D) (ho : DkOk D) (nm : List UInt8) (hl : nm.length ≤ 281474976710656) (hE : barE D [nm] = 0) (f : Fi) (hN : getN D.fs nm = some f) (hS : D.fuse = 1) :
    Calls Tryd.prog 22 #[.pointer (some ⟨q, 0, none⟩), .string (bs nm)] w fun r w' => r = .returned (.int .i64 ((syncA D.ab nm).2 : Nat)) ∧ To base q b D.fs (syncA D.ab nm).1 w w' := by
  have HR : syncA D.ab nm = (stepA D.ab, 3) := by
    unfold syncA; rw [found_ok hN hE]
    show stepTo D.ab _ = _
    unfold stepTo; rw [if_pos (show D.ab.fuse = 1 from hS)]
  rw [HR]
  have HSE : Hid (stepE D = 3) := if_pos hS
  clear HR hS
  obtain ⟨hfm, hfn⟩ := getN_mem hN
  obtain ⟨a, c, hv, hc1, hc2, hby, hnil, hone⟩ := (h.dat f hfm).bytes
  have hmI : (f.l.length : Int) ≤ 67108864 := by have := usedN_mem hfm; have := ho.used; have := ho.room; omega
  have hsm : (f.s : Int) ≤ f.l.length := by have := ho.safe f hfm; omega
  obtain ⟨m, hm⟩ : ∃ m, f.l.length = m := ⟨_, rfl⟩
  rw [hm] at hv hc1 hmI hsm
  obtain ⟨S, hS⟩ : ∃ S : Int, (f.s : Int) = S := ⟨_, rfl⟩
  have hS0 : 0 ≤ S := by omega
  rw [hS] at hsm
  have HVS : Hid (FiV f = fiV (.slice a m c) S) := by show Value.agg #[f.v, _] = _; rw [hv, ← hS]
  have HONE : Hid ((Value.slice a m c).oneCell' = true) := by show _ = _; rw [← hv]; exact hone
  have HV : Hid (f.v = .slice a m c ∧ (f.s : Int) = S ∧ f.l.length = m ∧ f ∈ D.fs ∧ f.name = nm) := ⟨hv, hS, hm, hfm, hfn⟩
  have HBY : Hid (Bytes w a f.l ∧ m ≤ c ∧ c ≤ maxLen ∧ (a = none → c = 0)) := ⟨hby, hc1, hc2, hnil⟩
  have HD : Hid (DkAt w base q b D) := h
  have HO : Hid (DkOk D) := ho
  have HE : Hid (barE D [nm] = 0) := hE
  have HN : Hid (getN D.fs nm = some f) := hN
  have HL : Hid (nm.length ≤ 281474976710656) := hl
  have hm0 : (0 : Int) ≤ (m : Int) := by omega
  clear h ho hE hl hN hv hS hm hfm hfn hone hby hc2 hnil
  go_enter Tryd.func22, Tryd.ntmps22
  go_wp2_with (first
    | (go_at_call 39; refine (find_ok _ base q b D HD.out nm HL.out HE.out f HN.out).mono ?_; rw [HVS.out]; rintro _ x1 ⟨rfl, hb1⟩; have HB1 : Hid (Below w.heap.size w x1) := hb1; have HF1 : Hid (FiAt (x1.alloc (.cells #[.slice none 0 0, .int .i64 0] 60)) x1.heap.size (.slice none 0 0) 0) := FiAt.new x1 _ _; clear hb1)
    | ((with_reducible refine guard_store 60 ?_); refine wpList_store_fi rfl _ _ rfl rfl HF1.out HONE.out rfl rfl (v2 := .slice a m c) (s2 := S) ?_; intro x3 hf ho hh hs; have HB3 : Hid (Below w.heap.size w x3) := ho _ _ (HB1.out.alloc HB1.out.size _) HB1.out.size; have HF3 : Hid (FiAt x3 x1.heap.size (.slice a m c) (S)) := hf; have cf3 := hf.cells.1; clear hf ho hh hs)
    | (go_at_call 38; refine (step_any _ base q b D (HD.out.keep HB3.out) HO.out.fuse.1 HO.out.fuse.2).mono ?_; rw [HSE.out]; rintro _ x4 ⟨rfl, hd4, ho4⟩; have HD4 : Hid (DkAt x4 base q b (stepD D)) := hd4; have HC4 : Hid (Chg q b D.fs D.fs w x4) := (Chg.of_below HB3.out).on ho4; have HF4 : Hid (FiAt x4 x1.heap.size (.slice a m c) S) := box_step HD.out HB1.out.size ho4 HF3.out; have cf4 := HF4.out.cells.1; have cs4 := HF4.out.cells.2; have zf4 := HF4.out.froz 1; have cm4 := HD4.out.cells.2.1; clear hd4 ho4)
    | go_in)
  go_ret
  exact ⟨rfl, To.lay HD4.out (by rw [stepD_fs]; exact HC4.out) (step_ab D).symm⟩
set_option maxRecDepth 100000 in
set_option maxHeartbeats 2000000 in
theorem sync_ok (w : World) (base q b : Nat) (D : Dk) (h : DkAt w base q b D) (ho : DkOk D) (nm : List UInt8) (hl : nm.length ≤ 281474976710656) (hE : barE D [nm] = 0) (f : Fi) (hN : getN D.fs nm = some f) (hS : D.fuse ≠ 1) :
    Calls Tryd.prog 22 #[.pointer (some ⟨q, 0, none⟩), .string (bs nm)] w fun r w' => r = .returned (.int .i64 ((syncA D.ab nm).2 : Nat)) ∧ To base q b D.fs (syncA D.ab nm).1 w w' := by
  have HR : syncA D.ab nm = ((stepA D.ab).put (insA ⟨nm, f.l, f.l.length⟩ D.ab.fs), 0) := by
    unfold syncA; rw [found_ok hN hE]
    show stepTo D.ab (insA ⟨f.name, f.l, f.l.length⟩ D.ab.fs) = _
    unfold stepTo; rw [if_neg (show ¬ D.ab.fuse = 1 from hS), (getN_mem hN).2]
  rw [HR]
  have HSE : Hid (stepE D = 0) := if_neg hS
  clear HR hS
  obtain ⟨hfm, hfn⟩ := getN_mem hN
  obtain ⟨a, c, hv, hc1, hc2, hby, hnil, hone⟩ := (h.dat f hfm).bytes
  have hmI : (f.l.length : Int) ≤ 67108864 := by have := usedN_mem hfm; have := ho.used; have := ho.room; omega
  have hsm : (f.s : Int) ≤ f.l.length := by have := ho.safe f hfm; omega
  obtain ⟨m, hm⟩ : ∃ m, f.l.length = m := ⟨_, rfl⟩
  rw [hm] at hv hc1 hmI hsm
  obtain ⟨S, hS⟩ : ∃ S : Int, (f.s : Int) = S := ⟨_, rfl⟩
  have hS0 : 0 ≤ S := by omega
  rw [hS] at hsm
  have HVS : Hid (FiV f = fiV (.slice a m c) S) := by show Value.agg #[f.v, _] = _; rw [hv, ← hS]
  have HONE : Hid ((Value.slice a m c).oneCell' = true) := by show _ = _; rw [← hv]; exact hone
  have HV : Hid (f.v = .slice a m c ∧ (f.s : Int) = S ∧ f.l.length = m ∧ f ∈ D.fs ∧ f.name = nm) := ⟨hv, hS, hm, hfm, hfn⟩
  have HBY : Hid (Bytes w a f.l ∧ m ≤ c ∧ c ≤ maxLen ∧ (a = none → c = 0)) := ⟨hby, hc1, hc2, hnil⟩
  have HD : Hid (DkAt w base q b D) := h
  have HO : Hid (DkOk D) := ho
  have HE : Hid (barE D [nm] = 0) := hE
  have HN : Hid (getN D.fs nm = some f) := hN
  have HL : Hid (nm.length ≤ 281474976710656) := hl
  have hm0 : (0 : Int) ≤ (m : Int) := by omega
  clear h ho hE hl hN hv hS hm hfm hfn hone hby hc2 hnil
  rw [HV.out.2.2.1]
  have HDS : Hid (∀ g ∈ (stepD D).fs, g.name ≠ nm → ∀ k, (Value.slice a m c).ownBlock = some k → g.v.ownBlock ≠ some k) := by
    intro g hg hne k hk
    exact step_dist HD.out HV.out.2.2.2.1 g hg (by rw [HV.out.2.2.2.2]; exact hne) k (by rw [HV.out.1]; exact hk)
  have HOB : Hid (∀ k, (Value.slice a m c).ownBlock = some k → Ob q b D.fs k ∨ w.heap.size ≤ k) := fun k hk => .inl (.inr (.inr ⟨f, HV.out.2.2.2.1, by rw [HV.out.1]; exact hk⟩))
  go_enter Tryd.func22, Tryd.ntmps22
  go_wp2_with (first
    | (go_at_call 39; refine (find_ok _ base q b D HD.out nm HL.out HE.out f HN.out).mono ?_; rw [HVS.out]; rintro _ x1 ⟨rfl, hb1⟩; have HB1 : Hid (Below w.heap.size w x1) := hb1; have HF1 : Hid (FiAt (x1.alloc (.cells #[.slice none 0 0, .int .i64 0] 60)) x1.heap.size (.slice none 0 0) 0) := FiAt.new x1 _ _; clear hb1)
    | ((with_reducible refine guard_store 60 ?_); refine wpList_store_fi rfl _ _ rfl rfl HF1.out HONE.out rfl rfl (v2 := .slice a m c) (s2 := S) ?_; intro x3 hf ho hh hs; have HB3 : Hid (Below w.heap.size w x3) := ho _ _ (HB1.out.alloc HB1.out.size _) HB1.out.size; have HF3 : Hid (FiAt x3 x1.heap.size (.slice a m c) (S)) := hf; have cf3 := hf.cells.1; clear hf ho hh hs)
    | (go_at_call 38; refine (step_any _ base q b D (HD.out.keep HB3.out) HO.out.fuse.1 HO.out.fuse.2).mono ?_; rw [HSE.out]; rintro _ x4 ⟨rfl, hd4, ho4⟩; have HD4 : Hid (DkAt x4 base q b (stepD D)) := hd4; have HC4 : Hid (Chg q b D.fs D.fs w x4) := (Chg.of_below HB3.out).on ho4; have HF4 : Hid (FiAt x4 x1.heap.size (.slice a m c) S) := box_step HD.out HB1.out.size ho4 HF3.out; have cf4 := HF4.out.cells.1; have cs4 := HF4.out.cells.2; have zf4 := HF4.out.froz 1; have cm4 := HD4.out.cells.2.1; have HF5 : Hid (FiAt (x4.setCell ⟨x1.heap.size, 1, none⟩ (.int .i64 (m : Int))) x1.heap.size (.slice a m c) (m : Int)) := (by unfold FiAt; rw [heap_setCell_same x4 _ 1 _ _ _ HF4.out]; rfl); have HD5 : Hid (DkAt (x4.setCell ⟨x1.heap.size, 1, none⟩ (.int .i64 (m : Int))) base q b (stepD D)) := HD.out.box HD4.out (stepD_fs D) (fun j hj => heap_setCell_other x4 ⟨x1.heap.size, 1, none⟩ j _ (show j ≠ x1.heap.size by have := HB1.out.size; omega)); have HC5 : Hid (Chg q b D.fs D.fs w (x4.setCell ⟨x1.heap.size, 1, none⟩ (.int .i64 (m : Int)))) := HC4.out.low (((On.refl x1.heap.size x4).set 1 _).below HB1.out.size); have HDT5 : Hid (DatAt (x4.setCell ⟨x1.heap.size, 1, none⟩ (.int .i64 (m : Int))) base (.slice a m c) f.l) := (by have hd := step_dat HD5.out HV.out.2.2.2.1; rw [HV.out.1] at hd; exact hd); clear hd4 ho4)
    | ((with_reducible refine guard_load 60 ?_); refine wpList_load_fi rfl _ rfl HF5.out rfl ?_)
    | (go_at_call 28; refine (fput_any _ base q b (stepD D) HD5.out (step_few HO.out) nm (.slice a m c) f.l m HL.out HDT5.out HDS.out).mono ?_; rintro _ x6 ⟨rfl, hd6, hk6⟩; have HD6 : Hid (DkAt x6 base q b (putD (stepD D) ⟨nm, (.slice a m c), f.l, m⟩)) := hd6; have HC6 : Hid (Chg q b D.fs (insN ⟨nm, (.slice a m c), f.l, m⟩ D.fs) w x6) := HC5.out.put _ hk6 HOB.out; clear hd6 hk6)
    | go_in)
  go_ret
  exact ⟨rfl, To.lay HD6.out (by show Chg q b D.fs (insN _ (stepD D).fs) w x6; rw [stepD_fs]; exact HC6.out) (put_ab D _)⟩
theorem sync_any (w : World) (base q b : Nat) (D : Dk) (h : DkAt w base q b D) (ho : DkOk D) (nm : List UInt8) (hl : nm.length ≤ 281474976710656) :
    Calls Tryd.prog 22 #[.pointer (some ⟨q, 0, none⟩), .string (bs nm)] w fun r w' => r = .returned (.int .i64 ((syncA D.ab nm).2 : Nat)) ∧ To base q b D.fs (syncA D.ab nm).1 w w' := by
  by_cases hE : barE D [nm] ≠ 0 ∨ getN D.fs nm = none
  · have HR : syncA D.ab nm = (D.ab, findE D nm) := by unfold syncA; exact (found_no hE _ _).1
    rw [HR]
    exact (sync_err w base q b D h nm hl hE).mono (fun r w' hr => ⟨hr.1, To.of_below h hr.2⟩)
  · have h1 : barE D [nm] = 0 := by apply Decidable.byContradiction; intro h2; exact hE (.inl h2)
    cases hN : getN D.fs nm with
    | none => exact absurd (.inr hN) hE
    | some f =>
      by_cases hS : D.fuse = 1
      · exact sync_fail w base q b D h ho nm hl h1 f hN hS
      · exact sync_ok w base q b D h ho nm hl h1 f hN hS
set_option maxRecDepth 100000 in
set_option maxHeartbeats 2000000 in
theorem append_err (w : World) (base q b : Nat) (D : Dk) (h : DkAt w base q b D) (nm : List UInt8) (hl : nm.length ≤ 281474976710656) (hE : barE D [nm] ≠ 0 ∨ getN D.fs nm = none) (A : Option Addr) (n C : Nat) :
    Calls Tryd.prog 20 #[.pointer (some ⟨q, 0, none⟩), .string (bs nm), .slice A n C] w fun r w' => r = .returned (.int .i64 (findE D nm : Nat)) ∧ Below w.heap.size w w' := by
  have hE0 := (found_no (R := Nat) hE id (fun _ => 0)).2
  obtain ⟨E, hEE⟩ : ∃ E, findE D nm = E := ⟨_, rfl⟩
  have HFE : Hid (findE D nm = E) := hEE
  rw [hEE] at hE0 ⊢
  have hq : ((E : Int) != 0) = true := by simp; exact hE0
  have HD : Hid (DkAt w base q b D) := h
  have HX : Hid (barE D [nm] ≠ 0 ∨ getN D.fs nm = none) := hE
  have HL : Hid (nm.length ≤ 281474976710656) := hl
  clear h hE hl hE0 hEE
  go_enter Tryd.func20, Tryd.ntmps20
  go_wp2_with (first
    | (go_at_call 39; refine (find_err _ base q b D HD.out nm HL.out HX.out).mono ?_; rw [HFE.out]; rintro _ x1 ⟨rfl, hb1⟩; have HB1 : Hid (Below w.heap.size w x1) := hb1; have HF1 : Hid (FiAt (x1.alloc (.cells #[.slice none 0 0, .int .i64 0] 60)) x1.heap.size (.slice none 0 0) 0) := FiAt.new x1 _ _; clear hb1)
    | ((with_reducible refine guard_store 60 ?_); refine wpList_store_fi rfl _ _ rfl rfl HF1.out rfl rfl rfl (v2 := .slice none 0 0) (s2 := 0) ?_; intro x3 hf ho hh hs; have HB3 : Hid (Below w.heap.size w x3) := ho _ _ (HB1.out.alloc HB1.out.size _) HB1.out.size; have HF3 : Hid (FiAt x3 x1.heap.size (.slice none 0 0) (0)) := hf; have cf3 := hf.cells.1; clear hf ho hh hs)
    | go_in)
  go_ret
  exact ⟨rfl, HB3.out⟩
theorem append_any (w : World) (base q b : Nat) (D : Dk) (h : DkAt w base q b D) (ho : DkOk D) (nm : List UInt8) (hl : nm.length ≤ 281474976710656) (A : Option Addr) (n C : Nat) (l : List Nat) (hln : l.length = n) (hB : Bytes w A l) (hnc : n ≤ C) (hA : A = none → C = 0) (hn : (n : Int) ≤ 281474976710656) :
    Calls Tryd.prog 20 #[.pointer (some ⟨q, 0, none⟩), .string (bs nm), .slice A n C] w fun r w' => r = .returned (.int .i64 ((appendA D.ab nm l).2 : Nat)) ∧ To base q b D.fs (appendA D.ab nm l).1 w w' := by
  by_cases hE : barE D [nm] ≠ 0 ∨ getN D.fs nm = none
  · have HR : appendA D.ab nm l = (D.ab, findE D nm) := by unfold appendA; exact (found_no hE _ _).1
    rw [HR]
    exact (append_err w base q b D h nm hl hE A n C).mono (fun r w' hr => ⟨hr.1, To.of_below h hr.2⟩)
  · have h1 : barE D [nm] = 0 := by apply Decidable.byContradiction; intro h2; exact hE (.inl h2)
    cases hN : getN D.fs nm with
    | none => exact absurd (.inr hN) hE
    | some f =>
      have HR0 : appendA D.ab nm l = if D.room - (usedN D.fs : Nat) < (n : Int) then (D.ab, 54) else ((stepA D.ab).put (insA ⟨f.name, f.l ++ l, f.s⟩ D.ab.fs), stepE D) := by
        unfold appendA; rw [found_ok hN h1]
        show (if D.room - (usedA (D.fs.map Fi.ab) : Nat) < (l.length : Int) then _ else _) = _
        rw [used_ab, hln]
        rfl
      by_cases hfull : D.room - (usedN D.fs : Nat) < (n : Int)
      · rw [HR0, if_pos hfull]
        exact (append_full w base q b D h ho nm hl h1 f hN A n C hn hfull).mono (fun r w' hr => ⟨hr.1, To.of_below h hr.2⟩)
      · rw [HR0, if_neg hfull]
        refine (append_ok w base q b D h ho nm hl h1 f hN A n C l hln hB hnc hA (by omega)).mono (fun r w' hr => ?_)
        obtain ⟨e, v, hd, hc⟩ := hr
        refine ⟨e, To.lay hd (by rw [show (apD D f v l).fs = insN ⟨f.name, v, f.l ++ l, f.s⟩ D.fs from stepD_fs _]; exact hc) ?_⟩
        rw [← step_ab]
        show stepA (Ak.mk _ _ _ _ _ ((insN _ D.fs).map Fi.ab)) = _
        rw [ins_ab]
        unfold stepA
        show (if D.fuse = 1 then _ else _) = Ak.put (if D.fuse = 1 then _ else _) _
        split <;> rfl
set_option maxRecDepth 100000 in
set_option maxHeartbeats 2000000 in
theorem create_bar (w : World) (base q b : Nat) (D : Dk) (h : DkAt w base q b D) (ho : DkOk D) (nm : List UInt8) (hl : nm.length ≤ 281474976710656) (hE : barE D [nm] ≠ 0) : Calls Tryd.prog 18 #[.pointer (some ⟨q, 0, none⟩), .string (bs nm)] w fun r w' => r = .returned (.int .i64 (barE D [nm] : Nat)) ∧ Below w.heap.size w w' := by
  obtain ⟨E, hEE⟩ : ∃ E, barE D [nm] = E := ⟨_, rfl⟩
  have HB : Hid (barE D [nm] = E) := hEE
  rw [hEE] at hE ⊢
  have hq : ((E : Int) != 0) = true := by simp; exact hE
  have HD : Hid (DkAt w base q b D) := h
  clear hE hEE h ho
  go_enter Tryd.func18, Tryd.ntmps18
  go_wp2_with (first
    | (go_at_call 37; refine (barred_one _ base q b D HD.out nm w.heap.size rfl hl).mono ?_; rw [HB.out]; rintro _ x1 ⟨rfl, rfl⟩)
    | go_in)
  go_ret
  exact ⟨rfl, (Below.refl _ _).alloc (Nat.le_refl _) _⟩
set_option maxRecDepth 100000 in
set_option maxHeartbeats 2000000 in
theorem create_there (w : World) (base q b : Nat) (D : Dk) (h : DkAt w base q b D) (ho : DkOk D) (nm : List UInt8) (hl : nm.length ≤ 281474976710656) (hE : barE D [nm] = 0) (f : Fi) (hN : getN D.fs nm = some f) : Calls Tryd.prog 18 #[.pointer (some ⟨q, 0, none⟩), .string (bs nm)] w fun r w' => r = .returned (.int .i64 52) ∧ Below w.heap.size w w' := by
  have hb0 : Below w.heap.size w (w.alloc (.cells #[.string (bs nm)] 9)) := (Below.refl _ _).alloc (Nat.le_refl _) _
  have hd1 := h.keep hb0
  have hb2 : Below w.heap.size w ((w.alloc (.cells #[.string (bs nm)] 9)).alloc (.cells #[.slice none 0 0, .int .i64 0] 60)) := hb0.alloc hb0.size _
  have HD2 : Hid (DkAt ((w.alloc (.cells #[.string (bs nm)] 9)).alloc (.cells #[.slice none 0 0, .int .i64 0] 60)) base q b D) := h.keep hb2
  have HB2 : Hid (Below w.heap.size w ((w.alloc (.cells #[.string (bs nm)] 9)).alloc (.cells #[.slice none 0 0, .int .i64 0] 60))) := hb2
  have hn2 := FiAt.new (w.alloc (.cells #[.string (bs nm)] 9)) (.slice none 0 0) 0
  rw [World.size_alloc] at hn2
  have HN2 : Hid (FiAt ((w.alloc (.cells #[.string (bs nm)] 9)).alloc (.cells #[.slice none 0 0, .int .i64 0] 60)) (w.heap.size + 1) (.slice none 0 0) 0) := hn2
  have HD : Hid (DkAt w base q b D) := h
  have HL : Hid (q < w.heap.size ∧ b < w.heap.size) := h.lt
  have c1 := hd1.cells.2.1
  obtain ⟨M, hm, hr⟩ := hd1.map
  have hlk := lookS hm hr hl
  rw [hN] at hlk
  simp only [Option.isSome_some] at hlk
  have hone : f.v.oneCell' = true := by obtain ⟨_, _, _, _, _, _, _, h1⟩ := (h.dat f (getN_mem hN).1).bytes; exact h1
  obtain ⟨V, hV⟩ : ∃ V, f.v = V := ⟨_, rfl⟩
  obtain ⟨S, hS⟩ : ∃ S : Int, (f.s : Int) = S := ⟨_, rfl⟩
  have HVS : Hid (FiV f = fiV V S) := by show _ = _; rw [← hV, ← hS]
  rw [HVS.out] at hlk
  rw [hV] at hone
  have HONE : Hid (V.oneCell' = true) := hone
  clear hone hV hS
  have HB : Hid (barE D [nm] = 0) := hE
  have HF : Hid (0 ≤ D.fuse ∧ D.fuse ≤ 9223372036854775807) := ho.fuse
  obtain ⟨n, hn⟩ : ∃ n, D.fs.length = n := ⟨_, rfl⟩
  have HN : Hid (D.fs.length = n) := hn
  have T1 : Hid True := trivial
  clear hE hN h ho hb0 hd1 hb2 hn2 hm hr hn
  go_enter Tryd.func18, Tryd.ntmps18
  go_wp2_with (first
    | (go_at_call 37; refine (barred_one _ base q b D HD.out nm w.heap.size rfl hl).mono ?_; rw [HB.out]; rintro _ x1 ⟨rfl, rfl⟩)
    | (at_lookup; refine wpList_lookS rfl _ _ rfl rfl rfl hlk ?_)
    | ((with_reducible refine guard_store 60 ?_); clear T1; refine wpList_store_fi rfl _ _ rfl rfl HN2.out HONE.out rfl rfl (v2 := V) (s2 := S) ?_; intro x3 hf ho hh hs; have hb3 : Below w.heap.size w x3 := ho _ _ HB2.out (Nat.le_succ _); have hd3 := HD.out.keep hb3; have HD3 : Hid (DkAt x3 base q b D) := hd3; have HC3 : Hid (Chg q b D.fs D.fs w x3) := Chg.of_below hb3; have HB3 : Hid (Below w.heap.size w x3) := hb3; have c13 := hd3.cells.2.1; have hlen : ∀ ty, (Builtin.len_ #[46] ty #[.map (some b)]).run Tryd.prog x3 = .ok (.int .i64 (n : Nat)) x3 := (fun ty => by rw [← HN.out]; exact len_mapS hd3 ty); clear hf ho hh hs hb3 hd3)
    | go_in)
  go_ret
  exact ⟨rfl, HB3.out⟩
set_option maxRecDepth 100000 in
set_option maxHeartbeats 2000000 in
theorem create_many (w : World) (base q b : Nat) (D : Dk) (h : DkAt w base q b D) (ho : DkOk D) (nm : List UInt8) (hl : nm.length ≤ 281474976710656) (hE : barE D [nm] = 0) (hN : getN D.fs nm = none) (hfew : ¬ D.fs.length < 700) : Calls Tryd.prog 18 #[.pointer (some ⟨q, 0, none⟩), .string (bs nm)] w fun r w' => r = .returned (.int .i64 53) ∧ Below w.heap.size w w' := by
  have hb0 : Below w.heap.size w (w.alloc (.cells #[.string (bs nm)] 9)) := (Below.refl _ _).alloc (Nat.le_refl _) _
  have hd1 := h.keep hb0
  have hb2 : Below w.heap.size w ((w.alloc (.cells #[.string (bs nm)] 9)).alloc (.cells #[.slice none 0 0, .int .i64 0] 60)) := hb0.alloc hb0.size _
  have HD2 : Hid (DkAt ((w.alloc (.cells #[.string (bs nm)] 9)).alloc (.cells #[.slice none 0 0, .int .i64 0] 60)) base q b D) := h.keep hb2
  have HB2 : Hid (Below w.heap.size w ((w.alloc (.cells #[.string (bs nm)] 9)).alloc (.cells #[.slice none 0 0, .int .i64 0] 60))) := hb2
  have hn2 := FiAt.new (w.alloc (.cells #[.string (bs nm)] 9)) (.slice none 0 0) 0
  rw [World.size_alloc] at hn2
  have HN2 : Hid (FiAt ((w.alloc (.cells #[.string (bs nm)] 9)).alloc (.cells #[.slice none 0 0, .int .i64 0] 60)) (w.heap.size + 1) (.slice none 0 0) 0) := hn2
  have HD : Hid (DkAt w base q b D) := h
  have HL : Hid (q < w.heap.size ∧ b < w.heap.size) := h.lt
  have c1 := hd1.cells.2.1
  obtain ⟨M, hm, hr⟩ := hd1.map
  have hlk := lookS hm hr hl
  rw [hN] at hlk
  simp only [Option.isSome_none] at hlk
  have HB : Hid (barE D [nm] = 0) := hE
  have HF : Hid (0 ≤ D.fuse ∧ D.fuse ≤ 9223372036854775807) := ho.fuse
  obtain ⟨n, hn⟩ : ∃ n, D.fs.length = n := ⟨_, rfl⟩
  have hnI : ¬ (n : Int) < 700 := by omega
  have hnN : ¬ n < 700 := by omega
  have hnK : (700 : Int) ≤ (n : Int) := by omega
  have HN : Hid (D.fs.length = n) := hn
  have T1 : Hid True := trivial
  clear hE hN hfew h ho hb0 hd1 hb2 hn2 hm hr hn
  go_enter Tryd.func18, Tryd.ntmps18
  go_wp2_with (first
    | (go_at_call 37; refine (barred_one _ base q b D HD.out nm w.heap.size rfl hl).mono ?_; rw [HB.out]; rintro _ x1 ⟨rfl, rfl⟩)
    | (at_lookup; refine wpList_lookS rfl _ _ rfl rfl rfl hlk ?_)
    | ((with_reducible refine guard_store 60 ?_); clear T1; refine wpList_store_fi rfl _ _ rfl rfl HN2.out rfl rfl rfl (v2 := .slice none 0 0) (s2 := 0) ?_; intro x3 hf ho hh hs; have hb3 : Below w.heap.size w x3 := ho _ _ HB2.out (Nat.le_succ _); have hd3 := HD.out.keep hb3; have HD3 : Hid (DkAt x3 base q b D) := hd3; have HC3 : Hid (Chg q b D.fs D.fs w x3) := Chg.of_below hb3; have HB3 : Hid (Below w.heap.size w x3) := hb3; have c13 := hd3.cells.2.1; have hlen : ∀ ty, (Builtin.len_ #[46] ty #[.map (some b)]).run Tryd.prog x3 = .ok (.int .i64 (n : Nat)) x3 := (fun ty => by rw [← HN.out]; exact len_mapS hd3 ty); clear hf ho hh hs hb3 hd3)
    | go_in)
  go_ret
  exact ⟨rfl, HB3.out⟩
set_option maxRecDepth 100000 in
set_option maxHeartbeats 2000000 in
theorem create_fail (w : World) (base q b : Nat) (D : Dk) (h : DkAt w base q b D) (ho : DkOk D) (nm : List UInt8) (hl : nm.length ≤ 281474976710656) (hE : barE D [nm] = 0) (hN : getN D.fs nm = none) (hfew : D.fs.length < 700) (hS : D.fuse = 1) : Calls Tryd.prog 18 #[.pointer (some ⟨q, 0, none⟩), .string (bs nm)] w fun r w' => r = .returned (.int .i64 3) ∧ To base q b D.fs (stepA D.ab) w w' := by
  have hb0 : Below w.heap.size w (w.alloc (.cells #[.string (bs nm)] 9)) := (Below.refl _ _).alloc (Nat.le_refl _) _
  have hd1 := h.keep hb0
  have hb2 : Below w.heap.size w ((w.alloc (.cells #[.string (bs nm)] 9)).alloc (.cells #[.slice none 0 0, .int .i64 0] 60)) := hb0.alloc hb0.size _
  have HD2 : Hid (DkAt ((w.alloc (.cells #[.string (bs nm)] 9)).alloc (.cells #[.slice none 0 0, .int .i64 0] 60)) base q b D) := h.keep hb2
  have HB2 : Hid (Below w.heap.size w ((w.alloc (.cells #[.string (bs nm)] 9)).alloc (.cells #[.slice none 0 0, .int .i64 0] 60))) := hb2
  have hn2 := FiAt.new (w.alloc (.cells #[.string (bs nm)] 9)) (.slice none 0 0) 0
  rw [World.size_alloc] at hn2
  have HN2 : Hid (FiAt ((w.alloc (.cells #[.string (bs nm)] 9)).alloc (.cells #[.slice none 0 0, .int .i64 0] 60)) (w.heap.size + 1) (.slice none 0 0) 0) := hn2
  have HD : Hid (DkAt w base q b D) := h
  have HL : Hid (q < w.heap.size ∧ b < w.heap.size) := h.lt
  have c1 := hd1.cells.2.1
  obtain ⟨M, hm, hr⟩ := hd1.map
  have hlk := lookS hm hr hl
  rw [hN] at hlk
  simp only [Option.isSome_none] at hlk
  have HB : Hid (barE D [nm] = 0) := hE
  have HF : Hid (0 ≤ D.fuse ∧ D.fuse ≤ 9223372036854775807) := ho.fuse
  obtain ⟨n, hn⟩ : ∃ n, D.fs.length = n := ⟨_, rfl⟩
  have hnI : (n : Int) < 700 := by omega
  have hnN : n < 700 := by omega
  have HN : Hid (D.fs.length = n) := hn
  have HSE : Hid (stepE D = 3) := if_pos hS
  have T1 : Hid True := trivial
  clear hE hN hfew hS h ho hb0 hd1 hb2 hn2 hm hr hn
  go_enter Tryd.func18, Tryd.ntmps18
  go_wp2_with (first
    | (go_at_call 37; refine (barred_one _ base q b D HD.out nm w.heap.size rfl hl).mono ?_; rw [HB.out]; rintro _ x1 ⟨rfl, rfl⟩)
    | (at_lookup; refine wpList_lookS rfl _ _ rfl rfl rfl hlk ?_)
    | ((with_reducible refine guard_store 60 ?_); clear T1; refine wpList_store_fi rfl _ _ rfl rfl HN2.out rfl rfl rfl (v2 := .slice none 0 0) (s2 := 0) ?_; intro x3 hf ho hh hs; have hb3 : Below w.heap.size w x3 := ho _ _ HB2.out (Nat.le_succ _); have hd3 := HD.out.keep hb3; have HD3 : Hid (DkAt x3 base q b D) := hd3; have HC3 : Hid (Chg q b D.fs D.fs w x3) := Chg.of_below hb3; have c13 := hd3.cells.2.1; have hlen : ∀ ty, (Builtin.len_ #[46] ty #[.map (some b)]).run Tryd.prog x3 = .ok (.int .i64 (n : Nat)) x3 := (fun ty => by rw [← HN.out]; exact len_mapS hd3 ty); clear hf ho hh hs hb3 hd3)
    | (go_at_call 38; refine (step_any _ base q b D HD3.out HF.out.1 HF.out.2).mono ?_; rw [HSE.out]; rintro _ x4 ⟨rfl, hd4, ho4⟩; have HD4 : Hid (DkAt x4 base q b (stepD D)) := hd4; have HC4 : Hid (Chg q b D.fs D.fs w x4) := HC3.out.on ho4; clear hd4 ho4)
    | go_in)
  go_ret
  exact ⟨rfl, To.lay HD4.out (by rw [stepD_fs]; exact HC4.out) (step_ab D).symm⟩
theorem create_any (w : World) (base q b : Nat) (D : Dk) (h : DkAt w base q b D) (ho : DkOk D) (nm : List UInt8) (hl : nm.length ≤ 281474976710656) : Calls Tryd.prog 18 #[.pointer (some ⟨q, 0, none⟩), .string (bs nm)] w fun r w' => r = .returned (.int .i64 ((createA D.ab nm).2 : Nat)) ∧ To base q b D.fs (createA D.ab nm).1 w w' := by
  have e1 : barA D.ab [nm] = barE D [nm] := rfl
  have e2 : (getA D.ab.fs nm).isSome = (getN D.fs nm).isSome := by show (getA (D.fs.map Fi.ab) nm).isSome = _; rw [get_ab, Option.isSome_map]
  have e3 : D.ab.fs.length = D.fs.length := List.length_map _
  unfold createA
  rw [e1, e2, e3]
  by_cases hE : barE D [nm] = 0
  · rw [if_neg (by omega)]
    cases hN : getN D.fs nm with
    | some f =>
      rw [if_pos (show (some f).isSome = true from rfl)]
      exact (create_there w base q b D h ho nm hl hE f hN).mono (fun r w' hr => ⟨hr.1, To.of_below h hr.2⟩)
    | none =>
      rw [if_neg (by simp)]
      by_cases hf : D.fs.length < 700
      · rw [if_neg (by omega)]
        by_cases hS : D.fuse = 1
        · rw [if_pos (show D.ab.fuse = 1 from hS)]
          exact create_fail w base q b D h ho nm hl hE hN hf hS
        · rw [if_neg (show ¬ D.ab.fuse = 1 from hS)]
          refine (create_ok w base q b D h ho nm hl hE hN hf (if_neg hS)).mono (fun r w' hr => ⟨hr.1, To.lay hr.2.1 ?_ (put_ab D _)⟩)
          show Chg q b D.fs (insN _ (stepD D).fs) w w'
          rw [stepD_fs]
          exact hr.2.2
      · rw [if_pos (by omega)]
        exact (create_many w base q b D h ho nm hl hE hN hf).mono (fun r w' hr => ⟨hr.1, To.of_below h hr.2⟩)
  · rw [if_pos hE]
    exact (create_bar w base q b D h ho nm hl hE).mono (fun r w' hr => ⟨hr.1, To.of_below h hr.2⟩)
end Go.Proofs.YtnfkdgjgglnniaaDoor
