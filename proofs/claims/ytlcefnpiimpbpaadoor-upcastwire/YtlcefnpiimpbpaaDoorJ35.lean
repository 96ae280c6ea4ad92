/- Own texts, joined: Sd3. -/
import Derived.Test.YtlcefnpiimpbpaaDoorJ16
import Derived.Test.YtlcefnpiimpbpaaDoorJ32
namespace Go.Proofs.YtlcefnpiimpbpaaDoor
open Go.ChangeShapes Go.WideShapes Go.ChangeAt Go.RowKit
set_option linter.unusedVariables false
def wputs (S : List Fld × Int × Nat) (Fs : List Fld) : List Fld × Int × Nat := Fs.foldl wp1 S
/-- the ten fields of an event -/
abbrev tenF (k o i u p c t : Nat) (who : List Nat) (s : Nat) (note : List Nat) : List Fld := [⟨1, false, k, []⟩, ⟨2, false, o, []⟩, ⟨3, false, i, []⟩, ⟨4, false, u, []⟩, ⟨5, false, p, []⟩, ⟨6, false, c, []⟩, ⟨7, false, t, []⟩, ⟨8, true, 0, who⟩, ⟨9, false, s, []⟩, ⟨10, true, 0, note⟩]
theorem m_putq1 (w : World) : (method 243 87 (.agg #[.int .i64 0, .int .i64 0, .int .i64 0, .int .i64 0, .int .i64 0]) "daybook/schema.putQty").run Tryd.prog w = .ok (83, .agg #[.int .i64 0, .int .i64 0, .int .i64 0, .int .i64 0, .int .i64 0]) w := by kernel_rfl
theorem m_putq2 (w : World) : (method 243 89 (.agg #[.int .i64 0, .int .i64 0, .int .i64 0, .int .i64 0, .int .i64 0, .int .i64 0]) "daybook/schema.putQty").run Tryd.prog w = .ok (83, .agg #[.int .i64 0, .int .i64 0, .int .i64 0, .int .i64 0, .int .i64 0]) w := by kernel_rfl
theorem m_putq3 (w : World) : (method 243 91 (.agg #[.int .i64 0, .int .i64 0, .int .i64 0, .int .i64 0, .int .i64 0, .int .i64 0, .int .i64 0]) "daybook/schema.putQty").run Tryd.prog w = .ok (95, .agg #[.int .i64 0, .int .i64 0, .int .i64 0, .int .i64 0, .int .i64 0, .int .i64 0, .int .i64 0]) w := by kernel_rfl
theorem m_putq4 (w : World) : (method 243 93 (.agg #[.int .i64 0, .int .i64 0, .int .i64 0, .int .i64 0, .int .i64 0, .int .i64 0, .int .i64 0, .string ⟨#[]⟩]) "daybook/schema.putQty").run Tryd.prog w = .ok (95, .agg #[.int .i64 0, .int .i64 0, .int .i64 0, .int .i64 0, .int .i64 0, .int .i64 0, .int .i64 0]) w := by kernel_rfl
theorem m_putq5 (w : World) : (method 243 95 (.agg #[.int .i64 0, .int .i64 0, .int .i64 0, .int .i64 0, .int .i64 0, .int .i64 0, .int .i64 0, .string ⟨#[]⟩, .int .i64 0, .string ⟨#[]⟩]) "daybook/schema.putQty").run Tryd.prog w = .ok (95, .agg #[.int .i64 0, .int .i64 0, .int .i64 0, .int .i64 0, .int .i64 0, .int .i64 0, .int .i64 0]) w := by kernel_rfl
theorem cf_putq1 (a : Array Value) (w : World) : (callFunc 83 a).run Tryd.prog w = .ok (.enter 83 a) w := by kernel_rfl
theorem cf_putq3 (a : Array Value) (w : World) : (callFunc 95 a).run Tryd.prog w = .ok (.enter 95 a) w := by kernel_rfl
theorem wrapN {k : Nat} (h : k ≤ 18446744073709551615) : IntKind.u64.wrap (k : Int) = (k : Int) := by rw [IntKind.wrap_u64]; omega
/-- what schema.Encode answers of a right event -/
def EncPost (w : World) (fs : List Fld) (r : Ending) (w' : World) : Prop := ∃ v', r = .returned (.tuple #[v', .int .i64 ((encs fs 0 []).2 : Int)]) ∧ Own w' w.heap.size v' (encs fs 0 []).1 ∧ Below w.heap.size w w'
theorem Wst.new {w w3 : World} {E : Ev} {q : Nat} (h : WrAt w3 (q + 1) q (.slice none 0 0) [] 0 0) (he : EvAt w3 w.heap.size E) (hb : Below w.heap.size w w3) (hq : w.heap.size < q) : Wst w w3 q w.heap.size E ([], 0, 0) 0 [] :=
  ⟨⟨_, _, h, rfl, by simp, by simp⟩, by simp, he, hq, by simp, hb, Nat.le_refl _⟩
theorem evc {w : World} {b : Nat} {E : Ev} {k o i p c t s : Nat} {qty : Int} {who note : ByteArray} (h : EvAt w b E) (hE : E = ⟨k, o, i, qty, p, c, t, who, s, note⟩) : w.cell? ⟨b, 0, none⟩ = some (.int .i64 (k : Int)) ∧ w.cell? ⟨b, 1, none⟩ = some (.int .i64 (o : Int)) ∧ w.cell? ⟨b, 2, none⟩ = some (.int .i64 (i : Int)) ∧ w.cell? ⟨b, 3, none⟩ = some (.int .i64 qty) ∧ w.cell? ⟨b, 4, none⟩ = some (.int .i64 (p : Int)) ∧ w.cell? ⟨b, 5, none⟩ = some (.int .i64 (c : Int)) ∧ w.cell? ⟨b, 6, none⟩ = some (.int .i64 (t : Int)) ∧ w.cell? ⟨b, 7, none⟩ = some (.string who) ∧ w.cell? ⟨b, 8, none⟩ = some (.int .i64 (s : Int)) ∧ w.cell? ⟨b, 9, none⟩ = some (.string note) := by
  subst hE; exact h.cells
set_option maxRecDepth 20000 in
set_option maxHeartbeats 4000000 in
theorem sencode_g (v : Int) (T f : Nat) (V V' : Value) (k o i p c t s u : Nat) (qty : Int) (who note : ByteArray) (w : World) (hv1 : 1 ≤ v) (hv5 : v ≤ 5) (hver : verV v = .iface T V) (hmq : ∀ w, (method 243 T V "daybook/schema.putQty").run Tryd.prog w = .ok (f, V') w) (hcf : ∀ (a : Array Value) (w : World), (callFunc f a).run Tryd.prog w = .ok (.enter f a) w)
    (hput : ∀ (w0 w1 : World) (q eb : Nat) (E : Ev) (S : List Fld × Int × Nat) (n : Nat) (G : List (Nat × List Nat)), Wst w0 w1 q eb E S n G → n ≤ 900 → Calls Tryd.prog f #[V', .pointer (some ⟨q, 0, none⟩), .int .i64 qty] w1 fun r w2 => r = .returned (.tuple #[]) ∧ Wst w0 w2 q eb E (wp1 S ⟨4, false, u, []⟩) (n + 1) G)
    (hc : chk v ⟨k, o, i, qty, p, c, t, who, s, note⟩ = 0) (hk : k ≤ 18446744073709551615 ∧ o ≤ 18446744073709551615 ∧ i ≤ 18446744073709551615 ∧ p ≤ 18446744073709551615 ∧ c ≤ 18446744073709551615 ∧ t ≤ 18446744073709551615 ∧ s ≤ 18446744073709551615) (hw : who.size ≤ 16) (hn : note.size ≤ 120)
    (h0 : (wputs ([], 0, 0) (tenF k o i u p c t (nums8 who) s (nums8 note))).2.2 = 0) :
    Calls Tryd.prog 15 #[.int .i64 v, .agg (evA ⟨k, o, i, qty, p, c, t, who, s, note⟩)] w fun r w' => EncPost w (wputs ([], 0, 0) (tenF k o i u p c t (nums8 who) s (nums8 note))).1 r w' := by
  simp only [wputs, List.foldl_cons, List.foldl_nil] at h0 ⊢
  have HC : Hid (_) := hc
  have HK : Hid (_) := hk
  have H0 : Hid (_) := h0
  have HV : Hid (1 ≤ v ∧ v ≤ 5) := ⟨hv1, hv5⟩
  have HVR : Hid (_) := hver
  have HPUT : Hid (_) := hput
  have HWN : Hid ((nums8 who).length = who.size ∧ who.size ≤ 1000 ∧ (nums8 note).length = note.size ∧ note.size ≤ 1000) := ⟨nums8_len _, by omega, nums8_len _, by omega⟩
  have e1 := wrapN hk.1
  have e2 := wrapN hk.2.1
  have e3 := wrapN hk.2.2.1
  have e4 := wrapN hk.2.2.2.1
  have e5 := wrapN hk.2.2.2.2.1
  have e6 := wrapN hk.2.2.2.2.2.1
  have e7 := wrapN hk.2.2.2.2.2.2
  have hcv := cv_run
  clear hc hk hw hn h0 hv1 hv5 hver hput
  obtain ⟨E, hE⟩ : ∃ E : Ev, E = ⟨k, o, i, qty, p, c, t, who, s, note⟩ := ⟨_, rfl⟩
  rw [← hE] at HC ⊢
  have HE : Hid (_) := hE
  clear hE
  have HA : Hid (EvAt (w.alloc (.cells (evA E) 25)) w.heap.size E) := evAt_new w E
  have HAB : Hid (Below w.heap.size w (w.alloc (.cells (evA E) 25))) := (Below.refl _ _).alloc (Nat.le_refl _) _
  go_enter Tryd.func15, Tryd.ntmps15
  go_wp2_with (first
    | ((with_reducible refine guard_load 25 ?_); refine wpList_load_ev rfl _ rfl HA.out rfl ?_)
    | (go_at_call 17; refine (check_ev v E _).mono ?_; rw [HC.out]; rintro _ w1 ⟨rfl, hb1⟩; have HA1 : Hid (EvAt w1 w.heap.size E) := HA.out.after hb1; have HB1 : Hid (Below w.heap.size w w1) := below_next HAB.out hb1; clear hb1)
    | (go_at_call 30; refine (find_yes v _ HV.out.1 HV.out.2).mono ?_; rw [HVR.out]; rintro _ w2 ⟨rfl, rfl⟩)
    | (go_at_call 31; refine (neww_any _).mono ?_; rintro _ w3 ⟨rfl, hw3, hb3⟩; have hs3 : Wst w w3 w1.heap.size w.heap.size E ([], 0, 0) 0 [] := Wst.new hw3 (HA1.out.after hb3) (below_next HB1.out hb3) HA1.out.lt; obtain ⟨q, hqe⟩ : ∃ q, w1.heap.size = q := ⟨_, rfl⟩; rw [hqe] at hs3 ⊢; have HS : Hid (Wst w w3 q w.heap.size E ([], 0, 0) 0 []) := hs3; clear hw3 hb3 hs3 hqe))
  obtain ⟨a0, a1, a2, _, _, _, _, _, _, _⟩ := evc HS.out.ev HE.out
  go_region_held3 (fun w' => w'.cell? ⟨w.heap.size, 0, none⟩ = some (.int .i64 (k : Int)) ∧ w'.cell? ⟨w.heap.size, 1, none⟩ = some (.int .i64 (o : Int)) ∧ w'.cell? ⟨w.heap.size, 2, none⟩ = some (.int .i64 (i : Int))) (go_keep) (first
    | (go_at_call_of 32 (Value.int IntKind.i64 1); refine (num_st 1 k w _ q w.heap.size E _ _ _ (by with_reducible first | exact HS.out | exact HS.out.drew) HK.out.1 (by decide)).mono ?_; rintro r x1 ⟨rfl, hs1⟩; clear HS; have HS : Hid (_) := hs1; obtain ⟨b0, b1, b2, _, _, _, _, _, _, _⟩ := evc hs1.ev HE.out; clear hs1)
    | (go_at_call_of 32 (Value.int IntKind.i64 2); refine (num_st 2 o w _ q w.heap.size E _ _ _ (by with_reducible first | exact HS.out | exact HS.out.drew) HK.out.2.1 (by decide)).mono ?_; rintro r x2 ⟨rfl, hs2⟩; clear HS; have HS : Hid (_) := hs2; obtain ⟨c0, c1, c2, _, _, _, _, _, _, _⟩ := evc hs2.ev HE.out; clear hs2)
    | (go_at_call_of 32 (Value.int IntKind.i64 3); refine (num_st 3 i w _ q w.heap.size E _ _ _ (by with_reducible first | exact HS.out | exact HS.out.drew) HK.out.2.2.1 (by decide)).mono ?_; rintro r x3 ⟨rfl, hs3⟩; clear HS; have HS : Hid (_) := hs3; obtain ⟨d0, d1, d2, d3, _, _, _, _, _, _⟩ := evc hs3.ev HE.out; clear hs3))
  clear a0 a1 a2 b0 b1 b2 c0 c1 c2
  go_wp2_with ((with_reducible refine (HPUT.out w _ q w.heap.size E _ _ _ HS.out (by decide)).mono ?_); rintro r x4 ⟨rfl, hs4⟩; clear HS; have HS : Hid (_) := hs4; obtain ⟨_, _, _, _, f4, f5, f6, _, _, _⟩ := evc hs4.ev HE.out; clear hs4)
  clear d0 d1 d2 d3
  go_region_held3 (fun w' => w'.cell? ⟨w.heap.size, 4, none⟩ = some (.int .i64 (p : Int)) ∧ w'.cell? ⟨w.heap.size, 5, none⟩ = some (.int .i64 (c : Int)) ∧ w'.cell? ⟨w.heap.size, 6, none⟩ = some (.int .i64 (t : Int))) (go_keep) (first
    | (go_at_call_of 32 (Value.int IntKind.i64 5); refine (num_st 5 p w _ q w.heap.size E _ _ _ (by with_reducible first | exact HS.out | exact HS.out.drew) HK.out.2.2.2.1 (by decide)).mono ?_; rintro r x5 ⟨rfl, hs5⟩; clear HS; have HS : Hid (_) := hs5; obtain ⟨_, _, _, _, g4, g5, g6, _, _, _⟩ := evc hs5.ev HE.out; clear hs5)
    | (go_at_call_of 32 (Value.int IntKind.i64 6); refine (num_st 6 c w _ q w.heap.size E _ _ _ (by with_reducible first | exact HS.out | exact HS.out.drew) HK.out.2.2.2.2.1 (by decide)).mono ?_; rintro r x6 ⟨rfl, hs6⟩; clear HS; have HS : Hid (_) := hs6; obtain ⟨_, _, _, _, h4, h5, h6, _, _, _⟩ := evc hs6.ev HE.out; clear hs6)
    | (go_at_call_of 32 (Value.int IntKind.i64 7); refine (num_st 7 t w _ q w.heap.size E _ _ _ (by with_reducible first | exact HS.out | exact HS.out.drew) HK.out.2.2.2.2.2.1 (by decide)).mono ?_; rintro r x7 ⟨rfl, hs7⟩; clear HS; have HS : Hid (_) := hs7; obtain ⟨_, _, _, _, i4, i5, i6, i7, i8, i9⟩ := evc hs7.ev HE.out; clear hs7))
  clear f4 f5 f6 g4 g5 g6 h4 h5 h6
  clear e1 e2 e3 e4 e5 e6 hmq hcf i4 i5 i6
  go_wp2_with fail
  go_region_held (fun w' => w'.cell? ⟨w.heap.size, 7, none⟩ = some (.string who) ∧ w'.cell? ⟨w.heap.size, 8, none⟩ = some (.int .i64 (s : Int)) ∧ w'.cell? ⟨w.heap.size, 9, none⟩ = some (.string note)) (simp [*, cv_cell]) (first
    | (go_at_call_of 33 (Value.int IntKind.i64 8); refine (text_st 8 (nums8 who) _ _ _ w _ q w.heap.size E _ _ _ (by with_reducible first | exact HS.out | exact HS.out.drew | exact Wst.cv HS.out _ | exact Wst.cv (Wst.drew HS.out) _ | exact Wst.cv (Wst.cv HS.out _) _ | exact Wst.cv (Wst.cv (Wst.drew HS.out) _) _) (by first | exact List.mem_cons_self .. | exact List.mem_cons_of_mem _ (List.mem_cons_self ..)) HWN.out.1 HWN.out.2.1 (by decide)).mono ?_; rintro r x8 ⟨rfl, hs8⟩; clear HS; have HS : Hid (_) := hs8; obtain ⟨_, _, _, _, _, _, _, j7, j8, j9⟩ := evc hs8.ev HE.out; clear hs8)
    | (go_at_call_of 32 (Value.int IntKind.i64 9); refine (num_st 9 s w _ q w.heap.size E _ _ _ (by with_reducible first | exact HS.out | exact HS.out.drew | exact Wst.cv HS.out _ | exact Wst.cv (Wst.drew HS.out) _ | exact Wst.cv (Wst.cv HS.out _) _ | exact Wst.cv (Wst.cv (Wst.drew HS.out) _) _) HK.out.2.2.2.2.2.2 (by decide)).mono ?_; rintro r x9 ⟨rfl, hs9⟩; clear HS; have HS : Hid (_) := hs9; obtain ⟨_, _, _, _, _, _, _, l7, l8, l9⟩ := evc hs9.ev HE.out; clear hs9)
    | (go_at_call_of 33 (Value.int IntKind.i64 10); refine (text_st 10 (nums8 note) _ _ _ w _ q w.heap.size E _ _ _ (by with_reducible first | exact HS.out | exact HS.out.drew | exact Wst.cv HS.out _ | exact Wst.cv (Wst.drew HS.out) _ | exact Wst.cv (Wst.cv HS.out _) _ | exact Wst.cv (Wst.cv (Wst.drew HS.out) _) _) (by first | exact List.mem_cons_self .. | exact List.mem_cons_of_mem _ (List.mem_cons_self ..)) HWN.out.2.2.1 HWN.out.2.2.2 (by decide)).mono ?_; rintro r x10 ⟨rfl, hs10⟩; clear HS; have HS : Hid (_) := hs10; obtain ⟨_, _, _, _, _, _, _, m7, m8, m9⟩ := evc hs10.ev HE.out; clear hs10))
  all_goals go_wp2_with (go_at_call 34; refine (done_st w _ q w.heap.size E _ _ _ HS.out H0.out (by decide)).mono ?_; rintro r x11 ⟨vv, rfl, ho, hb⟩; have HO : Hid (_) := ho; have HB : Hid (_) := hb; clear ho hb)
  all_goals go_ret2
  all_goals exact ⟨_, rfl, HO.out, HB.out⟩
end Go.Proofs.YtlcefnpiimpbpaaDoor
