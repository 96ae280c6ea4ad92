/- Own texts, joined: Sd3, Tle, Sd4, Slc. -/
import Derived.Test.YtfhcbdmmckjmaaaJ14
import Derived.Test.YtfhcbdmmckjmaaaJ12
import Derived.Test.YtfhcbdmmckjmaaaJ06
import Derived.Test.YtfhcbdmmckjmaaaJ00
import Derived.Test.YtfhcbdmmckjmaaaRows
namespace Go.Proofs.Ytfhcbdmmckjmaaa
open Go.ChangeShapes Go.WideShapes Go.ChangeAt Go.RowKit
set_option linter.unusedVariables false
def wputs (S : List Fld × Int × Nat) (Fs : List Fld) : List Fld × Int × Nat := Fs.foldl wp1 S
/-- the ten fields of an event -/
abbrev tenF (k o i u p c t : Nat) (who : List Nat) (s : Nat) (note : List Nat) : List Fld := [⟨1, false, k, []⟩, ⟨2, false, o, []⟩, ⟨3, false, i, []⟩, ⟨4, false, u, []⟩, ⟨5, false, p, []⟩, ⟨6, false, c, []⟩, ⟨7, false, t, []⟩, ⟨8, true, 0, who⟩, ⟨9, false, s, []⟩, ⟨10, true, 0, note⟩]
theorem m_putq1 (w : World) : (method 244 85 (.agg #[.int .i64 0, .int .i64 0, .int .i64 0, .int .i64 0, .int .i64 0]) "daybook/schema.putQty").run Try.prog w = .ok (86, .agg #[.int .i64 0, .int .i64 0, .int .i64 0, .int .i64 0, .int .i64 0]) w := by kernel_rfl
theorem m_putq2 (w : World) : (method 244 87 (.agg #[.int .i64 0, .int .i64 0, .int .i64 0, .int .i64 0, .int .i64 0, .int .i64 0]) "daybook/schema.putQty").run Try.prog w = .ok (86, .agg #[.int .i64 0, .int .i64 0, .int .i64 0, .int .i64 0, .int .i64 0]) w := by kernel_rfl
theorem m_putq3 (w : World) : (method 244 89 (.agg #[.int .i64 0, .int .i64 0, .int .i64 0, .int .i64 0, .int .i64 0, .int .i64 0, .int .i64 0]) "daybook/schema.putQty").run Try.prog w = .ok (98, .agg #[.int .i64 0, .int .i64 0, .int .i64 0, .int .i64 0, .int .i64 0, .int .i64 0, .int .i64 0]) w := by kernel_rfl
theorem m_putq4 (w : World) : (method 244 91 (.agg #[.int .i64 0, .int .i64 0, .int .i64 0, .int .i64 0, .int .i64 0, .int .i64 0, .int .i64 0, .string ⟨#[]⟩]) "daybook/schema.putQty").run Try.prog w = .ok (98, .agg #[.int .i64 0, .int .i64 0, .int .i64 0, .int .i64 0, .int .i64 0, .int .i64 0, .int .i64 0]) w := by kernel_rfl
theorem m_putq5 (w : World) : (method 244 93 (.agg #[.int .i64 0, .int .i64 0, .int .i64 0, .int .i64 0, .int .i64 0, .int .i64 0, .int .i64 0, .string ⟨#[]⟩, .int .i64 0, .string ⟨#[]⟩]) "daybook/schema.putQty").run Try.prog w = .ok (98, .agg #[.int .i64 0, .int .i64 0, .int .i64 0, .int .i64 0, .int .i64 0, .int .i64 0, .int .i64 0]) w := by kernel_rfl
theorem cf_putq1 (a : Array Value) (w : World) : (callFunc 86 a).run Try.prog w = .ok (.enter 86 a) w := by kernel_rfl
theorem cf_putq3 (a : Array Value) (w : World) : (callFunc 98 a).run Try.prog w = .ok (.enter 98 a) w := by kernel_rfl
theorem wrapN {k : Nat} (h : k ≤ 18446744073709551615) : IntKind.u64.wrap (k : Int) = (k : Int) := by rw [IntKind.wrap_u64]; omega
/-- what schema.Encode answers of a right event -/
def EncPost (w : World) (fs : List Fld) (r : Ending) (w' : World) : Prop := ∃ v', r = .returned (.tuple #[v', .int .i64 ((encs fs 0 []).2 : Int)]) ∧ Own w' w.heap.size v' (encs fs 0 []).1 ∧ Below w.heap.size w w'
theorem Wst.new {w w3 : World} {E : Ev} {q : Nat} (h : WrAt w3 (q + 1) q (.slice none 0 0) [] 0 0) (he : EvAt w3 w.heap.size E) (hb : Below w.heap.size w w3) (hq : w.heap.size < q) : Wst w w3 q w.heap.size E ([], 0, 0) 0 [] :=
  ⟨⟨_, _, h, rfl, by simp, by simp⟩, by simp, he, hq, by simp, hb, Nat.le_refl _⟩
theorem evc {w : World} {b : Nat} {E : Ev} {k o i p c t s : Nat} {qty : Int} {who note : ByteArray} (h : EvAt w b E) (hE : E = ⟨k, o, i, qty, p, c, t, who, s, note⟩) : w.cell? ⟨b, 0, none⟩ = some (.int .i64 (k : Int)) ∧ w.cell? ⟨b, 1, none⟩ = some (.int .i64 (o : Int)) ∧ w.cell? ⟨b, 2, none⟩ = some (.int .i64 (i : Int)) ∧ w.cell? ⟨b, 3, none⟩ = some (.int .i64 qty) ∧ w.cell? ⟨b, 4, none⟩ = some (.int .i64 (p : Int)) ∧ w.cell? ⟨b, 5, none⟩ = some (.int .i64 (c : Int)) ∧ w.cell? ⟨b, 6, none⟩ = some (.int .i64 (t : Int)) ∧ w.cell? ⟨b, 7, none⟩ = some (.string who) ∧ w.cell? ⟨b, 8, none⟩ = some (.int .i64 (s : Int)) ∧ w.cell? ⟨b, 9, none⟩ = some (.string note) := by
  subst hE; exact h.cells
set_option maxRecDepth 20000 in
set_option maxHeartbeats 4000000 in
theorem sencode_g (v : Int) (T f : Nat) (V V' : Value) (k o i p c t s u : Nat) (qty : Int) (who note : ByteArray) (w : World) (hv1 : 1 ≤ v) (hv5 : v ≤ 5) (hver : verV v = .iface T V) (hmq : ∀ w, (method 244 T V "daybook/schema.putQty").run Try.prog w = .ok (f, V') w) (hcf : ∀ (a : Array Value) (w : World), (callFunc f a).run Try.prog w = .ok (.enter f a) w)
    (hput : ∀ (w0 w1 : World) (q eb : Nat) (E : Ev) (S : List Fld × Int × Nat) (n : Nat) (G : List (Nat × List Nat)), Wst w0 w1 q eb E S n G → n ≤ 900 → Calls Try.prog f #[V', .pointer (some ⟨q, 0, none⟩), .int .i64 qty] w1 fun r w2 => r = .returned (.tuple #[]) ∧ Wst w0 w2 q eb E (wp1 S ⟨4, false, u, []⟩) (n + 1) G)
    (hc : chk v ⟨k, o, i, qty, p, c, t, who, s, note⟩ = 0) (hk : k ≤ 18446744073709551615 ∧ o ≤ 18446744073709551615 ∧ i ≤ 18446744073709551615 ∧ p ≤ 18446744073709551615 ∧ c ≤ 18446744073709551615 ∧ t ≤ 18446744073709551615 ∧ s ≤ 18446744073709551615) (hw : who.size ≤ 16) (hn : note.size ≤ 120)
    (h0 : (wputs ([], 0, 0) (tenF k o i u p c t (nums8 who) s (nums8 note))).2.2 = 0) :
    Calls Try.prog 13 #[.int .i64 v, .agg (evA ⟨k, o, i, qty, p, c, t, who, s, note⟩)] w fun r w' => EncPost w (wputs ([], 0, 0) (tenF k o i u p c t (nums8 who) s (nums8 note))).1 r w' := by
  simp only [wputs, List.foldl_cons, List.foldl_nil] at h0 ⊢
  have HC : Hid (_) := hc
  have HK : Hid (_) := hk
  have H0 : Hid (_) := h0
  have HV : Hid (1 ≤ v ∧ v ≤ 5) := ⟨hv1, hv5⟩
  have HVR : Hid (_) := hver
  have HPUT : Hid (_) := hput
  have HWN : Hid ((nums8 who).length = who.size ∧ who.size ≤ 1000 ∧ (nums8 note).length = note.size ∧ note.size ≤ 1000) := ⟨nums8_len _, by omega, nums8_len _, by omega⟩
  have e1 := wrapN hk.1
  have e2 := wrapN hk.2.1
  have e3 := wrapN hk.2.2.1
  have e4 := wrapN hk.2.2.2.1
  have e5 := wrapN hk.2.2.2.2.1
  have e6 := wrapN hk.2.2.2.2.2.1
  have e7 := wrapN hk.2.2.2.2.2.2
  have hcv := cv_run
  clear hc hk hw hn h0 hv1 hv5 hver hput
  obtain ⟨E, hE⟩ : ∃ E : Ev, E = ⟨k, o, i, qty, p, c, t, who, s, note⟩ := ⟨_, rfl⟩
  rw [← hE] at HC ⊢
  have HE : Hid (_) := hE
  clear hE
  have HA : Hid (EvAt (w.alloc (.cells (evA E) 24)) w.heap.size E) := evAt_new w E
  have HAB : Hid (Below w.heap.size w (w.alloc (.cells (evA E) 24))) := (Below.refl _ _).alloc (Nat.le_refl _) _
  go_enter Try.func13, Try.ntmps13
  go_wp2_with (first
    | ((with_reducible refine guard_load 24 ?_); refine wpList_load_ev rfl _ rfl HA.out rfl ?_)
    | (go_at_call 10; refine (check_ev v E _).mono ?_; rw [HC.out]; rintro _ w1 ⟨rfl, hb1⟩; have HA1 : Hid (EvAt w1 w.heap.size E) := HA.out.after hb1; have HB1 : Hid (Below w.heap.size w w1) := below_next HAB.out hb1; clear hb1)
    | (go_at_call 22; refine (find_yes v _ HV.out.1 HV.out.2).mono ?_; rw [HVR.out]; rintro _ w2 ⟨rfl, rfl⟩)
    | (go_at_call 30; refine (neww_any _).mono ?_; rintro _ w3 ⟨rfl, hw3, hb3⟩; have hs3 : Wst w w3 w1.heap.size w.heap.size E ([], 0, 0) 0 [] := Wst.new hw3 (HA1.out.after hb3) (below_next HB1.out hb3) HA1.out.lt; obtain ⟨q, hqe⟩ : ∃ q, w1.heap.size = q := ⟨_, rfl⟩; rw [hqe] at hs3 ⊢; have HS : Hid (Wst w w3 q w.heap.size E ([], 0, 0) 0 []) := hs3; clear hw3 hb3 hs3 hqe))
  obtain ⟨a0, a1, a2, _, _, _, _, _, _, _⟩ := evc HS.out.ev HE.out
  go_region_held3 (fun w' => w'.cell? ⟨w.heap.size, 0, none⟩ = some (.int .i64 (k : Int)) ∧ w'.cell? ⟨w.heap.size, 1, none⟩ = some (.int .i64 (o : Int)) ∧ w'.cell? ⟨w.heap.size, 2, none⟩ = some (.int .i64 (i : Int))) (go_keep) (first
    | (go_at_call_of 31 (Value.int IntKind.i64 1); refine (num_st 1 k w _ q w.heap.size E _ _ _ (by with_reducible first | exact HS.out | exact HS.out.drew) HK.out.1 (by decide)).mono ?_; rintro r x1 ⟨rfl, hs1⟩; clear HS; have HS : Hid (_) := hs1; obtain ⟨b0, b1, b2, _, _, _, _, _, _, _⟩ := evc hs1.ev HE.out; clear hs1)
    | (go_at_call_of 31 (Value.int IntKind.i64 2); refine (num_st 2 o w _ q w.heap.size E _ _ _ (by with_reducible first | exact HS.out | exact HS.out.drew) HK.out.2.1 (by decide)).mono ?_; rintro r x2 ⟨rfl, hs2⟩; clear HS; have HS : Hid (_) := hs2; obtain ⟨c0, c1, c2, _, _, _, _, _, _, _⟩ := evc hs2.ev HE.out; clear hs2)
    | (go_at_call_of 31 (Value.int IntKind.i64 3); refine (num_st 3 i w _ q w.heap.size E _ _ _ (by with_reducible first | exact HS.out | exact HS.out.drew) HK.out.2.2.1 (by decide)).mono ?_; rintro r x3 ⟨rfl, hs3⟩; clear HS; have HS : Hid (_) := hs3; obtain ⟨d0, d1, d2, d3, _, _, _, _, _, _⟩ := evc hs3.ev HE.out; clear hs3))
  clear a0 a1 a2 b0 b1 b2 c0 c1 c2
  go_wp2_with ((with_reducible refine (HPUT.out w _ q w.heap.size E _ _ _ HS.out (by decide)).mono ?_); rintro r x4 ⟨rfl, hs4⟩; clear HS; have HS : Hid (_) := hs4; obtain ⟨_, _, _, _, f4, f5, f6, _, _, _⟩ := evc hs4.ev HE.out; clear hs4)
  clear d0 d1 d2 d3
  go_region_held3 (fun w' => w'.cell? ⟨w.heap.size, 4, none⟩ = some (.int .i64 (p : Int)) ∧ w'.cell? ⟨w.heap.size, 5, none⟩ = some (.int .i64 (c : Int)) ∧ w'.cell? ⟨w.heap.size, 6, none⟩ = some (.int .i64 (t : Int))) (go_keep) (first
    | (go_at_call_of 31 (Value.int IntKind.i64 5); refine (num_st 5 p w _ q w.heap.size E _ _ _ (by with_reducible first | exact HS.out | exact HS.out.drew) HK.out.2.2.2.1 (by decide)).mono ?_; rintro r x5 ⟨rfl, hs5⟩; clear HS; have HS : Hid (_) := hs5; obtain ⟨_, _, _, _, g4, g5, g6, _, _, _⟩ := evc hs5.ev HE.out; clear hs5)
    | (go_at_call_of 31 (Value.int IntKind.i64 6); refine (num_st 6 c w _ q w.heap.size E _ _ _ (by with_reducible first | exact HS.out | exact HS.out.drew) HK.out.2.2.2.2.1 (by decide)).mono ?_; rintro r x6 ⟨rfl, hs6⟩; clear HS; have HS : Hid (_) := hs6; obtain ⟨_, _, _, _, h4, h5, h6, _, _, _⟩ := evc hs6.ev HE.out; clear hs6)
    | (go_at_call_of 31 (Value.int IntKind.i64 7); refine (num_st 7 t w _ q w.heap.size E _ _ _ (by with_reducible first | exact HS.out | exact HS.out.drew) HK.out.2.2.2.2.2.1 (by decide)).mono ?_; rintro r x7 ⟨rfl, hs7⟩; clear HS; have HS : Hid (_) := hs7; obtain ⟨_, _, _, _, i4, i5, i6, i7, i8, i9⟩ := evc hs7.ev HE.out; clear hs7))
  clear f4 f5 f6 g4 g5 g6 h4 h5 h6
  clear e1 e2 e3 e4 e5 e6 hmq hcf i4 i5 i6
  go_wp2_with fail
  go_region_held (fun w' => w'.cell? ⟨w.heap.size, 7, none⟩ = some (.string who) ∧ w'.cell? ⟨w.heap.size, 8, none⟩ = some (.int .i64 (s : Int)) ∧ w'.cell? ⟨w.heap.size, 9, none⟩ = some (.string note)) (simp [*, cv_cell]) (first
    | (go_at_call_of 32 (Value.int IntKind.i64 8); refine (text_st 8 (nums8 who) _ _ _ w _ q w.heap.size E _ _ _ (by with_reducible first | exact HS.out | exact HS.out.drew | exact Wst.cv HS.out _ | exact Wst.cv (Wst.drew HS.out) _ | exact Wst.cv (Wst.cv HS.out _) _ | exact Wst.cv (Wst.cv (Wst.drew HS.out) _) _) (by first | exact List.mem_cons_self .. | exact List.mem_cons_of_mem _ (List.mem_cons_self ..)) HWN.out.1 HWN.out.2.1 (by decide)).mono ?_; rintro r x8 ⟨rfl, hs8⟩; clear HS; have HS : Hid (_) := hs8; obtain ⟨_, _, _, _, _, _, _, j7, j8, j9⟩ := evc hs8.ev HE.out; clear hs8)
    | (go_at_call_of 31 (Value.int IntKind.i64 9); refine (num_st 9 s w _ q w.heap.size E _ _ _ (by with_reducible first | exact HS.out | exact HS.out.drew | exact Wst.cv HS.out _ | exact Wst.cv (Wst.drew HS.out) _ | exact Wst.cv (Wst.cv HS.out _) _ | exact Wst.cv (Wst.cv (Wst.drew HS.out) _) _) HK.out.2.2.2.2.2.2 (by decide)).mono ?_; rintro r x9 ⟨rfl, hs9⟩; clear HS; have HS : Hid (_) := hs9; obtain ⟨_, _, _, _, _, _, _, l7, l8, l9⟩ := evc hs9.ev HE.out; clear hs9)
    | (go_at_call_of 32 (Value.int IntKind.i64 10); refine (text_st 10 (nums8 note) _ _ _ w _ q w.heap.size E _ _ _ (by with_reducible first | exact HS.out | exact HS.out.drew | exact Wst.cv HS.out _ | exact Wst.cv (Wst.drew HS.out) _ | exact Wst.cv (Wst.cv HS.out _) _ | exact Wst.cv (Wst.cv (Wst.drew HS.out) _) _) (by first | exact List.mem_cons_self .. | exact List.mem_cons_of_mem _ (List.mem_cons_self ..)) HWN.out.2.2.1 HWN.out.2.2.2 (by decide)).mono ?_; rintro r x10 ⟨rfl, hs10⟩; clear HS; have HS : Hid (_) := hs10; obtain ⟨_, _, _, _, _, _, _, m7, m8, m9⟩ := evc hs10.ev HE.out; clear hs10))
  all_goals go_wp2_with (go_at_call 33; refine (done_st w _ q w.heap.size E _ _ _ HS.out H0.out (by decide)).mono ?_; rintro r x11 ⟨vv, rfl, ho, hb⟩; have HO : Hid (_) := ho; have HB : Hid (_) := hb; clear ho hb)
  all_goals go_ret2
  all_goals exact ⟨_, rfl, HO.out, HB.out⟩
end Go.Proofs.Ytfhcbdmmckjmaaa
namespace Go.Proofs.Ytfhcbdmmckjmaaa
open Go.ChangeShapes Go.WideShapes Go.ChangeAt Go.RowKit
theorem encs_pre : ∀ (fs : List Fld) (A : Int) (b r : List Nat), encs fs A b = (r, 0) → (∃ t, r = b ++ t) ∧ r.length ≤ 1024
  | [], A, b, r, h => by
    have h' : (if 1024 < b.length then (([] : List Nat), 24) else (b, 0)) = (r, 0) := h
    by_cases hb : 1024 < b.length
    · rw [if_pos hb] at h'; simp at h'
    · rw [if_neg hb] at h'
      have := (Prod.mk.inj h').1
      subst this
      exact ⟨⟨[], by simp⟩, by omega⟩
  | f :: fs, A, b, r, h => by
    have h' : (if flt f A ≠ 0 then (([] : List Nat), flt f A) else encs fs f.tag (b ++ one f)) = (r, 0) := h
    by_cases hz : flt f A = 0
    · rw [hz, if_neg (by simp)] at h'
      obtain ⟨⟨t, ht⟩, hl⟩ := encs_pre fs f.tag (b ++ one f) r h'
      exact ⟨⟨one f ++ t, by rw [ht]; simp⟩, hl⟩
    · rw [if_pos hz] at h'
      exact absurd (Prod.mk.inj h').2 hz
theorem norm_tag (f : Fld) : (norm f).tag = f.tag ∧ (norm f).text = f.text := by
  unfold norm; split <;> exact ⟨rfl, rfl⟩
theorem norm_norm (f : Fld) : norm (norm f) = norm f := by
  unfold norm
  by_cases h : f.text = true
  · rw [if_pos h]; rw [if_pos h]
  · rw [if_neg h]; rw [if_neg h]
theorem encs_back : ∀ (fs : List Fld) (A : Int) (b r : List Nat), (∀ f ∈ fs, f.num ≤ 18446744073709551615) → encs fs A b = (r, 0) → ∀ (fuel : Nat) (acc : List Fld), r.length - b.length < fuel → decs fuel r A b.length acc = (acc ++ fs.map norm, 0, 0)
  | [], A, b, r, _, h, fuel, acc, hf => by
    have h' : (if 1024 < b.length then (([] : List Nat), 24) else (b, 0)) = (r, 0) := h
    by_cases hb : 1024 < b.length
    · rw [if_pos hb] at h'; simp at h'
    · rw [if_neg hb] at h'
      have := (Prod.mk.inj h').1
      subst this
      obtain ⟨f', rfl⟩ : ∃ f', fuel = f' + 1 := ⟨fuel - 1, by omega⟩
      show (if b.length ≤ b.length then (acc, 0, 0) else _) = _
      rw [if_pos (Nat.le_refl _)]; simp
  | f :: fs, A, b, r, hn, h, fuel, acc, hf => by
    have h' : (if flt f A ≠ 0 then (([] : List Nat), flt f A) else encs fs f.tag (b ++ one f)) = (r, 0) := h
    by_cases hz : flt f A = 0
    · rw [hz, if_neg (by simp)] at h'
      obtain ⟨⟨t, ht⟩, hl⟩ := encs_pre fs f.tag (b ++ one f) r h'
      have hone := one_len f A (hn f (by simp)) hz
      obtain ⟨f', rfl⟩ : ∃ f', fuel = f' + 1 := ⟨fuel - 1, by omega⟩
      have hrl : r.length = b.length + (one f).length + t.length := by rw [ht, List.length_append, List.length_append]
      have hd : r.drop b.length = one f ++ t := by rw [ht, List.append_assoc, List.drop_left]
      have hs : decs (f' + 1) r A b.length acc = if r.length ≤ b.length then (acc, 0, 0) else if (next (r.drop b.length) A).2.2 ≠ 0 then ([], b.length, (next (r.drop b.length) A).2.2) else decs f' r (next (r.drop b.length) A).1.tag (b.length + (next (r.drop b.length) A).2.1) (acc ++ [(next (r.drop b.length) A).1]) := rfl
      rw [hs, if_neg (by omega), hd, next_one f A t (hn f (by simp)) hz]
      simp only [ne_eq, not_true_eq_false, if_false]
      rw [(norm_tag f).1]
      have ih := encs_back fs f.tag (b ++ one f) r (fun g hg => hn g (List.mem_cons_of_mem _ hg)) h' f' (acc ++ [norm f]) (by rw [List.length_append]; omega)
      rw [List.length_append] at ih
      rw [ih]
      simp
    · rw [if_pos hz] at h'
      exact absurd (Prod.mk.inj h').2 hz
theorem encs_err : ∀ (fs : List Fld) (A : Int) (b : List Nat), (encs fs A b).2 ≠ 0 → (encs fs A b).1 = []
  | [], A, b, h => by
    have hd : encs [] A b = if 1024 < b.length then ([], 24) else (b, 0) := rfl
    rw [hd] at h ⊢
    by_cases hb : 1024 < b.length
    · rw [if_pos hb]
    · rw [if_neg hb] at h; exact absurd rfl h
  | f :: fs, A, b, h => by
    have hd : encs (f :: fs) A b = if flt f A ≠ 0 then ([], flt f A) else encs fs f.tag (b ++ one f) := rfl
    rw [hd] at h ⊢
    by_cases hz : flt f A = 0
    · rw [hz, if_neg (by simp)] at h ⊢
      exact encs_err fs f.tag (b ++ one f) h
    · rw [if_pos hz]
theorem recs_back (fs : List Fld) (r : List Nat) (hn : ∀ f ∈ fs, f.num ≤ 18446744073709551615) (h : encs fs 0 [] = (r, 0)) : recs r = (fs.map norm, 0, 0) := by
  have hl := (encs_pre fs 0 [] r h).2
  unfold recs
  rw [if_neg (by omega)]
  have := encs_back fs 0 [] r hn h (r.length + 1) [] (by simp)
  simpa using this
end Go.Proofs.Ytfhcbdmmckjmaaa
namespace Go.Proofs.Ytfhcbdmmckjmaaa
open Go.ChangeShapes Go.WideShapes Go.ChangeAt Go.RowKit
set_option linter.unusedVariables false
/-- a field that holds something -/
def nz (F : Fld) : Bool := if F.text = true then !F.bytes.isEmpty else !(F.num == 0)
/-- fields of rising tags behind A, none too long -/
def Ris : Int → List Fld → Prop
  | _, [] => True
  | A, F :: r => A < F.tag ∧ 1 ≤ F.tag ∧ F.tag ≤ 31 ∧ (F.text = true → F.bytes.length ≤ 200) ∧ Ris F.tag r
theorem Ris.mono {A B : Int} {fs : List Fld} (h : Ris A fs) (hB : B ≤ A) : Ris B fs := by
  cases fs with
  | nil => trivial
  | cons F r => obtain ⟨h1, h2⟩ := h; exact ⟨by omega, h2⟩
theorem flt_nz {F : Fld} {A : Int} (h1 : A < F.tag) (h2 : 1 ≤ F.tag) (h3 : F.tag ≤ 31) (h4 : F.text = true → F.bytes.length ≤ 200) : flt F A = if nz F = true then 0 else 22 := by
  unfold flt nz
  rw [if_neg (by omega), if_neg (by omega)]
  by_cases ht : F.text = true
  · rw [if_pos ht, if_pos ht]
    have := h4 ht
    rcases hb : F.bytes with _ | ⟨x, r⟩
    · simp
    · rw [hb] at this
      simp only [List.isEmpty_cons, Bool.not_false, if_true]
      rw [if_neg (by simp), if_neg (by omega)]
  · rw [if_neg ht, if_neg ht]
    by_cases hn : F.num = 0
    · simp [hn]
    · simp [hn]
theorem wputs_right : ∀ (Fs : List Fld) (fs : List Fld) (A : Int), Ris A Fs → ∃ A', wputs (fs, A, 0) Fs = (fs ++ Fs.filter nz, A', 0)
  | [], fs, A, _ => ⟨A, by simp [wputs]⟩
  | F :: r, fs, A, h => by
    obtain ⟨h1, h2, h3, h4, h5⟩ := h
    have hf := flt_nz h1 h2 h3 h4
    show ∃ A', wputs (wp1 (fs, A, 0) F) r = _
    by_cases hz : nz F = true
    · rw [if_pos hz] at hf
      have e1 : wp1 (fs, A, 0) F = (fs ++ [F], F.tag, 0) := by unfold wp1 wput; rw [if_neg (by simp), if_pos hf]
      obtain ⟨A', hA⟩ := wputs_right r (fs ++ [F]) F.tag h5
      exact ⟨A', by rw [e1, hA, List.filter_cons, if_pos hz]; simp⟩
    · rw [if_neg hz] at hf
      have e1 : wp1 (fs, A, 0) F = (fs, A, 0) := by unfold wp1 wput; rw [if_neg (by simp), if_neg (by rw [hf]; decide), if_pos hf]
      obtain ⟨A', hA⟩ := wputs_right r fs A (h5.mono (by omega))
      exact ⟨A', by rw [e1, hA, List.filter_cons, if_neg hz]⟩
theorem one_le (F : Fld) (hn : F.num ≤ 18446744073709551615) (ht : F.tag ≤ 31) (hb : F.bytes.length ≤ 200) : (one F).length ≤ 20 + (if F.text = true then F.bytes.length else 0) := by
  unfold one
  by_cases h : F.text = true
  · rw [if_pos h, if_pos h]
    have h1 := (enc_length_le (2 * F.tag.toNat + 1) (by omega)).2
    have h2 := (enc_length_le F.bytes.length (by omega)).2
    simp only [List.length_append]
    omega
  · rw [if_neg h, if_neg h]
    have h1 := (enc_length_le (2 * F.tag.toNat) (by omega)).2
    have h2 := (enc_length_le F.num hn).2
    simp only [List.length_append]
    omega
/-- the bytes of fields behind one another -/
def ones (fs : List Fld) : List Nat := fs.flatMap one
theorem encs_all : ∀ (fs : List Fld) (A : Int) (b : List Nat), Ris A fs → (∀ f ∈ fs, nz f = true) → b.length + (ones fs).length ≤ 1024 → encs fs A b = (b ++ ones fs, 0)
  | [], A, b, _, _, h => by
    show (if 1024 < b.length then (([] : List Nat), 24) else (b, 0)) = _
    rw [if_neg (by omega)]
    simp [ones]
  | f :: r, A, b, h, hn, hl => by
    obtain ⟨h1, h2, h3, h4, h5⟩ := h
    have hf := flt_nz h1 h2 h3 h4
    rw [if_pos (hn f (List.mem_cons_self ..))] at hf
    have e1 : ones (f :: r) = one f ++ ones r := by simp [ones]
    rw [e1, List.length_append] at hl
    show (if flt f A ≠ 0 then (([] : List Nat), flt f A) else encs r f.tag (b ++ one f)) = _
    rw [hf, if_neg (by simp), encs_all r f.tag (b ++ one f) h5 (fun g hg => hn g (List.mem_cons_of_mem _ hg)) (by rw [List.length_append]; omega), e1, List.append_assoc]
theorem Ris.filter {A : Int} {p : Fld → Bool} : ∀ {fs : List Fld}, Ris A fs → Ris A (fs.filter p) := by
  intro fs
  induction fs generalizing A with
  | nil => intro h; exact h
  | cons F r ih =>
    intro h
    obtain ⟨h1, h2, h3, h4, h5⟩ := h
    rw [List.filter_cons]
    split
    · exact ⟨h1, h2, h3, h4, ih h5⟩
    · exact (ih h5).mono (by omega)
/-- the quantity as it is written -/
def qN (v : Int) (E : Ev) : Nat := if v ≤ 2 then (zig E.qty).toNat else E.qty.toNat
def evF (v : Int) (E : Ev) : List Fld := tenF E.kind.toNat E.order.toNat E.item.toNat (qN v E) E.price.toNat E.cur.toNat E.tax.toNat (nums8 E.who) E.stamp.toNat (nums8 E.note)
/-- the fields of an event's record -/
def efs (v : Int) (E : Ev) : List Fld := (evF v E).filter nz
theorem zig_nn (x : Int) : 0 ≤ zig x := by unfold zig; split <;> omega
theorem loQ_le (v : Int) : -10000 ≤ loQ v := by unfold loQ; split <;> omega
theorem Right.qN {v : Int} {E : Ev} (r : Right v E) : qN v E ≤ 20000 := by
  unfold Go.Proofs.Ytfhcbdmmckjmaaa.qN
  have h1 := r.qty0
  have h2 := r.qty1
  have h3 := loQ_le v
  split
  · unfold zig; split <;> omega
  · omega
theorem Right.ris {v : Int} {E : Ev} (r : Right v E) : Ris 0 (evF v E) := by
  have h1 := r.who
  have h2 := r.note
  simp [evF, tenF, Ris, nums8_len]
  omega
theorem ones_le : ∀ (fs : List Fld), (∀ f ∈ fs, f.num ≤ 18446744073709551615 ∧ f.tag ≤ 31 ∧ f.bytes.length ≤ 200) → (ones fs).length ≤ 20 * fs.length + (fs.map fun f => if f.text = true then f.bytes.length else 0).sum
  | [], _ => by simp [ones]
  | f :: r, h => by
    have e1 : ones (f :: r) = one f ++ ones r := by simp [ones]
    obtain ⟨a1, a2, a3⟩ := h f (List.mem_cons_self ..)
    have h1 := one_le f a1 a2 a3
    have h2 := ones_le r (fun g hg => h g (List.mem_cons_of_mem _ hg))
    rw [e1, List.length_append, List.map_cons, List.sum_cons, List.length_cons]
    omega
theorem Right.flds {v : Int} {E : Ev} (r : Right v E) : ∀ f ∈ evF v E, f.num ≤ 18446744073709551615 ∧ f.tag ≤ 31 ∧ f.bytes.length ≤ 200 := by
  have h1 := r.who
  have h2 := r.note
  have q := r.qN
  have hk : lastK v ≤ 10 := by unfold lastK; split <;> (try split) <;> (try split) <;> omega
  have hp : hiP v ≤ 100000000 := by unfold hiP; split <;> omega
  intro f hf
  simp only [evF, tenF, List.mem_cons, List.not_mem_nil, or_false] at hf
  have bkind0 := r.kind0
  have bkind1 := r.kind1
  have border0 := r.order0
  have border1 := r.order1
  have bitem0 := r.item0
  have bitem1 := r.item1
  have bprice0 := r.price0
  have bprice1 := r.price1
  have bcur0 := r.cur0
  have bcur1 := r.cur1
  have btax0 := r.tax0
  have btax1 := r.tax1
  have bstamp0 := r.stamp0
  have bstamp1 := r.stamp1
  rcases hf with rfl | rfl | rfl | rfl | rfl | rfl | rfl | rfl | rfl | rfl
  all_goals refine ⟨?_, ?_, ?_⟩
  all_goals simp only [List.length_nil, nums8_len]
  all_goals omega
theorem sum_filter (p : Fld → Bool) (g : Fld → Nat) : ∀ fs : List Fld, ((fs.filter p).map g).sum ≤ (fs.map g).sum
  | [] => by simp
  | f :: r => by
    have ih := sum_filter p g r
    rw [List.filter_cons]
    split
    · simp only [List.map_cons, List.sum_cons]; omega
    · simp only [List.map_cons, List.sum_cons]; omega
/-- the record of a right event is never too long -/
theorem efs_encs {v : Int} {E : Ev} (r : Right v E) : encs (efs v E) 0 [] = (ones (efs v E), 0) := by
  have h := encs_all (efs v E) 0 [] r.ris.filter (fun f hf => (List.mem_filter.1 hf).2) ?_
  · rw [h]; simp
  · have h1 := ones_le (efs v E) (fun f hf => r.flds f (List.mem_filter.1 hf).1)
    have h2 : (efs v E).length ≤ 10 := List.length_filter_le ..
    have h3 := sum_filter nz (fun f => if f.text = true then f.bytes.length else 0) (evF v E)
    have h4 : ((evF v E).map fun f => if f.text = true then f.bytes.length else 0).sum = E.who.size + E.note.size := by
      simp [evF, tenF, nums8_len]
    have h5 := r.who
    have h6 := r.note
    unfold efs at h1 h2 ⊢
    simp only [List.length_nil]
    omega
/-- what schema.Encode answers -/
def senc (v : Int) (E : Ev) : List Nat × Int := if chk v E ≠ 0 then ([], chk v E) else (ones (efs v E), 0)
def SencPost (w : World) (v : Int) (E : Ev) (r : Ending) (w' : World) : Prop := ∃ v', r = .returned (.tuple #[v', .int .i64 (senc v E).2]) ∧ Own w' w.heap.size v' (senc v E).1 ∧ Below w.heap.size w w'
set_option maxRecDepth 20000 in
set_option maxHeartbeats 1000000 in
theorem sencode_no (v : Int) (E : Ev) (w : World) (hc : chk v E ≠ 0) : Calls Try.prog 13 #[.int .i64 v, .agg (evA E)] w fun r w' => r = .returned (.tuple #[.slice none 0 0, .int .i64 (chk v E)]) ∧ Below w.heap.size w w' := by
  obtain ⟨c, hC⟩ : ∃ c, chk v E = c := ⟨_, rfl⟩
  rw [hC] at hc ⊢
  have HC : Hid (_) := hC
  have hcb : (c != 0) = true := by simpa using hc
  clear hC
  have HA : Hid (EvAt (w.alloc (.cells (evA E) 24)) w.heap.size E) := evAt_new w E
  have HAB : Hid (Below w.heap.size w (w.alloc (.cells (evA E) 24))) := (Below.refl _ _).alloc (Nat.le_refl _) _
  go_enter Try.func13, Try.ntmps13
  go_wp2_with (first
    | ((with_reducible refine guard_load 24 ?_); refine wpList_load_ev rfl _ rfl HA.out rfl ?_)
    | (go_at_call 10; refine (check_ev v E _).mono ?_; rw [HC.out]; rintro _ w1 ⟨rfl, hb1⟩; have HB1 : Hid (Below w.heap.size w w1) := below_next HAB.out hb1; clear hb1))
  go_ret2
  exact ⟨rfl, HB1.out⟩
theorem nat_of {x : Int} (h : 0 ≤ x) : ((x.toNat : Nat) : Int) = x := by omega
theorem sencode_yes (v : Int) (E : Ev) (w : World) (r : Right v E) : Calls Try.prog 13 #[.int .i64 v, .agg (evA E)] w fun x w' => EncPost w (efs v E) x w' := by
  have hc := chk_of r
  obtain ⟨kind, order, item, qty, price, cur, tax, who, stamp, note⟩ := E
  have bk := r.kind0
  have bk1 := r.kind1
  have bo := r.order0
  have bo1 := r.order1
  have bi := r.item0
  have bi1 := r.item1
  have bp := r.price0
  have bp1 := r.price1
  have bc := r.cur0
  have bc1 := r.cur1
  have bt := r.tax0
  have bt1 := r.tax1
  have bs := r.stamp0
  have bs1 := r.stamp1
  have bq0 := r.qty0
  have bq1 := r.qty1
  have hk : lastK v ≤ 10 := by unfold lastK; split <;> (try split) <;> (try split) <;> omega
  have hp : hiP v ≤ 100000000 := by unfold hiP; split <;> omega
  have hlo := loQ_le v
  have hqn := r.qN
  have hris := r.ris
  have hw := r.who
  have hn := r.note
  have hv1 := r.v1
  have hv5 := r.v5
  simp only at bk bk1 bo bo1 bi bi1 bp bp1 bc bc1 bt bt1 bs bs1 bq0 bq1 hw hn
  have hz : ∀ u, u = qN v ⟨kind, order, item, qty, price, cur, tax, who, stamp, note⟩ → v ≤ 2 → zig qty = (u : Int) := by
    intro u hu h2
    rw [hu]
    unfold qN
    rw [if_pos h2]
    exact (nat_of (zig_nn _)).symm
  have hz3 : ∀ u, u = qN v ⟨kind, order, item, qty, price, cur, tax, who, stamp, note⟩ → ¬ v ≤ 2 → qty = (u : Int) ∧ u ≤ 10000 := by
    intro u hu h2
    have h3 : loQ v = 0 := if_neg h2
    rw [hu]
    unfold qN
    rw [if_neg h2]
    simp only
    omega
  obtain ⟨A', hA⟩ := wputs_right _ [] 0 hris
  have hput : ∀ (w0 w1 : World) (q eb : Nat) (E0 : Ev) (S : List Fld × Int × Nat) (n : Nat) (G : List (Nat × List Nat)), v ≤ 2 → Wst w0 w1 q eb E0 S n G → n ≤ 900 → Calls Try.prog 86 #[.agg #[.int .i64 0, .int .i64 0, .int .i64 0, .int .i64 0, .int .i64 0], .pointer (some ⟨q, 0, none⟩), .int .i64 qty] w1 fun r w2 => r = .returned (.tuple #[]) ∧ Wst w0 w2 q eb E0 (wp1 S ⟨4, false, qN v ⟨kind, order, item, qty, price, cur, tax, who, stamp, note⟩, []⟩) (n + 1) G := fun w0 w1 q eb E0 S n G h2 h hn => putq1 _ qty _ w0 w1 q eb E0 S n G h (by omega) (by omega) (hz _ rfl h2) (by omega) hn
  have hput3 : ∀ (w0 w1 : World) (q eb : Nat) (E0 : Ev) (S : List Fld × Int × Nat) (n : Nat) (G : List (Nat × List Nat)), ¬ v ≤ 2 → Wst w0 w1 q eb E0 S n G → n ≤ 900 → Calls Try.prog 98 #[.agg #[.int .i64 0, .int .i64 0, .int .i64 0, .int .i64 0, .int .i64 0, .int .i64 0, .int .i64 0], .pointer (some ⟨q, 0, none⟩), .int .i64 qty] w1 fun r w2 => r = .returned (.tuple #[]) ∧ Wst w0 w2 q eb E0 (wp1 S ⟨4, false, qN v ⟨kind, order, item, qty, price, cur, tax, who, stamp, note⟩, []⟩) (n + 1) G := by
    intro w0 w1 q eb E0 S n G h2 h hn
    obtain ⟨h3, h4⟩ := hz3 _ rfl h2
    have h5 := putq3 #[.int .i64 0, .int .i64 0, .int .i64 0, .int .i64 0, .int .i64 0, .int .i64 0, .int .i64 0] (qN v ⟨kind, order, item, qty, price, cur, tax, who, stamp, note⟩) w0 w1 q eb E0 S n G h h4 hn
    rw [← h3] at h5
    exact h5
  have key : ∀ (T f : Nat) (V V' : Value), verV v = .iface T V → (∀ w, (method 244 T V "daybook/schema.putQty").run Try.prog w = .ok (f, V') w) → (∀ (a : Array Value) (w : World), (callFunc f a).run Try.prog w = .ok (.enter f a) w) → (∀ (w0 w1 : World) (q eb : Nat) (E : Ev) (S : List Fld × Int × Nat) (n : Nat) (G : List (Nat × List Nat)), Wst w0 w1 q eb E S n G → n ≤ 900 → Calls Try.prog f #[V', .pointer (some ⟨q, 0, none⟩), .int .i64 qty] w1 fun r w2 => r = .returned (.tuple #[]) ∧ Wst w0 w2 q eb E (wp1 S ⟨4, false, qN v ⟨kind, order, item, qty, price, cur, tax, who, stamp, note⟩, []⟩) (n + 1) G) → Calls Try.prog 13 #[.int .i64 v, .agg (evA ⟨kind, order, item, qty, price, cur, tax, who, stamp, note⟩)] w fun x w' => EncPost w (efs v ⟨kind, order, item, qty, price, cur, tax, who, stamp, note⟩) x w' := by
    intro T f V V' h1 h2 h3 h4
    have h5 := sencode_g v T f V V' kind.toNat order.toNat item.toNat price.toNat cur.toNat tax.toNat stamp.toNat (qN v ⟨kind, order, item, qty, price, cur, tax, who, stamp, note⟩) qty who note w hv1 hv5 h1 h2 h3 h4
    rw [nat_of (by omega : 0 ≤ kind), nat_of (by omega : 0 ≤ order), nat_of bi, nat_of bp, nat_of bc, nat_of bt, nat_of bs] at h5
    have h7 : (wputs ([], 0, 0) (evF v ⟨kind, order, item, qty, price, cur, tax, who, stamp, note⟩)).2.2 = 0 := by rw [hA]
    have h8 : (wputs ([], 0, 0) (evF v ⟨kind, order, item, qty, price, cur, tax, who, stamp, note⟩)).1 = efs v ⟨kind, order, item, qty, price, cur, tax, who, stamp, note⟩ := by rw [hA]; rfl
    have h0 : evF v ⟨kind, order, item, qty, price, cur, tax, who, stamp, note⟩ = tenF kind.toNat order.toNat item.toNat (qN v ⟨kind, order, item, qty, price, cur, tax, who, stamp, note⟩) price.toNat cur.toNat tax.toNat (nums8 who) stamp.toNat (nums8 note) := rfl
    rw [h0] at h7 h8
    have h6 := h5 hc ⟨by omega, by omega, by omega, by omega, by omega, by omega, by omega⟩ hw hn h7
    rw [h8] at h6
    exact h6
  have hv : v = 1 ∨ v = 2 ∨ v = 3 ∨ v = 4 ∨ v = 5 := by omega
  rcases hv with rfl | rfl | rfl | rfl | rfl
  · exact key _ _ _ _ rfl m_putq1 cf_putq1 (fun w0 w1 q eb E S n G => hput w0 w1 q eb E S n G (by decide))
  · exact key _ _ _ _ rfl m_putq2 cf_putq1 (fun w0 w1 q eb E S n G => hput w0 w1 q eb E S n G (by decide))
  · exact key _ _ _ _ rfl m_putq3 cf_putq3 (fun w0 w1 q eb E S n G => hput3 w0 w1 q eb E S n G (by decide))
  · exact key _ _ _ _ rfl m_putq4 cf_putq3 (fun w0 w1 q eb E S n G => hput3 w0 w1 q eb E S n G (by decide))
  · exact key _ _ _ _ rfl m_putq5 cf_putq3 (fun w0 w1 q eb E S n G => hput3 w0 w1 q eb E S n G (by decide))
theorem sencode_any (v : Int) (E : Ev) (w : World) : Calls Try.prog 13 #[.int .i64 v, .agg (evA E)] w fun x w' => SencPost w v E x w' := by
  by_cases hc : chk v E = 0
  · refine (sencode_yes v E w (right_of hc)).mono ?_
    rintro r w' ⟨v', h1, h2, h3⟩
    rw [efs_encs (right_of hc)] at h1 h2
    have e1 : senc v E = (ones (efs v E), 0) := if_neg (by simp [hc])
    exact ⟨v', by rw [e1]; exact h1, by rw [e1]; exact h2, h3⟩
  · refine (sencode_no v E w hc).mono ?_
    rintro r w' ⟨h1, h3⟩
    have e1 : senc v E = ([], chk v E) := if_pos hc
    exact ⟨_, by rw [e1]; exact h1, by rw [e1]; exact ⟨by simp, World.ownsRow_nil _ _ _ 1⟩, h3⟩
end Go.Proofs.Ytfhcbdmmckjmaaa
namespace Go.Proofs.Ytfhcbdmmckjmaaa
open Go.ChangeShapes Go.WideShapes Go.ChangeAt Go.RowKit
set_option linter.unusedVariables false
theorem bytes_cut {w : World} {a : Option Addr} {l : List Nat} (h : Bytes w a l) (i cap : Nat) (hi : i ≤ l.length) (hc : l.length ≤ cap) : Bytes w (if cap = i then a else a.map (·.add (i * 1))) (l.drop i) := by
  by_cases hci : cap = i
  · rw [if_pos hci, List.drop_of_length_le (by omega)]
    exact Bytes.none _ _
  · rw [if_neg hci]
    rcases h.2 with rfl | ⟨b, off, rfl, hlt, hcell⟩
    · rw [List.drop_nil]
      exact Bytes.none _ _
    · have e : (⟨b, off, none⟩ : Addr).add (i * 1) = ⟨b, off + i, none⟩ := by rw [Nat.mul_one]; simp [Addr.add]
      rw [Option.map_some, e]
      exact h.drop i
theorem slice_under : Try.prog.underlying 30 = some (.slice (Try.prog.elem 30)) := by kernel_rfl
theorem slice_size (w : World) : (sizeOf (Try.prog.elem 30)).run Try.prog w = .ok 1 w := by kernel_rfl
theorem at_slice {ops : Array Oper} {rest : List Oper} {a : Act} {w : World} {Q : Exit → Act → World → Prop} {dst : Option Tmp} {ty : TypeId} {pos : String} {after : Array Edge} {s lo : Operand}
    (h : wpList Try.prog ops Q (⟨dst, .slice 30 s (some lo) none none, ty, pos, after, none⟩ :: rest) a w) : wpList Try.prog ops Q (⟨dst, .slice 30 s (some lo) none none, ty, pos, after, none⟩ :: rest) a w := h
theorem wpList_slice_l {ops : Array Oper} {rest : List Oper} {o : Oper} {a : Act} {w : World} {Q : Exit → Act → World → Prop} (hgd : o.guard = none) (s lo : Operand) (ho : o.op = .slice 30 s (some lo) none none)
    {A : Option Addr} {n cap i : Nat} {l : List Nat} (hs : a.eval s = .slice A n cap) (hlo : a.eval lo = .int .i64 (i : Int)) (hi : i ≤ n) (hn : n ≤ cap) (hl : l.length = n) (hb : Bytes w A l)
    (h : ∀ x, Bytes w x (l.drop i) → wpList Try.prog ops Q rest (a.put o.dst (.slice x (n - i) (cap - i))) w) : wpList Try.prog ops Q (o :: rest) a w :=
  wpList_plain hgd fun _ hK => by
    have hrun := run_slice_l (P := Try.prog) w 30 A n cap slice_under .i64 (i : Int) (by omega) (by omega)
    unfold Oper.wp execOp
    simp only [ho, hs, hlo, Option.map_some, Option.map_none, Sem.run_bind, Sem.run_pure, Result.andThen_ok, run_sliceAt_slice (P := Try.prog) w 30 _ _ _ _ slice_under, hrun, slice_size, sliced, Int.toNat_natCast]
    exact hK _ _ (h _ (bytes_cut hb i cap (by omega) (by omega)))
end Go.Proofs.Ytfhcbdmmckjmaaa
