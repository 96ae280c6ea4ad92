/- Own texts, joined: Od6. -/
import Derived.Test.YtmjppeljpifjpaaGreatK17
namespace Go.Proofs.YtmjppeljpifjpaaGreat
open Go.ChangeShapes Go.WideShapes Go.ChangeAt Go.RowKit
set_option linter.unusedVariables false
set_option linter.unusedSimpArgs false
/-- the function value v tells f of a valid state and a right event of the kind k, in whatever world comes -/
def RefOk (lo : Nat) (w : World) (v : Value) (k : Int) : Prop :=
  ∃ (g : Nat) (cb : Array Value), v = .func (Fn.func g) #[] cb ∧ (∀ (a : Array Value) (x : World), (callFunc g a).run Tryz.prog x = .ok (.enter g a) x) ∧
    ∀ (x : World) (s : St) (e : Ev) (a : Option Addr) (n cap : Nat), Same lo w x → s.lines.length = n → Lns x a s.lines → vldB s = true → chk 5 e = 0 → e.kind = k →
      Calls Tryz.prog g (#[.agg (stA s (.slice a n cap)), .agg (evA e)] ++ cb) x fun r x' => r = .returned (.int .i64 (refR s e)) ∧ Below x.heap.size x x'
theorem RefOk.keep {lo : Nat} {w x : World} {v : Value} {k : Int} (h : RefOk lo w v k) (hb : Same lo w x) : RefOk lo x v k := by
  obtain ⟨g, cb, h1, h2, h3⟩ := h
  exact ⟨g, cb, h1, h2, fun y s e a n cap hy => h3 y s e a n cap (hb.trans hy)⟩
theorem cf_never (a : Array Value) (w : World) : (callFunc 70 a).run Tryz.prog w = .ok (.enter 70 a) w := by kernel_rfl
theorem cf_refuseAdd (a : Array Value) (w : World) : (callFunc 74 a).run Tryz.prog w = .ok (.enter 74 a) w := by kernel_rfl
theorem cf_money1 (a : Array Value) (w : World) : (callFunc 110 a).run Tryz.prog w = .ok (.enter 110 a) w := by kernel_rfl
theorem cf_taking1 (a : Array Value) (w : World) : (callFunc 111 a).run Tryz.prog w = .ok (.enter 111 a) w := by kernel_rfl
set_option maxRecDepth 20000 in
theorem never_any (s : St) (e : Ev) (v : Value) (w : World) : Calls Tryz.prog 70 #[.agg (stA s v), .agg (evA e)] w fun r w' => r = .returned (.int .i64 0) ∧ Below w.heap.size w w' := by
  have HB : ∀ O1 O2, Hid (Below w.heap.size w ((w.alloc O1).alloc O2)) := fun O1 O2 => ((Below.refl _ _).alloc (Nat.le_refl _) _).alloc (by simp) _
  go_enter Tryz.func70, Tryz.ntmps70
  go_wp2
  go_ret
  exact ⟨rfl, (HB _ _).out⟩
theorem never_ref (lo : Nat) (w : World) (k : Int) (h2 : k ≠ 2) (h3 : k ≠ 3) (h4 : k ≠ 4) (h6 : k ≠ 6) (h7 : k ≠ 7) : RefOk lo w (.func (Fn.func 70) #[] #[]) k := by
  refine ⟨_, _, rfl, cf_never, fun x s e a n cap _ _ _ _ _ hk => ?_⟩
  have h0 : refR s e = 0 := by
    unfold refR
    rw [if_neg (by omega), if_neg (by omega), if_neg (by omega), if_neg (by omega), if_neg (by omega)]
  rw [h0]
  exact never_any s e _ x
/-- a state in block b, an event in the next, beside what lay there -/
structure SE (w : World) (s : St) (e : Ev) (a : Option Addr) (n cap : Nat) (x : World) : Prop where
  st : StAt x w.heap.size s (.slice a n cap)
  ev : EvAt x (w.heap.size + 1) e
  ln : Lns x a s.lines
  bel : Below w.heap.size w x
theorem SE.keep {w x y : World} {s : St} {e : Ev} {a : Option Addr} {n cap : Nat} (h : SE w s e a n cap x) (hb : Below x.heap.size x y) : SE w s e a n cap y :=
  ⟨h.st.after hb, h.ev.after hb, h.ln.keep hb, h.bel.trans (hb.mono h.bel.size)⟩
theorem SE.new (w : World) (s : St) (e : Ev) (a : Option Addr) (n cap : Nat) (h : Lns w a s.lines) : SE w s e a n cap ((w.alloc (.cells (stA s (.slice a n cap)) 25)).alloc (.cells (evA e) 37)) := by
  have b1 : Below w.heap.size w ((w.alloc (.cells (stA s (.slice a n cap)) 25)).alloc (.cells (evA e) 37)) := ((Below.refl _ _).alloc (Nat.le_refl _) _).alloc (by simp) _
  refine ⟨(StAt.new w s _).after ((Below.refl _ _).alloc (Nat.le_refl _) _), ?_, h.keep b1, b1⟩
  have := evAt_new (w.alloc (.cells (stA s (.slice a n cap)) 25)) e
  simpa using this
theorem se_new (w : World) (s : St) (e : Ev) (a : Option Addr) (n cap : Nat) (h : Lns w a s.lines) : ∃ W, (w.alloc (.cells (stA s (.slice a n cap)) 25)).alloc (.cells (evA e) 37) = W ∧ SE w s e a n cap W := ⟨_, rfl, SE.new w s e a n cap h⟩
theorem SE.drew {w x : World} {s : St} {e : Ev} {a : Option Addr} {n cap : Nat} (h : SE w s e a n cap x) : SE w s e a n cap x.drew := h.keep (Below.refl _ _).drew
theorem EvAt.cell {w : World} {b : Nat} {e : Ev} (h : EvAt w b e) (i : Nat) (x : Value) (hx : (evA e)[i]? = some x) : w.cell? ⟨b, i, none⟩ = some x := by
  rw [cell_of_row w b i (evA e) 37 (0, 0) h]; exact hx
/-- what is left of money -/
def LeftOk (w : World) (v : Value) (f : St → Int) : Prop :=
  ∃ (g : Nat), v = .func (Fn.func g) #[] #[] ∧ (∀ (a : Array Value) (x : World), (callFunc g a).run Tryz.prog x = .ok (.enter g a) x) ∧
    ∀ (x : World) (s : St) (a : Option Addr) (n cap : Nat), s.lines.length = n → Lns x a s.lines → vldB s = true →
      Calls Tryz.prog g #[.agg (stA s (.slice a n cap))] x fun r x' => r = .returned (.int .i64 (f s)) ∧ Below x.heap.size x x'
theorem cf_unpaidRest (a : Array Value) (w : World) : (callFunc 77 a).run Tryz.prog w = .ok (.enter 77 a) w := by kernel_rfl
theorem cf_keptRest (a : Array Value) (w : World) : (callFunc 85 a).run Tryz.prog w = .ok (.enter 85 a) w := by kernel_rfl
theorem cf_unshippedRest (a : Array Value) (w : World) : (callFunc 80 a).run Tryz.prog w = .ok (.enter 80 a) w := by kernel_rfl
theorem cf_ordered (a : Array Value) (w : World) : (callFunc 83 a).run Tryz.prog w = .ok (.enter 83 a) w := by kernel_rfl
theorem vld_due {s : St} (h : vldB s = true) : linesB s.lines = true ∧ 0 ≤ s.tax ∧ s.tax ≤ 5000 ∧ 0 ≤ s.paid ∧ s.paid ≤ dueS s ∧ 0 ≤ s.refunded ∧ s.refunded ≤ s.paid ∧ dueS s ≤ 240000000000000 := by
  simp only [vldB, bndS, Bool.and_eq_true, wit_true] at h
  have ht : 0 ≤ s.tax ∧ s.tax ≤ 5000 := by omega
  have := due_bound h.2.1 ht.1 ht.2
  exact ⟨h.2.1, ht.1, ht.2, by omega, by omega, by omega, by omega, by omega⟩
set_option maxRecDepth 20000 in
set_option maxHeartbeats 1000000 in
theorem keptRest_any (s : St) (a : Option Addr) (n cap : Nat) (w : World) (hv : vldB s = true) : Calls Tryz.prog 85 #[.agg (stA s (.slice a n cap))] w fun r w' => r = .returned (.int .i64 (s.paid - s.refunded)) ∧ Below w.heap.size w w' := by
  obtain ⟨_, _, _, p1, p2, f1, f2, d2⟩ := vld_due hv
  have hp : s.paid ≤ 240000000000000 := by omega
  clear hv p2 d2
  unfold stA
  go_enter Tryz.func85, Tryz.ntmps85
  go_wp2
  go_ret
  exact ⟨rfl, (Below.refl _ _).alloc (Nat.le_refl _) _⟩
set_option maxRecDepth 20000 in
set_option maxHeartbeats 4000000 in
theorem unpaidRest_any (s : St) (a : Option Addr) (n cap : Nat) (w : World) (hn : s.lines.length = n) (hl : Lns w a s.lines) (hv : vldB s = true) : Calls Tryz.prog 77 #[.agg (stA s (.slice a n cap))] w fun r w' => r = .returned (.int .i64 (dueS s - s.paid)) ∧ Below w.heap.size w w' := by
  obtain ⟨l1, t1, t2, p1, p2, f1, f2, d2⟩ := vld_due hv
  have HE := (StC.new w s a n cap hl).drew
  obtain ⟨E, hE⟩ : ∃ E, StC w w.heap.size s a n cap = E := ⟨_, rfl⟩
  have R : Hid (∀ w2, E w2 → w2.cell? ⟨w.heap.size, 6, none⟩ = some (.int .i64 s.paid)) := fun w2 h => by rw [← hE] at h; exact h.1.cell 6 _ rfl
  have RS : Hid (∀ w2, E w2 → StAt w2 w.heap.size s (.slice a n cap)) := fun w2 h => by rw [← hE] at h; exact h.1
  have HBel : Hid (∀ w2, E w2 → Below w.heap.size w w2) := fun w2 h => by rw [← hE] at h; exact h.2.2
  have HLn : Hid (∀ w2, E w2 → Lns w2 a s.lines) := fun w2 h => by rw [← hE] at h; exact h.2.1
  have HK : Hid (∀ w1 w2, E w1 → Below w1.heap.size w1 w2 → E w2) := fun w1 w2 h h2 => by rw [← hE] at h ⊢; exact h.keep h2
  have CD : Hid (∀ w2, E w2 → Calls Tryz.prog 36 #[.agg (stA s (.slice a n cap))] w2 fun e w' => e = .returned (.int .i64 (dueS s)) ∧ E w') := fun w2 h => (due_any s a n cap w2 hn (HLn.out w2 h) l1 t1 t2).mono fun e w' ⟨h1, h2⟩ => ⟨h1, HK.out _ _ h h2⟩
  obtain ⟨D, hD⟩ : ∃ D, dueS s = D := ⟨_, rfl⟩
  rw [hD] at CD p2 d2 ⊢
  rw [hE] at HE
  have HEE : Hid (E (World.drew _)) := HE
  clear hn hl hv hD hE HE l1 f1 f2
  go_enter Tryz.func77, Tryz.ntmps77
  go_wp2
  refine wp_region_quiet (C := E) (by kernel_rfl) (by kernel_rfl) HEE.out ?_
  simp only [List.toList_toArray]
  repeat (any_goals (first
    | go_big_quiet_skip
    | (go_big_quiet_want
       first
       | (refine quiet_val (v := .agg (stA s (.slice a n cap))) (fun w2 hw2 => exec_load_st (.tmp 1) rfl rfl (RS.out w2 hw2)) ?_
          go_big_quiet_on
          simp only [Act.put, List.setIfInBounds_toArray, List.set_cons_zero, List.set_cons_succ])
       | (refine quiet_val (v := ?_) (fun w2 hw2 => ?_) ?_
          rotate_left
          · (first | (go_simp; with_reducible rfl) | (have q1 := R.out w2 hw2; go_simp; with_reducible rfl))
          go_big_quiet_on
          simp only [Act.put, List.setIfInBounds_toArray, List.set_cons_zero, List.set_cons_succ])
       | (refine quiet_call (v := ?_) (f := ?_) (args := ?_) (fun w2 hw2 => ?_) (fun w2 hw2 => ?_) ?_
          rotate_left 3
          · (go_simp; refine ⟨?_, ?_⟩ <;> with_reducible rfl)
          · (skip; exact CD.out _ hw2)
          (go_big_quiet_on; simp only [Act.put, List.setIfInBounds_toArray, List.set_cons_zero, List.set_cons_succ])))))
  all_goals
    refine wpQuiet_nil ?_
    intro w3 hw3
    go_wp2
    go_ret
    exact ⟨ret_int (by first | rfl | exact wrap64_in (by omega) (by omega) | (rw [IntKind.wrap_i64]; omega)), HBel.out _ hw3⟩
theorem kept_left (w : World) : LeftOk w (.func (Fn.func 85) #[] #[]) (fun s => s.paid - s.refunded) := ⟨_, rfl, cf_keptRest, fun x s a n cap _ _ hv => keptRest_any s a n cap x hv⟩
theorem unpaid_left (w : World) : LeftOk w (.func (Fn.func 77) #[] #[]) (fun s => dueS s - s.paid) := ⟨_, rfl, cf_unpaidRest, fun x s a n cap hn hl hv => unpaidRest_any s a n cap x hn hl hv⟩
end Go.Proofs.YtmjppeljpifjpaaGreat
