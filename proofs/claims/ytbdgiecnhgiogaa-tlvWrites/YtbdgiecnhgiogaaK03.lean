/- Own texts, joined: Nb, Tlc. -/
import Derived.Test.YtbdgiecnhgiogaaK00
import Derived.Test.YtbdgiecnhgiogaaK01
import Derived.Test.YtbdgiecnhgiogaaK02
import Derived.Deep.QuietTactic
import Derived.BigQuiet
namespace Go.Proofs.Ytbdgiecnhgiogaa
open Go.ChangeShapes Go.WideShapes Go.ChangeAt Go.RowKit
set_option linter.unusedVariables false
theorem below_next {w a b : World} (h : Below w.heap.size w a) (k : Below a.heap.size a b) : Below w.heap.size w b := h.trans (k.mono h.size)
theorem lt_of_heap {w : World} {k : Nat} {o : Obj} (h : w.heap[k]? = some o) : k < w.heap.size := by
  by_cases hh : k < w.heap.size
  · exact hh
  · rw [Array.getElem?_eq_none (by omega)] at h; cases h
theorem own_below {w w' : World} {base : Nat} {e : TypeId} {size : Nat} {v : Value} {n : Nat} {xs : List Value} (h : w.ownsRow base e size v n xs) (hb : Below w.heap.size w w') : w'.ownsRow base e size v n xs := by
  refine ⟨h.1, ?_⟩
  rcases h.2 with h2 | ⟨g, cap, cur, h3, h4, h5, h6⟩
  · exact .inl h2
  · refine .inr ⟨g, cap, cur, h3, h4, ?_, h6⟩
    have hlt : g < w.heap.size := by
      by_cases hh : g < w.heap.size
      · exact hh
      · rw [Array.getElem?_eq_none (by omega)] at h5; cases h5
    rw [hb.block g hlt]; exact h5
theorem grown_other {w w' : World} {base n k T : Nat} {v : Value} {xs : List Value} {c : Array Value} {m : Nat × Nat} (ho : w.ownsRow base 5 1 v n xs) (hg : w.grownBy w' v.ownBlock) (hk : w.heap[k]? = some (.cells c T m)) (hT : T ≠ 5) : w'.heap[k]? = some (.cells c T m) := by
  rw [hg.block k (lt_of_heap hk) (fun h => ?_)]
  · exact hk
  · rcases ho.2 with ⟨rfl, _⟩ | ⟨g, cap, cur, rfl, _, hh, _⟩
    · simp [Value.ownBlock] at h
    · have : k = g := by simpa [Value.ownBlock] using h
      subst this
      rw [hk] at hh
      cases hh
      exact hT rfl
/-- blocks that hold no bytes are as they were -/
def NB (w w' : World) : Prop := ∀ (k : Nat) (c : Array Value) (T : TypeId) (m : Nat × Nat), w.heap[k]? = some (Obj.cells c T m) → T ≠ 5 → w'.heap[k]? = some (Obj.cells c T m)
theorem NB.trans {a b c : World} (h : NB a b) (k : NB b c) : NB a c := fun j x T m h1 h2 => k j x T m (h j x T m h1 h2) h2
theorem NB.of_below {w w' : World} (h : Below w.heap.size w w') : NB w w' := fun j x T m h1 _ => (h.block j (lt_of_heap h1)).trans h1
theorem NB.of_grown {w w' : World} {base n : Nat} {v : Value} {xs : List Value} (ho : w.ownsRow base 5 1 v n xs) (hg : w.grownBy w' v.ownBlock) : NB w w' := fun j x T m h1 h2 => grown_other ho hg h1 h2
theorem NB.refl (w : World) : NB w w := fun _ _ _ _ h _ => h
end Go.Proofs.Ytbdgiecnhgiogaa
namespace Go.Proofs.Ytbdgiecnhgiogaa
open Go.ChangeShapes Go.WideShapes Go.ChangeAt Go.RowKit
set_option linter.unusedVariables false
/-- a cursor over n bytes at a, in block c, at place i -/
def CurAt (w : World) (c : Nat) (a : Option Addr) (n cap i : Nat) : Prop := w.heap[c]? = some (.cells #[.slice a n cap, .int .i64 (i : Int)] 83)
theorem CurAt.cells {w : World} {c : Nat} {a : Option Addr} {n cap i : Nat} (h : CurAt w c a n cap i) : w.cell? ⟨c, 0, none⟩ = some (.slice a n cap) ∧ w.cell? ⟨c, 1, none⟩ = some (.int .i64 (i : Int)) ∧ w.frozen? ⟨c, 1, none⟩ = false :=
  ⟨by rw [cell_of_row _ _ 0 _ _ _ h]; rfl, by rw [cell_of_row _ _ 1 _ _ _ h]; rfl, frozen_of_row _ _ 1 _ _ h⟩
theorem CurAt.to {w : World} {c : Nat} {a : Option Addr} {n cap i : Nat} (h : CurAt w c a n cap i) (j : Nat) : CurAt (w.setCell ⟨c, 1, none⟩ (.int .i64 (j : Int))) c a n cap j := by
  unfold CurAt
  rw [heap_setCell_same w c 1 _ _ _ h]; rfl
theorem Kept.set {g : Nat} {w wr : World} (h : Kept g g w wr) (j : Nat) (u : Value) : Kept g g w (wr.setCell ⟨g, j, none⟩ u) :=
  ⟨h.os, h.tape, h.output, by simp; exact h.size, fun k hk h1 h2 => (heap_setCell_other wr ⟨g, j, none⟩ k u h1).trans (h.block k hk h1 h2)⟩
theorem Kept.drewN {g k : Nat} {w wr : World} (h : Kept g k w wr) (n : Nat) : Kept g k w (wr.drewN n) := by
  induction n with
  | zero => exact h
  | succ n ih => exact ⟨ih.os, ih.tape, ih.output, ih.size, ih.block⟩
theorem CurAt.drewN {w : World} {c : Nat} {a : Option Addr} {n cap i : Nat} (h : CurAt w c a n cap i) (m : Nat) : CurAt (w.drewN m) c a n cap i := by
  unfold CurAt at *; simpa using h
theorem body_panic {P : Program} {fn : Func} {R : Ending → World → Prop} {a : Act} {w : World} {ch : List PanicEntry} (h : R (.panicked ch) w) (hd : a.defers = [] := by rfl) : bodyPost P fn R (.panic ch) a w := by
  unfold bodyPost
  exact ⟨hd, h⟩
/-- a panic with an error's number -/
abbrev errP (e : Int) : Ending := .panicked [{ v := .iface 38 (.int .i64 e), recovered := false }]
theorem dec_q (l : List Nat) (n u k e : Nat) (a : Option Addr) (cap : Nat) (w : World) (e1 : l.length = n) (hd : dec 0 0 l = (u, k, e)) (hb : Bytes w a l) (hl : l.length ≤ maxLen) :
    Calls Try.prog 56 #[.slice a n cap] w fun x w' => x = .returned (.tuple #[.int .u64 u, .int .i64 k, .int .i64 e]) ∧ w' = w :=
  (dec_at l n u k e a cap w e1 hd hb hl).mono fun _ _ ⟨h1, h2⟩ => ⟨h1, h2.symm⟩
set_option maxRecDepth 20000 in
set_option maxHeartbeats 1000000 in
theorem done_any (c : Nat) (a : Option Addr) (n cap i : Nat) (w : World) (hc : CurAt w c a n cap i) :
    Calls Try.prog 39 #[.pointer (some ⟨c, 0, none⟩)] w fun r w' => r = .returned (.bool (decide (i = n))) ∧ ∃ m, w' = w.drewN m := by
  obtain ⟨h0, h1, _⟩ := hc.cells
  clear hc
  go_enter Try.func39, Try.ntmps39
  go_wp2
  go_quiet (fail)
  go_wp2
  go_ret
  exact ⟨ret_bool (by by_cases h : i = n <;> simp [h] <;> omega), nq, rfl⟩
set_option maxRecDepth 20000 in
set_option maxHeartbeats 1000000 in
theorem num_ok (l : List Nat) (b off n cap i u k c : Nat) (w : World) (hc : CurAt w c (some ⟨b, off, none⟩) n cap i) (hn : l.length = n) (hb : Bytes w (some ⟨b, off, none⟩) l) (hcap : n ≤ cap) (hl : n ≤ 1024) (hi : i ≤ n) (hd : dec 0 0 (l.drop i) = (u, k, 0)) :
    Calls Try.prog 49 #[.pointer (some ⟨c, 0, none⟩)] w fun r w' => r = .returned (.int .u64 (u : Int)) ∧ CurAt w' c (some ⟨b, off, none⟩) n cap (i + k) ∧ Kept c c w w' := by
  obtain ⟨h0, h1, h2⟩ := hc.cells
  have HC : Hid (CurAt w c (some ⟨b, off, none⟩) n cap i) := hc
  have HD : Hid (_ = _) := hd
  have HBq : Hid (Bytes w (some ⟨b, off + i, none⟩) (l.drop i)) := hb.drop i
  have HL2 : Hid ((l.drop i).length = n - i) := by show _ = _; rw [List.length_drop, hn]
  have HM2 : Hid ((l.drop i).length ≤ maxLen) := by show _ ≤ _; rw [List.length_drop, hn]; unfold maxLen; omega
  have hf := vdec_form (l.drop i) (fun x hx => hb.mem x (List.mem_of_mem_drop hx)) (by rw [hd])
  rw [hd] at hf
  simp only at hf
  obtain ⟨t1, t2, t3, t4, t5⟩ := hf
  rw [HL2.out] at t2
  have hin : i < n := by omega
  have hk2 : (i : Int) + (k : Int) ≤ 1024 := by omega
  clear hc hd hb t5 hn
  go_enter Try.func49, Try.ntmps49
  go_wp2
  go_quiet ((go_at_call 56; exact Calls.quiet_of_same (dec_q (l.drop i) _ u k 0 _ _ _ HL2.out HD.out (HBq.out.drewN _) HM2.out)))
  go_wp2
  go_ret
  refine ⟨rfl, ?_, ((Kept.refl c c w).drewN nq).set 1 _⟩
  rw [← Int.natCast_add]
  exact CurAt.to (w := w.drewN nq) (HC.out.drewN nq) (i + k)
set_option maxRecDepth 20000 in
set_option maxHeartbeats 1000000 in
theorem num_bad (l : List Nat) (b off n cap i e c : Nat) (w : World) (hc : CurAt w c (some ⟨b, off, none⟩) n cap i) (hn : l.length = n) (hb : Bytes w (some ⟨b, off, none⟩) l) (hcap : n ≤ cap) (hl : n ≤ 1024) (hi : i ≤ n) (he : e ≠ 0) (hd : dec 0 0 (l.drop i) = (0, 0, e)) :
    Calls Try.prog 49 #[.pointer (some ⟨c, 0, none⟩)] w fun r w' => r = errP e ∧ ∃ m, w' = w.drewN m := by
  obtain ⟨h0, h1, h2⟩ := hc.cells
  have HD : Hid (_ = _) := hd
  have HBq : Hid (Bytes w (some ⟨b, off + i, none⟩) (l.drop i)) := hb.drop i
  have HL2 : Hid ((l.drop i).length = n - i) := by show _ = _; rw [List.length_drop, hn]
  have HM2 : Hid ((l.drop i).length ≤ maxLen) := by show _ ≤ _; rw [List.length_drop, hn]; unfold maxLen; omega
  have heb : ((e : Int) != 0) = true := by simp; omega
  by_cases hin : i < n
  · clear hc hd hb
    go_enter Try.func49, Try.ntmps49
    go_wp2
    go_quiet ((go_at_call 56; exact Calls.quiet_of_same (dec_q (l.drop i) _ 0 0 e _ _ _ HL2.out HD.out (HBq.out.drewN _) HM2.out)))
    go_wp2
    exact body_panic ⟨rfl, nq, rfl⟩
  · have HNIL : Hid (l.drop i = []) := by show _ = _; exact List.drop_eq_nil_of_le (by rw [hn]; omega)
    have HD3 : Hid (dec 0 0 [] = (0, 0, e)) := by have h := HD.out; rw [HNIL.out] at h; exact h
    obtain rfl : i = n := by omega
    clear hc hd hb
    go_enter Try.func49, Try.ntmps49
    go_wp2
    go_quiet ((go_at_call 56; exact Calls.quiet_of_same (dec_q [] _ 0 0 e _ _ _ (by simp) HD3.out (Bytes.none _ _) (by simp))))
    all_goals go_wp2
    all_goals exact body_panic ⟨rfl, nq, rfl⟩
end Go.Proofs.Ytbdgiecnhgiogaa
