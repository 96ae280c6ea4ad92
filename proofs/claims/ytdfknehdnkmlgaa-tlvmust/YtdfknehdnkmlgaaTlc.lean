/- tlv's cursor: done, number, text. -/
import Derived.Test.YtdfknehdnkmlgaaDec
import Derived.Test.YtdfknehdnkmlgaaTwo
import Derived.Test.YtdfknehdnkmlgaaTlm
import Derived.Deep.QuietTactic
import Derived.BigQuiet
import Derived.Test.YtdfknehdnkmlgaaNb
namespace Go.Proofs.Ytdfknehdnkmlgaa
open Go.ChangeShapes Go.WideShapes Go.ChangeAt Go.RowKit
set_option linter.unusedVariables false
/-- a cursor over n bytes at a, in block c, at place i -/
def CurAt (w : World) (c : Nat) (a : Option Addr) (n cap i : Nat) : Prop := w.heap[c]? = some (.cells #[.slice a n cap, .int .i64 (i : Int)] 53)
theorem CurAt.cells {w : World} {c : Nat} {a : Option Addr} {n cap i : Nat} (h : CurAt w c a n cap i) : w.cell? ⟨c, 0, none⟩ = some (.slice a n cap) ∧ w.cell? ⟨c, 1, none⟩ = some (.int .i64 (i : Int)) ∧ w.frozen? ⟨c, 1, none⟩ = false :=
  ⟨by rw [cell_of_row _ _ 0 _ _ _ h]; rfl, by rw [cell_of_row _ _ 1 _ _ _ h]; rfl, frozen_of_row _ _ 1 _ _ h⟩
theorem CurAt.to {w : World} {c : Nat} {a : Option Addr} {n cap i : Nat} (h : CurAt w c a n cap i) (j : Nat) : CurAt (w.setCell ⟨c, 1, none⟩ (.int .i64 (j : Int))) c a n cap j := by
  unfold CurAt
  rw [heap_setCell_same w c 1 _ _ _ h]; rfl
theorem Kept.set {g : Nat} {w wr : World} (h : Kept g g w wr) (j : Nat) (u : Value) : Kept g g w (wr.setCell ⟨g, j, none⟩ u) :=
  ⟨h.os, h.tape, h.output, by simp; exact h.size, fun k hk h1 h2 => (heap_setCell_other wr ⟨g, j, none⟩ k u h1).trans (h.block k hk h1 h2)⟩
theorem Kept.drewN {g k : Nat} {w wr : World} (h : Kept g k w wr) (n : Nat) : Kept g k w (wr.drewN n) := by
  induction n with
  | zero => exact h
  | succ n ih => exact ⟨ih.os, ih.tape, ih.output, ih.size, ih.block⟩
theorem CurAt.drewN {w : World} {c : Nat} {a : Option Addr} {n cap i : Nat} (h : CurAt w c a n cap i) (m : Nat) : CurAt (w.drewN m) c a n cap i := by
  unfold CurAt at *; simpa using h
theorem body_panic {P : Program} {fn : Func} {R : Ending → World → Prop} {a : Act} {w : World} {ch : List PanicEntry} (h : R (.panicked ch) w) (hd : a.defers = [] := by rfl) : bodyPost P fn R (.panic ch) a w := by
  unfold bodyPost
  exact ⟨hd, h⟩
/-- a panic with an error's number -/
abbrev errP (e : Int) : Ending := .panicked [{ v := .iface 28 (.int .i64 e), recovered := false }]
theorem dec_q (l : List Nat) (n u k e : Nat) (a : Option Addr) (cap : Nat) (w : World) (e1 : l.length = n) (hd : dec 0 0 l = (u, k, e)) (hb : Bytes w a l) (hl : l.length ≤ maxLen) :
    Calls Try.prog 38 #[.slice a n cap] w fun x w' => x = .returned (.tuple #[.int .u64 u, .int .i64 k, .int .i64 e]) ∧ w' = w :=
  (dec_at l n u k e a cap w e1 hd hb hl).mono fun _ _ ⟨h1, h2⟩ => ⟨h1, h2.symm⟩
set_option maxRecDepth 20000 in
set_option maxHeartbeats 1000000 in
theorem done_any (c : Nat) (a : Option Addr) (n cap i : Nat) (w : World) (hc : CurAt w c a n cap i) :
    Calls Try.prog 28 #[.pointer (some ⟨c, 0, none⟩)] w fun r w' => r = .returned (.bool (decide (i = n))) ∧ ∃ m, w' = w.drewN m := by
  obtain ⟨h0, h1, _⟩ := hc.cells
  clear hc
  go_enter Try.func28, Try.ntmps28
  go_wp2
  go_quiet (fail)
  go_wp2
  go_ret
  exact ⟨ret_bool (by by_cases h : i = n <;> simp [h] <;> omega), nq, rfl⟩
set_option maxRecDepth 20000 in
set_option maxHeartbeats 1000000 in
theorem num_ok (l : List Nat) (b off n cap i u k c : Nat) (w : World) (hc : CurAt w c (some ⟨b, off, none⟩) n cap i) (hn : l.length = n) (hb : Bytes w (some ⟨b, off, none⟩) l) (hcap : n ≤ cap) (hl : n ≤ 1024) (hi : i ≤ n) (hd : dec 0 0 (l.drop i) = (u, k, 0)) :
    Calls Try.prog 34 #[.pointer (some ⟨c, 0, none⟩)] w fun r w' => r = .returned (.int .u64 (u : Int)) ∧ CurAt w' c (some ⟨b, off, none⟩) n cap (i + k) ∧ Kept c c w w' := by
  obtain ⟨h0, h1, h2⟩ := hc.cells
  have HC : Hid (CurAt w c (some ⟨b, off, none⟩) n cap i) := hc
  have HD : Hid (_ = _) := hd
  have HBq : Hid (Bytes w (some ⟨b, off + i, none⟩) (l.drop i)) := hb.drop i
  have HL2 : Hid ((l.drop i).length = n - i) := by show _ = _; rw [List.length_drop, hn]
  have HM2 : Hid ((l.drop i).length ≤ maxLen) := by show _ ≤ _; rw [List.length_drop, hn]; unfold maxLen; omega
  have hf := dec_form (l.drop i) (fun x hx => hb.mem x (List.mem_of_mem_drop hx)) (by rw [hd])
  rw [hd] at hf
  simp only at hf
  obtain ⟨t1, t2, t3, t4, t5⟩ := hf
  rw [HL2.out] at t2
  have hin : i < n := by omega
  have hk2 : (i : Int) + (k : Int) ≤ 1024 := by omega
  clear hc hd hb t5 hn
  go_enter Try.func34, Try.ntmps34
  go_wp2
  go_quiet ((go_at_call 38; exact Calls.quiet_of_same (dec_q (l.drop i) _ u k 0 _ _ _ HL2.out HD.out (HBq.out.drewN _) HM2.out)))
  go_wp2
  go_ret
  refine ⟨rfl, ?_, ((Kept.refl c c w).drewN nq).set 1 _⟩
  rw [← Int.natCast_add]
  exact CurAt.to (w := w.drewN nq) (HC.out.drewN nq) (i + k)
set_option maxRecDepth 20000 in
set_option maxHeartbeats 1000000 in
theorem num_bad (l : List Nat) (b off n cap i e c : Nat) (w : World) (hc : CurAt w c (some ⟨b, off, none⟩) n cap i) (hn : l.length = n) (hb : Bytes w (some ⟨b, off, none⟩) l) (hcap : n ≤ cap) (hl : n ≤ 1024) (hi : i ≤ n) (he : e ≠ 0) (hd : dec 0 0 (l.drop i) = (0, 0, e)) :
    Calls Try.prog 34 #[.pointer (some ⟨c, 0, none⟩)] w fun r w' => r = errP e ∧ ∃ m, w' = w.drewN m := by
  obtain ⟨h0, h1, h2⟩ := hc.cells
  have HD : Hid (_ = _) := hd
  have HBq : Hid (Bytes w (some ⟨b, off + i, none⟩) (l.drop i)) := hb.drop i
  have HL2 : Hid ((l.drop i).length = n - i) := by show _ = _; rw [List.length_drop, hn]
  have HM2 : Hid ((l.drop i).length ≤ maxLen) := by show _ ≤ _; rw [List.length_drop, hn]; unfold maxLen; omega
  have heb : ((e : Int) != 0) = true := by simp; omega
  by_cases hin : i < n
  · clear hc hd hb
    go_enter Try.func34, Try.ntmps34
    go_wp2
    go_quiet ((go_at_call 38; exact Calls.quiet_of_same (dec_q (l.drop i) _ 0 0 e _ _ _ HL2.out HD.out (HBq.out.drewN _) HM2.out)))
    go_wp2
    exact body_panic ⟨rfl, nq, rfl⟩
  · have HNIL : Hid (l.drop i = []) := by show _ = _; exact List.drop_eq_nil_of_le (by rw [hn]; omega)
    have HD3 : Hid (dec 0 0 [] = (0, 0, e)) := by have h := HD.out; rw [HNIL.out] at h; exact h
    obtain rfl : i = n := by omega
    clear hc hd hb
    go_enter Try.func34, Try.ntmps34
    go_wp2
    go_quiet ((go_at_call 38; exact Calls.quiet_of_same (dec_q [] _ 0 0 e _ _ _ (by simp) HD3.out (Bytes.none _ _) (by simp))))
    all_goals go_wp2
    all_goals exact body_panic ⟨rfl, nq, rfl⟩
end Go.Proofs.Ytdfknehdnkmlgaa
