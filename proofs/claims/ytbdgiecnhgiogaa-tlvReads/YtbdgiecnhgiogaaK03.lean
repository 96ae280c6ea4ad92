/- Own texts, joined: Tlc, Put. -/
import Derived.Test.YtbdgiecnhgiogaaK00
import Derived.Test.YtbdgiecnhgiogaaK01
import Derived.Test.YtbdgiecnhgiogaaK02
import Derived.Deep.QuietTactic
import Derived.BigQuiet
import Derived.Test.YtbdgiecnhgiogaaRows
namespace Go.Proofs.Ytbdgiecnhgiogaa
open Go.ChangeShapes Go.WideShapes Go.ChangeAt Go.RowKit
set_option linter.unusedVariables false
/-- a cursor over n bytes at a, in block c, at place i -/
def CurAt (w : World) (c : Nat) (a : Option Addr) (n cap i : Nat) : Prop := w.heap[c]? = some (.cells #[.slice a n cap, .int .i64 (i : Int)] 83)
theorem CurAt.cells {w : World} {c : Nat} {a : Option Addr} {n cap i : Nat} (h : CurAt w c a n cap i) : w.cell? ⟨c, 0, none⟩ = some (.slice a n cap) ∧ w.cell? ⟨c, 1, none⟩ = some (.int .i64 (i : Int)) ∧ w.frozen? ⟨c, 1, none⟩ = false :=
  ⟨by rw [cell_of_row _ _ 0 _ _ _ h]; rfl, by rw [cell_of_row _ _ 1 _ _ _ h]; rfl, frozen_of_row _ _ 1 _ _ h⟩
theorem CurAt.to {w : World} {c : Nat} {a : Option Addr} {n cap i : Nat} (h : CurAt w c a n cap i) (j : Nat) : CurAt (w.setCell ⟨c, 1, none⟩ (.int .i64 (j : Int))) c a n cap j := by
  unfold CurAt
  rw [heap_setCell_same w c 1 _ _ _ h]; rfl
theorem Kept.set {g : Nat} {w wr : World} (h : Kept g g w wr) (j : Nat) (u : Value) : Kept g g w (wr.setCell ⟨g, j, none⟩ u) :=
  ⟨h.os, h.tape, h.output, by simp; exact h.size, fun k hk h1 h2 => (heap_setCell_other wr ⟨g, j, none⟩ k u h1).trans (h.block k hk h1 h2)⟩
theorem Kept.drewN {g k : Nat} {w wr : World} (h : Kept g k w wr) (n : Nat) : Kept g k w (wr.drewN n) := by
  induction n with
  | zero => exact h
  | succ n ih => exact ⟨ih.os, ih.tape, ih.output, ih.size, ih.block⟩
theorem CurAt.drewN {w : World} {c : Nat} {a : Option Addr} {n cap i : Nat} (h : CurAt w c a n cap i) (m : Nat) : CurAt (w.drewN m) c a n cap i := by
  unfold CurAt at *; simpa using h
theorem body_panic {P : Program} {fn : Func} {R : Ending → World → Prop} {a : Act} {w : World} {ch : List PanicEntry} (h : R (.panicked ch) w) (hd : a.defers = [] := by rfl) : bodyPost P fn R (.panic ch) a w := by
  unfold bodyPost
  exact ⟨hd, h⟩
/-- a panic with an error's number -/
abbrev errP (e : Int) : Ending := .panicked [{ v := .iface 38 (.int .i64 e), recovered := false }]
theorem dec_q (l : List Nat) (n u k e : Nat) (a : Option Addr) (cap : Nat) (w : World) (e1 : l.length = n) (hd : dec 0 0 l = (u, k, e)) (hb : Bytes w a l) (hl : l.length ≤ maxLen) :
    Calls Try.prog 56 #[.slice a n cap] w fun x w' => x = .returned (.tuple #[.int .u64 u, .int .i64 k, .int .i64 e]) ∧ w' = w :=
  (dec_at l n u k e a cap w e1 hd hb hl).mono fun _ _ ⟨h1, h2⟩ => ⟨h1, h2.symm⟩
set_option maxRecDepth 20000 in
set_option maxHeartbeats 1000000 in
theorem done_any (c : Nat) (a : Option Addr) (n cap i : Nat) (w : World) (hc : CurAt w c a n cap i) :
    Calls Try.prog 39 #[.pointer (some ⟨c, 0, none⟩)] w fun r w' => r = .returned (.bool (decide (i = n))) ∧ ∃ m, w' = w.drewN m := by
  obtain ⟨h0, h1, _⟩ := hc.cells
  clear hc
  go_enter Try.func39, Try.ntmps39
  go_wp2
  go_quiet (fail)
  go_wp2
  go_ret
  exact ⟨ret_bool (by by_cases h : i = n <;> simp [h] <;> omega), nq, rfl⟩
set_option maxRecDepth 20000 in
set_option maxHeartbeats 1000000 in
theorem num_ok (l : List Nat) (b off n cap i u k c : Nat) (w : World) (hc : CurAt w c (some ⟨b, off, none⟩) n cap i) (hn : l.length = n) (hb : Bytes w (some ⟨b, off, none⟩) l) (hcap : n ≤ cap) (hl : n ≤ 1024) (hi : i ≤ n) (hd : dec 0 0 (l.drop i) = (u, k, 0)) :
    Calls Try.prog 49 #[.pointer (some ⟨c, 0, none⟩)] w fun r w' => r = .returned (.int .u64 (u : Int)) ∧ CurAt w' c (some ⟨b, off, none⟩) n cap (i + k) ∧ Kept c c w w' := by
  obtain ⟨h0, h1, h2⟩ := hc.cells
  have HC : Hid (CurAt w c (some ⟨b, off, none⟩) n cap i) := hc
  have HD : Hid (_ = _) := hd
  have HBq : Hid (Bytes w (some ⟨b, off + i, none⟩) (l.drop i)) := hb.drop i
  have HL2 : Hid ((l.drop i).length = n - i) := by show _ = _; rw [List.length_drop, hn]
  have HM2 : Hid ((l.drop i).length ≤ maxLen) := by show _ ≤ _; rw [List.length_drop, hn]; unfold maxLen; omega
  have hf := vdec_form (l.drop i) (fun x hx => hb.mem x (List.mem_of_mem_drop hx)) (by rw [hd])
  rw [hd] at hf
  simp only at hf
  obtain ⟨t1, t2, t3, t4, t5⟩ := hf
  rw [HL2.out] at t2
  have hin : i < n := by omega
  have hk2 : (i : Int) + (k : Int) ≤ 1024 := by omega
  clear hc hd hb t5 hn
  go_enter Try.func49, Try.ntmps49
  go_wp2
  go_quiet ((go_at_call 56; exact Calls.quiet_of_same (dec_q (l.drop i) _ u k 0 _ _ _ HL2.out HD.out (HBq.out.drewN _) HM2.out)))
  go_wp2
  go_ret
  refine ⟨rfl, ?_, ((Kept.refl c c w).drewN nq).set 1 _⟩
  rw [← Int.natCast_add]
  exact CurAt.to (w := w.drewN nq) (HC.out.drewN nq) (i + k)
set_option maxRecDepth 20000 in
set_option maxHeartbeats 1000000 in
theorem num_bad (l : List Nat) (b off n cap i e c : Nat) (w : World) (hc : CurAt w c (some ⟨b, off, none⟩) n cap i) (hn : l.length = n) (hb : Bytes w (some ⟨b, off, none⟩) l) (hcap : n ≤ cap) (hl : n ≤ 1024) (hi : i ≤ n) (he : e ≠ 0) (hd : dec 0 0 (l.drop i) = (0, 0, e)) :
    Calls Try.prog 49 #[.pointer (some ⟨c, 0, none⟩)] w fun r w' => r = errP e ∧ ∃ m, w' = w.drewN m := by
  obtain ⟨h0, h1, h2⟩ := hc.cells
  have HD : Hid (_ = _) := hd
  have HBq : Hid (Bytes w (some ⟨b, off + i, none⟩) (l.drop i)) := hb.drop i
  have HL2 : Hid ((l.drop i).length = n - i) := by show _ = _; rw [List.length_drop, hn]
  have HM2 : Hid ((l.drop i).length ≤ maxLen) := by show _ ≤ _; rw [List.length_drop, hn]; unfold maxLen; omega
  have heb : ((e : Int) != 0) = true := by simp; omega
  by_cases hin : i < n
  · clear hc hd hb
    go_enter Try.func49, Try.ntmps49
    go_wp2
    go_quiet ((go_at_call 56; exact Calls.quiet_of_same (dec_q (l.drop i) _ 0 0 e _ _ _ HL2.out HD.out (HBq.out.drewN _) HM2.out)))
    go_wp2
    exact body_panic ⟨rfl, nq, rfl⟩
  · have HNIL : Hid (l.drop i = []) := by show _ = _; exact List.drop_eq_nil_of_le (by rw [hn]; omega)
    have HD3 : Hid (dec 0 0 [] = (0, 0, e)) := by have h := HD.out; rw [HNIL.out] at h; exact h
    obtain rfl : i = n := by omega
    clear hc hd hb
    go_enter Try.func49, Try.ntmps49
    go_wp2
    go_quiet ((go_at_call 56; exact Calls.quiet_of_same (dec_q [] _ 0 0 e _ _ _ (by simp) HD3.out (Bytes.none _ _) (by simp))))
    all_goals go_wp2
    all_goals exact body_panic ⟨rfl, nq, rfl⟩
end Go.Proofs.Ytbdgiecnhgiogaa
namespace Go.Proofs.Ytbdgiecnhgiogaa
open Go.ChangeShapes Go.WideShapes Go.ChangeAt Go.RowKit
theorem Try.info5 : (Try.prog.info? 5).map (fun i => (i.zero, i.size, i.bytes)) = some (some (.int .u8 0), 1, 1) := by kernel_rfl
set_option maxRecDepth 20000 in
set_option maxHeartbeats 1000000 in
theorem put_any (u : Nat) (base : Nat) (v : Value) (n : Nat) (xs : List Value) (w : World) (hu : u ≤ 18446744073709551615) (hown : w.ownsRow base 5 1 v n xs) (hbase : base ≤ w.heap.size) (hn : n + 10 ≤ 140737488355328) :
    Calls Try.prog 57 #[v, .int .u64 u] w fun e w' => ∃ v', e = .returned v' ∧ w'.ownsRow base 5 1 v' (n + (enc u).length) (xs ++ B8 (enc u)) ∧ Below base w w' := by
  obtain ⟨i0, hi, hz0, hz1, hz2⟩ := info_parts Try.info5
  go_enter Try.func57, Try.ntmps57
  go_wp2
  go_loopw [0, 1] (fun vb vu wr => ∃ (f uj : Nat) (pre : List Nat), vu = .int .u64 uj ∧ uj ≤ u ∧ uj < 128 ^ (f + 1) ∧ encF 10 u = pre ++ encF (f + 1) uj ∧ pre.length + f = 9 ∧ wr.ownsRow base 5 1 vb (n + pre.length) (xs ++ B8 pre) ∧ Below base w wr) (fun _ vu _ => (intOf vu).toNat)
  case atStart => exact ⟨9, u, [], rfl, by omega, lt_pow10 u hu, rfl, rfl, by simpa [B8] using hown, Below.refl _ _⟩
  case round =>
    obtain ⟨f, uj, pre, rfl, huj, hp, hE, hf, ho, hbe⟩ := hrel
    have HE : Hid (_ = _) := hE
    have HP : Hid (_ < _) := hp
    clear hE hp hown
    have hsz := hbe.size
    by_cases hlt : uj < 128
    · have HL : Hid (enc u = pre ++ [uj]) := by
        show enc u = _
        unfold enc; rw [HE.out]; unfold encF; rw [if_pos hlt]
      have hu8 : (uj : Int) ≤ 255 := by omega
      clear HE HP
      go_wp2_with (at_builtin; refine wpList_append_own _ rfl _ _ 27 rfl base 5 i0 (.int .u8 0) 1 1 Try.underlying27 hi hz0 hz1 hz2 rfl (by decide) _ _ _ rfl (ho.alloc _) ⟨wr.heap.size, 0, none⟩ 1 1 [.int .u8 (uj : Int)] rfl rfl (cell_new _ _ _) (one_new _) (by unfold maxLen; omega) (by omega) (by simp; omega) ?_)
      intro v' w1 hown' hgrow _
      have hb1 := grown_row (hbe.alloc (by omega) _) (ho.alloc _) (by simp; omega) hgrow
      clear hgrow ho hbe
      go_wp2
      go_ret
      refine ⟨v', rfl, ?_, hb1⟩
      rw [HL.out, B8_append, List.length_append]
      exact hown'
    · have HL : Hid (encF 10 u = (pre ++ [128 + uj % 128]) ++ encF f (uj / 128)) := by
        show encF 10 u = _
        rw [HE.out]; conv => lhs; unfold encF
        rw [if_neg hlt]; simp
      have hf1 : 1 ≤ f := by
        have h2 := HP.out
        by_cases h3 : f = 0
        · subst h3; simp at h2; omega
        · omega
      have HP2 : Hid (uj / 128 < 128 ^ f) := by
        have h2 := HP.out
        rw [Nat.pow_succ] at h2
        exact Nat.div_lt_of_lt_mul (by rw [Nat.mul_comm]; exact h2)
      have HO : Hid (_ = _) := or128 uj
      clear HE HP
      go_wp2_with (at_builtin; refine wpList_append_own _ rfl _ _ 27 rfl base 5 i0 (.int .u8 0) 1 1 Try.underlying27 hi hz0 hz1 hz2 rfl (by decide) _ _ _ rfl (ho.alloc _) ⟨wr.heap.size, 0, none⟩ 1 1 [.int .u8 (bits .or .u8 (IntKind.u8.wrap (uj : Int)) 128)] rfl rfl (cell_new _ _ _) (one_new _) (by unfold maxLen; omega) (by omega) (by simp; omega) ?_)
      intro v' w1 hown' hgrow _
      have hb1 := grown_row (hbe.alloc (by omega) _) (ho.alloc _) (by simp; omega) hgrow
      clear hgrow ho hbe
      go_wp2
      go_roundw
      case rel =>
        refine ⟨f - 1, uj / 128, pre ++ [128 + uj % 128], by go_num, by omega, ?_, ?_, by simp; omega, ?_, hb1⟩
        · rw [show f - 1 + 1 = f from by omega]; exact HP2.out
        · rw [show f - 1 + 1 = f from by omega]; exact HL.out
        · rw [HO.out] at hown'
          rw [B8_append, List.length_append]
          exact hown'
      case measure => simp [intOf]; omega
end Go.Proofs.Ytbdgiecnhgiogaa
