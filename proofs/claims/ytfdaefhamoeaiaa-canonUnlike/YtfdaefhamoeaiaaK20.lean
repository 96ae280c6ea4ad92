/- Own texts, joined: Tlm, Tlc, Put. -/
import Derived.Test.YtfdaefhamoeaiaaK19
import Derived.Deep.QuietTactic
import Derived.BigQuiet
import Derived.Test.YtfdaefhamoeaiaaK11
import Derived.Test.YtfdaefhamoeaiaaRows
import Derived.Test.YtfdaefhamoeaiaaK00
namespace Go.Proofs.Ytfdaefhamoeaiaa
open Go.ChangeShapes Go.WideShapes Go.ChangeAt Go.RowKit
structure Fld where
  tag : Int
  text : Bool
  num : Nat
  bytes : List Nat
/-- what is wrong with a field behind one of the tag last -/
def flt (f : Fld) (last : Int) : Nat :=
  if f.tag < 1 ∨ 31 < f.tag then 20 else if f.tag ≤ last then 21 else if f.text = true then (if f.bytes = [] then 22 else if 200 < f.bytes.length then 23 else 0) else if f.num = 0 then 22 else 0
/-- the bytes of a right field -/
def one (f : Fld) : List Nat := if f.text = true then enc (2 * f.tag.toNat + 1) ++ (enc f.bytes.length ++ f.bytes) else enc (2 * f.tag.toNat) ++ enc f.num
/-- what means nothing is nothing -/
def norm (f : Fld) : Fld := if f.text = true then { f with num := 0 } else { f with bytes := [] }
def fail (e : Nat) : Fld × Nat × Nat := (⟨0, false, 0, []⟩, 0, e)
/-- the field with which l begins: itself, how many bytes, the error -/
def next (l : List Nat) (last : Int) : Fld × Nat × Nat :=
  if (dec 0 0 l).2.2 ≠ 0 then fail (dec 0 0 l).2.2
  else if (dec 0 0 l).1 < 2 ∨ 63 < (dec 0 0 l).1 then fail 20
  else if ((dec 0 0 l).1 / 2 : Nat) ≤ last then fail 21
  else if (dec 0 0 (l.drop (dec 0 0 l).2.1)).2.2 ≠ 0 then fail (dec 0 0 (l.drop (dec 0 0 l).2.1)).2.2
  else if (dec 0 0 (l.drop (dec 0 0 l).2.1)).1 = 0 then fail 22
  else if (dec 0 0 l).1 % 2 = 0 then (⟨((dec 0 0 l).1 / 2 : Nat), false, (dec 0 0 (l.drop (dec 0 0 l).2.1)).1, []⟩, (dec 0 0 l).2.1 + (dec 0 0 (l.drop (dec 0 0 l).2.1)).2.1, 0)
  else if 200 < (dec 0 0 (l.drop (dec 0 0 l).2.1)).1 then fail 23
  else if l.length < (dec 0 0 l).2.1 + (dec 0 0 (l.drop (dec 0 0 l).2.1)).2.1 + (dec 0 0 (l.drop (dec 0 0 l).2.1)).1 then fail 10
  else (⟨((dec 0 0 l).1 / 2 : Nat), true, 0, (l.drop ((dec 0 0 l).2.1 + (dec 0 0 (l.drop (dec 0 0 l).2.1)).2.1)).take (dec 0 0 (l.drop (dec 0 0 l).2.1)).1⟩, (dec 0 0 l).2.1 + (dec 0 0 (l.drop (dec 0 0 l).2.1)).2.1 + (dec 0 0 (l.drop (dec 0 0 l).2.1)).1, 0)
/-- next, the two numbers read -/
def nextR (l : List Nat) (last : Int) (k n u m e2 : Nat) : Fld × Nat × Nat :=
  if k < 2 ∨ 63 < k then fail 20
  else if (k / 2 : Nat) ≤ last then fail 21
  else if e2 ≠ 0 then fail e2
  else if u = 0 then fail 22
  else if k % 2 = 0 then (⟨(k / 2 : Nat), false, u, []⟩, n + m, 0)
  else if 200 < u then fail 23
  else if l.length < n + m + u then fail 10
  else (⟨(k / 2 : Nat), true, 0, (l.drop (n + m)).take u⟩, n + m + u, 0)
theorem next_bad (l : List Nat) (last : Int) (k n e : Nat) (h : dec 0 0 l = (k, n, e)) (he : e ≠ 0) : next l last = fail e := by
  unfold next; rw [h, if_pos he]
theorem next_two (l : List Nat) (last : Int) (k n u m e2 : Nat) (h : dec 0 0 l = (k, n, 0)) (h2 : dec 0 0 (l.drop n) = (u, m, e2)) : next l last = nextR l last k n u m e2 := by
  unfold next nextR; rw [h]; simp only [ne_eq, not_true_eq_false, if_false]; rw [h2]
/-- what is read is a right field, and its bytes are those that would be written -/
theorem next_right (l : List Nat) (hl : ∀ x ∈ l, x < 256) (last : Int) (f : Fld) (n : Nat) (h : next l last = (f, n, 0)) :
    flt f last = 0 ∧ norm f = f ∧ one f = l.take n ∧ n ≤ l.length ∧ 2 ≤ n ∧ f.num ≤ 18446744073709551615 ∧ (∀ x ∈ f.bytes, x < 256) ∧ 1 ≤ f.tag ∧ f.tag ≤ 31 ∧ last < f.tag ∧ f.bytes.length ≤ 200 := by
  rcases hd : dec 0 0 l with ⟨k, n1, e1⟩
  by_cases he1 : e1 = 0
  · subst he1
    have d1 := vdec_form l hl (by rw [hd])
    rw [hd] at d1
    obtain ⟨a1, a2, a3, a4, a5⟩ := d1
    simp only at a1 a2 a3 a4 a5
    rcases hd2 : dec 0 0 (l.drop n1) with ⟨u, m, e2⟩
    rw [next_two l last k n1 u m e2 hd hd2] at h
    unfold nextR at h
    by_cases c1 : k < 2 ∨ 63 < k
    · rw [if_pos c1] at h; simp [fail] at h
    rw [if_neg c1] at h
    by_cases c2 : (k / 2 : Nat) ≤ last
    · rw [if_pos c2] at h; simp [fail] at h
    rw [if_neg c2] at h
    by_cases c3 : e2 = 0
    · subst c3
      rw [if_neg (by simp)] at h
      have hl2 : ∀ x ∈ l.drop n1, x < 256 := fun x hx => hl x (List.mem_of_mem_drop hx)
      have d2 := vdec_form (l.drop n1) hl2 (by rw [hd2])
      rw [hd2] at d2
      obtain ⟨b1, b2, b3, b4, b5⟩ := d2
      simp only [List.length_drop] at b1 b2 b3 b4 b5
      by_cases c4 : u = 0
      · rw [if_pos c4] at h; simp [fail] at h
      rw [if_neg c4] at h
      by_cases c5 : k % 2 = 0
      · rw [if_pos c5] at h
        obtain ⟨rfl, h'⟩ := Prod.mk.inj h
        obtain ⟨rfl, _⟩ := Prod.mk.inj h'
        refine ⟨?_, rfl, ?_, by omega, by omega, b4, by simp, by show (1 : Int) ≤ ((k / 2 : Nat) : Int); omega, by show ((k / 2 : Nat) : Int) ≤ 31; omega, by show last < ((k / 2 : Nat) : Int); omega, by simp⟩
        · unfold flt
          rw [if_neg (by show ¬ (((k / 2 : Nat) : Int) < 1 ∨ 31 < ((k / 2 : Nat) : Int)); omega), if_neg c2, if_neg (by simp), if_neg c4]
        · unfold one
          rw [if_neg (by simp)]
          show enc (2 * (((k / 2 : Nat) : Int)).toNat) ++ enc u = _
          rw [Int.toNat_natCast, show 2 * (k / 2) = k from by omega, a5, b5, ← List.take_add]
      · rw [if_neg c5] at h
        by_cases c6 : 200 < u
        · rw [if_pos c6] at h; simp [fail] at h
        rw [if_neg c6] at h
        by_cases c7 : l.length < n1 + m + u
        · rw [if_pos c7] at h; simp [fail] at h
        rw [if_neg c7] at h
        obtain ⟨rfl, h'⟩ := Prod.mk.inj h
        obtain ⟨rfl, _⟩ := Prod.mk.inj h'
        have hlen : ((l.drop (n1 + m)).take u).length = u := by simp; omega
        refine ⟨?_, rfl, ?_, by omega, by omega, by simp, fun x hx => hl x (List.mem_of_mem_drop (List.mem_of_mem_take hx)), by show (1 : Int) ≤ ((k / 2 : Nat) : Int); omega, by show ((k / 2 : Nat) : Int) ≤ 31; omega, by show last < ((k / 2 : Nat) : Int); omega, by show ((l.drop (n1 + m)).take u).length ≤ 200; omega⟩
        · unfold flt
          rw [if_neg (by show ¬ (((k / 2 : Nat) : Int) < 1 ∨ 31 < ((k / 2 : Nat) : Int)); omega), if_neg c2, if_pos rfl]
          show (if (l.drop (n1 + m)).take u = [] then 22 else if 200 < ((l.drop (n1 + m)).take u).length then 23 else 0) = 0
          rw [if_neg (by intro h0; rw [h0] at hlen; simp at hlen; omega), if_neg (by omega)]
        · unfold one
          rw [if_pos rfl]
          show enc (2 * (((k / 2 : Nat) : Int)).toNat + 1) ++ (enc ((l.drop (n1 + m)).take u).length ++ (l.drop (n1 + m)).take u) = _
          rw [hlen, Int.toNat_natCast, show 2 * (k / 2) + 1 = k from by omega, a5, b5, show n1 + m + u = n1 + (m + u) from by omega, List.take_add, List.take_add, List.drop_drop]
    · rw [if_pos c3] at h; simp [fail] at h; omega
  · rw [next_bad l last k n1 e1 hd he1] at h
    simp [fail] at h; omega
/-- what is written is read -/
theorem next_one (f : Fld) (last : Int) (r : List Nat) (hn : f.num ≤ 18446744073709551615) (h : flt f last = 0) : next (one f ++ r) last = (norm f, (one f).length, 0) := by
  have h1 : ¬ (f.tag < 1 ∨ 31 < f.tag) := fun hc => by unfold flt at h; rw [if_pos hc] at h; cases h
  have h2 : ¬ (f.tag ≤ last) := fun hc => by unfold flt at h; rw [if_neg h1, if_pos hc] at h; cases h
  obtain ⟨T, hT⟩ : ∃ T : Nat, f.tag = T := ⟨f.tag.toNat, by omega⟩
  unfold flt at h
  rw [if_neg h1, if_neg h2] at h
  obtain ⟨tag, text, num, bytes⟩ := f
  simp only at hT h1 h2 h hn
  subst hT
  cases text with
  | true =>
    rw [if_pos rfl] at h
    have h3 : bytes ≠ [] := fun hc => by rw [if_pos hc] at h; cases h
    rw [if_neg h3] at h
    have h4 : ¬ 200 < bytes.length := fun hc => by rw [if_pos hc] at h; cases h
    have h5 : 0 < bytes.length := List.length_pos_iff.2 h3
    have e0 : one ⟨(T : Int), true, num, bytes⟩ = enc (2 * T + 1) ++ (enc bytes.length ++ bytes) := by unfold one; rw [if_pos rfl]; simp only [Int.toNat_natCast]
    rw [e0, List.append_assoc, List.append_assoc]
    have d1 := dec_back (2 * T + 1) (enc bytes.length ++ (bytes ++ r)) (by omega)
    have d2 : dec 0 0 ((enc (2 * T + 1) ++ (enc bytes.length ++ (bytes ++ r))).drop (enc (2 * T + 1)).length) = (bytes.length, (enc bytes.length).length, 0) := by
      rw [List.drop_left]; exact dec_back _ _ (by omega)
    rw [next_two _ last _ _ _ _ _ d1 d2]
    unfold nextR
    rw [if_neg (by omega), if_neg (by rw [show (2 * T + 1) / 2 = T from by omega]; exact h2), if_neg (by simp), if_neg (by omega), if_neg (by omega), if_neg (by omega), if_neg (by simp; omega)]
    simp only [norm, if_true]
    rw [show (2 * T + 1) / 2 = T from by omega]
    refine Prod.ext ?_ (Prod.ext (by simp; omega) rfl)
    show Fld.mk _ _ _ _ = Fld.mk _ _ _ _
    congr 1
    rw [show (enc (2 * T + 1)).length + (enc bytes.length).length = (enc (2 * T + 1) ++ enc bytes.length).length from by simp, ← List.append_assoc, List.drop_left, List.take_left]
  | false =>
    rw [if_neg (by simp)] at h
    have h3 : num ≠ 0 := fun hc => by rw [if_pos hc] at h; cases h
    have e0 : one ⟨(T : Int), false, num, bytes⟩ = enc (2 * T) ++ enc num := by unfold one; rw [if_neg (by simp)]; simp only [Int.toNat_natCast]
    rw [e0, List.append_assoc]
    have d1 := dec_back (2 * T) (enc num ++ r) (by omega)
    have d2 : dec 0 0 ((enc (2 * T) ++ (enc num ++ r)).drop (enc (2 * T)).length) = (num, (enc num).length, 0) := by
      rw [List.drop_left]; exact dec_back _ _ hn
    rw [next_two _ last _ _ _ _ _ d1 d2]
    unfold nextR
    rw [if_neg (by omega), if_neg (by rw [show 2 * T / 2 = T from by omega]; exact h2), if_neg (by simp), if_neg h3, if_pos (by omega)]
    simp only [norm, Bool.false_eq_true, if_false]
    rw [show 2 * T / 2 = T from by omega]
    exact Prod.ext rfl (Prod.ext (by simp) rfl)
theorem one_len (f : Fld) (last : Int) (hn : f.num ≤ 18446744073709551615) (h : flt f last = 0) : 2 ≤ (one f).length ∧ (one f).length ≤ 220 := by
  have h1 : ¬ (f.tag < 1 ∨ 31 < f.tag) := fun hc => by unfold flt at h; rw [if_pos hc] at h; cases h
  have h2 : ¬ (f.tag ≤ last) := fun hc => by unfold flt at h; rw [if_neg h1, if_pos hc] at h; cases h
  unfold flt at h
  rw [if_neg h1, if_neg h2] at h
  have g1 := enc_length_le (2 * f.tag.toNat + 1) (by omega)
  have g2 := enc_length_le (2 * f.tag.toNat) (by omega)
  have g3 := enc_length_le f.num hn
  unfold one
  by_cases ht : f.text = true
  · rw [if_pos ht] at h ⊢
    have h3 : f.bytes ≠ [] := fun hc => by rw [if_pos hc] at h; cases h
    rw [if_neg h3] at h
    have h4 : ¬ 200 < f.bytes.length := fun hc => by rw [if_pos hc] at h; cases h
    have g4 := enc_length_le f.bytes.length (by omega)
    simp only [List.length_append]; omega
  · rw [if_neg ht]
    simp only [List.length_append]; omega
theorem flt_tag {f : Fld} {last : Int} (h : flt f last = 0) : 1 ≤ f.tag ∧ f.tag ≤ 31 ∧ last < f.tag := by
  have h1 : ¬ (f.tag < 1 ∨ 31 < f.tag) := fun hc => by unfold flt at h; rw [if_pos hc] at h; cases h
  have h2 : ¬ (f.tag ≤ last) := fun hc => by unfold flt at h; rw [if_neg h1, if_pos hc] at h; cases h
  omega
/-- Encode, from a state on -/
def encs : List Fld → Int → List Nat → List Nat × Nat
  | [], _, b => if 1024 < b.length then ([], 24) else (b, 0)
  | f :: r, last, b => if flt f last ≠ 0 then ([], flt f last) else encs r f.tag (b ++ one f)
/-- Decode, from a state on -/
def decs : Nat → List Nat → Int → Nat → List Fld → List Fld × Nat × Nat
  | 0, _, _, _, acc => (acc, 0, 0)
  | fuel + 1, l, last, i, acc =>
    if l.length ≤ i then (acc, 0, 0)
    else if (next (l.drop i) last).2.2 ≠ 0 then ([], i, (next (l.drop i) last).2.2)
    else decs fuel l (next (l.drop i) last).1.tag (i + (next (l.drop i) last).2.1) (acc ++ [(next (l.drop i) last).1])
def recs (l : List Nat) : List Fld × Nat × Nat := if 1024 < l.length then ([], 0, 24) else decs (l.length + 1) l 0 0 []
end Go.Proofs.Ytfdaefhamoeaiaa
namespace Go.Proofs.Ytfdaefhamoeaiaa
open Go.ChangeShapes Go.WideShapes Go.ChangeAt Go.RowKit
set_option linter.unusedVariables false
/-- a cursor over n bytes at a, in block c, at place i -/
def CurAt (w : World) (c : Nat) (a : Option Addr) (n cap i : Nat) : Prop := w.heap[c]? = some (.cells #[.slice a n cap, .int .i64 (i : Int)] 101)
theorem CurAt.cells {w : World} {c : Nat} {a : Option Addr} {n cap i : Nat} (h : CurAt w c a n cap i) : w.cell? ⟨c, 0, none⟩ = some (.slice a n cap) ∧ w.cell? ⟨c, 1, none⟩ = some (.int .i64 (i : Int)) ∧ w.frozen? ⟨c, 1, none⟩ = false :=
  ⟨by rw [cell_of_row _ _ 0 _ _ _ h]; rfl, by rw [cell_of_row _ _ 1 _ _ _ h]; rfl, frozen_of_row _ _ 1 _ _ h⟩
theorem CurAt.to {w : World} {c : Nat} {a : Option Addr} {n cap i : Nat} (h : CurAt w c a n cap i) (j : Nat) : CurAt (w.setCell ⟨c, 1, none⟩ (.int .i64 (j : Int))) c a n cap j := by
  unfold CurAt
  rw [heap_setCell_same w c 1 _ _ _ h]; rfl
theorem Kept.set {g : Nat} {w wr : World} (h : Kept g g w wr) (j : Nat) (u : Value) : Kept g g w (wr.setCell ⟨g, j, none⟩ u) :=
  ⟨h.os, h.tape, h.output, by simp; exact h.size, fun k hk h1 h2 => (heap_setCell_other wr ⟨g, j, none⟩ k u h1).trans (h.block k hk h1 h2)⟩
theorem Kept.drewN {g k : Nat} {w wr : World} (h : Kept g k w wr) (n : Nat) : Kept g k w (wr.drewN n) := by
  induction n with
  | zero => exact h
  | succ n ih => exact ⟨ih.os, ih.tape, ih.output, ih.size, ih.block⟩
theorem CurAt.drewN {w : World} {c : Nat} {a : Option Addr} {n cap i : Nat} (h : CurAt w c a n cap i) (m : Nat) : CurAt (w.drewN m) c a n cap i := by
  unfold CurAt at *; simpa using h
theorem body_panic {P : Program} {fn : Func} {R : Ending → World → Prop} {a : Act} {w : World} {ch : List PanicEntry} (h : R (.panicked ch) w) (hd : a.defers = [] := by rfl) : bodyPost P fn R (.panic ch) a w := by
  unfold bodyPost
  exact ⟨hd, h⟩
/-- a panic with an error's number -/
abbrev errP (e : Int) : Ending := .panicked [{ v := .iface 28 (.int .i64 e), recovered := false }]
theorem dec_q (l : List Nat) (n u k e : Nat) (a : Option Addr) (cap : Nat) (w : World) (e1 : l.length = n) (hd : dec 0 0 l = (u, k, e)) (hb : Bytes w a l) (hl : l.length ≤ maxLen) :
    Calls Try.prog 63 #[.slice a n cap] w fun x w' => x = .returned (.tuple #[.int .u64 u, .int .i64 k, .int .i64 e]) ∧ w' = w :=
  (dec_at l n u k e a cap w e1 hd hb hl).mono fun _ _ ⟨h1, h2⟩ => ⟨h1, h2.symm⟩
set_option maxRecDepth 20000 in
set_option maxHeartbeats 1000000 in
theorem done_any (c : Nat) (a : Option Addr) (n cap i : Nat) (w : World) (hc : CurAt w c a n cap i) :
    Calls Try.prog 58 #[.pointer (some ⟨c, 0, none⟩)] w fun r w' => r = .returned (.bool (decide (i = n))) ∧ ∃ m, w' = w.drewN m := by
  obtain ⟨h0, h1, _⟩ := hc.cells
  clear hc
  go_enter Try.func58, Try.ntmps58
  go_wp2
  go_quiet (fail)
  go_wp2
  go_ret
  exact ⟨ret_bool (by by_cases h : i = n <;> simp [h] <;> omega), nq, rfl⟩
set_option maxRecDepth 20000 in
set_option maxHeartbeats 1000000 in
theorem num_ok (l : List Nat) (b off n cap i u k c : Nat) (w : World) (hc : CurAt w c (some ⟨b, off, none⟩) n cap i) (hn : l.length = n) (hb : Bytes w (some ⟨b, off, none⟩) l) (hcap : n ≤ cap) (hl : n ≤ 1024) (hi : i ≤ n) (hd : dec 0 0 (l.drop i) = (u, k, 0)) :
    Calls Try.prog 72 #[.pointer (some ⟨c, 0, none⟩)] w fun r w' => r = .returned (.int .u64 (u : Int)) ∧ CurAt w' c (some ⟨b, off, none⟩) n cap (i + k) ∧ Kept c c w w' := by
  obtain ⟨h0, h1, h2⟩ := hc.cells
  have HC : Hid (CurAt w c (some ⟨b, off, none⟩) n cap i) := hc
  have HD : Hid (_ = _) := hd
  have HBq : Hid (Bytes w (some ⟨b, off + i, none⟩) (l.drop i)) := hb.drop i
  have HL2 : Hid ((l.drop i).length = n - i) := by show _ = _; rw [List.length_drop, hn]
  have HM2 : Hid ((l.drop i).length ≤ maxLen) := by show _ ≤ _; rw [List.length_drop, hn]; unfold maxLen; omega
  have hf := vdec_form (l.drop i) (fun x hx => hb.mem x (List.mem_of_mem_drop hx)) (by rw [hd])
  rw [hd] at hf
  simp only at hf
  obtain ⟨t1, t2, t3, t4, t5⟩ := hf
  rw [HL2.out] at t2
  have hin : i < n := by omega
  have hk2 : (i : Int) + (k : Int) ≤ 1024 := by omega
  clear hc hd hb t5 hn
  go_enter Try.func72, Try.ntmps72
  go_wp2
  go_quiet ((go_at_call 63; exact Calls.quiet_of_same (dec_q (l.drop i) _ u k 0 _ _ _ HL2.out HD.out (HBq.out.drewN _) HM2.out)))
  go_wp2
  go_ret
  refine ⟨rfl, ?_, ((Kept.refl c c w).drewN nq).set 1 _⟩
  rw [← Int.natCast_add]
  exact CurAt.to (w := w.drewN nq) (HC.out.drewN nq) (i + k)
set_option maxRecDepth 20000 in
set_option maxHeartbeats 1000000 in
theorem num_bad (l : List Nat) (b off n cap i e c : Nat) (w : World) (hc : CurAt w c (some ⟨b, off, none⟩) n cap i) (hn : l.length = n) (hb : Bytes w (some ⟨b, off, none⟩) l) (hcap : n ≤ cap) (hl : n ≤ 1024) (hi : i ≤ n) (he : e ≠ 0) (hd : dec 0 0 (l.drop i) = (0, 0, e)) :
    Calls Try.prog 72 #[.pointer (some ⟨c, 0, none⟩)] w fun r w' => r = errP e ∧ ∃ m, w' = w.drewN m := by
  obtain ⟨h0, h1, h2⟩ := hc.cells
  have HD : Hid (_ = _) := hd
  have HBq : Hid (Bytes w (some ⟨b, off + i, none⟩) (l.drop i)) := hb.drop i
  have HL2 : Hid ((l.drop i).length = n - i) := by show _ = _; rw [List.length_drop, hn]
  have HM2 : Hid ((l.drop i).length ≤ maxLen) := by show _ ≤ _; rw [List.length_drop, hn]; unfold maxLen; omega
  have heb : ((e : Int) != 0) = true := by simp; omega
  by_cases hin : i < n
  · clear hc hd hb
    go_enter Try.func72, Try.ntmps72
    go_wp2
    go_quiet ((go_at_call 63; exact Calls.quiet_of_same (dec_q (l.drop i) _ 0 0 e _ _ _ HL2.out HD.out (HBq.out.drewN _) HM2.out)))
    go_wp2
    exact body_panic ⟨rfl, nq, rfl⟩
  · have HNIL : Hid (l.drop i = []) := by show _ = _; exact List.drop_eq_nil_of_le (by rw [hn]; omega)
    have HD3 : Hid (dec 0 0 [] = (0, 0, e)) := by have h := HD.out; rw [HNIL.out] at h; exact h
    obtain rfl : i = n := by omega
    clear hc hd hb
    go_enter Try.func72, Try.ntmps72
    go_wp2
    go_quiet ((go_at_call 63; exact Calls.quiet_of_same (dec_q [] _ 0 0 e _ _ _ (by simp) HD3.out (Bytes.none _ _) (by simp))))
    all_goals go_wp2
    all_goals exact body_panic ⟨rfl, nq, rfl⟩
end Go.Proofs.Ytfdaefhamoeaiaa
namespace Go.Proofs.Ytfdaefhamoeaiaa
open Go.ChangeShapes Go.WideShapes Go.ChangeAt Go.RowKit
theorem Try.info5 : (Try.prog.info? 5).map (fun i => (i.zero, i.size, i.bytes)) = some (some (.int .u8 0), 1, 1) := by kernel_rfl
set_option maxRecDepth 20000 in
set_option maxHeartbeats 1000000 in
theorem put_any (u : Nat) (base : Nat) (v : Value) (n : Nat) (xs : List Value) (w : World) (hu : u ≤ 18446744073709551615) (hown : w.ownsRow base 5 1 v n xs) (hbase : base ≤ w.heap.size) (hn : n + 10 ≤ 140737488355328) :
    Calls Try.prog 48 #[v, .int .u64 u] w fun e w' => ∃ v', e = .returned v' ∧ w'.ownsRow base 5 1 v' (n + (enc u).length) (xs ++ B8 (enc u)) ∧ Below base w w' := by
  obtain ⟨i0, hi, hz0, hz1, hz2⟩ := info_parts Try.info5
  go_enter Try.func48, Try.ntmps48
  go_wp2
  go_loopw [0, 1] (fun vb vu wr => ∃ (f uj : Nat) (pre : List Nat), vu = .int .u64 uj ∧ uj ≤ u ∧ uj < 128 ^ (f + 1) ∧ encF 10 u = pre ++ encF (f + 1) uj ∧ pre.length + f = 9 ∧ wr.ownsRow base 5 1 vb (n + pre.length) (xs ++ B8 pre) ∧ Below base w wr) (fun _ vu _ => (intOf vu).toNat)
  case atStart => exact ⟨9, u, [], rfl, by omega, lt_pow10 u hu, rfl, rfl, by simpa [B8] using hown, Below.refl _ _⟩
  case round =>
    obtain ⟨f, uj, pre, rfl, huj, hp, hE, hf, ho, hbe⟩ := hrel
    have HE : Hid (_ = _) := hE
    have HP : Hid (_ < _) := hp
    clear hE hp hown
    have hsz := hbe.size
    by_cases hlt : uj < 128
    · have HL : Hid (enc u = pre ++ [uj]) := by
        show enc u = _
        unfold enc; rw [HE.out]; unfold encF; rw [if_pos hlt]
      have hu8 : (uj : Int) ≤ 255 := by omega
      clear HE HP
      go_wp2_with (at_builtin; refine wpList_append_own _ rfl _ _ 27 rfl base 5 i0 (.int .u8 0) 1 1 Try.underlying27 hi hz0 hz1 hz2 rfl (by decide) _ _ _ rfl (ho.alloc _) ⟨wr.heap.size, 0, none⟩ 1 1 [.int .u8 (uj : Int)] rfl rfl (cell_new _ _ _) (one_new _) (by unfold maxLen; omega) (by omega) (by simp; omega) ?_)
      intro v' w1 hown' hgrow _
      have hb1 := grown_row (hbe.alloc (by omega) _) (ho.alloc _) (by simp; omega) hgrow
      clear hgrow ho hbe
      go_wp2
      go_ret
      refine ⟨v', rfl, ?_, hb1⟩
      rw [HL.out, B8_append, List.length_append]
      exact hown'
    · have HL : Hid (encF 10 u = (pre ++ [128 + uj % 128]) ++ encF f (uj / 128)) := by
        show encF 10 u = _
        rw [HE.out]; conv => lhs; unfold encF
        rw [if_neg hlt]; simp
      have hf1 : 1 ≤ f := by
        have h2 := HP.out
        by_cases h3 : f = 0
        · subst h3; simp at h2; omega
        · omega
      have HP2 : Hid (uj / 128 < 128 ^ f) := by
        have h2 := HP.out
        rw [Nat.pow_succ] at h2
        exact Nat.div_lt_of_lt_mul (by rw [Nat.mul_comm]; exact h2)
      have HO : Hid (_ = _) := or128 uj
      clear HE HP
      go_wp2_with (at_builtin; refine wpList_append_own _ rfl _ _ 27 rfl base 5 i0 (.int .u8 0) 1 1 Try.underlying27 hi hz0 hz1 hz2 rfl (by decide) _ _ _ rfl (ho.alloc _) ⟨wr.heap.size, 0, none⟩ 1 1 [.int .u8 (bits .or .u8 (IntKind.u8.wrap (uj : Int)) 128)] rfl rfl (cell_new _ _ _) (one_new _) (by unfold maxLen; omega) (by omega) (by simp; omega) ?_)
      intro v' w1 hown' hgrow _
      have hb1 := grown_row (hbe.alloc (by omega) _) (ho.alloc _) (by simp; omega) hgrow
      clear hgrow ho hbe
      go_wp2
      go_roundw
      case rel =>
        refine ⟨f - 1, uj / 128, pre ++ [128 + uj % 128], by go_num, by omega, ?_, ?_, by simp; omega, ?_, hb1⟩
        · rw [show f - 1 + 1 = f from by omega]; exact HP2.out
        · rw [show f - 1 + 1 = f from by omega]; exact HL.out
        · rw [HO.out] at hown'
          rw [B8_append, List.length_append]
          exact hown'
      case measure => simp [intOf]; omega
end Go.Proofs.Ytfdaefhamoeaiaa
