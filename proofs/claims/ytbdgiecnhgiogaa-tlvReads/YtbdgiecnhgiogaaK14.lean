/- Own texts, joined: Zig, Tlo. -/
import Derived.Test.YtbdgiecnhgiogaaRows
import Derived.Test.YtbdgiecnhgiogaaK00
import Derived.Test.YtbdgiecnhgiogaaK02
namespace Go.Proofs.Ytbdgiecnhgiogaa
open Go.ChangeShapes Go.WideShapes Go.ChangeAt Go.RowKit
theorem zig_any (v : Int) (w : World) (h0 : -9223372036854775808 ≤ v) (h1 : v ≤ 9223372036854775807) :
    Calls Try.prog 31 #[.int .i64 v] w fun e w' => e = .returned (.int .u64 (zig v)) ∧ w = w' := by
  have hz : Hid (_ = _) := zig_val v h0 h1
  go_enter Try.func31, Try.ntmps31
  go_wp2
  go_ret
  exact ⟨ret_int hz.out, rfl⟩
theorem zag_any (u : Int) (w : World) (h0 : 0 ≤ u) (h1 : u ≤ 18446744073709551615) :
    Calls Try.prog 35 #[.int .u64 u] w fun e w' => e = .returned (.int .i64 (zag u)) ∧ w = w' := by
  have hz : Hid (_ = _) := zag_val u h0 h1
  go_enter Try.func35, Try.ntmps35
  go_wp2
  go_ret
  exact ⟨ret_int hz.out, rfl⟩
theorem rzig_any (v : Int) (w : World) (h0 : -9223372036854775808 ≤ v) (h1 : v ≤ 9223372036854775807) :
    Calls Try.prog 10 #[.int .i64 v] w fun e w' => e = .returned (.int .u64 (zig v)) ∧ w = w' := by
  by_cases h : 0 ≤ v
  · go_enter Try.func10, Try.ntmps10
    go_wp2
    go_ret
    exact ⟨ret_int (by unfold zig; rw [if_pos h]; omega), rfl⟩
  · go_enter Try.func10, Try.ntmps10
    go_wp2
    go_ret
    exact ⟨ret_int (by unfold zig; rw [if_neg (by omega)]; omega), rfl⟩
theorem rzag_any (u : Int) (w : World) (h0 : 0 ≤ u) (h1 : u ≤ 18446744073709551615) :
    Calls Try.prog 25 #[.int .u64 u] w fun e w' => e = .returned (.int .i64 (zag u)) ∧ w = w' := by
  by_cases h : u % 2 = 0
  · have hb : (u % 2 == 0) = true := by simpa using h
    have hz : Hid (zag u = u / 2) := by unfold zag; rw [if_pos h]; exact rfl
    clear h
    go_enter Try.func25, Try.ntmps25
    go_wp2
    go_ret
    exact ⟨ret_int hz.out.symm, rfl⟩
  · have hb : (u % 2 == 0) = false := by simpa using h
    have hz : Hid (zag u = -(u / 2) - 1) := by unfold zag; rw [if_neg h]; exact rfl
    clear h
    go_enter Try.func25, Try.ntmps25
    go_wp2
    go_ret
    exact ⟨ret_int hz.out.symm, rfl⟩
end Go.Proofs.Ytbdgiecnhgiogaa
namespace Go.Proofs.Ytbdgiecnhgiogaa
open Go.ChangeShapes Go.WideShapes Go.ChangeAt Go.RowKit
/-- what is asked of a field that was read -/
def FRight (f : Fld) : Prop := f.num ≤ 18446744073709551615 ∧ f.bytes.length ≤ 200 ∧ norm f = f ∧ ∀ x ∈ f.bytes, x < 256
theorem decs_facts (l : List Nat) (hl : ∀ x ∈ l, x < 256) : ∀ (fuel i : Nat) (A : Int) (acc : List Fld), i ≤ l.length → l.length - i < fuel →
    ((decs fuel l A i acc).2.2 = 0 → ∃ rest, (decs fuel l A i acc).1 = acc ++ rest ∧ (decs fuel l A i acc).2.1 = 0 ∧ encs rest A (l.take i) = encs [] 0 l ∧ ∀ f ∈ rest, FRight f) ∧
    ((decs fuel l A i acc).2.2 ≠ 0 → (decs fuel l A i acc).1 = [] ∧ (decs fuel l A i acc).2.1 ≤ l.length) := by
  intro fuel
  induction fuel with
  | zero => intro i A acc h1 h2; omega
  | succ fuel ih =>
    intro i A acc h1 h2
    have hs : decs (fuel + 1) l A i acc = if l.length ≤ i then (acc, 0, 0) else if (next (l.drop i) A).2.2 ≠ 0 then ([], i, (next (l.drop i) A).2.2) else decs fuel l (next (l.drop i) A).1.tag (i + (next (l.drop i) A).2.1) (acc ++ [(next (l.drop i) A).1]) := rfl
    rw [hs]
    by_cases hi : l.length ≤ i
    · rw [if_pos hi]
      refine ⟨fun _ => ⟨[], by simp, rfl, ?_, by simp⟩, fun h => absurd rfl h⟩
      rw [List.take_of_length_le hi]; rfl
    · rw [if_neg hi]
      rcases hx : next (l.drop i) A with ⟨F, sz, e⟩
      simp only
      by_cases he : e = 0
      · subst he
        rw [if_neg (by simp)]
        have hl2 : ∀ x ∈ l.drop i, x < 256 := fun x hx => hl x (List.mem_of_mem_drop hx)
        obtain ⟨r1, r2, r3, r4, r5, r6, r7, _, _, _, r8⟩ := next_right (l.drop i) hl2 A F sz hx
        rw [List.length_drop] at r4
        obtain ⟨k1, k2⟩ := ih (i + sz) F.tag (acc ++ [F]) (by omega) (by omega)
        refine ⟨fun h => ?_, k2⟩
        obtain ⟨rest, e1, e2, e3, e4⟩ := k1 h
        refine ⟨F :: rest, by rw [e1]; simp, e2, ?_, ?_⟩
        · show (if flt F A ≠ 0 then _ else encs rest F.tag (l.take i ++ one F)) = _
          rw [r1, if_neg (by simp), r3, ← List.take_add]
          exact e3
        · intro f hf
          rcases List.mem_cons.1 hf with rfl | hf
          · exact ⟨r6, r8, r2, r7⟩
          · exact e4 f hf
      · rw [if_pos he]
        exact ⟨fun h => absurd h he, fun _ => ⟨rfl, by simp only; omega⟩⟩
theorem encs_len : ∀ (fs : List Fld) (A : Int) (b r : List Nat), (∀ f ∈ fs, f.num ≤ 18446744073709551615) → encs fs A b = (r, 0) → b.length + 2 * fs.length ≤ r.length
  | [], A, b, r, _, h => by
    have h' : (if 1024 < b.length then (([] : List Nat), 24) else (b, 0)) = (r, 0) := h
    by_cases hb : 1024 < b.length
    · rw [if_pos hb] at h'; simp at h'
    · rw [if_neg hb] at h'
      have := (Prod.mk.inj h').1
      subst this; simp
  | f :: fs, A, b, r, hn, h => by
    have h' : (if flt f A ≠ 0 then (([] : List Nat), flt f A) else encs fs f.tag (b ++ one f)) = (r, 0) := h
    by_cases hz : flt f A = 0
    · rw [hz, if_neg (by simp)] at h'
      have h1 := encs_len fs f.tag (b ++ one f) r (fun g hg => hn g (List.mem_cons_of_mem _ hg)) h'
      have h2 := (one_len f A (hn f (by simp)) hz).1
      simp only [List.length_append, List.length_cons] at h1 ⊢
      omega
    · rw [if_pos hz] at h'
      exact absurd (Prod.mk.inj h').2 hz
/-- a whole record that is read: its fields, written again, are the record -/
theorem recs_ok (l : List Nat) (hl : ∀ x ∈ l, x < 256) (h : (recs l).2.2 = 0) : (recs l).2.1 = 0 ∧ encs (recs l).1 0 [] = (l, 0) ∧ (∀ f ∈ (recs l).1, FRight f) ∧ l.length ≤ 1024 := by
  unfold recs at h ⊢
  by_cases hb : 1024 < l.length
  · rw [if_pos hb] at h; cases h
  · rw [if_neg hb] at h ⊢
    obtain ⟨rest, e1, e2, e3, e4⟩ := (decs_facts l hl (l.length + 1) 0 0 [] (by omega) (by omega)).1 h
    rw [e1, List.nil_append]
    refine ⟨e2, ?_, e4, by omega⟩
    rw [List.take_zero] at e3
    rw [e3]
    show (if 1024 < l.length then ([], 24) else (l, 0)) = (l, 0)
    rw [if_neg hb]
theorem recs_bad (l : List Nat) (hl : ∀ x ∈ l, x < 256) (h : (recs l).2.2 ≠ 0) : (recs l).1 = [] ∧ (recs l).2.1 ≤ l.length := by
  unfold recs at h ⊢
  by_cases hb : 1024 < l.length
  · rw [if_pos hb]; exact ⟨rfl, by simp⟩
  · rw [if_neg hb] at h ⊢
    exact (decs_facts l hl (l.length + 1) 0 0 [] (by omega) (by omega)).2 h
end Go.Proofs.Ytbdgiecnhgiogaa
