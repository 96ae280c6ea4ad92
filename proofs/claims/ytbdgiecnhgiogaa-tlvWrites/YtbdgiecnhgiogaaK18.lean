/- Own texts, joined: Tlo, Same. -/
import Derived.Test.YtbdgiecnhgiogaaK02
import Derived.Test.YtbdgiecnhgiogaaRows
import Derived.Test.YtbdgiecnhgiogaaK00
import Derived.Deep.QuietTactic
import Derived.BigQuiet
namespace Go.Proofs.Ytbdgiecnhgiogaa
open Go.ChangeShapes Go.WideShapes Go.ChangeAt Go.RowKit
/-- what is asked of a field that was read -/
def FRight (f : Fld) : Prop := f.num ≤ 18446744073709551615 ∧ f.bytes.length ≤ 200 ∧ norm f = f ∧ ∀ x ∈ f.bytes, x < 256
theorem decs_facts (l : List Nat) (hl : ∀ x ∈ l, x < 256) : ∀ (fuel i : Nat) (A : Int) (acc : List Fld), i ≤ l.length → l.length - i < fuel →
    ((decs fuel l A i acc).2.2 = 0 → ∃ rest, (decs fuel l A i acc).1 = acc ++ rest ∧ (decs fuel l A i acc).2.1 = 0 ∧ encs rest A (l.take i) = encs [] 0 l ∧ ∀ f ∈ rest, FRight f) ∧
    ((decs fuel l A i acc).2.2 ≠ 0 → (decs fuel l A i acc).1 = [] ∧ (decs fuel l A i acc).2.1 ≤ l.length) := by
  intro fuel
  induction fuel with
  | zero => intro i A acc h1 h2; omega
  | succ fuel ih =>
    intro i A acc h1 h2
    have hs : decs (fuel + 1) l A i acc = if l.length ≤ i then (acc, 0, 0) else if (next (l.drop i) A).2.2 ≠ 0 then ([], i, (next (l.drop i) A).2.2) else decs fuel l (next (l.drop i) A).1.tag (i + (next (l.drop i) A).2.1) (acc ++ [(next (l.drop i) A).1]) := rfl
    rw [hs]
    by_cases hi : l.length ≤ i
    · rw [if_pos hi]
      refine ⟨fun _ => ⟨[], by simp, rfl, ?_, by simp⟩, fun h => absurd rfl h⟩
      rw [List.take_of_length_le hi]; rfl
    · rw [if_neg hi]
      rcases hx : next (l.drop i) A with ⟨F, sz, e⟩
      simp only
      by_cases he : e = 0
      · subst he
        rw [if_neg (by simp)]
        have hl2 : ∀ x ∈ l.drop i, x < 256 := fun x hx => hl x (List.mem_of_mem_drop hx)
        obtain ⟨r1, r2, r3, r4, r5, r6, r7, _, _, _, r8⟩ := next_right (l.drop i) hl2 A F sz hx
        rw [List.length_drop] at r4
        obtain ⟨k1, k2⟩ := ih (i + sz) F.tag (acc ++ [F]) (by omega) (by omega)
        refine ⟨fun h => ?_, k2⟩
        obtain ⟨rest, e1, e2, e3, e4⟩ := k1 h
        refine ⟨F :: rest, by rw [e1]; simp, e2, ?_, ?_⟩
        · show (if flt F A ≠ 0 then _ else encs rest F.tag (l.take i ++ one F)) = _
          rw [r1, if_neg (by simp), r3, ← List.take_add]
          exact e3
        · intro f hf
          rcases List.mem_cons.1 hf with rfl | hf
          · exact ⟨r6, r8, r2, r7⟩
          · exact e4 f hf
      · rw [if_pos he]
        exact ⟨fun h => absurd h he, fun _ => ⟨rfl, by simp only; omega⟩⟩
theorem encs_len : ∀ (fs : List Fld) (A : Int) (b r : List Nat), (∀ f ∈ fs, f.num ≤ 18446744073709551615) → encs fs A b = (r, 0) → b.length + 2 * fs.length ≤ r.length
  | [], A, b, r, _, h => by
    have h' : (if 1024 < b.length then (([] : List Nat), 24) else (b, 0)) = (r, 0) := h
    by_cases hb : 1024 < b.length
    · rw [if_pos hb] at h'; simp at h'
    · rw [if_neg hb] at h'
      have := (Prod.mk.inj h').1
      subst this; simp
  | f :: fs, A, b, r, hn, h => by
    have h' : (if flt f A ≠ 0 then (([] : List Nat), flt f A) else encs fs f.tag (b ++ one f)) = (r, 0) := h
    by_cases hz : flt f A = 0
    · rw [hz, if_neg (by simp)] at h'
      have h1 := encs_len fs f.tag (b ++ one f) r (fun g hg => hn g (List.mem_cons_of_mem _ hg)) h'
      have h2 := (one_len f A (hn f (by simp)) hz).1
      simp only [List.length_append, List.length_cons] at h1 ⊢
      omega
    · rw [if_pos hz] at h'
      exact absurd (Prod.mk.inj h').2 hz
/-- a whole record that is read: its fields, written again, are the record -/
theorem recs_ok (l : List Nat) (hl : ∀ x ∈ l, x < 256) (h : (recs l).2.2 = 0) : (recs l).2.1 = 0 ∧ encs (recs l).1 0 [] = (l, 0) ∧ (∀ f ∈ (recs l).1, FRight f) ∧ l.length ≤ 1024 := by
  unfold recs at h ⊢
  by_cases hb : 1024 < l.length
  · rw [if_pos hb] at h; cases h
  · rw [if_neg hb] at h ⊢
    obtain ⟨rest, e1, e2, e3, e4⟩ := (decs_facts l hl (l.length + 1) 0 0 [] (by omega) (by omega)).1 h
    rw [e1, List.nil_append]
    refine ⟨e2, ?_, e4, by omega⟩
    rw [List.take_zero] at e3
    rw [e3]
    show (if 1024 < l.length then ([], 24) else (l, 0)) = (l, 0)
    rw [if_neg hb]
theorem recs_bad (l : List Nat) (hl : ∀ x ∈ l, x < 256) (h : (recs l).2.2 ≠ 0) : (recs l).1 = [] ∧ (recs l).2.1 ≤ l.length := by
  unfold recs at h ⊢
  by_cases hb : 1024 < l.length
  · rw [if_pos hb]; exact ⟨rfl, by simp⟩
  · rw [if_neg hb] at h ⊢
    exact (decs_facts l hl (l.length + 1) 0 0 [] (by omega) (by omega)).2 h
end Go.Proofs.Ytbdgiecnhgiogaa
namespace Go.Proofs.Ytbdgiecnhgiogaa
open Go.ChangeShapes Go.WideShapes Go.ChangeAt Go.RowKit
theorem drewN_add (w : World) (a b : Nat) : (w.drewN a).drewN b = w.drewN (a + b) := by
  induction b with
  | zero => rfl
  | succ b ih => show ((w.drewN a).drewN b).drew = (w.drewN (a + b)).drew; rw [ih]
theorem same_end (l m : List Nat) (hl : l.length = m.length) (h : ∀ i, i < l.length → l.getD i 0 = m.getD i 0) : l = m := by
  apply List.ext_getElem hl
  intro i h1 h2
  have := h i h1
  simpa [List.getD_eq_getElem?_getD, List.getElem?_eq_getElem h1, List.getElem?_eq_getElem h2] using this
set_option maxRecDepth 20000 in
set_option maxHeartbeats 1000000 in
theorem same_any (l m : List Nat) (a1 a2 : Option Addr) (c1 c2 : Nat) (w : World) (hb1 : Bytes w a1 l) (hb2 : Bytes w a2 m) (hl : l.length ≤ maxLen) (hm : m.length ≤ maxLen) :
    Calls Try.prog 15 #[.slice a1 l.length c1, .slice a2 m.length c2] w fun e w' => e = .returned (.bool (decide (l = m))) ∧ ∃ n, w' = w.drewN n := by
  unfold maxLen at hl hm
  by_cases hne : l.length = m.length
  · have HN : Hid (l.length = m.length) := hne
    have hnb : ((l.length : Int) != (m.length : Int)) = false := by simp; omega
    obtain ⟨hy1, hb1⟩ := hb1
    obtain ⟨hy2, hb2⟩ := hb2
    by_cases h0 : l = []
    · subst h0
      have h1 : m = [] := List.length_eq_zero_iff.1 hne.symm
      subst h1
      clear hne
      go_enter Try.func15, Try.ntmps15
      go_wp2
      refine wp_loop_rounds 1 ?_
      rw [rounds_succ]
      go_wp2
      go_ret
      exact ⟨rfl, 0, rfl⟩
    · have h1 : m ≠ [] := by intro h; subst h; simp at hne; exact h0 hne
      rcases hb1 with hb1 | ⟨b, off, rfl, hlt1, hc1⟩
      · exact absurd hb1 h0
      rcases hb2 with hb2 | ⟨b', off', rfl, hlt2, hc2⟩
      · exact absurd hb2 h1
      clear h0 h1 hne
      go_enter Try.func15, Try.ntmps15
      go_wp2
      go_loopw [13] (fun i wr => ∃ k n0 : Nat, k ≤ l.length ∧ i = .int .i64 k ∧ wr = w.drewN n0 ∧ ∀ j, j < k → l.getD j 0 = m.getD j 0) (fun i _ => l.length - (intOf i).toNat)
      case atStart => exact ⟨0, 0, Nat.zero_le _, rfl, rfl, fun j hj => absurd hj (Nat.not_lt_zero _)⟩
      case round =>
        obtain ⟨k, n0, hk, rfl, rfl, hj⟩ := hrel
        have HJ : Hid (∀ j, j < k → l.getD j 0 = m.getD j 0) := hj
        clear hj
        by_cases hlt : k < l.length
        · have e1 := hc1 k hlt
          have e2 := hc2 k (by have := HN.out; omega)
          have hkm : k < m.length := by have := HN.out; omega
          obtain ⟨x, hx⟩ : ∃ x, x = l.getD k 0 := ⟨_, rfl⟩
          obtain ⟨y, hy⟩ : ∃ y, y = m.getD k 0 := ⟨_, rfl⟩
          rw [← hx] at e1
          rw [← hy] at e2
          have HX : Hid (x = l.getD k 0) := hx
          have HY : Hid (y = m.getD k 0) := hy
          clear hx hy hc1 hc2 hy1 hy2
          by_cases hxy : x = y
          · have HXY : Hid (x = y) := hxy
            have hq : ((x : Int) != (y : Int)) = false := by simp [hxy]
            clear hxy
            go_wp2
            go_quiet (fail)
            go_wp2
            go_roundw
            case rel =>
              refine ⟨k + 1, n0 + nq, by omega, by go_num, by first | rfl | exact drewN_add _ _ _, fun j hj => ?_⟩
              by_cases hjk : j < k
              · exact HJ.out j hjk
              · obtain rfl : j = k := by omega
                rw [← HX.out, ← HY.out, HXY.out]
            case measure => simp [intOf]; omega
          · have hq : ((x : Int) != (y : Int)) = true := by simp; omega
            have HNE : Hid (decide (l = m) = false) := by
              show _ = _
              rw [decide_eq_false_iff_not]
              intro h
              apply hxy
              rw [HX.out, HY.out, h]
            clear hxy
            go_wp2
            go_quiet (fail)
            go_wp2
            go_ret
            exact ⟨by rw [HNE.out]; rfl, n0 + nq, by first | rfl | exact drewN_add _ _ _⟩
        · have HEQ : Hid (decide (l = m) = true) := by
            show _ = _
            rw [decide_eq_true_iff]
            exact same_end l m HN.out fun i hi => HJ.out i (by omega)
          clear hc1 hc2 hy1 hy2
          go_wp2
          go_ret
          exact ⟨by rw [HEQ.out]; rfl, n0, rfl⟩
  · have hnb : ((l.length : Int) != (m.length : Int)) = true := by simp; omega
    have HNE : Hid (decide (l = m) = false) := by
      show _ = _
      rw [decide_eq_false_iff_not]
      intro h
      exact hne (by rw [h])
    clear hne hb1 hb2
    go_enter Try.func15, Try.ntmps15
    go_wp2
    go_ret
    exact ⟨by rw [HNE.out]; rfl, 0, rfl⟩
theorem same_at (l m : List Nat) (n1 n2 : Nat) (a1 a2 : Option Addr) (c1 c2 : Nat) (w : World) (e1 : l.length = n1) (e2 : m.length = n2) (hb1 : Bytes w a1 l) (hb2 : Bytes w a2 m) (hl : l.length ≤ maxLen) (hm : m.length ≤ maxLen) :
    Calls Try.prog 15 #[.slice a1 n1 c1, .slice a2 n2 c2] w fun e w' => e = .returned (.bool (decide (l = m))) ∧ ∃ n, w' = w.drewN n := by
  subst e1 e2
  exact same_any l m a1 a2 c1 c2 w hb1 hb2 hl hm
end Go.Proofs.Ytbdgiecnhgiogaa
