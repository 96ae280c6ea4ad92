/- Own texts, joined: Same, Apn, Apb, Cpn. -/
import Derived.Test.YtlnhhgmdajbepaaRows
import Derived.Test.YtlnhhgmdajbepaaK00
import Derived.Deep.QuietTactic
import Derived.BigQuiet
import Derived.Deep.AppendLies
import Derived.Laws.AppendOwnNone
import Derived.Test.YtlnhhgmdajbepaaK44
namespace Go.Proofs.Ytlnhhgmdajbepaa
open Go.ChangeShapes Go.WideShapes Go.ChangeAt Go.RowKit
theorem drewN_add (w : World) (a b : Nat) : (w.drewN a).drewN b = w.drewN (a + b) := by
  induction b with
  | zero => rfl
  | succ b ih => show ((w.drewN a).drewN b).drew = (w.drewN (a + b)).drew; rw [ih]
theorem same_end (l m : List Nat) (hl : l.length = m.length) (h : ∀ i, i < l.length → l.getD i 0 = m.getD i 0) : l = m := by
  apply List.ext_getElem hl
  intro i h1 h2
  have := h i h1
  simpa [List.getD_eq_getElem?_getD, List.getElem?_eq_getElem h1, List.getElem?_eq_getElem h2] using this
set_option maxRecDepth 20000 in
set_option maxHeartbeats 1000000 in
theorem same_any (l m : List Nat) (a1 a2 : Option Addr) (c1 c2 : Nat) (w : World) (hb1 : Bytes w a1 l) (hb2 : Bytes w a2 m) (hl : l.length ≤ maxLen) (hm : m.length ≤ maxLen) :
    Calls Try.prog 19 #[.slice a1 l.length c1, .slice a2 m.length c2] w fun e w' => e = .returned (.bool (decide (l = m))) ∧ ∃ n, w' = w.drewN n := by
  unfold maxLen at hl hm
  by_cases hne : l.length = m.length
  · have HN : Hid (l.length = m.length) := hne
    have hnb : ((l.length : Int) != (m.length : Int)) = false := by simp; omega
    obtain ⟨hy1, hb1⟩ := hb1
    obtain ⟨hy2, hb2⟩ := hb2
    by_cases h0 : l = []
    · subst h0
      have h1 : m = [] := List.length_eq_zero_iff.1 hne.symm
      subst h1
      clear hne
      go_enter Try.func19, Try.ntmps19
      go_wp2
      refine wp_loop_rounds 1 ?_
      rw [rounds_succ]
      go_wp2
      go_ret
      exact ⟨rfl, 0, rfl⟩
    · have h1 : m ≠ [] := by intro h; subst h; simp at hne; exact h0 hne
      rcases hb1 with hb1 | ⟨b, off, rfl, hlt1, hc1⟩
      · exact absurd hb1 h0
      rcases hb2 with hb2 | ⟨b', off', rfl, hlt2, hc2⟩
      · exact absurd hb2 h1
      clear h0 h1 hne
      go_enter Try.func19, Try.ntmps19
      go_wp2
      go_loopw [13] (fun i wr => ∃ k n0 : Nat, k ≤ l.length ∧ i = .int .i64 k ∧ wr = w.drewN n0 ∧ ∀ j, j < k → l.getD j 0 = m.getD j 0) (fun i _ => l.length - (intOf i).toNat)
      case atStart => exact ⟨0, 0, Nat.zero_le _, rfl, rfl, fun j hj => absurd hj (Nat.not_lt_zero _)⟩
      case round =>
        obtain ⟨k, n0, hk, rfl, rfl, hj⟩ := hrel
        have HJ : Hid (∀ j, j < k → l.getD j 0 = m.getD j 0) := hj
        clear hj
        by_cases hlt : k < l.length
        · have e1 := hc1 k hlt
          have e2 := hc2 k (by have := HN.out; omega)
          have hkm : k < m.length := by have := HN.out; omega
          obtain ⟨x, hx⟩ : ∃ x, x = l.getD k 0 := ⟨_, rfl⟩
          obtain ⟨y, hy⟩ : ∃ y, y = m.getD k 0 := ⟨_, rfl⟩
          rw [← hx] at e1
          rw [← hy] at e2
          have HX : Hid (x = l.getD k 0) := hx
          have HY : Hid (y = m.getD k 0) := hy
          clear hx hy hc1 hc2 hy1 hy2
          by_cases hxy : x = y
          · have HXY : Hid (x = y) := hxy
            have hq : ((x : Int) != (y : Int)) = false := by simp [hxy]
            clear hxy
            go_wp2
            go_quiet (fail)
            go_wp2
            go_roundw
            case rel =>
              refine ⟨k + 1, n0 + nq, by omega, by go_num, by first | rfl | exact drewN_add _ _ _, fun j hj => ?_⟩
              by_cases hjk : j < k
              · exact HJ.out j hjk
              · obtain rfl : j = k := by omega
                rw [← HX.out, ← HY.out, HXY.out]
            case measure => simp [intOf]; omega
          · have hq : ((x : Int) != (y : Int)) = true := by simp; omega
            have HNE : Hid (decide (l = m) = false) := by
              show _ = _
              rw [decide_eq_false_iff_not]
              intro h
              apply hxy
              rw [HX.out, HY.out, h]
            clear hxy
            go_wp2
            go_quiet (fail)
            go_wp2
            go_ret
            exact ⟨by rw [HNE.out]; rfl, n0 + nq, by first | rfl | exact drewN_add _ _ _⟩
        · have HEQ : Hid (decide (l = m) = true) := by
            show _ = _
            rw [decide_eq_true_iff]
            exact same_end l m HN.out fun i hi => HJ.out i (by omega)
          clear hc1 hc2 hy1 hy2
          go_wp2
          go_ret
          exact ⟨by rw [HEQ.out]; rfl, n0, rfl⟩
  · have hnb : ((l.length : Int) != (m.length : Int)) = true := by simp; omega
    have HNE : Hid (decide (l = m) = false) := by
      show _ = _
      rw [decide_eq_false_iff_not]
      intro h
      exact hne (by rw [h])
    clear hne hb1 hb2
    go_enter Try.func19, Try.ntmps19
    go_wp2
    go_ret
    exact ⟨by rw [HNE.out]; rfl, 0, rfl⟩
theorem same_at (l m : List Nat) (n1 n2 : Nat) (a1 a2 : Option Addr) (c1 c2 : Nat) (w : World) (e1 : l.length = n1) (e2 : m.length = n2) (hb1 : Bytes w a1 l) (hb2 : Bytes w a2 m) (hl : l.length ≤ maxLen) (hm : m.length ≤ maxLen) :
    Calls Try.prog 19 #[.slice a1 n1 c1, .slice a2 n2 c2] w fun e w' => e = .returned (.bool (decide (l = m))) ∧ ∃ n, w' = w.drewN n := by
  subst e1 e2
  exact same_any l m a1 a2 c1 c2 w hb1 hb2 hl hm
end Go.Proofs.Ytlnhhgmdajbepaa
namespace Go.Proofs.Ytlnhhgmdajbepaa
open Go.ChangeShapes Go.WideShapes Go.ChangeAt Go.RowKit
set_option linter.unusedVariables false
theorem grownBy_refl (w : World) (r : Option Nat) : w.grownBy w r := ⟨rfl, rfl, rfl, Nat.le_refl _, fun _ _ _ => rfl⟩
theorem run_append_any {P : Program} (w : World) (t ty : TypeId) (base : Nat) (i : TypeInfo) (ht : P.underlying t = some (.slice 5)) (hi : P.info? 5 = some i) (hz : i.zero = some (.int .u8 0)) (hsize : i.size = 1) (hby : i.bytes = 1)
    (v : Value) (n : Nat) (xs : List Value) (hown : w.ownsRow base 5 1 v n xs) (hn : 0 < n) (xa : Option Addr) (m c : Nat) (l : List Nat) (hl : l.length = m) (hb : Bytes w xa l) (hc : xa = none → c = 0)
    (h63 : n + m ≤ 140737488355328) (hbase : base ≤ w.heap.size) :
    ∃ g cap w', (Builtin.append_ #[t, t] ty #[v, .slice xa m c]).run P w = .ok (.slice (some ⟨g, 0, none⟩) (n + m) cap) w' ∧
      w'.ownsRow base 5 1 (.slice (some ⟨g, 0, none⟩) (n + m) cap) (n + m) (xs ++ B8 l) ∧ w.grownBy w' v.ownBlock := by
  subst hl
  cases xa with
  | none =>
    obtain rfl := hc rfl
    have hl0 : l = [] := by
      rcases hb.2 with h | ⟨b, off, h, _⟩
      · exact h
      · cases h
    subst hl0
    obtain ⟨g, cap, rfl, _⟩ := hown.form hn
    exact ⟨g, cap, w, run_append_owned_none (P := P) (w := w) base t ty 5 i 1 ht hi _ n xs hown, by simpa [B8] using hown, grownBy_refl _ _⟩
  | some ad =>
    obtain ⟨v', w', hr, h2, h3, _, h5⟩ := run_append_own_at (P := P) w base t ty 5 i (.int .u8 0) 1 1 ht hi hz hsize hby rfl (by decide) v n xs hown ad l.length c (B8 l) (B8_length l) (bytes_cells hb) (B8_one l) (by unfold maxLen; omega) (by omega) hbase
    obtain ⟨g, cap, rfl, _⟩ := h2.form (by omega)
    exact ⟨g, cap, w', hr, h2, h3⟩
theorem wp_append_any {P : Program} (w : World) {o : Oper} {a : Act} {K : Act → World → Prop} {Q : Exit → Act → World → Prop} (s x : Operand) (t : TypeId)
    (ho : o.op = .call { callee := .builtin .append, args := #[s, x], argTypes := #[t, t] })
    (base : Nat) (i : TypeInfo) (ht : P.underlying t = some (.slice 5)) (hi : P.info? 5 = some i) (hz : i.zero = some (.int .u8 0)) (hsize : i.size = 1) (hby : i.bytes = 1)
    (v : Value) (n : Nat) (xs : List Value) (hs : a.eval s = v) (hown : w.ownsRow base 5 1 v n xs) (hn : 0 < n) (xa : Option Addr) (m c : Nat) (l : List Nat) (hx : a.eval x = .slice xa m c) (hl : l.length = m) (hb : Bytes w xa l) (hc : xa = none → c = 0)
    (h63 : n + m ≤ 140737488355328) (hbase : base ≤ w.heap.size)
    (h : ∀ g cap w', w'.ownsRow base 5 1 (.slice (some ⟨g, 0, none⟩) (n + m) cap) (n + m) (xs ++ B8 l) → w.grownBy w' v.ownBlock → K (a.put o.dst (.slice (some ⟨g, 0, none⟩) (n + m) cap)) w') : Oper.wp P o a w K Q := by
  obtain ⟨g, cap, w', hr, h2, h3⟩ := run_append_any (P := P) w t o.type base i ht hi hz hsize hby v n xs hown hn xa m c l hl hb hc h63 hbase
  unfold Oper.wp
  simp [execOp, ho, resolve, invoke, builtin, hs, hx, hr, Result.andThen]
  exact h g cap w' h2 h3
theorem wpList_append_any {P : Program} (w : World) {ops : Array Oper} {rest : List Oper} {o : Oper} {a : Act} {Q : Exit → Act → World → Prop} (hgd : o.guard = none) (s x : Operand) (t : TypeId)
    (ho : o.op = .call { callee := .builtin .append, args := #[s, x], argTypes := #[t, t] })
    (base : Nat) (i : TypeInfo) (ht : P.underlying t = some (.slice 5)) (hi : P.info? 5 = some i) (hz : i.zero = some (.int .u8 0)) (hsize : i.size = 1) (hby : i.bytes = 1)
    (v : Value) (n : Nat) (xs : List Value) (hs : a.eval s = v) (hown : w.ownsRow base 5 1 v n xs) (hn : 0 < n) (xa : Option Addr) (m c : Nat) (l : List Nat) (hx : a.eval x = .slice xa m c) (hl : l.length = m) (hb : Bytes w xa l) (hc : xa = none → c = 0)
    (h63 : n + m ≤ 140737488355328) (hbase : base ≤ w.heap.size)
    (h : ∀ g cap w', w'.ownsRow base 5 1 (.slice (some ⟨g, 0, none⟩) (n + m) cap) (n + m) (xs ++ B8 l) → w.grownBy w' v.ownBlock → wpList P ops Q rest (a.put o.dst (.slice (some ⟨g, 0, none⟩) (n + m) cap)) w') : wpList P ops Q (o :: rest) a w :=
  wpList_plain hgd fun K hK => wp_append_any w s x t ho base i ht hi hz hsize hby v n xs hs hown hn xa m c l hx hl hb hc h63 hbase (fun g cap w' h1 h2 => hK _ _ (h g cap w' h1 h2))
theorem step_append_any {P : Program} (w : World) {ops : Array Oper} {o : Oper} {a : Act} {K : Act → World → Prop} {Q : Exit → Act → World → Prop} {E : Prop} (hgd : o.guard = none) (s x : Operand) (t : TypeId)
    (ho : o.op = .call { callee := .builtin .append, args := #[s, x], argTypes := #[t, t] })
    (base : Nat) (i : TypeInfo) (ht : P.underlying t = some (.slice 5)) (hi : P.info? 5 = some i) (hz : i.zero = some (.int .u8 0)) (hsize : i.size = 1) (hby : i.bytes = 1)
    (v : Value) (n : Nat) (xs : List Value) (hs : a.eval s = v) (hown : w.ownsRow base 5 1 v n xs) (hn : 0 < n) (xa : Option Addr) (m c : Nat) (l : List Nat) (hx : a.eval x = .slice xa m c) (hl : l.length = m) (hb : Bytes w xa l) (hc : xa = none → c = 0)
    (h63 : n + m ≤ 140737488355328) (hbase : base ≤ w.heap.size)
    (h : ∀ g cap w', w'.ownsRow base 5 1 (.slice (some ⟨g, 0, none⟩) (n + m) cap) (n + m) (xs ++ B8 l) → w.grownBy w' v.ownBlock → K (a.put o.dst (.slice (some ⟨g, 0, none⟩) (n + m) cap)) w') :
    if Region.wanted o (yielded ops a.tmps) = true then Oper.wp P o a w K Q else E := by
  have hw : Region.wanted o (yielded ops a.tmps) = true := by simp [Region.wanted, hgd]
  rw [if_pos hw]
  exact wp_append_any w s x t ho base i ht hi hz hsize hby v n xs hs hown hn xa m c l hx hl hb hc h63 hbase h
end Go.Proofs.Ytlnhhgmdajbepaa
namespace Go.Proofs.Ytlnhhgmdajbepaa
open Go.ChangeShapes Go.WideShapes Go.ChangeAt Go.RowKit
set_option linter.unusedVariables false
theorem wpList_append_b {P : Program} {w : World} {ops : Array Oper} {rest : List Oper} {o : Oper} {a : Act} {Q : Exit → Act → World → Prop} (hgd : o.guard = none) (s x : Operand) (t : TypeId)
    (ho : o.op = .call { callee := .builtin .append, args := #[s, x], argTypes := #[t, t] })
    (base : Nat) (i : TypeInfo) (ht : P.underlying t = some (.slice 5)) (hi : P.info? 5 = some i) (hz : i.zero = some (.int .u8 0)) (hsize : i.size = 1) (hby : i.bytes = 1)
    (v : Value) (n : Nat) (xs : List Value) (hs : a.eval s = v) (hown : w.ownsRow base 5 1 v n xs) (xa : Option Addr) (m c : Nat) (l : List Nat) (hx : a.eval x = .slice xa m c) (hl : l.length = m) (hb : Bytes w xa l) (hc : xa = none → c = 0)
    (h63 : n + m ≤ 140737488355328) (hbase : base ≤ w.heap.size)
    (h : ∀ v' w', w'.ownsRow base 5 1 v' (n + m) (xs ++ B8 l) → w.grownBy w' v.ownBlock → wpList P ops Q rest (a.put o.dst v') w') : wpList P ops Q (o :: rest) a w := by
  cases xa with
  | none =>
    have hl0 : l = [] := by
      rcases hb.2 with h | ⟨b, off, h, _⟩
      · exact h
      · cases h
    subst hl0
    have hm0 : m = 0 := by simpa using hl.symm
    subst hm0
    have hc0 := hc rfl
    subst hc0
    exact wpList_append_own_none hgd s x t ho base 5 i 1 ht hi v n xs hs hown hx (h v w (by simpa [B8] using hown) ⟨rfl, rfl, rfl, Nat.le_refl _, fun _ _ _ => rfl⟩)
  | some ad =>
    rcases hb.2 with hl0 | ⟨b, off, he, hlt, hcell⟩
    · subst hl0
      have hm0 : m = 0 := by simpa using hl.symm
      subst hm0
      exact wpList_append_own w hgd s x t ho base 5 i (.int .u8 0) 1 1 ht hi hz hsize hby rfl (by decide) v n xs hs hown ad 0 c [] hx rfl (fun j u hj => by simp at hj) (fun u hu => by cases hu) (by unfold maxLen; omega) (by omega) hbase (fun v' w' h1 h2 _ => h v' w' (by simpa [B8] using h1) h2)
    · cases he
      exact wpList_append_own w hgd s x t ho base 5 i (.int .u8 0) 1 1 ht hi hz hsize hby rfl (by decide) v n xs hs hown ⟨b, off, none⟩ m c (B8 l) hx (by rw [B8_length, hl, Nat.mul_one]) (bytes_cells hb) (B8_one _) (by unfold maxLen; omega) (by omega) hbase (fun v' w' h1 h2 _ => h v' w' h1 h2)
end Go.Proofs.Ytlnhhgmdajbepaa
namespace Go.Proofs.Ytlnhhgmdajbepaa
open Go.ChangeShapes Go.WideShapes Go.ChangeAt Go.RowKit
set_option linter.unusedVariables false
theorem bel_drewN {B : Nat} {a w : World} (h : Below B a w) (n : Nat) : Below B a (w.drewN n) := by
  induction n with
  | zero => exact h
  | succ n ih => exact ih.drew
theorem copy_nn (l : List Nat) (a : Option Addr) (n cap : Nat) (w : World) (hn : l.length = n) (hb : Bytes w a l) (hl : n ≤ 281474976710656) :
    Calls Try.prog 29 #[.slice a n cap] w fun e w' => ∃ a2 cap2, e = .returned (.slice a2 n cap2) ∧ n ≤ cap2 ∧ Bytes w' a2 l ∧ Own w' w.heap.size (.slice a2 n cap2) l ∧ Below w.heap.size w w' := by
  subst hn
  refine (copy_any l a cap w hb hl).mono ?_
  rintro e w' ⟨v, rfl, ho, hb'⟩
  obtain ⟨a2, cap2, rfl, h1, _, h3, _⟩ := ho.shape
  exact ⟨a2, cap2, rfl, h1, h3, ho, hb'⟩
theorem same_yes (l : List Nat) (n1 n2 : Nat) (a1 a2 : Option Addr) (c1 c2 : Nat) (w : World) (e1 : l.length = n1) (e2 : l.length = n2) (hb1 : Bytes w a1 l) (hb2 : Bytes w a2 l) (hl : n1 ≤ maxLen) :
    Calls Try.prog 19 #[.slice a1 n1 c1, .slice a2 n2 c2] w fun e w' => e = .returned (.bool true) ∧ Below w.heap.size w w' := by
  refine (same_at l l n1 n2 a1 a2 c1 c2 w e1 e2 hb1 hb2 (by rw [e1]; exact hl) (by rw [e1]; exact hl)).mono ?_
  rw [decide_eq_true rfl]
  rintro e w' ⟨rfl, m, rfl⟩
  exact ⟨rfl, bel_drewN (Below.refl _ _) m⟩
theorem same_no (l m : List Nat) (n1 n2 : Nat) (a1 a2 : Option Addr) (c1 c2 : Nat) (w : World) (hne : l ≠ m) (e1 : l.length = n1) (e2 : m.length = n2) (hb1 : Bytes w a1 l) (hb2 : Bytes w a2 m) (hl : n1 ≤ maxLen) (hm : n2 ≤ maxLen) :
    Calls Try.prog 19 #[.slice a1 n1 c1, .slice a2 n2 c2] w fun e w' => e = .returned (.bool false) ∧ Below w.heap.size w w' := by
  refine (same_at l m n1 n2 a1 a2 c1 c2 w e1 e2 hb1 hb2 (by rw [e1]; exact hl) (by rw [e2]; exact hm)).mono ?_
  rw [decide_eq_false hne]
  rintro e w' ⟨rfl, m, rfl⟩
  exact ⟨rfl, bel_drewN (Below.refl _ _) m⟩
end Go.Proofs.Ytlnhhgmdajbepaa
