/- For every first number, every list of sizes, every stride and every place: what index.Seek finds in the index of frames of rising numbers stands less than a stride ahead of the one that is sought, and is a frame's place. No condition. -/
import Derived.Test.YtifackbilmkjlabMkH
import Derived.Test.YtifackbilmkjlabMkB
import Derived.Test.YtifackbilmkjlabIntsA
import Derived.SizedLaws
import Derived.ChangeOld
namespace Go.Proofs.Ytifackbilmkjlab.indexNear
open Go.ChangeShapes Go.WideShapes Go.ChangeAt Go.RowKit
set_option linter.unusedVariables false
theorem Try.infoPl : (Try.prog.info? 29).map (fun i => (i.zero, i.size, i.bytes)) = some (some (.agg #[.int .i64 0, .int .i64 0, .int .i64 0, .int .i64 0, .slice none 0 0]), 5, 56) := by kernel_rfl
/-- the cells of the law's frames: place, size, number -/
def pfl : List (Int × Int × Int) → List Value
  | [] => []
  | t :: r => .int .i64 t.1 :: .int .i64 t.2.1 :: .int .i64 1 :: .int .i64 t.2.2 :: .slice none 0 0 :: pfl r
theorem pfl_append : ∀ (L M : List (Int × Int × Int)), pfl (L ++ M) = pfl L ++ pfl M
  | [], M => rfl
  | p :: r, M => by simp only [List.cons_append, pfl, pfl_append r M]
theorem pfl_length : ∀ (L : List (Int × Int × Int)), (pfl L).length = L.length * 5
  | [] => rfl
  | p :: r => by simp only [pfl, List.length_cons, pfl_length r]; omega
theorem pfl_one : ∀ (L : List (Int × Int × Int)), ∀ u ∈ pfl L, u.oneCell' = true
  | [], u, h => by cases h
  | p :: r, u, h => by
    simp only [pfl, List.mem_cons] at h
    rcases h with rfl | rfl | rfl | rfl | rfl | h
    · rfl
    · rfl
    · rfl
    · rfl
    · rfl
    · exact pfl_one r u h
theorem pfl_get : ∀ (L : List (Int × Int × Int)) (k : Nat) (t : Int × Int × Int), L[k]? = some t → (pfl L)[k * 5]? = some (.int .i64 t.1) ∧ (pfl L)[k * 5 + 3]? = some (.int .i64 t.2.2)
  | q :: r, 0, p, h => by simp at h; subst h; exact ⟨rfl, rfl⟩
  | q :: r, k + 1, p, h => by
    have := pfl_get r k p (by simpa using h)
    rw [show (k + 1) * 5 = k * 5 + 5 from by omega]
    simpa [pfl] using this
  | [], k, p, h => by simp at h
def mOf (Q : List (Int × Int × Int)) : List Mk := Q.map fun t => (t.2.2, t.1)
theorem mOf_get {Q : List (Int × Int × Int)} {i : Nat} {p : Mk} (h : (mOf Q)[i]? = some p) : ∃ t, Q[i]? = some t ∧ p = (t.2.2, t.1) := by
  unfold mOf at h
  rw [List.getElem?_map] at h
  cases hq : Q[i]? with
  | none => rw [hq] at h; cases h
  | some t => rw [hq] at h; exact ⟨t, rfl, (Option.some.inj h).symm⟩
theorem pl_row {w : World} {base n g c : Nat} {Q : List (Int × Int × Int)} (hn : Q.length = n) (h : w.ownsRow base 29 5 (.slice (some ⟨g, 0, none⟩) n c) n (pfl Q)) : PlAt w (some ⟨g, 0, none⟩) (mOf Q) (pfl Q) := by
  refine ⟨by rw [pfl_length]; simp [mOf], pfl_one Q, .inr ⟨g, 0, rfl, ?_, fun j hj => ?_⟩, fun i p hp => ?_⟩
  · rcases h.2 with ⟨h1, _⟩ | ⟨g2, c2, cur, h1, _, h5, _⟩
    · cases h1
    · cases h1; exact lt_of_heap h5
  · rw [Nat.zero_add]
    exact h.cellAt j (by simp [mOf] at hj; omega)
  · obtain ⟨t, ht, rfl⟩ := mOf_get hp
    exact pfl_get Q i t ht
theorem pl_all {w : World} {x : Addr} {P : List Mk} {V : List Value} (h : PlAt w (some x) P V) : ∀ j u, V[j]? = some u → w.cell? (x.add j) = some u := by
  intro j u hj
  have hlt := lt_of_get hj
  rw [h.len] at hlt
  rcases h.lie with rfl | ⟨b, off, hx, _, hc⟩
  · simp at hlt
  · cases hx
    rw [← hj, show (⟨b, off, none⟩ : Addr).add j = ⟨b, off + j, none⟩ from by simp [Addr.add]]
    exact hc j hlt
theorem and1023 (s : Int) : 0 ≤ bits .and .i64 s 1023 ∧ bits .and .i64 s 1023 ≤ 1023 := by
  have h : bits .and .i64 s 1023 = IntKind.i64.wrap ((BitVec.ofInt 64 s &&& BitVec.ofInt 64 1023).toNat : Int) := rfl
  have h2 : (BitVec.ofInt 64 s &&& BitVec.ofInt 64 1023).toNat ≤ 1023 := by
    rw [BitVec.toNat_and]
    exact Nat.le_trans Nat.and_le_right (by decide)
  rw [h, wrap_i64]
  omega
/-- what the law's loop holds -/
structure SN (Q : List (Int × Int × Int)) (first c : Int) (k : Nat) : Prop where
  len : Q.length = k
  num : ∀ (i : Nat) (t : Int × Int × Int), Q[i]? = some t → t.2.2 = first + (i : Int)
  at0 : ∀ (i : Nat) (t : Int × Int × Int), Q[i]? = some t → 0 ≤ t.1 ∧ t.1 < c
  inc : ∀ (i j : Nat) (t u : Int × Int × Int), i < j → Q[i]? = some t → Q[j]? = some u → t.1 < u.1
  nn : 0 ≤ c
  hi : c ≤ 1043 * (k : Int)
theorem snoc_get {α : Type} {X : List α} {c p : α} {t : Nat} (h : (X ++ [c])[t]? = some p) : (t < X.length ∧ X[t]? = some p) ∨ (t = X.length ∧ p = c) := by
  by_cases h1 : t < X.length
  · rw [List.getElem?_append_left h1] at h
    exact .inl ⟨h1, h⟩
  · rw [List.getElem?_append_right (by omega)] at h
    by_cases h2 : t = X.length
    · subst h2
      simp at h
      exact .inr ⟨rfl, h.symm⟩
    · rw [List.getElem?_eq_none (by simp; omega)] at h
      cases h
theorem SN.step {Q : List (Int × Int × Int)} {first c v : Int} {k : Nat} (h : SN Q first c k) (h0 : 20 ≤ v) (h1 : v ≤ 1043) : SN (Q ++ [(c, v, first + (k : Int))]) first (c + v) (k + 1) := by
  have hk := h.len
  have hnn := h.nn
  refine ⟨by simp [hk], ?_, ?_, ?_, by omega, by have := h.hi; omega⟩
  · intro i t ht
    rcases snoc_get ht with ⟨g1, g2⟩ | ⟨g1, g2⟩
    · exact h.num i t g2
    · subst g2; simp only; omega
  · intro i t ht
    rcases snoc_get ht with ⟨g1, g2⟩ | ⟨g1, g2⟩
    · have := h.at0 i t g2; omega
    · subst g2; simp only; omega
  · intro i j t u hij ht hu
    rcases snoc_get ht with ⟨g1, g2⟩ | ⟨g1, g2⟩ <;> rcases snoc_get hu with ⟨g3, g4⟩ | ⟨g3, g4⟩
    · exact h.inc i j t u hij g2 g4
    · subst g4; exact (h.at0 i t g2).2
    · omega
    · omega
theorem bw_get (s : Nat) (hs : 1 ≤ s) : ∀ (j : Nat) (P : List Mk), (bw s 0 P)[j]? = P[j * s]?
  | 0, [] => by simp [bw]
  | 0, p :: r => by simp [bw]
  | j + 1, [] => by simp [bw]
  | j + 1, p :: r => by
    simp only [bw, List.getElem?_cons_succ]
    rw [bw_drop s (s - 1), bw_get s hs j, List.getElem?_drop]
    have : (j + 1) * s = (s - 1 + j * s) + 1 := by rw [Nat.succ_mul]; omega
    rw [this, List.getElem?_cons_succ]
theorem vfrom_of : ∀ (L : List Mk) (s a : Int), (∀ p ∈ L, s < p.1 ∧ a < p.2 ∧ p.1 ≤ 1099511627776 ∧ p.2 ≤ 1099511627776) → (∀ (i j : Nat) (p q : Mk), i < j → L[i]? = some p → L[j]? = some q → p.1 < q.1 ∧ p.2 < q.2) → vfrom s a L = true
  | [], _, _, _, _ => rfl
  | x :: r, s, a, h1, h2 => by
    have hx := h1 x (by simp)
    rw [vfrom_cons, if_neg (by omega)]
    refine vfrom_of r x.1 x.2 (fun p hp => ?_) (fun i j p q hij hp hq => h2 (i + 1) (j + 1) p q (by omega) (by simpa using hp) (by simpa using hq))
    obtain ⟨i, hi⟩ := List.getElem?_of_mem hp
    have h3 := h2 0 (i + 1) x p (by omega) (by simp) (by simpa using hi)
    have h4 := h1 p (by simp [hp])
    exact ⟨h3.1, h3.2, h4.2.2.1, h4.2.2.2⟩
/-- what the index of the law's frames is -/
theorem SN.marks {Q : List (Int × Int × Int)} {first c : Int} {k s : Nat} (h : SN Q first c k) (hs : 1 ≤ s) (hf : 1 ≤ first) (hf2 : first ≤ 549755813888) (hk : k ≤ 512) :
    validB (bw s 0 (mOf Q)) = true ∧ seekR (first - 1) (bw s 0 (mOf Q)) = ((0, 0), false) ∧ ∀ wh : Nat, wh < k → ∃ (kk : Nat) (t : Int × Int × Int), kk ≤ wh ∧ wh < kk + s ∧ Q[kk]? = some t ∧ seekR (first + (wh : Int)) (bw s 0 (mOf Q)) = ((first + (kk : Int), t.1), true) := by
  have hlen := h.len
  have hml : (mOf Q).length = k := by simp [mOf, hlen]
  have hD : ∀ (j : Nat) (p : Mk), (bw s 0 (mOf Q))[j]? = some p → ∃ t, Q[j * s]? = some t ∧ p = (t.2.2, t.1) := fun j p hp => by
    rw [bw_get s hs] at hp
    exact mOf_get hp
  have hv : vfrom 0 (-1) (bw s 0 (mOf Q)) = true := by
    refine vfrom_of _ _ _ (fun p hp => ?_) (fun i j p q hij hp hq => ?_)
    · obtain ⟨j, hj⟩ := List.getElem?_of_mem hp
      obtain ⟨t, ht, rfl⟩ := hD j p hj
      have h1 := h.num _ t ht
      have h2 := h.at0 _ t ht
      have h3 := lt_of_get ht
      have h4 := h.hi
      simp only
      omega
    · obtain ⟨t, ht, rfl⟩ := hD i p hp
      obtain ⟨u, hu, rfl⟩ := hD j q hq
      have hlt : i * s < j * s := Nat.mul_lt_mul_of_pos_right hij (by omega)
      have h1 := h.num _ t ht
      have h2 := h.num _ u hu
      have h3 := h.inc _ _ t u hlt ht hu
      simp only
      omega
  have hval : validB (bw s 0 (mOf Q)) = true := by
    rw [validB_short (by have := bw_len s 0 (mOf Q); omega)]
    exact hv
  refine ⟨hval, ?_, fun wh hwh => ?_⟩
  · have hc : Cut (bw s 0 (mOf Q)) (first - 1) 0 := ⟨Nat.zero_le _, fun t p ht => by omega, fun j p _ hp => by
      obtain ⟨t, ht, rfl⟩ := hD j p hp
      have := h.num _ t ht
      simp only
      omega⟩
    rw [seekR_cut _ _ 0 hc]
    rfl
  · have hq : wh / s * s ≤ wh := Nat.div_mul_le_self wh s
    have hq2 : wh < wh / s * s + s := Nat.lt_div_mul_add (by omega)
    obtain ⟨t, ht⟩ := get_of_lt (L := Q) (k := wh / s * s) (by omega)
    have hdg : (bw s 0 (mOf Q))[wh / s]? = some (t.2.2, t.1) := by
      rw [bw_get s hs]
      unfold mOf
      rw [List.getElem?_map, ht]
      rfl
    have hc : Cut (bw s 0 (mOf Q)) (first + (wh : Int)) (wh / s + 1) := by
      refine ⟨lt_of_get hdg, fun j p hj hp => ?_, fun j p hj hp => ?_⟩
      · obtain ⟨u, hu, rfl⟩ := hD j p hp
        have h1 := h.num _ u hu
        have h2 : j * s ≤ wh / s * s := Nat.mul_le_mul_right s (by omega)
        simp only
        omega
      · obtain ⟨u, hu, rfl⟩ := hD j p hp
        have h1 := h.num _ u hu
        have h2 : (wh / s + 1) * s ≤ j * s := Nat.mul_le_mul_right s hj
        rw [Nat.succ_mul] at h2
        simp only
        omega
    refine ⟨wh / s * s, t, hq, hq2, ht, ?_⟩
    rw [seekR_cut _ _ _ hc, if_neg (Nat.succ_ne_zero _), Nat.add_sub_cancel, getD_of hdg, h.num _ t ht]
theorem cell_newL (w : World) (xs : List Value) (e : TypeId) : ∀ j u, xs[j]? = some u → (w.alloc (.cells xs.toArray e)).cell? ((⟨w.heap.size, 0, none⟩ : Addr).add j) = some u := by
  intro j u hj
  have hc := cell_of_row (w.alloc (.cells xs.toArray e)) w.heap.size j xs.toArray e (0, 0) (heap_alloc_new w _)
  rw [show (⟨w.heap.size, 0, none⟩ : Addr).add j = ⟨w.heap.size, j, none⟩ from by by_cases h : j = 0 <;> simp [Addr.add, h], hc]
  simpa using hj
theorem one5 (c v q : Int) : ∀ u ∈ [Value.int .i64 c, .int .i64 v, .int .i64 1, .int .i64 q, .slice none 0 0], u.oneCell' = true := by
  intro u hu
  simp at hu
  rcases hu with rfl | rfl | rfl | rfl | rfl <;> rfl
theorem marks_lie {w : World} {base : Nat} {v : Value} {L : List Mk} (h : OwnM w base v L) (n : Nat) (hn : L.length = n) : ∃ a c, v = .slice a n c ∧ Marks w a L ∧ (a = none → L = []) := by
  obtain ⟨a, c, h1, h2, h3, h4, h5⟩ := h.shape
  refine ⟨a, c, by rw [h1, hn], h4, fun ha => ?_⟩
  rcases h5 with ⟨_, h6, _⟩ | ⟨g, rfl, _⟩
  · exact h6
  · cases ha
theorem mOf_at {Q : List (Int × Int × Int)} {i : Nat} {t : Int × Int × Int} (h : Q[i]? = some t) : (mOf Q)[i]? = some (t.2.2, t.1) := by
  unfold mOf
  rw [List.getElem?_map, h]
  rfl
theorem pl_any {w : World} {base n : Nat} {v : Value} {Q : List (Int × Int × Int)} (hn : Q.length = n) (h : w.ownsRow base 29 5 v n (pfl Q)) : ∃ a c, v = .slice a n c ∧ PlAt w a (mOf Q) (pfl Q) := by
  rcases h.2 with ⟨rfl, h0⟩ | ⟨g, cap, cur, rfl, hb, hg, h3⟩
  · have hQ : Q = [] := List.length_eq_zero_iff.1 (by omega)
    subst hQ
    exact ⟨none, 0, by rw [h0], rfl, fun u hu => (by cases hu), .inl rfl, fun i p hp => (by simp [mOf] at hp)⟩
  · exact ⟨some ⟨g, 0, none⟩, cap, rfl, pl_row hn ⟨h.1, .inr ⟨g, cap, cur, rfl, hb, hg, h3⟩⟩⟩
set_option maxRecDepth 20000 in
set_option maxHeartbeats 8000000 in
theorem walk (first : Int) (l : List Int) (a : Option Addr) (cap : Nat) (stride which : Int) (w : World) (w0 : (Lit.int .i64 first).wf = true) (hm : Ints w a l) (hc : Came w a l.length cap 8) (w2 : (Lit.int .i64 stride).wf = true) (w3 : (Lit.int .i64 which).wf = true) :
    Calls Try.prog 3 #[.int .i64 first, .slice a l.length cap, .int .i64 stride, .int .i64 which] w fun e w' => e = .returned (.bool true) ∧ Below w.heap.size w w' := by
  obtain ⟨m, hn⟩ : ∃ m, l.length = m := ⟨_, rfl⟩
  obtain ⟨hf, hr, hnn⟩ := hc
  rw [hn] at hf ⊢
  have HN : Hid (l.length = m) := hn
  have HM : Hid (Ints w a l) := hm
  obtain ⟨hst0, hst1⟩ : -9223372036854775808 ≤ stride ∧ stride ≤ 9223372036854775807 := by simpa [Lit.wf, IntKind.min, IntKind.max, IntKind.signed, IntKind.bits] using w2
  obtain ⟨hw0, hw1⟩ : -9223372036854775808 ≤ which ∧ which ≤ 9223372036854775807 := by simpa [Lit.wf, IntKind.min, IntKind.max, IntKind.signed, IntKind.bits] using w3
  have hmI : (m : Int) ≤ 17592186044416 := by omega
  clear hn hm hf hr hnn w0 w2 w3
  by_cases h1 : first < 1
  · go_enter Try.func3, Try.ntmps3
    go_wp2_with (go_at_call 4; refine (head13_any w).mono ?_; rintro e w1 ⟨rfl, hb1⟩)
    go_ret
    exact ⟨rfl, hb1⟩
  by_cases h2 : 549755813888 < first
  · go_enter Try.func3, Try.ntmps3
    go_wp2_with (go_at_call 4; refine (head13_any w).mono ?_; rintro e w1 ⟨rfl, hb1⟩)
    go_ret
    exact ⟨rfl, hb1⟩
  by_cases h3 : (512 : Int) < (m : Int)
  · go_enter Try.func3, Try.ntmps3
    go_wp2_with (go_at_call 4; refine (head13_any w).mono ?_; rintro e w1 ⟨rfl, hb1⟩)
    go_ret
    exact ⟨rfl, hb1⟩
  by_cases h4 : stride < 1
  · go_enter Try.func3, Try.ntmps3
    go_wp2_with (go_at_call 4; refine (head13_any w).mono ?_; rintro e w1 ⟨rfl, hb1⟩)
    go_ret
    exact ⟨rfl, hb1⟩
  obtain ⟨i0, hi, hz0, hz1, hz2⟩ := info_parts Try.infoPl
  obtain ⟨s, hss⟩ : ∃ s : Nat, stride = (s : Int) := ⟨stride.toNat, by omega⟩
  subst hss
  have hm5 : (m : Int) ≤ 512 := by omega
  have hf1 : 1 ≤ first := by omega
  have hf2 : first ≤ 549755813888 := by omega
  have hs1 : 1 ≤ (s : Int) := by omega
  clear h1 h2 h3 h4 hmI
  go_enter Try.func3, Try.ntmps3
  go_wp2_with (go_at_call 4; refine (head13_any w).mono ?_; rintro e w1 ⟨rfl, hb1⟩)
  have HB1 : Hid (Below w.heap.size w w1) := hb1
  have hs1w := hb1.size
  clear hb1
  go_loopw [9, 10, 40] (fun vps vat vi wr => ∃ (g cp k : Nat) (Q : List (Int × Int × Int)) (c : Int), vps = .slice (some ⟨g, 0, none⟩) k cp ∧ k ≤ m ∧ vat = .int .i64 c ∧ vi = .int .i64 k ∧ SN Q first c k ∧ wr.ownsRow w1.heap.size 29 5 (.slice (some ⟨g, 0, none⟩) k cp) k (pfl Q) ∧ Below w1.heap.size w1 wr) (fun _ _ vi _ => m - (intOf vi).toNat)
  case atStart => exact ⟨_, _, 0, [], 0, rfl, Nat.zero_le _, rfl, rfl, ⟨rfl, fun i t h => by simp at h, fun i t h => by simp at h, fun i j t u _ h => by simp at h, by omega, by omega⟩, World.ownsRow_lit w1 #[] 0 (Nat.le_refl _) (by simp) rfl, (Below.refl _ _).alloc (Nat.le_refl _) _⟩
  case round =>
    obtain ⟨g, cp, k, Q, c, rfl, hk, rfl, rfl, hS, hO, hbe⟩ := hrel
    have HS : Hid (SN Q first c k) := hS
    have HO : Hid (wr.ownsRow w1.heap.size 29 5 (.slice (some ⟨g, 0, none⟩) k cp) k (pfl Q)) := hO
    have hc0 := hS.nn
    have hc1 := hS.hi
    have hbs := hbe.size
    clear hS hO
    by_cases hkn : k < m
    · obtain ⟨x, hp⟩ := get_of_lt (L := l) (k := k) (by rw [HN.out]; exact hkn)
      rcases HM.out.2 with h0 | ⟨b, off, rfl, hlt, hcl⟩
      · exfalso; have := HN.out; rw [h0] at this; simp at this; omega
      have c0 := hcl k (by rw [HN.out]; exact hkn)
      rw [show l.getD k 0 = x from by rw [List.getD_eq_getElem?_getD, hp]; rfl] at c0
      rw [← (HB1.out.trans (hbe.mono hs1w)).cell (p := ⟨b, off + k, none⟩) hlt] at c0
      obtain ⟨v, hv⟩ : ∃ v, bits BinOp.and IntKind.i64 x 1023 = v := ⟨_, rfl⟩
      obtain ⟨hv0, hv1⟩ : 0 ≤ v ∧ v ≤ 1023 := by rw [← hv]; exact and1023 x
      have HST : Hid (SN (Q ++ [(c, 20 + v, first + (k : Int))]) first (c + (20 + v)) (k + 1)) := HS.out.step (by omega) (by omega)
      have HO5 : Hid ((wr.alloc (.cells #[.int .i64 c, .int .i64 (20 + v), .int .i64 1, .int .i64 (first + (k : Int)), .slice none 0 0] 29)).ownsRow w1.heap.size 29 5 (.slice (some ⟨g, 0, none⟩) k cp) k (pfl Q)) := World.ownsRow.alloc HO.out _
      have HB5 : Hid (Below w1.heap.size w1 (wr.alloc (.cells #[.int .i64 c, .int .i64 (20 + v), .int .i64 1, .int .i64 (first + (k : Int)), .slice none 0 0] 29))) := hbe.alloc hbs _
      have HNW := cell_newL wr [.int .i64 c, .int .i64 (20 + v), .int .i64 1, .int .i64 (first + (k : Int)), .slice none 0 0] 29
      have HNWH : Hid (_) := HNW
      clear hcl hp HNW
      go_wp2_with (at_builtin; refine wpList_append_lies _ rfl _ _ 24 rfl w1.heap.size 29 i0 (.agg #[.int .i64 0, .int .i64 0, .int .i64 0, .int .i64 0, .slice none 0 0]) 5 56 Try.underlying24 hi hz0 hz1 hz2 rfl (by decide) _ k (pfl Q) rfl HO5.out ⟨wr.heap.size, 0, none⟩ 1 1 [.int .i64 c, .int .i64 (20 + v), .int .i64 1, .int .i64 (first + (k : Int)), .slice none 0 0] rfl rfl HNWH.out (one5 _ _ _) (by omega) (by unfold maxLen; omega) (by omega) (by simp; omega) (wr.heap.size + 1) (by simp) ?_; intro g4 cap4 w4 ho4 hg4 _ _; have hb4 := grown_row HB5.out HO5.out (by simp; omega) hg4; have HO4 : Hid (w4.ownsRow w1.heap.size 29 5 (.slice (some ⟨g4, 0, none⟩) (k + 1) cap4) (k + 1) (pfl (Q ++ [(c, 20 + v, first + (k : Int))]))) := (by rw [pfl_append]; exact ho4); clear ho4 hg4)
      go_roundw
      case rel => exact ⟨g4, cap4, k + 1, _, c + (20 + v), rfl, by omega, rfl, by go_num, HST.out, HO4.out, hb4⟩
      case measure => simp [intOf]; omega
    · obtain rfl : k = m := by omega
      obtain ⟨hv, hs0, hsk⟩ := HS.out.marks (s := s) (by omega) hf1 hf2 (by omega)
      obtain ⟨D, hD⟩ : ∃ D, bldL (s : Int) (mOf Q) = D := ⟨_, rfl⟩
      have hDb : bw s 0 (mOf Q) = D := by rw [← hD]; unfold bldL; rw [if_neg (by omega), Int.toNat_natCast]
      rw [hDb] at hv hs0 hsk
      obtain ⟨n, hDn⟩ : ∃ n, D.length = n := ⟨_, rfl⟩
      have hn5 : n ≤ 512 := by have := valid_len hv; omega
      have HD : Hid (bldL (s : Int) (mOf Q) = D ∧ D.length = n ∧ validB D = true ∧ seekR (first - 1) D = ((0, 0), false) ∧ n * 16 ≤ 140737488351232 ∧ n ≤ maxLen ∧ n ≤ 140737488351232) := ⟨hD, hDn, hv, hs0, by omega, by unfold maxLen; omega, by omega⟩
      have HSK : Hid (∀ wh : Nat, wh < k → ∃ (kk : Nat) (t : Int × Int × Int), kk ≤ wh ∧ wh < kk + s ∧ Q[kk]? = some t ∧ seekR (first + (wh : Int)) D = ((first + (kk : Int), t.1), true)) := hsk
      have HPR : Hid (PlAt wr (some ⟨g, 0, none⟩) (mOf Q) (pfl Q)) := pl_row HS.out.len HO.out
      have HPL1 : Hid (PlAt (wr.alloc (.cells #[] 29)) (some ⟨g, 0, none⟩) (mOf Q) (pfl Q)) := HPR.out.keep ((Below.refl _ _).alloc (Nat.le_refl _) _)
      have HLQ : Hid ((mOf Q).length = k ∧ (pfl Q).length = k * 5 ∧ Q.length = k) := ⟨by simp [mOf, HS.out.len], by rw [pfl_length, HS.out.len], HS.out.len⟩
      have HBW : Hid (Below w.heap.size w wr) := HB1.out.trans (hbe.mono hs1w)
      have HLIT : Hid ((wr.alloc (.cells #[] 29)).ownsRow wr.heap.size 29 5 (.slice (some ⟨wr.heap.size, 0, none⟩) 0 0) 0 []) := World.ownsRow_lit wr #[] 0 (Nat.le_refl _) (by simp) rfl
      have T1 : Hid True := trivial
      have T2 : Hid True := trivial
      have T3 : Hid True := trivial
      clear hv hs0 hsk hD hDb hDn hbe
      by_cases hwh : 0 ≤ which ∧ which < (k : Int)
      · obtain ⟨hwa, hwb⟩ := hwh
        obtain ⟨wh, hwe⟩ : ∃ wh : Nat, which = (wh : Int) := ⟨which.toNat, by omega⟩
        subst hwe
        obtain ⟨kk, t, hkk1, hkk2, ht, hse⟩ := HSK.out wh (by omega)
        have HSE : Hid (seekR (first + (wh : Int)) D = ((first + (kk : Int), t.1), true)) := hse
        have HTT : Hid (Q[kk]? = some t) := ht
        have hsub : first + (kk : Int) - first = (kk : Int) := by omega
        clear hse ht
        go_wp2_with (first
          | (at_builtin; refine wpList_append_own _ rfl _ _ 24 rfl wr.heap.size 29 i0 (.agg #[.int .i64 0, .int .i64 0, .int .i64 0, .int .i64 0, .slice none 0 0]) 5 56 Try.underlying24 hi hz0 hz1 hz2 rfl (by decide) _ _ _ rfl HLIT.out ⟨g, 0, none⟩ k cp (pfl Q) rfl HLQ.out.2.1 (pl_all HPL1.out) (pfl_one Q) (by unfold maxLen; omega) (by omega) (by simp) ?_; intro v5 w5 ho5 hg5 _; have hb5 : Below wr.heap.size wr w5 := ((Below.refl wr.heap.size wr).alloc (Nat.le_refl _) _).grown hg5 (by simp) (fun k hk => by cases hk; exact Nat.le_refl _); have hb5w := below_next HBW.out hb5; obtain ⟨a5, c5, rfl, hpl5⟩ := pl_any HLQ.out.2.2 (by simpa using ho5); clear ho5 hg5)
          | (go_at_call 5; refine (build_any _ _ _ _ _ (s : Int) _ HLQ.out.1 hpl5 (by omega) (by omega) (by omega)).mono ?_; rw [HD.out.1]; rintro e w6 ⟨v6, rfl, ho6, hb6⟩; obtain ⟨a6, c6, rfl, hm6, hn6⟩ := marks_lie ho6 n HD.out.2.1; have HM6 : Hid (Marks w6 a6 D ∧ (a6 = none → D = [])) := ⟨hm6, hn6⟩; clear ho6 hm6 hn6; have hb6w := below_next hb5w hb6)
          | (go_at_call 7; clear T1; refine (copyOf_any D _ _ _ _ HD.out.2.1 HM6.out.1 HM6.out.2 HD.out.2.2.2.2.1).mono ?_; rintro e w7 ⟨v7, rfl, ho7, hb7⟩; obtain ⟨a7, c7, rfl, hm7, _⟩ := marks_lie ho7 n HD.out.2.1; clear ho7; have hb7w := below_next hb6w hb7)
          | (go_at_call 6; refine (valid_any D _ _ _ _ HD.out.2.1 hm7 HD.out.2.2.2.2.2.1).mono ?_; rw [HD.out.2.2.1]; rintro e w8 ⟨rfl, hb8⟩; have hb8w := below_next hb7w hb8; have HM8 : Hid (Marks w8 a6 D) := (HM6.out.1.keep hb7).keep hb8)
          | (go_at_call 7; clear T2; refine (copyOf_any D _ _ _ _ HD.out.2.1 HM8.out HM6.out.2 HD.out.2.2.2.2.1).mono ?_; rintro e w9 ⟨v9, rfl, ho9, hb9⟩; obtain ⟨a9, c9, rfl, hm9, _⟩ := marks_lie ho9 n HD.out.2.1; clear ho9; have hb9w := below_next hb8w hb9)
          | (go_at_call 8; clear T3; refine (seek_any D _ _ _ (first - 1) _ HD.out.2.1 hm9 (rise_valid HD.out.2.2.1) HD.out.2.2.2.2.2.2).mono ?_; rw [HD.out.2.2.2.1]; rintro e wa ⟨rfl, hba⟩; have hbaw := below_next hb9w hba; have hbaw2 : Below w.heap.size w (wa.alloc (.cells #[.int .i64 0, .int .i64 0] 35)) := hbaw.alloc hbaw.size _; have HMA : Hid (Marks (wa.alloc (.cells #[.int .i64 0, .int .i64 0] 35)) a6 D) := ((HM8.out.keep hb9).keep hba).keep ((Below.refl _ _).alloc (Nat.le_refl _) _))
          | (go_at_call 7; refine (copyOf_any D _ _ _ _ HD.out.2.1 HMA.out HM6.out.2 HD.out.2.2.2.2.1).mono ?_; rintro e wb ⟨vb, rfl, hob, hbb⟩; obtain ⟨ab, cb, rfl, hmb, _⟩ := marks_lie hob n HD.out.2.1; clear hob; have hbbw := below_next hbaw2 hbb)
          | (go_at_call 8; refine (seek_any D _ _ _ (first + (wh : Int)) _ HD.out.2.1 hmb (rise_valid HD.out.2.2.1) HD.out.2.2.2.2.2.2).mono ?_; rw [HSE.out]; rintro e wc ⟨rfl, hbc⟩; have hbcw := below_next hbbw hbc; have hbcr : Below wr.heap.size wr (wc.alloc (.cells #[.int .i64 (first + (kk : Int)), .int .i64 t.1] 35)) := (below_next (below_next (below_next (below_next (below_next (below_next (below_next (below_next hb5 hb6) hb7) hb8) hb9) hba) ((Below.refl _ _).alloc (Nat.le_refl _) (.cells #[.int .i64 0, .int .i64 0] 35))) hbb) hbc).alloc (by have h9 := (below_next (below_next (below_next (below_next (below_next (below_next (below_next (below_next hb5 hb6) hb7) hb8) hb9) hba) ((Below.refl _ _).alloc (Nat.le_refl _) (.cells #[.int .i64 0, .int .i64 0] 35))) hbb) hbc).size; exact h9) _; obtain ⟨bq, oq, hq1, hq2, hq3, _⟩ := HPR.out.at kk _ (mOf_at HTT.out); cases hq1; have hq4 : (wc.alloc (.cells #[.int .i64 (first + (kk : Int)), .int .i64 t.1] 35)).cell? ⟨g, 0 + kk * 5, none⟩ = some (.int .i64 t.1) := (hbcr.cell (p := ⟨g, 0 + kk * 5, none⟩) hq2).trans hq3; have hq5 : (wc.alloc (.cells #[.int .i64 (first + (kk : Int)), .int .i64 t.1] 35)).cell? ⟨g, kk * 5, none⟩ = some (.int .i64 t.1) := (by rw [Nat.zero_add] at hq4; exact hq4); have HBC : Hid (Below w.heap.size w (wc.alloc (.cells #[.int .i64 (first + (kk : Int)), .int .i64 t.1] 35))) := hbcw.alloc hbcw.size _; clear hbcr hq3))
        have g1 : (0 : Int) ≤ (kk : Int) := by omega
        have g2 : (kk : Int) ≤ (wh : Int) := by omega
        have g3 : (wh : Int) - (kk : Int) < (s : Int) := by omega
        have g4 : (kk : Int) < (k : Int) := by omega
        go_quiet (fail)
        go_wp2
        go_ret
        exact ⟨ret_bool (by simp), below_drewN HBC.out _⟩
      · by_cases hneg : which < 0
        all_goals go_wp2_with (first
          | (at_builtin; refine wpList_append_own _ rfl _ _ 24 rfl wr.heap.size 29 i0 (.agg #[.int .i64 0, .int .i64 0, .int .i64 0, .int .i64 0, .slice none 0 0]) 5 56 Try.underlying24 hi hz0 hz1 hz2 rfl (by decide) _ _ _ rfl HLIT.out ⟨g, 0, none⟩ k cp (pfl Q) rfl HLQ.out.2.1 (pl_all HPL1.out) (pfl_one Q) (by unfold maxLen; omega) (by omega) (by simp) ?_; intro v5 w5 ho5 hg5 _; have hb5 : Below wr.heap.size wr w5 := ((Below.refl wr.heap.size wr).alloc (Nat.le_refl _) _).grown hg5 (by simp) (fun k hk => by cases hk; exact Nat.le_refl _); have hb5w := below_next HBW.out hb5; obtain ⟨a5, c5, rfl, hpl5⟩ := pl_any HLQ.out.2.2 (by simpa using ho5); clear ho5 hg5)
          | (go_at_call 5; refine (build_any _ _ _ _ _ (s : Int) _ HLQ.out.1 hpl5 (by omega) (by omega) (by omega)).mono ?_; rw [HD.out.1]; rintro e w6 ⟨v6, rfl, ho6, hb6⟩; obtain ⟨a6, c6, rfl, hm6, hn6⟩ := marks_lie ho6 n HD.out.2.1; have HM6 : Hid (Marks w6 a6 D ∧ (a6 = none → D = [])) := ⟨hm6, hn6⟩; clear ho6 hm6 hn6; have hb6w := below_next hb5w hb6)
          | (go_at_call 7; clear T1; refine (copyOf_any D _ _ _ _ HD.out.2.1 HM6.out.1 HM6.out.2 HD.out.2.2.2.2.1).mono ?_; rintro e w7 ⟨v7, rfl, ho7, hb7⟩; obtain ⟨a7, c7, rfl, hm7, _⟩ := marks_lie ho7 n HD.out.2.1; clear ho7; have hb7w := below_next hb6w hb7)
          | (go_at_call 6; refine (valid_any D _ _ _ _ HD.out.2.1 hm7 HD.out.2.2.2.2.2.1).mono ?_; rw [HD.out.2.2.1]; rintro e w8 ⟨rfl, hb8⟩; have hb8w := below_next hb7w hb8; have HM8 : Hid (Marks w8 a6 D) := (HM6.out.1.keep hb7).keep hb8)
          | (go_at_call 7; clear T2; refine (copyOf_any D _ _ _ _ HD.out.2.1 HM8.out HM6.out.2 HD.out.2.2.2.2.1).mono ?_; rintro e w9 ⟨v9, rfl, ho9, hb9⟩; obtain ⟨a9, c9, rfl, hm9, _⟩ := marks_lie ho9 n HD.out.2.1; clear ho9; have hb9w := below_next hb8w hb9)
          | (go_at_call 8; clear T3; refine (seek_any D _ _ _ (first - 1) _ HD.out.2.1 hm9 (rise_valid HD.out.2.2.1) HD.out.2.2.2.2.2.2).mono ?_; rw [HD.out.2.2.2.1]; rintro e wa ⟨rfl, hba⟩; have hbaw := below_next hb9w hba; have hbaw2 : Below w.heap.size w (wa.alloc (.cells #[.int .i64 0, .int .i64 0] 35)) := hbaw.alloc hbaw.size _; have HMA : Hid (Marks (wa.alloc (.cells #[.int .i64 0, .int .i64 0] 35)) a6 D) := ((HM8.out.keep hb9).keep hba).keep ((Below.refl _ _).alloc (Nat.le_refl _) _))
          | fail)
        all_goals go_ret
        all_goals exact ⟨rfl, hbaw2⟩
theorem own : ownKnob Try.prog.godebug = none := by kernel_rfl
theorem laidOut : laidOutB Try.prog = true := by kernel_rfl
set_option maxRecDepth 100000 in
theorem contract (H : Type) (enc : TypeId × Value → H) (W : World) (base : Nat) (args : Array Value) (ds gs : List (DataW H)) (before : List MemPlace)
    (hval : ∀ (j : Nat) t v, Try.f3.params[j]? = some t → args[j]? = some v → Value.okWide Try.prog W .any base t v)
    (hW : DataW.Whole enc Try.prog Try.f3.params.toList Rows.indexNearSpec.vars false W args.toList ds gs before)
    (hsz : (DataW.weightsEach Try.prog (Try.f3.params.toList ++ Rows.indexNearSpec.plain.varTypes Try.prog) (ds ++ gs)).all (· ≤ reachBytes) = true) :
    Calls Try.prog 3 args W fun e W' => ∃ v, e = .returned v ∧ Rows.indexNearSpec.post enc Try.prog Try.f3 false true false false W args v W' := by
  have hW' := hW
  obtain ⟨p, q, hA0, hV, rfl, hfz, hnd⟩ := hW
  have hA : DataW.TrodAll enc Try.prog W 0 (fun _ => true) true Try.f3.params.toList args.toList ds p := hA0
  rw [Try.params3] at hA hval hsz
  obtain ⟨v0, vs0, d0, ds0, p0, q0, hargs, rfl, rfl, h0, r0⟩ := trodAll_cons hA
  obtain ⟨v1, vs1, d1, ds1, p1, q1, rfl, rfl, rfl, h1, r1⟩ := trodAll_cons r0
  obtain ⟨v2, vs2, d2, ds2, p2, q2, rfl, rfl, rfl, h2, r2⟩ := trodAll_cons r1
  obtain ⟨v3, vs3, d3, ds3, p3, q3, rfl, rfl, rfl, h3, r3⟩ := trodAll_cons r2
  obtain ⟨rfl, rfl, rfl⟩ := trodAll_nil r3
  obtain rfl : args = #[v0, v1, v2, v3] := by cases args; simp_all
  obtain ⟨rfl, rfl⟩ := trodVars_none hV
  obtain ⟨a0, rfl, rfl, rfl, w0⟩ := open_int Try.underlying3 (hval 0 3 v0 rfl rfl) h0
  obtain ⟨a1, len1, cap1, rfl⟩ := okWide_slice Try.underlying22 (hval 1 22 v1 rfl rfl)
  have k1 := h1
  have lt1 : ∀ x ∈ p1, x.block < W.heap.size := by obtain ⟨m, hm⟩ := k1; exact DataW.trod_lt m _ _ _ hm
  obtain ⟨l1, hlen1, w1, c1⟩ : ∃ l : List Int, l.length = len1 ∧ Ints W a1 l ∧ Came W a1 len1 cap1 8 := by
    obtain ⟨fuel, hf⟩ := h1
    rcases open_ints Try.underlying22 Try.underlying3 (by kernel_rfl) hf with ⟨hcs, hx⟩ | ⟨x, l, c, zs, hcs, _, hl, hm, hz, hx, hcell, hwz⟩
    · simp [Value.cells] at hcs
      obtain ⟨rfl, rfl, rfl⟩ := hcs
      exact ⟨[], rfl, ⟨by simp, .inl rfl⟩, ⟨Nat.le_refl _, by simp, fun _ => rfl⟩⟩
    · simp [Value.cells] at hcs
      obtain ⟨rfl, rfl, rfl⟩ := hcs
      have hz2 : zs.length = cap1 := by simpa using hz
      obtain ⟨ll, e1, e2, e3⟩ := row_ints W x zs len1 (by omega) hcell hwz
      have hd : d1 = .slice (lits .i64 (zs.take len1)) (lits .i64 (zs.drop len1)) := (Prod.mk.inj hx).1
      have hreach : cap1 * 8 ≤ 140737488351232 := by
        have := sized_slice hsz (j := 1) (t := 22) (e := 3) rfl (by rw [hd]; rfl) Try.underlying22
        rw [show Try.prog.bytesOf 3 = 8 from by kernel_rfl] at this
        simp only [lits, List.length_map, List.length_take, List.length_drop, reachBytes] at this
        have hmin : min len1 zs.length = len1 := Nat.min_eq_left (by omega)
        rw [hmin] at this
        have hcap : len1 + (zs.length - len1) = cap1 := by omega
        rw [hcap] at this
        exact this
      exact ⟨ll, e1, ⟨e2, e3⟩, ⟨hl, hreach, fun h => by cases h⟩⟩
  subst hlen1
  obtain ⟨a2, rfl, rfl, rfl, w2⟩ := open_int Try.underlying3 (hval 2 3 v2 rfl rfl) h2
  obtain ⟨a3, rfl, rfl, rfl, w3⟩ := open_int Try.underlying3 (hval 3 3 v3 rfl rfl) h3
  clear hA0
  refine (walk a0 l1 a1 cap1 a2 a3 W w0 w1 c1 w2 w3).mono fun e W' ⟨he, bel⟩ => ?_
  subst he
  exact ⟨_, rfl, _, _, _, [], _, [], hW', trodAll_mk1 (shut_bool Try.underlying4 _), (trodAll_cons_mk (shut_int Try.underlying3 w0) (trodAll_cons_mk (Below.trod laidOut (by kernel_rfl) (of_decide_eq_true (by kernel_rfl)) k1 bel lt1) (trodAll_cons_mk (shut_int Try.underlying3 w2) (trodAll_cons_mk (shut_int Try.underlying3 w3) trodAll_mk0)))), rfl, bel.frame _, fun h => by cases h⟩
set_option maxRecDepth 100000 in
theorem lifted (os : Os) (started : os.Started) (H : Type) (enc : TypeId × Value → H) :
    ReturnsInHanded {} Try.checked os 3 .any (Rows.indexNearSpec.pre6 enc Try.prog Try.f3 Rows.indexNearRow.domain false) (Rows.indexNearSpec.post enc Try.prog Try.f3 false true false false) := by
  refine returnsInHanded_of_change_sized (C := Try.checked) own started (by kernel_rfl) Try.func3
    (ChangeSpec.witness6 (enc := enc) (C := Try.checked) false ⟨#[], #[.int .i64 0, .slice none 0 0, .int .i64 0, .int .i64 0], []⟩ 8 (by kernel_rfl) (by kernel_rfl) (by kernel_rfl) (by kernel_rfl)) ?_
  intro W base args ds gs before hval hW _ hsz _
  exact contract H enc W base args ds gs before hval hW hsz
theorem over : Rows.indexNearRow.holds Try.pinned (OpenSpec.ofChange Rows.indexNearSpec) :=
  OpenClaim.holds_of_wide 3 Try.f3 rfl rfl rfl rfl rfl rfl rfl ⟨rfl, rfl, rfl, rfl, rfl⟩ rfl rfl rfl rfl rfl (by kernel_rfl) Try.func3 (by kernel_rfl)
    (of_decide_eq_true (by kernel_rfl)) (by unfold Func.isWrapper; first | (rw [if_pos (by decide +kernel)]; kernel_rfl) | (rw [if_neg (by decide +kernel)]; exact ⟨rfl, rfl⟩))
    (fun os started H enc _ => lifted os started H enc)
theorem proved : Rows.IndexNearSaid := over
end Go.Proofs.Ytifackbilmkjlab.indexNear
