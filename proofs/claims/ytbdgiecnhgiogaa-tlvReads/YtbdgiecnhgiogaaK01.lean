/- Own texts, joined: Two, Vmath. -/
import Derived.Test.YtbdgiecnhgiogaaK00
import Derived.ArgAppend
namespace Go.Proofs.Ytbdgiecnhgiogaa
open Go.ChangeShapes Go.WideShapes Go.ChangeAt Go.RowKit
/-- all blocks of w but ga and gc are in wr as they were -/
structure Kept (ga gc : Nat) (w wr : World) : Prop where
  os : wr.os = w.os
  tape : wr.tape = w.tape
  output : wr.output = w.output
  size : w.heap.size ≤ wr.heap.size
  block : ∀ k, k < w.heap.size → k ≠ ga → k ≠ gc → wr.heap[k]? = w.heap[k]?
theorem Kept.refl (ga gc : Nat) (w : World) : Kept ga gc w w := ⟨rfl, rfl, rfl, Nat.le_refl _, fun _ _ _ _ => rfl⟩
theorem Kept.grown {ga gc : Nat} {w wr w' : World} {row : Option Nat} (h : Kept ga gc w wr) (hg : wr.grownBy w' row) (hr : ∀ k, row = some k → k = ga ∨ k = gc ∨ w.heap.size ≤ k) : Kept ga gc w w' := by
  refine ⟨hg.os.trans h.os, hg.tape.trans h.tape, hg.output.trans h.output, Nat.le_trans h.size hg.size, fun k hk h1 h2 => ?_⟩
  rw [hg.block k (Nat.lt_of_lt_of_le hk h.size) (fun hh => ?_), h.block k hk h1 h2]
  rcases hr k hh.symm with h3 | h3 | h3
  · exact h1 h3
  · exact h2 h3
  · omega
theorem Kept.alloc {ga gc : Nat} {w wr : World} (h : Kept ga gc w wr) (o : Obj) : Kept ga gc w (wr.alloc o) :=
  h.grown (World.grownBy_alloc wr o none) (fun _ hk => by cases hk)
theorem Kept.bytes {ga gc : Nat} {w wr : World} {b off : Nat} {l : List Nat} (h : Kept ga gc w wr) (hb : Bytes w (some ⟨b, off, none⟩) l) (h1 : b ≠ ga) (h2 : b ≠ gc) : Bytes wr (some ⟨b, off, none⟩) l := by
  refine ⟨hb.1, ?_⟩
  rcases hb.2 with hb | ⟨b', off', hx, hlt, hc⟩
  · exact .inl hb
  · cases hx
    exact .inr ⟨b, off, rfl, Nat.lt_of_lt_of_le hlt h.size, fun i hi => (World.cell?_of_block (w := w) (a := ⟨b, off + i, none⟩) (h.block b hlt h1 h2)).trans (hc i hi)⟩
theorem Kept.nums {ga gc : Nat} {w wr : World} {a : Option Addr} {l : List Nat} (h : Kept ga gc w wr) (hb : Nums w a l) (hne : ∀ b off, a = some ⟨b, off, none⟩ → b < w.heap.size → l ≠ [] → b ≠ ga ∧ b ≠ gc) : Nums wr a l := by
  refine ⟨hb.1, ?_⟩
  rcases hb.2 with hb | ⟨b, off, rfl, hlt, hc⟩
  · exact .inl hb
  · by_cases hl : l = []
    · exact .inl hl
    · obtain ⟨h1, h2⟩ := hne b off rfl hlt hl
      exact .inr ⟨b, off, rfl, Nat.lt_of_lt_of_le hlt h.size, fun i hi => (World.cell?_of_block (w := w) (a := ⟨b, off + i, none⟩) (h.block b hlt h1 h2)).trans (hc i hi)⟩
theorem Kept.below {ga gc : Nat} {W w wr : World} (h : Kept ga gc w wr) (hb : Below W.heap.size W w) (h1 : W.heap.size ≤ ga) (h2 : W.heap.size ≤ gc) : Below W.heap.size W wr :=
  ⟨h.os.trans hb.os, h.tape.trans hb.tape, h.output.trans hb.output, Nat.le_trans hb.size h.size, fun k hk => (h.block k (Nat.lt_of_lt_of_le hk hb.size) (by omega) (by omega)).trans (hb.block k hk)⟩
/-- append to a row of the call's own: it stays where it is, or goes to new memory -/
theorem wpList_append_two {P : Program} (w : World) {ops : Array Oper} {rest : List Oper} {o : Oper} {a : Act} {Q : Exit → Act → World → Prop}
    (hg : o.guard = none) (s x : Operand) (t : TypeId) (hop : o.op = Op.call { callee := Callee.builtin Builtin.append, args := #[s, x], argTypes := #[t, t] })
    (base : Nat) (e : TypeId) (i : TypeInfo) (z : Value) (bytes : Nat) (h1 : P.underlying t = some (.slice e)) (h2 : P.info? e = some i) (h3 : i.zero = some z) (h4 : i.size = 1) (h5 : i.bytes = bytes) (h6 : z.cells.size = 1)
    (g n cap : Nat) (xs : List Value) (hs : a.eval s = .slice (some ⟨g, 0, none⟩) n cap) (hown : w.ownsRow base e 1 (.slice (some ⟨g, 0, none⟩) n cap) n xs) (ad : Addr) (m c : Nat) (news : List Value) (hx : a.eval x = .slice (some ad) m c) (hn : news.length = m * 1)
    (hc : ∀ j u, news[j]? = some u → w.cell? (ad.add j) = some u) (h1c : ∀ u ∈ news, u.oneCell' = true) (hm : 0 < m) (b1 : n + m ≤ maxLen) (b2 : (n + m) * bytes ≤ 140737488355328) (hbase : base ≤ w.heap.size)
    (hK : ∀ g' cap' w', (g' = g ∨ w.heap.size ≤ g') → g' < w'.heap.size → w'.ownsRow base e 1 (.slice (some ⟨g', 0, none⟩) (n + m) cap') (n + m) (xs ++ news) → w.grownBy w' (some g) → wpList P ops Q rest (a.put o.dst (.slice (some ⟨g', 0, none⟩) (n + m) cap')) w') :
    wpList P ops Q (o :: rest) a w := by
  have hlt : ∀ {w' : World} {g' cap' b' : Nat} {ys : List Value}, w'.ownsRow b' e 1 (.slice (some ⟨g', 0, none⟩) (n + m) cap') (n + m) ys → g' < w'.heap.size := by
    intro w' g' cap' b' ys ho
    rcases ho.2 with ⟨h, _⟩ | ⟨g2, cap2, cur, h, _, hh, _⟩
    · cases h
    · cases h
      by_cases hh2 : g' < w'.heap.size
      · exact hh2
      · rw [Array.getElem?_eq_none (by omega)] at hh; cases hh
  by_cases hroom : n + m ≤ cap
  · exact wpList_append_fits w hg s x t hop base e i 1 h1 h2 h4 g n cap xs hs hown ad m c news hx hn hc h1c hroom (fun w' ho hgr => hK g cap w' (.inl rfl) (hlt ho) ho hgr)
  · refine wpList_append_grows w hg s x t hop e i z 1 bytes h1 h2 h3 h4 h5 h6 (by decide) (some ⟨g, 0, none⟩) n cap xs hs (fun h => by cases h) hown.1 (fun b hb j u hj => ?_) ad m c news hx hn hc h1c (by omega) b1 b2 (fun v' w' ho hgr => ?_)
    · cases hb
      exact hown.cells (g := g) rfl j u hj
    · rcases ho.2 with ⟨hv, hz⟩ | ⟨g', cap', cur, hv, hbg, hh, hr1, hr2, hr3, hr4⟩
      · omega
      · subst hv
        have ho2 : w'.ownsRow base e 1 (.slice (some ⟨g', 0, none⟩) (n + m) cap') (n + m) (xs ++ news) := ⟨ho.1, .inr ⟨g', cap', cur, rfl, Nat.le_trans hbase hbg, hh, hr1, hr2, hr3, hr4⟩⟩
        exact hK g' cap' w' (.inr hbg) (hlt ho) ho2 ⟨hgr.os, hgr.tape, hgr.output, hgr.size, fun k hk _ => hgr.block k hk (by simp)⟩
end Go.Proofs.Ytbdgiecnhgiogaa
namespace Go.Proofs.Ytbdgiecnhgiogaa
open Go.ChangeShapes Go.WideShapes Go.ChangeAt Go.RowKit
def val7 : List Nat → Nat
  | [] => 0
  | c :: r => c % 128 + 128 * val7 r
theorem dec_zero (i u : Nat) (l : List Nat) (h : (dec i u l).2.2 ≠ 0) : (dec i u l).1 = 0 ∧ (dec i u l).2.1 = 0 := by
  induction l generalizing i u with
  | nil => exact ⟨rfl, rfl⟩
  | cons c r ih =>
    rw [dec_cons] at h ⊢
    split
    · exact ⟨rfl, rfl⟩
    · rename_i h1
      rw [if_neg h1] at h
      split
      · rename_i h2
        rw [if_pos h2] at h
        exact ih _ _ h
      · rename_i h2
        rw [if_neg h2] at h
        split
        · exact ⟨rfl, rfl⟩
        · rename_i h3
          rw [if_neg h3] at h
          exact absurd rfl h
theorem dec_ok (l : List Nat) (hl : ∀ x ∈ l, x < 256) (i u v n : Nat) (hi : i ≤ 9) (hu : u < 128 ^ i) (h : dec i u l = (v, n, 0)) :
    i < n ∧ n - i ≤ l.length ∧ n ≤ 10 ∧ v = u + 128 ^ i * val7 (l.take (n - i)) ∧ v < 18446744073709551616 ∧ (0 < i → val7 (l.take (n - i)) ≠ 0) ∧ encF (10 - i) (val7 (l.take (n - i))) = l.take (n - i) := by
  induction l generalizing i u with
  | nil => simp [dec] at h
  | cons c r ih =>
    have hc : c < 256 := hl c (by simp)
    rw [dec_cons] at h
    split at h
    · simp at h
    · rename_i h1
      have hk : i ≤ 8 ∨ (i = 9 ∧ c ≤ 1) := by omega
      have ho := or_step u c i hu hc hk
      split at h
      · rename_i h2
        have hi8 : i ≤ 8 := by omega
        obtain ⟨g1, g2, g3, g4, g5, g6, g7⟩ := ih (fun x hx => hl x (by simp [hx])) (i + 1) _ (by omega) ho.2.1 h
        have e : n - i = (n - (i + 1)) + 1 := by omega
        rw [e, List.take_succ_cons]
        refine ⟨by omega, by simp; omega, g3, ?_, g5, fun _ => ?_, ?_⟩
        · rw [g4]
          simp only [val7]
          rw [Nat.pow_succ]
          grind
        · have := g6 (by omega)
          simp only [val7]
          omega
        · have h6 := g6 (by omega)
          rw [show 10 - i = (10 - (i + 1)) + 1 from by omega]
          simp only [val7]
          unfold encF
          rw [if_neg (by omega)]
          rw [show (c % 128 + 128 * val7 (List.take (n - (i + 1)) r)) % 128 = c % 128 from by omega, show (c % 128 + 128 * val7 (List.take (n - (i + 1)) r)) / 128 = val7 (List.take (n - (i + 1)) r) from by omega, g7]
          rw [show 128 + c % 128 = c from by omega]
      · rename_i h2
        split at h
        · simp at h
        · rename_i h3
          simp only [Prod.mk.injEq, and_true] at h
          obtain ⟨rfl, rfl⟩ := h
          rw [show i + 1 - i = 1 from by omega, List.take_succ_cons, List.take_zero]
          have hm : c % 128 = c := by omega
          refine ⟨by omega, by simp, by omega, ?_, ho.2.2, fun h0 => ?_, ?_⟩
          · simp only [val7]; rw [hm, Nat.mul_zero, Nat.add_zero, Nat.mul_comm]
          · simp only [val7]; omega
          · simp only [val7]
            rw [show 10 - i = (9 - i) + 1 from by omega]
            unfold encF
            rw [if_pos (by omega), hm, Nat.mul_zero, Nat.add_zero]
/-- what is read is what would be written -/
theorem vdec_form (l : List Nat) (hl : ∀ x ∈ l, x < 256) (h : (dec 0 0 l).2.2 = 0) :
    1 ≤ (dec 0 0 l).2.1 ∧ (dec 0 0 l).2.1 ≤ l.length ∧ (dec 0 0 l).2.1 ≤ 10 ∧ (dec 0 0 l).1 ≤ 18446744073709551615 ∧ enc (dec 0 0 l).1 = l.take (dec 0 0 l).2.1 := by
  have := dec_ok l hl 0 0 (dec 0 0 l).1 (dec 0 0 l).2.1 (by omega) (by simp) (Prod.ext rfl (Prod.ext rfl h))
  obtain ⟨g1, g2, g3, g4, g5, _, g7⟩ := this
  rw [Nat.zero_add, Nat.pow_zero, Nat.one_mul, Nat.sub_zero] at g4
  rw [Nat.sub_zero] at g2 g7
  refine ⟨g1, g2, g3, by omega, ?_⟩
  unfold enc
  conv => lhs; rw [g4]
  exact g7
theorem pow_step (s x i : Nat) : s + x % 128 * 128 ^ i + x / 128 * 128 ^ (i + 1) = s + x * 128 ^ i := by
  have h : x * 128 ^ i = (128 * (x / 128) + x % 128) * 128 ^ i := by rw [Nat.div_add_mod]
  rw [h, Nat.pow_succ]
  grind
theorem top_byte (s x : Nat) (h : s + x * 128 ^ 9 < 18446744073709551616) : x < 2 := by
  rw [show (128 : Nat) ^ 9 = 9223372036854775808 from by decide] at h
  omega
theorem dec_enc (f i s x : Nat) (r : List Nat) (hf : f + i = 9) (hs : s < 128 ^ i) (hx : s + x * 128 ^ i < 18446744073709551616) (h0 : 0 < i → x ≠ 0) :
    dec i s (encF (f + 1) x ++ r) = (s + x * 128 ^ i, i + (encF (f + 1) x).length, 0) := by
  induction f generalizing i s x with
  | zero =>
    obtain rfl : i = 9 := by omega
    have h2 := top_byte s x hx
    unfold encF
    rw [if_pos (by omega)]
    have h3 := h0 (by omega)
    obtain rfl : x = 1 := by omega
    rw [List.singleton_append, dec_cons, if_neg (by omega), if_neg (by omega), if_neg (by omega)]
    rfl
  | succ f ih =>
    unfold encF
    by_cases hlt : x < 128
    · rw [if_pos hlt, List.singleton_append, dec_cons, if_neg (by omega), if_neg (by omega), if_neg (by rintro ⟨rfl, hi⟩; exact h0 hi rfl), Nat.mod_eq_of_lt hlt]
      rfl
    · rw [if_neg hlt, List.cons_append, dec_cons, if_neg (by omega), if_pos (by omega)]
      rw [show (128 + x % 128) % 128 = x % 128 from by omega]
      have hp := pow_step s x i
      have hlt2 : s + x % 128 * 128 ^ i < 128 ^ (i + 1) := by
        have h3 : x % 128 * 128 ^ i + 128 ^ i ≤ 128 ^ (i + 1) := by
          rw [Nat.pow_succ, ← Nat.succ_mul, Nat.mul_comm (128 ^ i)]
          exact Nat.mul_le_mul_right _ (by omega)
        omega
      rw [ih (i + 1) _ (x / 128) (by omega) hlt2 (by rw [hp]; exact hx) (fun _ => by omega), hp]
      simp only [List.length_cons]
      rw [show i + 1 + (encF (f + 1) (x / 128)).length = i + ((encF (f + 1) (x / 128)).length + 1) from by omega]
theorem dec_back (u : Nat) (r : List Nat) (h : u ≤ 18446744073709551615) : dec 0 0 (enc u ++ r) = (u, (enc u).length, 0) := by
  have := dec_enc 9 0 0 u r rfl (by simp) (by rw [Nat.pow_zero]; omega) (fun h => by omega)
  rw [Nat.zero_add, Nat.pow_zero, Nat.mul_one, Nat.zero_add] at this
  exact this
theorem vdec_short (f i s x j : Nat) (hf : f + i = 9) (hx : x < 128 ^ (f + 1)) (hj : j < (encF (f + 1) x).length) : dec i s ((encF (f + 1) x).take j) = (0, 0, 10) := by
  induction f generalizing i s x j with
  | zero =>
    unfold encF at hj ⊢
    rw [if_pos (by simpa using hx)] at hj ⊢
    obtain rfl : j = 0 := by simp at hj; omega
    rfl
  | succ f ih =>
    unfold encF at hj ⊢
    by_cases hlt : x < 128
    · rw [if_pos hlt] at hj ⊢
      obtain rfl : j = 0 := by simp at hj; omega
      rfl
    · rw [if_neg hlt] at hj ⊢
      cases j with
      | zero => rfl
      | succ j =>
        rw [List.take_succ_cons, dec_cons, if_neg (by omega), if_pos (by omega)]
        exact ih (i + 1) _ (x / 128) j (by omega) (by rw [Nat.pow_succ] at hx; exact Nat.div_lt_of_lt_mul (by rw [Nat.mul_comm]; exact hx)) (by simpa using hj)
theorem dec_cut (u j : Nat) (h : u ≤ 18446744073709551615) (hj : j < (enc u).length) : dec 0 0 ((enc u).take j) = (0, 0, 10) :=
  vdec_short 9 0 0 u j rfl (lt_pow10 u h) hj
end Go.Proofs.Ytbdgiecnhgiogaa
