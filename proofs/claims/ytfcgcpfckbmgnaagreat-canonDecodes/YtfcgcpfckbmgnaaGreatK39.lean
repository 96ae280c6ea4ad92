/- Own texts, joined: Dec, Two, Vmath, Tlm, Tlc, Put, Tlt, Tlf, EncS. -/
import Derived.Test.YtfcgcpfckbmgnaaGreatRows
import Derived.Test.YtfcgcpfckbmgnaaGreatK00
import Derived.ArgAppend
import Derived.Deep.QuietTactic
import Derived.BigQuiet
import Derived.Test.YtfcgcpfckbmgnaaGreatK17
import Derived.Deep.RegionWith
import Derived.Test.YtfcgcpfckbmgnaaGreatK10
namespace Go.Proofs.YtfcgcpfckbmgnaaGreat
open Go.ChangeShapes Go.WideShapes Go.ChangeAt Go.RowKit
set_option maxRecDepth 100000 in
set_option maxHeartbeats 400000 in
theorem dec_any (l : List Nat) (a : Option Addr) (cap : Nat) (w : World) (hb : Bytes w a l) (hl : l.length ≤ maxLen) :
    Calls Tryz.prog 59 #[.slice a l.length cap] w fun e w' => e = .returned (.tuple #[.int .u64 (dec 0 0 l).1, .int .i64 (dec 0 0 l).2.1, .int .i64 (dec 0 0 l).2.2]) ∧ w = w' := by
  unfold maxLen at hl
  obtain ⟨hby, rfl | ⟨b, off, rfl, hlt, hcell⟩⟩ := hb
  · go_enter Tryz.func59, Tryz.ntmps59
    go_wp2
    refine wp_loop_rounds 1 ?_
    rw [rounds_succ]
    go_wp2
    go_ret3
    exact ⟨rfl, rfl⟩
  · go_enter Tryz.func59, Tryz.ntmps59
    go_wp2
    go_loop [5, 10] (fun u i => ∃ k u0 : Nat, k ≤ l.length ∧ k ≤ 9 ∧ i = .int .i64 k ∧ u = .int .u64 u0 ∧ u0 < 128 ^ k ∧ dec 0 0 l = dec k u0 (l.drop k)) (fun _ i => l.length - (intOf i).toNat)
    case atStart => exact ⟨0, 0, Nat.zero_le _, by omega, rfl, rfl, by simp, rfl⟩
    case round =>
      obtain ⟨k, u0, hk, hk9, rfl, rfl, hu, hd⟩ := hrel
      have HU : Hid (u0 < 128 ^ k) := hu
      have HD : Hid (_ = _) := hd
      clear hu hd
      by_cases hlt : k < l.length
      · have hc := hcell k hlt
        have hc256 := hby k
        obtain ⟨c, hcE⟩ : ∃ c, c = l.getD k 0 := ⟨_, rfl⟩
        rw [← hcE] at hc hc256
        have HC : Hid (c = l.getD k 0) := hcE
        clear hcE hcell hby
        by_cases hA : k = 9 ∧ 1 < c
        · obtain ⟨rfl, h1c⟩ := hA
          have HE : Hid (dec 0 0 l = (0, 0, 12)) := by
            show _ = _
            rw [HD.out, drop_at l _ c hlt HC.out, dec_cons, if_pos ⟨rfl, h1c⟩]
          clear HD HU HC
          go_wp2
          go_ret3
          exact ⟨by rw [HE.out]; rfl, rfl⟩
        · have hA' : k ≤ 8 ∨ (k = 9 ∧ c ≤ 1) := by omega
          by_cases hB : 128 ≤ c
          · have hk8 : k ≤ 8 := by omega
            have hkb : ((k : Int) == 9) = false := by simp; omega
            have HE : Hid (dec 0 0 l = dec (k + 1) (u0 + c % 128 * 128 ^ k) (l.drop (k + 1))) := by
              show _ = _
              rw [HD.out, drop_at l _ c hlt HC.out, dec_cons, if_neg hA, if_pos hB]
            have HO : Hid (_ ∧ _) := or_step u0 c k HU.out hc256 hA'
            clear hA' hk9 HD HU HC hA
            go_wp2
            go_round
            case rel => exact ⟨k + 1, _, by omega, by omega, by go_num, congrArg (Value.int IntKind.u64) HO.out.1, HO.out.2.1, HE.out⟩
            case measure => simp [intOf]; omega
          · by_cases hC : c = 0 ∧ 0 < k
            · obtain ⟨rfl, hk0⟩ := hC
              have HE : Hid (dec 0 0 l = (0, 0, 11)) := by
                show _ = _
                rw [HD.out, drop_at l _ _ hlt HC.out, dec_cons, if_neg hA, if_neg hB, if_pos ⟨rfl, hk0⟩]
              clear HD HU HC hA hA' hB
              by_cases hk9' : k = 9
              · subst hk9'
                go_wp2
                go_ret3
                exact ⟨by rw [HE.out]; rfl, rfl⟩
              · have hkb : ((k : Int) == 9) = false := by simp; omega
                clear hk9'
                go_wp2
                go_ret3
                exact ⟨by rw [HE.out]; rfl, rfl⟩
            · have HE : Hid (dec 0 0 l = (u0 + c % 128 * 128 ^ k, k + 1, 0)) := by
                show _ = _
                rw [HD.out, drop_at l _ _ hlt HC.out, dec_cons, if_neg hA, if_neg hB, if_neg hC]
              have HO : Hid (_ ∧ _) := or_step u0 c k HU.out hc256 hA'
              have hC' : c ≠ 0 ∨ k = 0 := by omega
              clear HD HU HC hA hC
              by_cases hk9' : k = 9
              · subst hk9'
                have hc0 : ((c : Int) == 0) = false := by simp; omega
                have hc1 : c ≤ 1 := by omega
                clear hC' hA'
                go_wp2
                go_ret3
                rw [HE.out]
                exact ⟨ret3 HO.out.1 rfl rfl, rfl⟩
              · have hkb : ((k : Int) == 9) = false := by simp; omega
                clear hk9' hA'
                by_cases hc0' : c = 0
                · have hk0 : ¬ (0 : Int) < (k : Int) := by omega
                  have hc0 : ((c : Int) == 0) = true := by simp; omega
                  clear hC' hc0'
                  go_wp2
                  go_ret3
                  rw [HE.out]
                  exact ⟨ret3 HO.out.1 rfl rfl, rfl⟩
                · have hc0 : ((c : Int) == 0) = false := by simp; omega
                  clear hC' hc0'
                  go_wp2
                  go_ret3
                  rw [HE.out]
                  exact ⟨ret3 HO.out.1 rfl rfl, rfl⟩
      · have HE : Hid (dec 0 0 l = (0, 0, 10)) := by
          show _ = _
          rw [HD.out, List.drop_eq_nil_of_le (by omega)]; rfl
        clear HD HU hcell hby
        go_wp2
        go_ret3
        exact ⟨by rw [HE.out]; rfl, rfl⟩
theorem dec_at (l : List Nat) (n u k e : Nat) (a : Option Addr) (cap : Nat) (w : World) (e1 : l.length = n) (hd : dec 0 0 l = (u, k, e)) (hb : Bytes w a l) (hl : l.length ≤ maxLen) :
    Calls Tryz.prog 59 #[.slice a n cap] w fun x w' => x = .returned (.tuple #[.int .u64 u, .int .i64 k, .int .i64 e]) ∧ w = w' := by
  subst e1
  refine (dec_any l a cap w hb hl).mono ?_
  rw [hd]
  exact fun _ _ h => h
end Go.Proofs.YtfcgcpfckbmgnaaGreat
namespace Go.Proofs.YtfcgcpfckbmgnaaGreat
open Go.ChangeShapes Go.WideShapes Go.ChangeAt Go.RowKit
/-- all blocks of w but ga and gc are in wr as they were -/
structure Kept (ga gc : Nat) (w wr : World) : Prop where
  os : wr.os = w.os
  tape : wr.tape = w.tape
  output : wr.output = w.output
  size : w.heap.size ≤ wr.heap.size
  block : ∀ k, k < w.heap.size → k ≠ ga → k ≠ gc → wr.heap[k]? = w.heap[k]?
theorem Kept.refl (ga gc : Nat) (w : World) : Kept ga gc w w := ⟨rfl, rfl, rfl, Nat.le_refl _, fun _ _ _ _ => rfl⟩
theorem Kept.grown {ga gc : Nat} {w wr w' : World} {row : Option Nat} (h : Kept ga gc w wr) (hg : wr.grownBy w' row) (hr : ∀ k, row = some k → k = ga ∨ k = gc ∨ w.heap.size ≤ k) : Kept ga gc w w' := by
  refine ⟨hg.os.trans h.os, hg.tape.trans h.tape, hg.output.trans h.output, Nat.le_trans h.size hg.size, fun k hk h1 h2 => ?_⟩
  rw [hg.block k (Nat.lt_of_lt_of_le hk h.size) (fun hh => ?_), h.block k hk h1 h2]
  rcases hr k hh.symm with h3 | h3 | h3
  · exact h1 h3
  · exact h2 h3
  · omega
theorem Kept.alloc {ga gc : Nat} {w wr : World} (h : Kept ga gc w wr) (o : Obj) : Kept ga gc w (wr.alloc o) :=
  h.grown (World.grownBy_alloc wr o none) (fun _ hk => by cases hk)
theorem Kept.bytes {ga gc : Nat} {w wr : World} {b off : Nat} {l : List Nat} (h : Kept ga gc w wr) (hb : Bytes w (some ⟨b, off, none⟩) l) (h1 : b ≠ ga) (h2 : b ≠ gc) : Bytes wr (some ⟨b, off, none⟩) l := by
  refine ⟨hb.1, ?_⟩
  rcases hb.2 with hb | ⟨b', off', hx, hlt, hc⟩
  · exact .inl hb
  · cases hx
    exact .inr ⟨b, off, rfl, Nat.lt_of_lt_of_le hlt h.size, fun i hi => (World.cell?_of_block (w := w) (a := ⟨b, off + i, none⟩) (h.block b hlt h1 h2)).trans (hc i hi)⟩
theorem Kept.nums {ga gc : Nat} {w wr : World} {a : Option Addr} {l : List Nat} (h : Kept ga gc w wr) (hb : Nums w a l) (hne : ∀ b off, a = some ⟨b, off, none⟩ → b < w.heap.size → l ≠ [] → b ≠ ga ∧ b ≠ gc) : Nums wr a l := by
  refine ⟨hb.1, ?_⟩
  rcases hb.2 with hb | ⟨b, off, rfl, hlt, hc⟩
  · exact .inl hb
  · by_cases hl : l = []
    · exact .inl hl
    · obtain ⟨h1, h2⟩ := hne b off rfl hlt hl
      exact .inr ⟨b, off, rfl, Nat.lt_of_lt_of_le hlt h.size, fun i hi => (World.cell?_of_block (w := w) (a := ⟨b, off + i, none⟩) (h.block b hlt h1 h2)).trans (hc i hi)⟩
theorem Kept.below {ga gc : Nat} {W w wr : World} (h : Kept ga gc w wr) (hb : Below W.heap.size W w) (h1 : W.heap.size ≤ ga) (h2 : W.heap.size ≤ gc) : Below W.heap.size W wr :=
  ⟨h.os.trans hb.os, h.tape.trans hb.tape, h.output.trans hb.output, Nat.le_trans hb.size h.size, fun k hk => (h.block k (Nat.lt_of_lt_of_le hk hb.size) (by omega) (by omega)).trans (hb.block k hk)⟩
/-- append to a row of the call's own: it stays where it is, or goes to new memory -/
theorem wpList_append_two {P : Program} (w : World) {ops : Array Oper} {rest : List Oper} {o : Oper} {a : Act} {Q : Exit → Act → World → Prop}
    (hg : o.guard = none) (s x : Operand) (t : TypeId) (hop : o.op = Op.call { callee := Callee.builtin Builtin.append, args := #[s, x], argTypes := #[t, t] })
    (base : Nat) (e : TypeId) (i : TypeInfo) (z : Value) (bytes : Nat) (h1 : P.underlying t = some (.slice e)) (h2 : P.info? e = some i) (h3 : i.zero = some z) (h4 : i.size = 1) (h5 : i.bytes = bytes) (h6 : z.cells.size = 1)
    (g n cap : Nat) (xs : List Value) (hs : a.eval s = .slice (some ⟨g, 0, none⟩) n cap) (hown : w.ownsRow base e 1 (.slice (some ⟨g, 0, none⟩) n cap) n xs) (ad : Addr) (m c : Nat) (news : List Value) (hx : a.eval x = .slice (some ad) m c) (hn : news.length = m * 1)
    (hc : ∀ j u, news[j]? = some u → w.cell? (ad.add j) = some u) (h1c : ∀ u ∈ news, u.oneCell' = true) (hm : 0 < m) (b1 : n + m ≤ maxLen) (b2 : (n + m) * bytes ≤ 140737488355328) (hbase : base ≤ w.heap.size)
    (hK : ∀ g' cap' w', (g' = g ∨ w.heap.size ≤ g') → g' < w'.heap.size → w'.ownsRow base e 1 (.slice (some ⟨g', 0, none⟩) (n + m) cap') (n + m) (xs ++ news) → w.grownBy w' (some g) → wpList P ops Q rest (a.put o.dst (.slice (some ⟨g', 0, none⟩) (n + m) cap')) w') :
    wpList P ops Q (o :: rest) a w := by
  have hlt : ∀ {w' : World} {g' cap' b' : Nat} {ys : List Value}, w'.ownsRow b' e 1 (.slice (some ⟨g', 0, none⟩) (n + m) cap') (n + m) ys → g' < w'.heap.size := by
    intro w' g' cap' b' ys ho
    rcases ho.2 with ⟨h, _⟩ | ⟨g2, cap2, cur, h, _, hh, _⟩
    · cases h
    · cases h
      by_cases hh2 : g' < w'.heap.size
      · exact hh2
      · rw [Array.getElem?_eq_none (by omega)] at hh; cases hh
  by_cases hroom : n + m ≤ cap
  · exact wpList_append_fits w hg s x t hop base e i 1 h1 h2 h4 g n cap xs hs hown ad m c news hx hn hc h1c hroom (fun w' ho hgr => hK g cap w' (.inl rfl) (hlt ho) ho hgr)
  · refine wpList_append_grows w hg s x t hop e i z 1 bytes h1 h2 h3 h4 h5 h6 (by decide) (some ⟨g, 0, none⟩) n cap xs hs (fun h => by cases h) hown.1 (fun b hb j u hj => ?_) ad m c news hx hn hc h1c (by omega) b1 b2 (fun v' w' ho hgr => ?_)
    · cases hb
      exact hown.cells (g := g) rfl j u hj
    · rcases ho.2 with ⟨hv, hz⟩ | ⟨g', cap', cur, hv, hbg, hh, hr1, hr2, hr3, hr4⟩
      · omega
      · subst hv
        have ho2 : w'.ownsRow base e 1 (.slice (some ⟨g', 0, none⟩) (n + m) cap') (n + m) (xs ++ news) := ⟨ho.1, .inr ⟨g', cap', cur, rfl, Nat.le_trans hbase hbg, hh, hr1, hr2, hr3, hr4⟩⟩
        exact hK g' cap' w' (.inr hbg) (hlt ho) ho2 ⟨hgr.os, hgr.tape, hgr.output, hgr.size, fun k hk _ => hgr.block k hk (by simp)⟩
end Go.Proofs.YtfcgcpfckbmgnaaGreat
namespace Go.Proofs.YtfcgcpfckbmgnaaGreat
open Go.ChangeShapes Go.WideShapes Go.ChangeAt Go.RowKit
def val7 : List Nat → Nat
  | [] => 0
  | c :: r => c % 128 + 128 * val7 r
theorem dec_zero (i u : Nat) (l : List Nat) (h : (dec i u l).2.2 ≠ 0) : (dec i u l).1 = 0 ∧ (dec i u l).2.1 = 0 := by
  induction l generalizing i u with
  | nil => exact ⟨rfl, rfl⟩
  | cons c r ih =>
    rw [dec_cons] at h ⊢
    split
    · exact ⟨rfl, rfl⟩
    · rename_i h1
      rw [if_neg h1] at h
      split
      · rename_i h2
        rw [if_pos h2] at h
        exact ih _ _ h
      · rename_i h2
        rw [if_neg h2] at h
        split
        · exact ⟨rfl, rfl⟩
        · rename_i h3
          rw [if_neg h3] at h
          exact absurd rfl h
theorem dec_ok (l : List Nat) (hl : ∀ x ∈ l, x < 256) (i u v n : Nat) (hi : i ≤ 9) (hu : u < 128 ^ i) (h : dec i u l = (v, n, 0)) :
    i < n ∧ n - i ≤ l.length ∧ n ≤ 10 ∧ v = u + 128 ^ i * val7 (l.take (n - i)) ∧ v < 18446744073709551616 ∧ (0 < i → val7 (l.take (n - i)) ≠ 0) ∧ encF (10 - i) (val7 (l.take (n - i))) = l.take (n - i) := by
  induction l generalizing i u with
  | nil => simp [dec] at h
  | cons c r ih =>
    have hc : c < 256 := hl c (by simp)
    rw [dec_cons] at h
    split at h
    · simp at h
    · rename_i h1
      have hk : i ≤ 8 ∨ (i = 9 ∧ c ≤ 1) := by omega
      have ho := or_step u c i hu hc hk
      split at h
      · rename_i h2
        have hi8 : i ≤ 8 := by omega
        obtain ⟨g1, g2, g3, g4, g5, g6, g7⟩ := ih (fun x hx => hl x (by simp [hx])) (i + 1) _ (by omega) ho.2.1 h
        have e : n - i = (n - (i + 1)) + 1 := by omega
        rw [e, List.take_succ_cons]
        refine ⟨by omega, by simp; omega, g3, ?_, g5, fun _ => ?_, ?_⟩
        · rw [g4]
          simp only [val7]
          rw [Nat.pow_succ]
          grind
        · have := g6 (by omega)
          simp only [val7]
          omega
        · have h6 := g6 (by omega)
          rw [show 10 - i = (10 - (i + 1)) + 1 from by omega]
          simp only [val7]
          unfold encF
          rw [if_neg (by omega)]
          rw [show (c % 128 + 128 * val7 (List.take (n - (i + 1)) r)) % 128 = c % 128 from by omega, show (c % 128 + 128 * val7 (List.take (n - (i + 1)) r)) / 128 = val7 (List.take (n - (i + 1)) r) from by omega, g7]
          rw [show 128 + c % 128 = c from by omega]
      · rename_i h2
        split at h
        · simp at h
        · rename_i h3
          simp only [Prod.mk.injEq, and_true] at h
          obtain ⟨rfl, rfl⟩ := h
          rw [show i + 1 - i = 1 from by omega, List.take_succ_cons, List.take_zero]
          have hm : c % 128 = c := by omega
          refine ⟨by omega, by simp, by omega, ?_, ho.2.2, fun h0 => ?_, ?_⟩
          · simp only [val7]; rw [hm, Nat.mul_zero, Nat.add_zero, Nat.mul_comm]
          · simp only [val7]; omega
          · simp only [val7]
            rw [show 10 - i = (9 - i) + 1 from by omega]
            unfold encF
            rw [if_pos (by omega), hm, Nat.mul_zero, Nat.add_zero]
/-- what is read is what would be written -/
theorem vdec_form (l : List Nat) (hl : ∀ x ∈ l, x < 256) (h : (dec 0 0 l).2.2 = 0) :
    1 ≤ (dec 0 0 l).2.1 ∧ (dec 0 0 l).2.1 ≤ l.length ∧ (dec 0 0 l).2.1 ≤ 10 ∧ (dec 0 0 l).1 ≤ 18446744073709551615 ∧ enc (dec 0 0 l).1 = l.take (dec 0 0 l).2.1 := by
  have := dec_ok l hl 0 0 (dec 0 0 l).1 (dec 0 0 l).2.1 (by omega) (by simp) (Prod.ext rfl (Prod.ext rfl h))
  obtain ⟨g1, g2, g3, g4, g5, _, g7⟩ := this
  rw [Nat.zero_add, Nat.pow_zero, Nat.one_mul, Nat.sub_zero] at g4
  rw [Nat.sub_zero] at g2 g7
  refine ⟨g1, g2, g3, by omega, ?_⟩
  unfold enc
  conv => lhs; rw [g4]
  exact g7
theorem pow_step (s x i : Nat) : s + x % 128 * 128 ^ i + x / 128 * 128 ^ (i + 1) = s + x * 128 ^ i := by
  have h : x * 128 ^ i = (128 * (x / 128) + x % 128) * 128 ^ i := by rw [Nat.div_add_mod]
  rw [h, Nat.pow_succ]
  grind
theorem top_byte (s x : Nat) (h : s + x * 128 ^ 9 < 18446744073709551616) : x < 2 := by
  rw [show (128 : Nat) ^ 9 = 9223372036854775808 from by decide] at h
  omega
theorem dec_enc (f i s x : Nat) (r : List Nat) (hf : f + i = 9) (hs : s < 128 ^ i) (hx : s + x * 128 ^ i < 18446744073709551616) (h0 : 0 < i → x ≠ 0) :
    dec i s (encF (f + 1) x ++ r) = (s + x * 128 ^ i, i + (encF (f + 1) x).length, 0) := by
  induction f generalizing i s x with
  | zero =>
    obtain rfl : i = 9 := by omega
    have h2 := top_byte s x hx
    unfold encF
    rw [if_pos (by omega)]
    have h3 := h0 (by omega)
    obtain rfl : x = 1 := by omega
    rw [List.singleton_append, dec_cons, if_neg (by omega), if_neg (by omega), if_neg (by omega)]
    rfl
  | succ f ih =>
    unfold encF
    by_cases hlt : x < 128
    · rw [if_pos hlt, List.singleton_append, dec_cons, if_neg (by omega), if_neg (by omega), if_neg (by rintro ⟨rfl, hi⟩; exact h0 hi rfl), Nat.mod_eq_of_lt hlt]
      rfl
    · rw [if_neg hlt, List.cons_append, dec_cons, if_neg (by omega), if_pos (by omega)]
      rw [show (128 + x % 128) % 128 = x % 128 from by omega]
      have hp := pow_step s x i
      have hlt2 : s + x % 128 * 128 ^ i < 128 ^ (i + 1) := by
        have h3 : x % 128 * 128 ^ i + 128 ^ i ≤ 128 ^ (i + 1) := by
          rw [Nat.pow_succ, ← Nat.succ_mul, Nat.mul_comm (128 ^ i)]
          exact Nat.mul_le_mul_right _ (by omega)
        omega
      rw [ih (i + 1) _ (x / 128) (by omega) hlt2 (by rw [hp]; exact hx) (fun _ => by omega), hp]
      simp only [List.length_cons]
      rw [show i + 1 + (encF (f + 1) (x / 128)).length = i + ((encF (f + 1) (x / 128)).length + 1) from by omega]
theorem dec_back (u : Nat) (r : List Nat) (h : u ≤ 18446744073709551615) : dec 0 0 (enc u ++ r) = (u, (enc u).length, 0) := by
  have := dec_enc 9 0 0 u r rfl (by simp) (by rw [Nat.pow_zero]; omega) (fun h => by omega)
  rw [Nat.zero_add, Nat.pow_zero, Nat.mul_one, Nat.zero_add] at this
  exact this
theorem vdec_short (f i s x j : Nat) (hf : f + i = 9) (hx : x < 128 ^ (f + 1)) (hj : j < (encF (f + 1) x).length) : dec i s ((encF (f + 1) x).take j) = (0, 0, 10) := by
  induction f generalizing i s x j with
  | zero =>
    unfold encF at hj ⊢
    rw [if_pos (by simpa using hx)] at hj ⊢
    obtain rfl : j = 0 := by simp at hj; omega
    rfl
  | succ f ih =>
    unfold encF at hj ⊢
    by_cases hlt : x < 128
    · rw [if_pos hlt] at hj ⊢
      obtain rfl : j = 0 := by simp at hj; omega
      rfl
    · rw [if_neg hlt] at hj ⊢
      cases j with
      | zero => rfl
      | succ j =>
        rw [List.take_succ_cons, dec_cons, if_neg (by omega), if_pos (by omega)]
        exact ih (i + 1) _ (x / 128) j (by omega) (by rw [Nat.pow_succ] at hx; exact Nat.div_lt_of_lt_mul (by rw [Nat.mul_comm]; exact hx)) (by simpa using hj)
theorem dec_cut (u j : Nat) (h : u ≤ 18446744073709551615) (hj : j < (enc u).length) : dec 0 0 ((enc u).take j) = (0, 0, 10) :=
  vdec_short 9 0 0 u j rfl (lt_pow10 u h) hj
end Go.Proofs.YtfcgcpfckbmgnaaGreat
namespace Go.Proofs.YtfcgcpfckbmgnaaGreat
open Go.ChangeShapes Go.WideShapes Go.ChangeAt Go.RowKit
structure Fld where
  tag : Int
  text : Bool
  num : Nat
  bytes : List Nat
/-- what is wrong with a field behind one of the tag last -/
def flt (f : Fld) (last : Int) : Nat :=
  if f.tag < 1 ∨ 31 < f.tag then 20 else if f.tag ≤ last then 21 else if f.text = true then (if f.bytes = [] then 22 else if 200 < f.bytes.length then 23 else 0) else if f.num = 0 then 22 else 0
/-- the bytes of a right field -/
def one (f : Fld) : List Nat := if f.text = true then enc (2 * f.tag.toNat + 1) ++ (enc f.bytes.length ++ f.bytes) else enc (2 * f.tag.toNat) ++ enc f.num
/-- what means nothing is nothing -/
def norm (f : Fld) : Fld := if f.text = true then { f with num := 0 } else { f with bytes := [] }
def fail (e : Nat) : Fld × Nat × Nat := (⟨0, false, 0, []⟩, 0, e)
/-- the field with which l begins: itself, how many bytes, the error -/
def next (l : List Nat) (last : Int) : Fld × Nat × Nat :=
  if (dec 0 0 l).2.2 ≠ 0 then fail (dec 0 0 l).2.2
  else if (dec 0 0 l).1 < 2 ∨ 63 < (dec 0 0 l).1 then fail 20
  else if ((dec 0 0 l).1 / 2 : Nat) ≤ last then fail 21
  else if (dec 0 0 (l.drop (dec 0 0 l).2.1)).2.2 ≠ 0 then fail (dec 0 0 (l.drop (dec 0 0 l).2.1)).2.2
  else if (dec 0 0 (l.drop (dec 0 0 l).2.1)).1 = 0 then fail 22
  else if (dec 0 0 l).1 % 2 = 0 then (⟨((dec 0 0 l).1 / 2 : Nat), false, (dec 0 0 (l.drop (dec 0 0 l).2.1)).1, []⟩, (dec 0 0 l).2.1 + (dec 0 0 (l.drop (dec 0 0 l).2.1)).2.1, 0)
  else if 200 < (dec 0 0 (l.drop (dec 0 0 l).2.1)).1 then fail 23
  else if l.length < (dec 0 0 l).2.1 + (dec 0 0 (l.drop (dec 0 0 l).2.1)).2.1 + (dec 0 0 (l.drop (dec 0 0 l).2.1)).1 then fail 10
  else (⟨((dec 0 0 l).1 / 2 : Nat), true, 0, (l.drop ((dec 0 0 l).2.1 + (dec 0 0 (l.drop (dec 0 0 l).2.1)).2.1)).take (dec 0 0 (l.drop (dec 0 0 l).2.1)).1⟩, (dec 0 0 l).2.1 + (dec 0 0 (l.drop (dec 0 0 l).2.1)).2.1 + (dec 0 0 (l.drop (dec 0 0 l).2.1)).1, 0)
/-- next, the two numbers read -/
def nextR (l : List Nat) (last : Int) (k n u m e2 : Nat) : Fld × Nat × Nat :=
  if k < 2 ∨ 63 < k then fail 20
  else if (k / 2 : Nat) ≤ last then fail 21
  else if e2 ≠ 0 then fail e2
  else if u = 0 then fail 22
  else if k % 2 = 0 then (⟨(k / 2 : Nat), false, u, []⟩, n + m, 0)
  else if 200 < u then fail 23
  else if l.length < n + m + u then fail 10
  else (⟨(k / 2 : Nat), true, 0, (l.drop (n + m)).take u⟩, n + m + u, 0)
theorem next_bad (l : List Nat) (last : Int) (k n e : Nat) (h : dec 0 0 l = (k, n, e)) (he : e ≠ 0) : next l last = fail e := by
  unfold next; rw [h, if_pos he]
theorem next_two (l : List Nat) (last : Int) (k n u m e2 : Nat) (h : dec 0 0 l = (k, n, 0)) (h2 : dec 0 0 (l.drop n) = (u, m, e2)) : next l last = nextR l last k n u m e2 := by
  unfold next nextR; rw [h]; simp only [ne_eq, not_true_eq_false, if_false]; rw [h2]
/-- what is read is a right field, and its bytes are those that would be written -/
theorem next_right (l : List Nat) (hl : ∀ x ∈ l, x < 256) (last : Int) (f : Fld) (n : Nat) (h : next l last = (f, n, 0)) :
    flt f last = 0 ∧ norm f = f ∧ one f = l.take n ∧ n ≤ l.length ∧ 2 ≤ n ∧ f.num ≤ 18446744073709551615 ∧ (∀ x ∈ f.bytes, x < 256) ∧ 1 ≤ f.tag ∧ f.tag ≤ 31 ∧ last < f.tag ∧ f.bytes.length ≤ 200 := by
  rcases hd : dec 0 0 l with ⟨k, n1, e1⟩
  by_cases he1 : e1 = 0
  · subst he1
    have d1 := vdec_form l hl (by rw [hd])
    rw [hd] at d1
    obtain ⟨a1, a2, a3, a4, a5⟩ := d1
    simp only at a1 a2 a3 a4 a5
    rcases hd2 : dec 0 0 (l.drop n1) with ⟨u, m, e2⟩
    rw [next_two l last k n1 u m e2 hd hd2] at h
    unfold nextR at h
    by_cases c1 : k < 2 ∨ 63 < k
    · rw [if_pos c1] at h; simp [fail] at h
    rw [if_neg c1] at h
    by_cases c2 : (k / 2 : Nat) ≤ last
    · rw [if_pos c2] at h; simp [fail] at h
    rw [if_neg c2] at h
    by_cases c3 : e2 = 0
    · subst c3
      rw [if_neg (by simp)] at h
      have hl2 : ∀ x ∈ l.drop n1, x < 256 := fun x hx => hl x (List.mem_of_mem_drop hx)
      have d2 := vdec_form (l.drop n1) hl2 (by rw [hd2])
      rw [hd2] at d2
      obtain ⟨b1, b2, b3, b4, b5⟩ := d2
      simp only [List.length_drop] at b1 b2 b3 b4 b5
      by_cases c4 : u = 0
      · rw [if_pos c4] at h; simp [fail] at h
      rw [if_neg c4] at h
      by_cases c5 : k % 2 = 0
      · rw [if_pos c5] at h
        obtain ⟨rfl, h'⟩ := Prod.mk.inj h
        obtain ⟨rfl, _⟩ := Prod.mk.inj h'
        refine ⟨?_, rfl, ?_, by omega, by omega, b4, by simp, by show (1 : Int) ≤ ((k / 2 : Nat) : Int); omega, by show ((k / 2 : Nat) : Int) ≤ 31; omega, by show last < ((k / 2 : Nat) : Int); omega, by simp⟩
        · unfold flt
          rw [if_neg (by show ¬ (((k / 2 : Nat) : Int) < 1 ∨ 31 < ((k / 2 : Nat) : Int)); omega), if_neg c2, if_neg (by simp), if_neg c4]
        · unfold one
          rw [if_neg (by simp)]
          show enc (2 * (((k / 2 : Nat) : Int)).toNat) ++ enc u = _
          rw [Int.toNat_natCast, show 2 * (k / 2) = k from by omega, a5, b5, ← List.take_add]
      · rw [if_neg c5] at h
        by_cases c6 : 200 < u
        · rw [if_pos c6] at h; simp [fail] at h
        rw [if_neg c6] at h
        by_cases c7 : l.length < n1 + m + u
        · rw [if_pos c7] at h; simp [fail] at h
        rw [if_neg c7] at h
        obtain ⟨rfl, h'⟩ := Prod.mk.inj h
        obtain ⟨rfl, _⟩ := Prod.mk.inj h'
        have hlen : ((l.drop (n1 + m)).take u).length = u := by simp; omega
        refine ⟨?_, rfl, ?_, by omega, by omega, by simp, fun x hx => hl x (List.mem_of_mem_drop (List.mem_of_mem_take hx)), by show (1 : Int) ≤ ((k / 2 : Nat) : Int); omega, by show ((k / 2 : Nat) : Int) ≤ 31; omega, by show last < ((k / 2 : Nat) : Int); omega, by show ((l.drop (n1 + m)).take u).length ≤ 200; omega⟩
        · unfold flt
          rw [if_neg (by show ¬ (((k / 2 : Nat) : Int) < 1 ∨ 31 < ((k / 2 : Nat) : Int)); omega), if_neg c2, if_pos rfl]
          show (if (l.drop (n1 + m)).take u = [] then 22 else if 200 < ((l.drop (n1 + m)).take u).length then 23 else 0) = 0
          rw [if_neg (by intro h0; rw [h0] at hlen; simp at hlen; omega), if_neg (by omega)]
        · unfold one
          rw [if_pos rfl]
          show enc (2 * (((k / 2 : Nat) : Int)).toNat + 1) ++ (enc ((l.drop (n1 + m)).take u).length ++ (l.drop (n1 + m)).take u) = _
          rw [hlen, Int.toNat_natCast, show 2 * (k / 2) + 1 = k from by omega, a5, b5, show n1 + m + u = n1 + (m + u) from by omega, List.take_add, List.take_add, List.drop_drop]
    · rw [if_pos c3] at h; simp [fail] at h; omega
  · rw [next_bad l last k n1 e1 hd he1] at h
    simp [fail] at h; omega
/-- what is written is read -/
theorem next_one (f : Fld) (last : Int) (r : List Nat) (hn : f.num ≤ 18446744073709551615) (h : flt f last = 0) : next (one f ++ r) last = (norm f, (one f).length, 0) := by
  have h1 : ¬ (f.tag < 1 ∨ 31 < f.tag) := fun hc => by unfold flt at h; rw [if_pos hc] at h; cases h
  have h2 : ¬ (f.tag ≤ last) := fun hc => by unfold flt at h; rw [if_neg h1, if_pos hc] at h; cases h
  obtain ⟨T, hT⟩ : ∃ T : Nat, f.tag = T := ⟨f.tag.toNat, by omega⟩
  unfold flt at h
  rw [if_neg h1, if_neg h2] at h
  obtain ⟨tag, text, num, bytes⟩ := f
  simp only at hT h1 h2 h hn
  subst hT
  cases text with
  | true =>
    rw [if_pos rfl] at h
    have h3 : bytes ≠ [] := fun hc => by rw [if_pos hc] at h; cases h
    rw [if_neg h3] at h
    have h4 : ¬ 200 < bytes.length := fun hc => by rw [if_pos hc] at h; cases h
    have h5 : 0 < bytes.length := List.length_pos_iff.2 h3
    have e0 : one ⟨(T : Int), true, num, bytes⟩ = enc (2 * T + 1) ++ (enc bytes.length ++ bytes) := by unfold one; rw [if_pos rfl]; simp only [Int.toNat_natCast]
    rw [e0, List.append_assoc, List.append_assoc]
    have d1 := dec_back (2 * T + 1) (enc bytes.length ++ (bytes ++ r)) (by omega)
    have d2 : dec 0 0 ((enc (2 * T + 1) ++ (enc bytes.length ++ (bytes ++ r))).drop (enc (2 * T + 1)).length) = (bytes.length, (enc bytes.length).length, 0) := by
      rw [List.drop_left]; exact dec_back _ _ (by omega)
    rw [next_two _ last _ _ _ _ _ d1 d2]
    unfold nextR
    rw [if_neg (by omega), if_neg (by rw [show (2 * T + 1) / 2 = T from by omega]; exact h2), if_neg (by simp), if_neg (by omega), if_neg (by omega), if_neg (by omega), if_neg (by simp; omega)]
    simp only [norm, if_true]
    rw [show (2 * T + 1) / 2 = T from by omega]
    refine Prod.ext ?_ (Prod.ext (by simp; omega) rfl)
    show Fld.mk _ _ _ _ = Fld.mk _ _ _ _
    congr 1
    rw [show (enc (2 * T + 1)).length + (enc bytes.length).length = (enc (2 * T + 1) ++ enc bytes.length).length from by simp, ← List.append_assoc, List.drop_left, List.take_left]
  | false =>
    rw [if_neg (by simp)] at h
    have h3 : num ≠ 0 := fun hc => by rw [if_pos hc] at h; cases h
    have e0 : one ⟨(T : Int), false, num, bytes⟩ = enc (2 * T) ++ enc num := by unfold one; rw [if_neg (by simp)]; simp only [Int.toNat_natCast]
    rw [e0, List.append_assoc]
    have d1 := dec_back (2 * T) (enc num ++ r) (by omega)
    have d2 : dec 0 0 ((enc (2 * T) ++ (enc num ++ r)).drop (enc (2 * T)).length) = (num, (enc num).length, 0) := by
      rw [List.drop_left]; exact dec_back _ _ hn
    rw [next_two _ last _ _ _ _ _ d1 d2]
    unfold nextR
    rw [if_neg (by omega), if_neg (by rw [show 2 * T / 2 = T from by omega]; exact h2), if_neg (by simp), if_neg h3, if_pos (by omega)]
    simp only [norm, Bool.false_eq_true, if_false]
    rw [show 2 * T / 2 = T from by omega]
    exact Prod.ext rfl (Prod.ext (by simp) rfl)
theorem one_len (f : Fld) (last : Int) (hn : f.num ≤ 18446744073709551615) (h : flt f last = 0) : 2 ≤ (one f).length ∧ (one f).length ≤ 220 := by
  have h1 : ¬ (f.tag < 1 ∨ 31 < f.tag) := fun hc => by unfold flt at h; rw [if_pos hc] at h; cases h
  have h2 : ¬ (f.tag ≤ last) := fun hc => by unfold flt at h; rw [if_neg h1, if_pos hc] at h; cases h
  unfold flt at h
  rw [if_neg h1, if_neg h2] at h
  have g1 := enc_length_le (2 * f.tag.toNat + 1) (by omega)
  have g2 := enc_length_le (2 * f.tag.toNat) (by omega)
  have g3 := enc_length_le f.num hn
  unfold one
  by_cases ht : f.text = true
  · rw [if_pos ht] at h ⊢
    have h3 : f.bytes ≠ [] := fun hc => by rw [if_pos hc] at h; cases h
    rw [if_neg h3] at h
    have h4 : ¬ 200 < f.bytes.length := fun hc => by rw [if_pos hc] at h; cases h
    have g4 := enc_length_le f.bytes.length (by omega)
    simp only [List.length_append]; omega
  · rw [if_neg ht]
    simp only [List.length_append]; omega
theorem flt_tag {f : Fld} {last : Int} (h : flt f last = 0) : 1 ≤ f.tag ∧ f.tag ≤ 31 ∧ last < f.tag := by
  have h1 : ¬ (f.tag < 1 ∨ 31 < f.tag) := fun hc => by unfold flt at h; rw [if_pos hc] at h; cases h
  have h2 : ¬ (f.tag ≤ last) := fun hc => by unfold flt at h; rw [if_neg h1, if_pos hc] at h; cases h
  omega
/-- Encode, from a state on -/
def encs : List Fld → Int → List Nat → List Nat × Nat
  | [], _, b => if 1024 < b.length then ([], 24) else (b, 0)
  | f :: r, last, b => if flt f last ≠ 0 then ([], flt f last) else encs r f.tag (b ++ one f)
/-- Decode, from a state on -/
def decs : Nat → List Nat → Int → Nat → List Fld → List Fld × Nat × Nat
  | 0, _, _, _, acc => (acc, 0, 0)
  | fuel + 1, l, last, i, acc =>
    if l.length ≤ i then (acc, 0, 0)
    else if (next (l.drop i) last).2.2 ≠ 0 then ([], i, (next (l.drop i) last).2.2)
    else decs fuel l (next (l.drop i) last).1.tag (i + (next (l.drop i) last).2.1) (acc ++ [(next (l.drop i) last).1])
def recs (l : List Nat) : List Fld × Nat × Nat := if 1024 < l.length then ([], 0, 24) else decs (l.length + 1) l 0 0 []
end Go.Proofs.YtfcgcpfckbmgnaaGreat
namespace Go.Proofs.YtfcgcpfckbmgnaaGreat
open Go.ChangeShapes Go.WideShapes Go.ChangeAt Go.RowKit
set_option linter.unusedVariables false
/-- a cursor over n bytes at a, in block c, at place i -/
def CurAt (w : World) (c : Nat) (a : Option Addr) (n cap i : Nat) : Prop := w.heap[c]? = some (.cells #[.slice a n cap, .int .i64 (i : Int)] 98)
theorem CurAt.cells {w : World} {c : Nat} {a : Option Addr} {n cap i : Nat} (h : CurAt w c a n cap i) : w.cell? ⟨c, 0, none⟩ = some (.slice a n cap) ∧ w.cell? ⟨c, 1, none⟩ = some (.int .i64 (i : Int)) ∧ w.frozen? ⟨c, 1, none⟩ = false :=
  ⟨by rw [cell_of_row _ _ 0 _ _ _ h]; rfl, by rw [cell_of_row _ _ 1 _ _ _ h]; rfl, frozen_of_row _ _ 1 _ _ h⟩
theorem CurAt.to {w : World} {c : Nat} {a : Option Addr} {n cap i : Nat} (h : CurAt w c a n cap i) (j : Nat) : CurAt (w.setCell ⟨c, 1, none⟩ (.int .i64 (j : Int))) c a n cap j := by
  unfold CurAt
  rw [heap_setCell_same w c 1 _ _ _ h]; rfl
theorem Kept.set {g : Nat} {w wr : World} (h : Kept g g w wr) (j : Nat) (u : Value) : Kept g g w (wr.setCell ⟨g, j, none⟩ u) :=
  ⟨h.os, h.tape, h.output, by simp; exact h.size, fun k hk h1 h2 => (heap_setCell_other wr ⟨g, j, none⟩ k u h1).trans (h.block k hk h1 h2)⟩
theorem Kept.drewN {g k : Nat} {w wr : World} (h : Kept g k w wr) (n : Nat) : Kept g k w (wr.drewN n) := by
  induction n with
  | zero => exact h
  | succ n ih => exact ⟨ih.os, ih.tape, ih.output, ih.size, ih.block⟩
theorem CurAt.drewN {w : World} {c : Nat} {a : Option Addr} {n cap i : Nat} (h : CurAt w c a n cap i) (m : Nat) : CurAt (w.drewN m) c a n cap i := by
  unfold CurAt at *; simpa using h
theorem body_panic {P : Program} {fn : Func} {R : Ending → World → Prop} {a : Act} {w : World} {ch : List PanicEntry} (h : R (.panicked ch) w) (hd : a.defers = [] := by rfl) : bodyPost P fn R (.panic ch) a w := by
  unfold bodyPost
  exact ⟨hd, h⟩
/-- a panic with an error's number -/
abbrev errP (e : Int) : Ending := .panicked [{ v := .iface 31 (.int .i64 e), recovered := false }]
theorem dec_q (l : List Nat) (n u k e : Nat) (a : Option Addr) (cap : Nat) (w : World) (e1 : l.length = n) (hd : dec 0 0 l = (u, k, e)) (hb : Bytes w a l) (hl : l.length ≤ maxLen) :
    Calls Tryz.prog 59 #[.slice a n cap] w fun x w' => x = .returned (.tuple #[.int .u64 u, .int .i64 k, .int .i64 e]) ∧ w' = w :=
  (dec_at l n u k e a cap w e1 hd hb hl).mono fun _ _ ⟨h1, h2⟩ => ⟨h1, h2.symm⟩
set_option maxRecDepth 20000 in
set_option maxHeartbeats 1000000 in
theorem done_any (c : Nat) (a : Option Addr) (n cap i : Nat) (w : World) (hc : CurAt w c a n cap i) :
    Calls Tryz.prog 54 #[.pointer (some ⟨c, 0, none⟩)] w fun r w' => r = .returned (.bool (decide (i = n))) ∧ ∃ m, w' = w.drewN m := by
  obtain ⟨h0, h1, _⟩ := hc.cells
  clear hc
  go_enter Tryz.func54, Tryz.ntmps54
  go_wp2
  go_quiet (fail)
  go_wp2
  go_ret
  exact ⟨ret_bool (by by_cases h : i = n <;> simp [h] <;> omega), nq, rfl⟩
set_option maxRecDepth 20000 in
set_option maxHeartbeats 1000000 in
theorem num_ok (l : List Nat) (b off n cap i u k c : Nat) (w : World) (hc : CurAt w c (some ⟨b, off, none⟩) n cap i) (hn : l.length = n) (hb : Bytes w (some ⟨b, off, none⟩) l) (hcap : n ≤ cap) (hl : n ≤ 1024) (hi : i ≤ n) (hd : dec 0 0 (l.drop i) = (u, k, 0)) :
    Calls Tryz.prog 77 #[.pointer (some ⟨c, 0, none⟩)] w fun r w' => r = .returned (.int .u64 (u : Int)) ∧ CurAt w' c (some ⟨b, off, none⟩) n cap (i + k) ∧ Kept c c w w' := by
  obtain ⟨h0, h1, h2⟩ := hc.cells
  have HC : Hid (CurAt w c (some ⟨b, off, none⟩) n cap i) := hc
  have HD : Hid (_ = _) := hd
  have HBq : Hid (Bytes w (some ⟨b, off + i, none⟩) (l.drop i)) := hb.drop i
  have HL2 : Hid ((l.drop i).length = n - i) := by show _ = _; rw [List.length_drop, hn]
  have HM2 : Hid ((l.drop i).length ≤ maxLen) := by show _ ≤ _; rw [List.length_drop, hn]; unfold maxLen; omega
  have hf := vdec_form (l.drop i) (fun x hx => hb.mem x (List.mem_of_mem_drop hx)) (by rw [hd])
  rw [hd] at hf
  simp only at hf
  obtain ⟨t1, t2, t3, t4, t5⟩ := hf
  rw [HL2.out] at t2
  have hin : i < n := by omega
  have hk2 : (i : Int) + (k : Int) ≤ 1024 := by omega
  clear hc hd hb t5 hn
  go_enter Tryz.func77, Tryz.ntmps77
  go_wp2
  go_quiet ((go_at_call 59; exact Calls.quiet_of_same (dec_q (l.drop i) _ u k 0 _ _ _ HL2.out HD.out (HBq.out.drewN _) HM2.out)))
  go_wp2
  go_ret
  refine ⟨rfl, ?_, ((Kept.refl c c w).drewN nq).set 1 _⟩
  rw [← Int.natCast_add]
  exact CurAt.to (w := w.drewN nq) (HC.out.drewN nq) (i + k)
set_option maxRecDepth 20000 in
set_option maxHeartbeats 1000000 in
theorem num_bad (l : List Nat) (b off n cap i e c : Nat) (w : World) (hc : CurAt w c (some ⟨b, off, none⟩) n cap i) (hn : l.length = n) (hb : Bytes w (some ⟨b, off, none⟩) l) (hcap : n ≤ cap) (hl : n ≤ 1024) (hi : i ≤ n) (he : e ≠ 0) (hd : dec 0 0 (l.drop i) = (0, 0, e)) :
    Calls Tryz.prog 77 #[.pointer (some ⟨c, 0, none⟩)] w fun r w' => r = errP e ∧ ∃ m, w' = w.drewN m := by
  obtain ⟨h0, h1, h2⟩ := hc.cells
  have HD : Hid (_ = _) := hd
  have HBq : Hid (Bytes w (some ⟨b, off + i, none⟩) (l.drop i)) := hb.drop i
  have HL2 : Hid ((l.drop i).length = n - i) := by show _ = _; rw [List.length_drop, hn]
  have HM2 : Hid ((l.drop i).length ≤ maxLen) := by show _ ≤ _; rw [List.length_drop, hn]; unfold maxLen; omega
  have heb : ((e : Int) != 0) = true := by simp; omega
  by_cases hin : i < n
  · clear hc hd hb
    go_enter Tryz.func77, Tryz.ntmps77
    go_wp2
    go_quiet ((go_at_call 59; exact Calls.quiet_of_same (dec_q (l.drop i) _ 0 0 e _ _ _ HL2.out HD.out (HBq.out.drewN _) HM2.out)))
    go_wp2
    exact body_panic ⟨rfl, nq, rfl⟩
  · have HNIL : Hid (l.drop i = []) := by show _ = _; exact List.drop_eq_nil_of_le (by rw [hn]; omega)
    have HD3 : Hid (dec 0 0 [] = (0, 0, e)) := by have h := HD.out; rw [HNIL.out] at h; exact h
    obtain rfl : i = n := by omega
    clear hc hd hb
    go_enter Tryz.func77, Tryz.ntmps77
    go_wp2
    go_quiet ((go_at_call 59; exact Calls.quiet_of_same (dec_q [] _ 0 0 e _ _ _ (by simp) HD3.out (Bytes.none _ _) (by simp))))
    all_goals go_wp2
    all_goals exact body_panic ⟨rfl, nq, rfl⟩
end Go.Proofs.YtfcgcpfckbmgnaaGreat
namespace Go.Proofs.YtfcgcpfckbmgnaaGreat
open Go.ChangeShapes Go.WideShapes Go.ChangeAt Go.RowKit
theorem Tryz.info5 : (Tryz.prog.info? 5).map (fun i => (i.zero, i.size, i.bytes)) = some (some (.int .u8 0), 1, 1) := by kernel_rfl
set_option maxRecDepth 20000 in
set_option maxHeartbeats 1000000 in
theorem put_any (u : Nat) (base : Nat) (v : Value) (n : Nat) (xs : List Value) (w : World) (hu : u ≤ 18446744073709551615) (hown : w.ownsRow base 5 1 v n xs) (hbase : base ≤ w.heap.size) (hn : n + 10 ≤ 140737488355328) :
    Calls Tryz.prog 70 #[v, .int .u64 u] w fun e w' => ∃ v', e = .returned v' ∧ w'.ownsRow base 5 1 v' (n + (enc u).length) (xs ++ B8 (enc u)) ∧ Below base w w' := by
  obtain ⟨i0, hi, hz0, hz1, hz2⟩ := info_parts Tryz.info5
  go_enter Tryz.func70, Tryz.ntmps70
  go_wp2
  go_loopw [0, 1] (fun vb vu wr => ∃ (f uj : Nat) (pre : List Nat), vu = .int .u64 uj ∧ uj ≤ u ∧ uj < 128 ^ (f + 1) ∧ encF 10 u = pre ++ encF (f + 1) uj ∧ pre.length + f = 9 ∧ wr.ownsRow base 5 1 vb (n + pre.length) (xs ++ B8 pre) ∧ Below base w wr) (fun _ vu _ => (intOf vu).toNat)
  case atStart => exact ⟨9, u, [], rfl, by omega, lt_pow10 u hu, rfl, rfl, by simpa [B8] using hown, Below.refl _ _⟩
  case round =>
    obtain ⟨f, uj, pre, rfl, huj, hp, hE, hf, ho, hbe⟩ := hrel
    have HE : Hid (_ = _) := hE
    have HP : Hid (_ < _) := hp
    clear hE hp hown
    have hsz := hbe.size
    by_cases hlt : uj < 128
    · have HL : Hid (enc u = pre ++ [uj]) := by
        show enc u = _
        unfold enc; rw [HE.out]; unfold encF; rw [if_pos hlt]
      have hu8 : (uj : Int) ≤ 255 := by omega
      clear HE HP
      go_wp2_with (at_builtin; refine wpList_append_own _ rfl _ _ 22 rfl base 5 i0 (.int .u8 0) 1 1 Tryz.underlying22 hi hz0 hz1 hz2 rfl (by decide) _ _ _ rfl (ho.alloc _) ⟨wr.heap.size, 0, none⟩ 1 1 [.int .u8 (uj : Int)] rfl rfl (cell_new _ _ _) (one_new _) (by unfold maxLen; omega) (by omega) (by simp; omega) ?_)
      intro v' w1 hown' hgrow _
      have hb1 := grown_row (hbe.alloc (by omega) _) (ho.alloc _) (by simp; omega) hgrow
      clear hgrow ho hbe
      go_wp2
      go_ret
      refine ⟨v', rfl, ?_, hb1⟩
      rw [HL.out, B8_append, List.length_append]
      exact hown'
    · have HL : Hid (encF 10 u = (pre ++ [128 + uj % 128]) ++ encF f (uj / 128)) := by
        show encF 10 u = _
        rw [HE.out]; conv => lhs; unfold encF
        rw [if_neg hlt]; simp
      have hf1 : 1 ≤ f := by
        have h2 := HP.out
        by_cases h3 : f = 0
        · subst h3; simp at h2; omega
        · omega
      have HP2 : Hid (uj / 128 < 128 ^ f) := by
        have h2 := HP.out
        rw [Nat.pow_succ] at h2
        exact Nat.div_lt_of_lt_mul (by rw [Nat.mul_comm]; exact h2)
      have HO : Hid (_ = _) := or128 uj
      clear HE HP
      go_wp2_with (at_builtin; refine wpList_append_own _ rfl _ _ 22 rfl base 5 i0 (.int .u8 0) 1 1 Tryz.underlying22 hi hz0 hz1 hz2 rfl (by decide) _ _ _ rfl (ho.alloc _) ⟨wr.heap.size, 0, none⟩ 1 1 [.int .u8 (bits .or .u8 (IntKind.u8.wrap (uj : Int)) 128)] rfl rfl (cell_new _ _ _) (one_new _) (by unfold maxLen; omega) (by omega) (by simp; omega) ?_)
      intro v' w1 hown' hgrow _
      have hb1 := grown_row (hbe.alloc (by omega) _) (ho.alloc _) (by simp; omega) hgrow
      clear hgrow ho hbe
      go_wp2
      go_roundw
      case rel =>
        refine ⟨f - 1, uj / 128, pre ++ [128 + uj % 128], by go_num, by omega, ?_, ?_, by simp; omega, ?_, hb1⟩
        · rw [show f - 1 + 1 = f from by omega]; exact HP2.out
        · rw [show f - 1 + 1 = f from by omega]; exact HL.out
        · rw [HO.out] at hown'
          rw [B8_append, List.length_append]
          exact hown'
      case measure => simp [intOf]; omega
end Go.Proofs.YtfcgcpfckbmgnaaGreat
namespace Go.Proofs.YtfcgcpfckbmgnaaGreat
open Go.ChangeShapes Go.WideShapes Go.ChangeAt Go.RowKit
set_option linter.unusedVariables false
theorem own_empty (w : World) (base : Nat) (hb : base ≤ w.heap.size) : (w.alloc (.cells #[] 5)).ownsRow base 5 1 (.slice (some ⟨w.heap.size, 0, none⟩) 0 0) 0 [] := by
  refine ⟨by simp, .inr ⟨w.heap.size, 0, #[], rfl, hb, heap_alloc_new w _, by simp, by simp, by simp, by simp⟩⟩
theorem CurAt.keep {w w' : World} {c : Nat} {a : Option Addr} {n cap i : Nat} (h : CurAt w c a n cap i) (hb : Below w.heap.size w w') : CurAt w' c a n cap i := (hb.block c (lt_of_heap h)).trans h
set_option maxRecDepth 20000 in
set_option maxHeartbeats 1000000 in
theorem clone_any (l : List Nat) (b off n cap : Nat) (w : World) (hn : l.length = n) (h0 : 0 < n) (hb : Bytes w (some ⟨b, off, none⟩) l) (hl : n ≤ 140737488355328) :
    Calls Tryz.prog 69 #[.slice (some ⟨b, off, none⟩) n cap] w fun r w' => ∃ v, r = .returned v ∧ Own w' w.heap.size v l ∧ Below w.heap.size w w' := by
  obtain ⟨i0, hi, hz0, hz1, hz2⟩ := info_parts Tryz.info5
  have HB : Hid (Bytes w (some ⟨b, off, none⟩) l) := hb
  have HN : Hid (l.length = n) := hn
  have he : ∀ w : World, (binOp .eql 22 (.slice (some ⟨b, off, none⟩) n cap) (.slice none 0 0)).run Tryz.prog w = .ok (.bool false) w := fun _ => rfl
  have HO : Hid ((w.alloc (.cells #[] 5)).ownsRow w.heap.size 5 1 (.slice (some ⟨w.heap.size, 0, none⟩) 0 0) 0 []) := own_empty w _ (Nat.le_refl _)
  have HB2 : Hid (Bytes (w.alloc (.cells #[] 5)) (some ⟨b, off, none⟩) l) := hb.keep ((Below.refl _ _).alloc (Nat.le_refl _) _)
  clear hb hn
  go_enter Tryz.func69, Tryz.ntmps69
  go_wp2_with (at_builtin; refine wpList_append_own _ rfl _ _ 22 rfl w.heap.size 5 i0 (.int .u8 0) 1 1 Tryz.underlying22 hi hz0 hz1 hz2 rfl (by decide) _ _ _ rfl HO.out ⟨b, off, none⟩ n cap (B8 l) rfl (by rw [B8_length, HN.out]) (bytes_cells HB2.out) (B8_one _) (by unfold maxLen; omega) (by omega) (by simp) ?_; intro v4 w4 ho4 hg4 _; have hb4 := grown_row ((Below.refl w.heap.size w).alloc (Nat.le_refl _) _) HO.out (by simp) hg4; clear hg4)
  go_ret
  refine ⟨v4, rfl, ⟨HB.out.1, ?_⟩, hb4⟩
  have h := ho4
  rw [Nat.zero_add, List.nil_append] at h
  rw [HN.out]
  exact h
set_option maxRecDepth 20000 in
set_option maxHeartbeats 1000000 in
theorem text_long (b off n cap i u c : Nat) (w : World) (hc : CurAt w c (some ⟨b, off, none⟩) n cap i) (hu : 200 < u) (hu2 : u ≤ 18446744073709551615) :
    Calls Tryz.prog 78 #[.pointer (some ⟨c, 0, none⟩), .int .u64 (u : Int)] w fun r w' => r = errP 23 ∧ w' = w := by
  obtain ⟨h0, h1, h2⟩ := hc.cells
  clear hc
  go_enter Tryz.func78, Tryz.ntmps78
  go_wp2
  exact body_panic ⟨rfl, rfl⟩
set_option maxRecDepth 20000 in
set_option maxHeartbeats 1000000 in
theorem text_short (b off n cap i u c : Nat) (w : World) (hc : CurAt w c (some ⟨b, off, none⟩) n cap i) (hu : ¬ 200 < u) (hl : n ≤ 1024) (hi : i ≤ n) (hs : n < i + u) :
    Calls Tryz.prog 78 #[.pointer (some ⟨c, 0, none⟩), .int .u64 (u : Int)] w fun r w' => r = errP 10 ∧ ∃ m, w' = w.drewN m := by
  obtain ⟨h0, h1, h2⟩ := hc.cells
  have hk2 : (i : Int) + (u : Int) ≤ 2048 := by omega
  have hk3 : (n : Int) < (i : Int) + (u : Int) := by omega
  clear hc
  go_enter Tryz.func78, Tryz.ntmps78
  go_wp2
  exact body_panic ⟨rfl, 0, rfl⟩
end Go.Proofs.YtfcgcpfckbmgnaaGreat
namespace Go.Proofs.YtfcgcpfckbmgnaaGreat
open Go.ChangeShapes Go.WideShapes Go.ChangeAt Go.RowKit
set_option linter.unusedVariables false
/-- a field's value -/
abbrev FV (tag : Int) (text : Bool) (num : Nat) (bv : Value) : Value := .agg #[.int .i64 tag, .bool text, .int .u64 (num : Int), bv]
set_option maxRecDepth 20000 in
set_option maxHeartbeats 1000000 in
theorem check_any (f : Fld) (last : Int) (a : Option Addr) (cap : Nat) (w : World) (hn : f.num ≤ 18446744073709551615) :
    Calls Tryz.prog 68 #[FV f.tag f.text f.num (.slice a f.bytes.length cap), .int .i64 last] w fun r w' => r = .returned (.int .i64 (flt f last : Int)) ∧ Below w.heap.size w w' := by
  obtain ⟨tag, text, num, bytes⟩ := f
  simp only at hn ⊢
  obtain ⟨L, hL⟩ : ∃ L, bytes.length = L := ⟨_, rfl⟩
  rw [hL]
  by_cases c1 : tag < 1
  · have HF : Hid (flt ⟨tag, text, num, bytes⟩ last = 20) := by show _ = _; unfold flt; rw [if_pos (.inl c1)]
    go_enter Tryz.func68, Tryz.ntmps68
    go_wp2
    go_ret
    exact ⟨by rw [HF.out]; rfl, by first | exact (Below.refl _ _).alloc (Nat.le_refl _) _ | exact ((Below.refl _ _).alloc (Nat.le_refl _) _).alloc (by simp) _⟩
  by_cases c2 : 31 < tag
  · have HF : Hid (flt ⟨tag, text, num, bytes⟩ last = 20) := by show _ = _; unfold flt; rw [if_pos (.inr c2)]
    go_enter Tryz.func68, Tryz.ntmps68
    go_wp2
    go_ret
    exact ⟨by rw [HF.out]; rfl, by first | exact (Below.refl _ _).alloc (Nat.le_refl _) _ | exact ((Below.refl _ _).alloc (Nat.le_refl _) _).alloc (by simp) _⟩
  have c12 : ¬ (tag < 1 ∨ 31 < tag) := by omega
  by_cases c3 : tag ≤ last
  · have HF : Hid (flt ⟨tag, text, num, bytes⟩ last = 21) := by show _ = _; unfold flt; rw [if_neg c12, if_pos c3]
    go_enter Tryz.func68, Tryz.ntmps68
    go_wp2
    go_ret
    exact ⟨by rw [HF.out]; rfl, by first | exact (Below.refl _ _).alloc (Nat.le_refl _) _ | exact ((Below.refl _ _).alloc (Nat.le_refl _) _).alloc (by simp) _⟩
  cases text with
  | true =>
    by_cases c4 : L = 0
    · have HF : Hid (flt ⟨tag, true, num, bytes⟩ last = 22) := by show _ = _; unfold flt; rw [if_neg c12, if_neg c3, if_pos rfl, if_pos (List.length_eq_zero_iff.1 (hL.trans c4))]
      subst c4
      clear hL
      go_enter Tryz.func68, Tryz.ntmps68
      go_wp2
      go_ret
      exact ⟨by rw [HF.out]; rfl, by first | exact (Below.refl _ _).alloc (Nat.le_refl _) _ | exact ((Below.refl _ _).alloc (Nat.le_refl _) _).alloc (by simp) _⟩
    have c4' : bytes ≠ [] := by intro h; subst h; simp at hL; omega
    by_cases c5 : 200 < L
    · have HF : Hid (flt ⟨tag, true, num, bytes⟩ last = 23) := by show _ = _; unfold flt; rw [if_neg c12, if_neg c3, if_pos rfl, if_neg c4', if_pos (by rw [hL]; exact c5)]
      clear hL
      go_enter Tryz.func68, Tryz.ntmps68
      go_wp2
      go_ret
      exact ⟨by rw [HF.out]; rfl, by first | exact (Below.refl _ _).alloc (Nat.le_refl _) _ | exact ((Below.refl _ _).alloc (Nat.le_refl _) _).alloc (by simp) _⟩
    · have HF : Hid (flt ⟨tag, true, num, bytes⟩ last = 0) := by show _ = _; unfold flt; rw [if_neg c12, if_neg c3, if_pos rfl, if_neg c4', if_neg (by rw [hL]; exact c5)]
      clear hL
      go_enter Tryz.func68, Tryz.ntmps68
      go_wp2
      go_ret
      exact ⟨by rw [HF.out]; rfl, by first | exact (Below.refl _ _).alloc (Nat.le_refl _) _ | exact ((Below.refl _ _).alloc (Nat.le_refl _) _).alloc (by simp) _⟩
  | false =>
    by_cases c4 : num = 0
    · have HF : Hid (flt ⟨tag, false, num, bytes⟩ last = 22) := by show _ = _; unfold flt; rw [if_neg c12, if_neg c3, if_neg (by simp), if_pos c4]
      subst c4
      clear hL
      go_enter Tryz.func68, Tryz.ntmps68
      go_wp2
      go_ret
      exact ⟨by rw [HF.out]; rfl, by first | exact (Below.refl _ _).alloc (Nat.le_refl _) _ | exact ((Below.refl _ _).alloc (Nat.le_refl _) _).alloc (by simp) _⟩
    · have HF : Hid (flt ⟨tag, false, num, bytes⟩ last = 0) := by show _ = _; unfold flt; rw [if_neg c12, if_neg c3, if_neg (by simp), if_neg c4]
      clear hL
      go_enter Tryz.func68, Tryz.ntmps68
      go_wp2
      go_ret
      exact ⟨by rw [HF.out]; rfl, by first | exact (Below.refl _ _).alloc (Nat.le_refl _) _ | exact ((Below.refl _ _).alloc (Nat.le_refl _) _).alloc (by simp) _⟩
end Go.Proofs.YtfcgcpfckbmgnaaGreat
namespace Go.Proofs.YtfcgcpfckbmgnaaGreat
open Go.ChangeShapes Go.WideShapes Go.ChangeAt Go.RowKit
theorem size_any (u : Nat) (w : World) (hu : u ≤ 18446744073709551615) :
    Calls Tryz.prog 71 #[.int .u64 u] w fun e w' => e = .returned (.int .i64 (enc u).length) ∧ w = w' := by
  have ho : bits .or .u64 (u : Int) 1 = ((u ||| 1 : Nat) : Int) := u64_or_nat u 1 (by omega) (by omega)
  have hb : bitLen (u ||| 1) ≤ 64 := bitLen_lt _ 64 (by rw [or_one]; omega)
  have ho2 : u ||| 1 ≤ 18446744073709551615 := by rw [or_one]; omega
  have HL : Hid (_ = _) := enc_length u hu
  generalize hx : u ||| 1 = x at *
  clear hx
  go_enter Tryz.func71, Tryz.ntmps71
  go_wp2_with (go_at_call 86; refine (len_any (x : Int) _ (by omega) (by omega)).mono ?_; rintro e w' ⟨rfl, rfl⟩; rw [Int.toNat_natCast])
  go_ret
  refine ⟨ret_int ?_, rfl⟩
  rw [HL.out]
  omega
theorem size_int (x : Int) (w : World) (h0 : 0 ≤ x) (h1 : x ≤ 18446744073709551615) :
    Calls Tryz.prog 71 #[.int .u64 x] w fun e w' => e = .returned (.int .i64 (enc x.toNat).length) ∧ w = w' := by
  obtain ⟨u, rfl⟩ := Int.eq_ofNat_of_zero_le h0
  rw [Int.toNat_natCast]
  exact size_any u w (by omega)
end Go.Proofs.YtfcgcpfckbmgnaaGreat
