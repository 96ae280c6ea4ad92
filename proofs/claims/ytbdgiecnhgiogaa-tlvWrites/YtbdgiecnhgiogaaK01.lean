/- Own texts, joined: Dec, Two. -/
import Derived.Test.YtbdgiecnhgiogaaRows
import Derived.Test.YtbdgiecnhgiogaaK00
import Derived.ArgAppend
namespace Go.Proofs.Ytbdgiecnhgiogaa
open Go.ChangeShapes Go.WideShapes Go.ChangeAt Go.RowKit
set_option maxRecDepth 100000 in
set_option maxHeartbeats 400000 in
theorem dec_any (l : List Nat) (a : Option Addr) (cap : Nat) (w : World) (hb : Bytes w a l) (hl : l.length ≤ maxLen) :
    Calls Try.prog 56 #[.slice a l.length cap] w fun e w' => e = .returned (.tuple #[.int .u64 (dec 0 0 l).1, .int .i64 (dec 0 0 l).2.1, .int .i64 (dec 0 0 l).2.2]) ∧ w = w' := by
  unfold maxLen at hl
  obtain ⟨hby, rfl | ⟨b, off, rfl, hlt, hcell⟩⟩ := hb
  · go_enter Try.func56, Try.ntmps56
    go_wp2
    refine wp_loop_rounds 1 ?_
    rw [rounds_succ]
    go_wp2
    go_ret3
    exact ⟨rfl, rfl⟩
  · go_enter Try.func56, Try.ntmps56
    go_wp2
    go_loop [5, 10] (fun u i => ∃ k u0 : Nat, k ≤ l.length ∧ k ≤ 9 ∧ i = .int .i64 k ∧ u = .int .u64 u0 ∧ u0 < 128 ^ k ∧ dec 0 0 l = dec k u0 (l.drop k)) (fun _ i => l.length - (intOf i).toNat)
    case atStart => exact ⟨0, 0, Nat.zero_le _, by omega, rfl, rfl, by simp, rfl⟩
    case round =>
      obtain ⟨k, u0, hk, hk9, rfl, rfl, hu, hd⟩ := hrel
      have HU : Hid (u0 < 128 ^ k) := hu
      have HD : Hid (_ = _) := hd
      clear hu hd
      by_cases hlt : k < l.length
      · have hc := hcell k hlt
        have hc256 := hby k
        obtain ⟨c, hcE⟩ : ∃ c, c = l.getD k 0 := ⟨_, rfl⟩
        rw [← hcE] at hc hc256
        have HC : Hid (c = l.getD k 0) := hcE
        clear hcE hcell hby
        by_cases hA : k = 9 ∧ 1 < c
        · obtain ⟨rfl, h1c⟩ := hA
          have HE : Hid (dec 0 0 l = (0, 0, 12)) := by
            show _ = _
            rw [HD.out, drop_at l _ c hlt HC.out, dec_cons, if_pos ⟨rfl, h1c⟩]
          clear HD HU HC
          go_wp2
          go_ret3
          exact ⟨by rw [HE.out]; rfl, rfl⟩
        · have hA' : k ≤ 8 ∨ (k = 9 ∧ c ≤ 1) := by omega
          by_cases hB : 128 ≤ c
          · have hk8 : k ≤ 8 := by omega
            have hkb : ((k : Int) == 9) = false := by simp; omega
            have HE : Hid (dec 0 0 l = dec (k + 1) (u0 + c % 128 * 128 ^ k) (l.drop (k + 1))) := by
              show _ = _
              rw [HD.out, drop_at l _ c hlt HC.out, dec_cons, if_neg hA, if_pos hB]
            have HO : Hid (_ ∧ _) := or_step u0 c k HU.out hc256 hA'
            clear hA' hk9 HD HU HC hA
            go_wp2
            go_round
            case rel => exact ⟨k + 1, _, by omega, by omega, by go_num, congrArg (Value.int IntKind.u64) HO.out.1, HO.out.2.1, HE.out⟩
            case measure => simp [intOf]; omega
          · by_cases hC : c = 0 ∧ 0 < k
            · obtain ⟨rfl, hk0⟩ := hC
              have HE : Hid (dec 0 0 l = (0, 0, 11)) := by
                show _ = _
                rw [HD.out, drop_at l _ _ hlt HC.out, dec_cons, if_neg hA, if_neg hB, if_pos ⟨rfl, hk0⟩]
              clear HD HU HC hA hA' hB
              by_cases hk9' : k = 9
              · subst hk9'
                go_wp2
                go_ret3
                exact ⟨by rw [HE.out]; rfl, rfl⟩
              · have hkb : ((k : Int) == 9) = false := by simp; omega
                clear hk9'
                go_wp2
                go_ret3
                exact ⟨by rw [HE.out]; rfl, rfl⟩
            · have HE : Hid (dec 0 0 l = (u0 + c % 128 * 128 ^ k, k + 1, 0)) := by
                show _ = _
                rw [HD.out, drop_at l _ _ hlt HC.out, dec_cons, if_neg hA, if_neg hB, if_neg hC]
              have HO : Hid (_ ∧ _) := or_step u0 c k HU.out hc256 hA'
              have hC' : c ≠ 0 ∨ k = 0 := by omega
              clear HD HU HC hA hC
              by_cases hk9' : k = 9
              · subst hk9'
                have hc0 : ((c : Int) == 0) = false := by simp; omega
                have hc1 : c ≤ 1 := by omega
                clear hC' hA'
                go_wp2
                go_ret3
                rw [HE.out]
                exact ⟨ret3 HO.out.1 rfl rfl, rfl⟩
              · have hkb : ((k : Int) == 9) = false := by simp; omega
                clear hk9' hA'
                by_cases hc0' : c = 0
                · have hk0 : ¬ (0 : Int) < (k : Int) := by omega
                  have hc0 : ((c : Int) == 0) = true := by simp; omega
                  clear hC' hc0'
                  go_wp2
                  go_ret3
                  rw [HE.out]
                  exact ⟨ret3 HO.out.1 rfl rfl, rfl⟩
                · have hc0 : ((c : Int) == 0) = false := by simp; omega
                  clear hC' hc0'
                  go_wp2
                  go_ret3
                  rw [HE.out]
                  exact ⟨ret3 HO.out.1 rfl rfl, rfl⟩
      · have HE : Hid (dec 0 0 l = (0, 0, 10)) := by
          show _ = _
          rw [HD.out, List.drop_eq_nil_of_le (by omega)]; rfl
        clear HD HU hcell hby
        go_wp2
        go_ret3
        exact ⟨by rw [HE.out]; rfl, rfl⟩
theorem dec_at (l : List Nat) (n u k e : Nat) (a : Option Addr) (cap : Nat) (w : World) (e1 : l.length = n) (hd : dec 0 0 l = (u, k, e)) (hb : Bytes w a l) (hl : l.length ≤ maxLen) :
    Calls Try.prog 56 #[.slice a n cap] w fun x w' => x = .returned (.tuple #[.int .u64 u, .int .i64 k, .int .i64 e]) ∧ w = w' := by
  subst e1
  refine (dec_any l a cap w hb hl).mono ?_
  rw [hd]
  exact fun _ _ h => h
end Go.Proofs.Ytbdgiecnhgiogaa
namespace Go.Proofs.Ytbdgiecnhgiogaa
open Go.ChangeShapes Go.WideShapes Go.ChangeAt Go.RowKit
/-- all blocks of w but ga and gc are in wr as they were -/
structure Kept (ga gc : Nat) (w wr : World) : Prop where
  os : wr.os = w.os
  tape : wr.tape = w.tape
  output : wr.output = w.output
  size : w.heap.size ≤ wr.heap.size
  block : ∀ k, k < w.heap.size → k ≠ ga → k ≠ gc → wr.heap[k]? = w.heap[k]?
theorem Kept.refl (ga gc : Nat) (w : World) : Kept ga gc w w := ⟨rfl, rfl, rfl, Nat.le_refl _, fun _ _ _ _ => rfl⟩
theorem Kept.grown {ga gc : Nat} {w wr w' : World} {row : Option Nat} (h : Kept ga gc w wr) (hg : wr.grownBy w' row) (hr : ∀ k, row = some k → k = ga ∨ k = gc ∨ w.heap.size ≤ k) : Kept ga gc w w' := by
  refine ⟨hg.os.trans h.os, hg.tape.trans h.tape, hg.output.trans h.output, Nat.le_trans h.size hg.size, fun k hk h1 h2 => ?_⟩
  rw [hg.block k (Nat.lt_of_lt_of_le hk h.size) (fun hh => ?_), h.block k hk h1 h2]
  rcases hr k hh.symm with h3 | h3 | h3
  · exact h1 h3
  · exact h2 h3
  · omega
theorem Kept.alloc {ga gc : Nat} {w wr : World} (h : Kept ga gc w wr) (o : Obj) : Kept ga gc w (wr.alloc o) :=
  h.grown (World.grownBy_alloc wr o none) (fun _ hk => by cases hk)
theorem Kept.bytes {ga gc : Nat} {w wr : World} {b off : Nat} {l : List Nat} (h : Kept ga gc w wr) (hb : Bytes w (some ⟨b, off, none⟩) l) (h1 : b ≠ ga) (h2 : b ≠ gc) : Bytes wr (some ⟨b, off, none⟩) l := by
  refine ⟨hb.1, ?_⟩
  rcases hb.2 with hb | ⟨b', off', hx, hlt, hc⟩
  · exact .inl hb
  · cases hx
    exact .inr ⟨b, off, rfl, Nat.lt_of_lt_of_le hlt h.size, fun i hi => (World.cell?_of_block (w := w) (a := ⟨b, off + i, none⟩) (h.block b hlt h1 h2)).trans (hc i hi)⟩
theorem Kept.nums {ga gc : Nat} {w wr : World} {a : Option Addr} {l : List Nat} (h : Kept ga gc w wr) (hb : Nums w a l) (hne : ∀ b off, a = some ⟨b, off, none⟩ → b < w.heap.size → l ≠ [] → b ≠ ga ∧ b ≠ gc) : Nums wr a l := by
  refine ⟨hb.1, ?_⟩
  rcases hb.2 with hb | ⟨b, off, rfl, hlt, hc⟩
  · exact .inl hb
  · by_cases hl : l = []
    · exact .inl hl
    · obtain ⟨h1, h2⟩ := hne b off rfl hlt hl
      exact .inr ⟨b, off, rfl, Nat.lt_of_lt_of_le hlt h.size, fun i hi => (World.cell?_of_block (w := w) (a := ⟨b, off + i, none⟩) (h.block b hlt h1 h2)).trans (hc i hi)⟩
theorem Kept.below {ga gc : Nat} {W w wr : World} (h : Kept ga gc w wr) (hb : Below W.heap.size W w) (h1 : W.heap.size ≤ ga) (h2 : W.heap.size ≤ gc) : Below W.heap.size W wr :=
  ⟨h.os.trans hb.os, h.tape.trans hb.tape, h.output.trans hb.output, Nat.le_trans hb.size h.size, fun k hk => (h.block k (Nat.lt_of_lt_of_le hk hb.size) (by omega) (by omega)).trans (hb.block k hk)⟩
/-- append to a row of the call's own: it stays where it is, or goes to new memory -/
theorem wpList_append_two {P : Program} (w : World) {ops : Array Oper} {rest : List Oper} {o : Oper} {a : Act} {Q : Exit → Act → World → Prop}
    (hg : o.guard = none) (s x : Operand) (t : TypeId) (hop : o.op = Op.call { callee := Callee.builtin Builtin.append, args := #[s, x], argTypes := #[t, t] })
    (base : Nat) (e : TypeId) (i : TypeInfo) (z : Value) (bytes : Nat) (h1 : P.underlying t = some (.slice e)) (h2 : P.info? e = some i) (h3 : i.zero = some z) (h4 : i.size = 1) (h5 : i.bytes = bytes) (h6 : z.cells.size = 1)
    (g n cap : Nat) (xs : List Value) (hs : a.eval s = .slice (some ⟨g, 0, none⟩) n cap) (hown : w.ownsRow base e 1 (.slice (some ⟨g, 0, none⟩) n cap) n xs) (ad : Addr) (m c : Nat) (news : List Value) (hx : a.eval x = .slice (some ad) m c) (hn : news.length = m * 1)
    (hc : ∀ j u, news[j]? = some u → w.cell? (ad.add j) = some u) (h1c : ∀ u ∈ news, u.oneCell' = true) (hm : 0 < m) (b1 : n + m ≤ maxLen) (b2 : (n + m) * bytes ≤ 140737488355328) (hbase : base ≤ w.heap.size)
    (hK : ∀ g' cap' w', (g' = g ∨ w.heap.size ≤ g') → g' < w'.heap.size → w'.ownsRow base e 1 (.slice (some ⟨g', 0, none⟩) (n + m) cap') (n + m) (xs ++ news) → w.grownBy w' (some g) → wpList P ops Q rest (a.put o.dst (.slice (some ⟨g', 0, none⟩) (n + m) cap')) w') :
    wpList P ops Q (o :: rest) a w := by
  have hlt : ∀ {w' : World} {g' cap' b' : Nat} {ys : List Value}, w'.ownsRow b' e 1 (.slice (some ⟨g', 0, none⟩) (n + m) cap') (n + m) ys → g' < w'.heap.size := by
    intro w' g' cap' b' ys ho
    rcases ho.2 with ⟨h, _⟩ | ⟨g2, cap2, cur, h, _, hh, _⟩
    · cases h
    · cases h
      by_cases hh2 : g' < w'.heap.size
      · exact hh2
      · rw [Array.getElem?_eq_none (by omega)] at hh; cases hh
  by_cases hroom : n + m ≤ cap
  · exact wpList_append_fits w hg s x t hop base e i 1 h1 h2 h4 g n cap xs hs hown ad m c news hx hn hc h1c hroom (fun w' ho hgr => hK g cap w' (.inl rfl) (hlt ho) ho hgr)
  · refine wpList_append_grows w hg s x t hop e i z 1 bytes h1 h2 h3 h4 h5 h6 (by decide) (some ⟨g, 0, none⟩) n cap xs hs (fun h => by cases h) hown.1 (fun b hb j u hj => ?_) ad m c news hx hn hc h1c (by omega) b1 b2 (fun v' w' ho hgr => ?_)
    · cases hb
      exact hown.cells (g := g) rfl j u hj
    · rcases ho.2 with ⟨hv, hz⟩ | ⟨g', cap', cur, hv, hbg, hh, hr1, hr2, hr3, hr4⟩
      · omega
      · subst hv
        have ho2 : w'.ownsRow base e 1 (.slice (some ⟨g', 0, none⟩) (n + m) cap') (n + m) (xs ++ news) := ⟨ho.1, .inr ⟨g', cap', cur, rfl, Nat.le_trans hbase hbg, hh, hr1, hr2, hr3, hr4⟩⟩
        exact hK g' cap' w' (.inr hbg) (hlt ho) ho2 ⟨hgr.os, hgr.tape, hgr.output, hgr.size, fun k hk _ => hgr.block k hk (by simp)⟩
end Go.Proofs.Ytbdgiecnhgiogaa
