/- Two rows of a call's own: what is written into them, and put behind them, leaves all else as it was. -/
import Derived.Test.YtblfmfanfpohbaaGreatAid
import Derived.ArgAppend
namespace Go.Proofs.YtblfmfanfpohbaaGreat
open Go.ChangeShapes Go.WideShapes Go.ChangeAt Go.RowKit
/-- all blocks of w but ga and gc are in wr as they were -/
structure Kept (ga gc : Nat) (w wr : World) : Prop where
  os : wr.os = w.os
  tape : wr.tape = w.tape
  output : wr.output = w.output
  size : w.heap.size ≤ wr.heap.size
  block : ∀ k, k < w.heap.size → k ≠ ga → k ≠ gc → wr.heap[k]? = w.heap[k]?
theorem Kept.refl (ga gc : Nat) (w : World) : Kept ga gc w w := ⟨rfl, rfl, rfl, Nat.le_refl _, fun _ _ _ _ => rfl⟩
theorem Kept.grown {ga gc : Nat} {w wr w' : World} {row : Option Nat} (h : Kept ga gc w wr) (hg : wr.grownBy w' row) (hr : ∀ k, row = some k → k = ga ∨ k = gc ∨ w.heap.size ≤ k) : Kept ga gc w w' := by
  refine ⟨hg.os.trans h.os, hg.tape.trans h.tape, hg.output.trans h.output, Nat.le_trans h.size hg.size, fun k hk h1 h2 => ?_⟩
  rw [hg.block k (Nat.lt_of_lt_of_le hk h.size) (fun hh => ?_), h.block k hk h1 h2]
  rcases hr k hh.symm with h3 | h3 | h3
  · exact h1 h3
  · exact h2 h3
  · omega
theorem Kept.alloc {ga gc : Nat} {w wr : World} (h : Kept ga gc w wr) (o : Obj) : Kept ga gc w (wr.alloc o) :=
  h.grown (World.grownBy_alloc wr o none) (fun _ hk => by cases hk)
theorem Kept.bytes {ga gc : Nat} {w wr : World} {b off : Nat} {l : List Nat} (h : Kept ga gc w wr) (hb : Bytes w (some ⟨b, off, none⟩) l) (h1 : b ≠ ga) (h2 : b ≠ gc) : Bytes wr (some ⟨b, off, none⟩) l := by
  refine ⟨hb.1, ?_⟩
  rcases hb.2 with hb | ⟨b', off', hx, hlt, hc⟩
  · exact .inl hb
  · cases hx
    exact .inr ⟨b, off, rfl, Nat.lt_of_lt_of_le hlt h.size, fun i hi => (World.cell?_of_block (w := w) (a := ⟨b, off + i, none⟩) (h.block b hlt h1 h2)).trans (hc i hi)⟩
theorem Kept.nums {ga gc : Nat} {w wr : World} {a : Option Addr} {l : List Nat} (h : Kept ga gc w wr) (hb : Nums w a l) (hne : ∀ b off, a = some ⟨b, off, none⟩ → b < w.heap.size → l ≠ [] → b ≠ ga ∧ b ≠ gc) : Nums wr a l := by
  refine ⟨hb.1, ?_⟩
  rcases hb.2 with hb | ⟨b, off, rfl, hlt, hc⟩
  · exact .inl hb
  · by_cases hl : l = []
    · exact .inl hl
    · obtain ⟨h1, h2⟩ := hne b off rfl hlt hl
      exact .inr ⟨b, off, rfl, Nat.lt_of_lt_of_le hlt h.size, fun i hi => (World.cell?_of_block (w := w) (a := ⟨b, off + i, none⟩) (h.block b hlt h1 h2)).trans (hc i hi)⟩
theorem Kept.below {ga gc : Nat} {W w wr : World} (h : Kept ga gc w wr) (hb : Below W.heap.size W w) (h1 : W.heap.size ≤ ga) (h2 : W.heap.size ≤ gc) : Below W.heap.size W wr :=
  ⟨h.os.trans hb.os, h.tape.trans hb.tape, h.output.trans hb.output, Nat.le_trans hb.size h.size, fun k hk => (h.block k (Nat.lt_of_lt_of_le hk hb.size) (by omega) (by omega)).trans (hb.block k hk)⟩
/-- append to a row of the call's own: it stays where it is, or goes to new memory -/
theorem wpList_append_two {P : Program} (w : World) {ops : Array Oper} {rest : List Oper} {o : Oper} {a : Act} {Q : Exit → Act → World → Prop}
    (hg : o.guard = none) (s x : Operand) (t : TypeId) (hop : o.op = Op.call { callee := Callee.builtin Builtin.append, args := #[s, x], argTypes := #[t, t] })
    (base : Nat) (e : TypeId) (i : TypeInfo) (z : Value) (bytes : Nat) (h1 : P.underlying t = some (.slice e)) (h2 : P.info? e = some i) (h3 : i.zero = some z) (h4 : i.size = 1) (h5 : i.bytes = bytes) (h6 : z.cells.size = 1)
    (g n cap : Nat) (xs : List Value) (hs : a.eval s = .slice (some ⟨g, 0, none⟩) n cap) (hown : w.ownsRow base e 1 (.slice (some ⟨g, 0, none⟩) n cap) n xs) (ad : Addr) (m c : Nat) (news : List Value) (hx : a.eval x = .slice (some ad) m c) (hn : news.length = m * 1)
    (hc : ∀ j u, news[j]? = some u → w.cell? (ad.add j) = some u) (h1c : ∀ u ∈ news, u.oneCell' = true) (hm : 0 < m) (b1 : n + m ≤ maxLen) (b2 : (n + m) * bytes ≤ 140737488355328) (hbase : base ≤ w.heap.size)
    (hK : ∀ g' cap' w', (g' = g ∨ w.heap.size ≤ g') → g' < w'.heap.size → w'.ownsRow base e 1 (.slice (some ⟨g', 0, none⟩) (n + m) cap') (n + m) (xs ++ news) → w.grownBy w' (some g) → wpList P ops Q rest (a.put o.dst (.slice (some ⟨g', 0, none⟩) (n + m) cap')) w') :
    wpList P ops Q (o :: rest) a w := by
  have hlt : ∀ {w' : World} {g' cap' b' : Nat} {ys : List Value}, w'.ownsRow b' e 1 (.slice (some ⟨g', 0, none⟩) (n + m) cap') (n + m) ys → g' < w'.heap.size := by
    intro w' g' cap' b' ys ho
    rcases ho.2 with ⟨h, _⟩ | ⟨g2, cap2, cur, h, _, hh, _⟩
    · cases h
    · cases h
      by_cases hh2 : g' < w'.heap.size
      · exact hh2
      · rw [Array.getElem?_eq_none (by omega)] at hh; cases hh
  by_cases hroom : n + m ≤ cap
  · exact wpList_append_fits w hg s x t hop base e i 1 h1 h2 h4 g n cap xs hs hown ad m c news hx hn hc h1c hroom (fun w' ho hgr => hK g cap w' (.inl rfl) (hlt ho) ho hgr)
  · refine wpList_append_grows w hg s x t hop e i z 1 bytes h1 h2 h3 h4 h5 h6 (by decide) (some ⟨g, 0, none⟩) n cap xs hs (fun h => by cases h) hown.1 (fun b hb j u hj => ?_) ad m c news hx hn hc h1c (by omega) b1 b2 (fun v' w' ho hgr => ?_)
    · cases hb
      exact hown.cells (g := g) rfl j u hj
    · rcases ho.2 with ⟨hv, hz⟩ | ⟨g', cap', cur, hv, hbg, hh, hr1, hr2, hr3, hr4⟩
      · omega
      · subst hv
        have ho2 : w'.ownsRow base e 1 (.slice (some ⟨g', 0, none⟩) (n + m) cap') (n + m) (xs ++ news) := ⟨ho.1, .inr ⟨g', cap', cur, rfl, Nat.le_trans hbase hbg, hh, hr1, hr2, hr3, hr4⟩⟩
        exact hK g' cap' w' (.inr hbg) (hlt ho) ho2 ⟨hgr.os, hgr.tape, hgr.output, hgr.size, fun k hk _ => hgr.block k hk (by simp)⟩
end Go.Proofs.YtblfmfanfpohbaaGreat
