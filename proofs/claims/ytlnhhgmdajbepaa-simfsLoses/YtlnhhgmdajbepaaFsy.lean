/- simfs: a call in the abstract; blocks that are foreign to a disk. -/
import Derived.Test.YtlnhhgmdajbepaaFsx
import Derived.Laws.OwnMore
namespace Go.Proofs.Ytlnhhgmdajbepaa
open Go.ChangeShapes Go.WideShapes Go.ChangeAt Go.RowKit
set_option linter.unusedVariables false
set_option linter.unusedSimpArgs false

/-- a call: its number, two names, bytes, two numbers, what is kept -/
structure Oa where
  k : Int
  nm : List UInt8
  to : List UInt8
  P : Option Addr
  C : Nat
  lb : List Nat
  n : Int
  m : Int
  K : Option Addr
  CK : Nat
  ks : List Int
abbrev opV (o : Oa) : Value := .agg #[.int .i64 o.k, .string (bs o.nm), .string (bs o.to), .slice o.P o.lb.length o.C, .int .i64 o.n, .int .i64 o.m, .slice o.K o.ks.length o.CK]
structure OpIn (w : World) (o : Oa) : Prop where
  k : inI o.k
  nm : o.nm.length ≤ 281474976710656
  to : o.to.length ≤ 281474976710656
  b : Bytes w o.P o.lb
  bc : o.lb.length ≤ o.C
  bn : o.P = none → o.C = 0
  bl : o.lb.length ≤ 140737488351232
  n : inI o.n
  m : inI o.m
  ks : Ints w o.K o.ks
  kc : o.ks.length ≤ o.CK
  kn : o.K = none → o.CK = 0
  kl : o.ks.length * 8 ≤ 140737488355328
theorem OpIn.keep {w w' : World} {o : Oa} (h : OpIn w o) (hb : Below w.heap.size w w') : OpIn w' o := ⟨h.k, h.nm, h.to, h.b.keep hb, h.bc, h.bn, h.bl, h.n, h.m, h.ks.keep hb, h.kc, h.kn, h.kl⟩
/-- what a call makes of a disk, and what it answers -/
def doA (A : Ak) (o : Oa) : Ak × List Nat × Int × Nat :=
  if o.k = 0 then ((createA A o.nm).1, [], 0, (createA A o.nm).2)
  else if o.k = 1 then ((appendA A o.nm o.lb).1, [], 0, (appendA A o.nm o.lb).2)
  else if o.k = 2 then ((syncA A o.nm).1, [], 0, (syncA A o.nm).2)
  else if o.k = 3 then ((renameA A o.nm o.to).1, [], 0, (renameA A o.nm o.to).2)
  else if o.k = 4 then ((removeA A o.nm).1, [], 0, (removeA A o.nm).2)
  else if o.k = 5 then ((cutA A o.nm o.n).1, [], 0, (cutA A o.nm o.n).2)
  else if o.k = 6 then ((readA A o.nm o.n o.m).1, (readA A o.nm o.n o.m).2.1, 0, (readA A o.nm o.n o.m).2.2)
  else if o.k = 7 then (A, [], ((sizeA A o.nm).1 : Nat), (sizeA A o.nm).2)
  else if o.k = 8 then (restartA A o.ks, [], 0, 0)
  else if o.k = 9 then (fuseA A o.n, [], 0, 0)
  else (A, [], 0, 0)
theorem doA_ok {A : Ak} (h : AkOk A) {o : Oa} (hn : inI o.n) : AkOk (doA A o).1 := by
  unfold doA
  split
  · exact createA_ok h _
  · split
    · exact appendA_ok h _ _
    · split
      · exact syncA_ok h _
      · split
        · exact renameA_ok h _ _
        · split
          · exact removeA_ok h _
          · split
            · exact cutA_ok h _ _
            · split
              · exact readA_ok h _ _ _
              · split
                · exact h
                · split
                  · exact restartA_ok h _
                  · split
                    · exact fuseA_ok h hn.2
                    · exact h
/-- the disk A lies there, and the blocks F are none of its own -/
def DF (x : World) (base q b : Nat) (A : Ak) (F : Nat → Prop) : Prop := ∃ D, DkAt x base q b D ∧ D.ab = A ∧ ∀ k, F k → k < x.heap.size ∧ ¬ Ob q b D.fs k
theorem DF.da {x : World} {base q b : Nat} {A : Ak} {F : Nat → Prop} (h : DF x base q b A F) : DA x base q b A := by
  obtain ⟨D, h1, h2, _⟩ := h; exact ⟨D, h1, h2⟩
theorem DA.df {x : World} {base q b : Nat} {A : Ak} (h : DA x base q b A) : DF x base q b A (fun _ => False) := by
  obtain ⟨D, h1, h2⟩ := h; exact ⟨D, h1, h2, fun _ h => h.elim⟩
theorem DF.keep {x y : World} {base q b : Nat} {A : Ak} {F : Nat → Prop} (h : DF x base q b A F) (hb : Below x.heap.size x y) : DF y base q b A F := by
  obtain ⟨D, h1, h2, h3⟩ := h; exact ⟨D, h1.keep hb, h2, fun k hk => ⟨Nat.lt_of_lt_of_le (h3 k hk).1 hb.size, (h3 k hk).2⟩⟩
/-- what was made beside the disk is foreign to it -/
theorem DF.more {x y : World} {base q b : Nat} {A : Ak} {F : Nat → Prop} (h : DF x base q b A F) (hb : Below x.heap.size x y) : DF y base q b A (fun k => F k ∨ (x.heap.size ≤ k ∧ k < y.heap.size)) := by
  obtain ⟨D, h1, h2, h3⟩ := h
  refine ⟨D, h1.keep hb, h2, fun k hk => ?_⟩
  rcases hk with hk | ⟨k1, k2⟩
  · exact ⟨Nat.lt_of_lt_of_le (h3 k hk).1 hb.size, (h3 k hk).2⟩
  · exact ⟨k2, fun ho => by have := (h1.ob ho).2; omega⟩
theorem DF.sub {x : World} {base q b : Nat} {A : Ak} {F G : Nat → Prop} (h : DF x base q b A F) (hg : ∀ k, G k → F k) : DF x base q b A G := by
  obtain ⟨D, h1, h2, h3⟩ := h; exact ⟨D, h1, h2, fun k hk => h3 k (hg k hk)⟩
/-- only foreign blocks were turned -/
theorem DF.turn {x y : World} {base q b : Nat} {A : Ak} {F : Nat → Prop} (h : DF x base q b A F) (hs : x.heap.size ≤ y.heap.size) (ht : ∀ k, k < x.heap.size → ¬ F k → y.heap[k]? = x.heap[k]?) : DF y base q b A F := by
  obtain ⟨D, h1, h2, h3⟩ := h
  exact ⟨D, h1.same (fun k hk => ht k (h1.ob hk).2 (fun hf => (h3 k hf).2 hk)), h2, fun k hk => ⟨Nat.lt_of_lt_of_le (h3 k hk).1 hs, (h3 k hk).2⟩⟩
theorem To.f {x x0 x' : World} {base q b : Nat} {D : Dk} {A : Ak} {F : Nat → Prop} (h : DkAt x base q b D) (hF : ∀ k, F k → k < x.heap.size ∧ ¬ Ob q b D.fs k) (hb : Below x.heap.size x x0) (t : To base q b D.fs A x0 x') : DF x' base q b A F ∧ (∀ k, F k → x'.heap[k]? = x.heap[k]?) ∧ Below base x x' := by
  obtain ⟨D', hd, e, hc⟩ := t
  have hbase : base ≤ x.heap.size := Nat.le_trans h.lo.1 (Nat.le_of_lt h.lt.1)
  have h0 := h.keep hb
  refine ⟨⟨D', hd, e, fun k hk => ⟨Nat.lt_of_lt_of_le (hF k hk).1 (Nat.le_trans hb.size hc.size), fun ho => ?_⟩⟩, fun k hk => (hc.block k (Nat.lt_of_lt_of_le (hF k hk).1 hb.size) (hF k hk).2).trans (hb.block k (hF k hk).1), hc.to_below h0 (hb.mono hbase) (Nat.le_trans hbase hb.size)⟩
  rcases hc.own k ho with h1 | h1
  · exact (hF k hk).2 h1
  · have := (hF k hk).1; have := hb.size; omega
/-- bytes of one's own while they are turned: all blocks but theirs are as they were -/
structure Tz (w wr : World) (base : Nat) (a : Option Addr) (k c : Nat) : Prop where
  os : wr.os = w.os
  tape : wr.tape = w.tape
  output : wr.output = w.output
  size : wr.heap.size = w.heap.size
  block : ∀ j, a ≠ some ⟨j, 0, none⟩ → wr.heap[j]? = w.heap[j]?
  p : ∃ xs, wr.ownsRow base 5 1 (.slice a k c) k xs ∧ ∀ x ∈ xs, ∃ z : Int, x = .int .u8 z
theorem Tz.step {w wr : World} {base : Nat} {a : Option Addr} {k c : Nat} (h : Tz w wr base a k c) (j : Nat) (hj : j < k) :
    ∃ g z, a = some ⟨g, 0, none⟩ ∧ wr.cell? ⟨g, j, none⟩ = some (.int .u8 z) ∧ wr.frozen? ⟨g, j, none⟩ = false ∧ ∀ y : Int, Tz w (wr.setCell ⟨g, j, none⟩ (.int .u8 y)) base a k c := by
  obtain ⟨xs, hx, hz⟩ := h.p
  have hx2 := hx
  rcases hx2.2 with ⟨_, hn⟩ | ⟨g, cap, cur, hv, hb, _⟩
  · omega
  · injection hv with h1 h2 h3
    subst h1
    have e2 := hx.cellAt j (by omega)
    have hl := hx.1
    obtain ⟨x, hxj⟩ : ∃ x, xs[j]? = some x := ⟨_, List.getElem?_eq_getElem (by omega)⟩
    obtain ⟨z, rfl⟩ := hz x (List.mem_of_getElem? hxj)
    refine ⟨g, z, rfl, by rw [e2]; exact hxj, hx.frozenAt j, fun y => ?_⟩
    have hst := hx.stored j (.int .u8 y)
    refine ⟨h.os, h.tape, h.output, by simp [World.setCell]; exact h.size, fun k hk => (heap_setCell_other _ ⟨g, j, none⟩ k _ (fun hh => hk (by rw [hh]))).trans (h.block k hk), ⟨_, hst.1, fun x hx => by rcases List.mem_or_eq_of_mem_set hx with h9 | rfl; exact hz x h9; exact ⟨y, rfl⟩⟩⟩
theorem Tz.start {w : World} {base : Nat} {a : Option Addr} {k c : Nat} {l : List Nat} (h : Own w base (.slice a k c) l) (hk : l.length = k) : Tz w w base a k c := by
  subst hk
  exact ⟨rfl, rfl, rfl, rfl, fun _ _ => rfl, ⟨_, h.2, fun x hx => by obtain ⟨n, _, rfl⟩ := List.mem_map.1 hx; exact ⟨_, rfl⟩⟩⟩
theorem Tz.lo {w wr : World} {base : Nat} {a : Option Addr} {k c : Nat} (h : Tz w wr base a k c) (g : Nat) (hg : a = some ⟨g, 0, none⟩) : base ≤ g ∧ g < wr.heap.size := by
  obtain ⟨xs, hx, _⟩ := h.p
  exact hx.lt g (by rw [hg]; rfl)
/-- the same bytes in a world that has kept their block -/
theorem own_kept {x y : World} {base : Nat} {a : Option Addr} {k c : Nat} {l : List Nat} (h : Own x base (.slice a k c) l) (hs : ∀ g, a = some ⟨g, 0, none⟩ → y.heap[g]? = x.heap[g]?) : Own y base (.slice a k c) l := by
  refine ⟨h.1, h.2.1, ?_⟩
  rcases h.2.2 with h1 | ⟨g, cap, cur, h1, h2, h3, h4⟩
  · exact .inl h1
  · injection h1 with e1 e2 e3
    exact .inr ⟨g, cap, cur, by rw [e1, e3, e2], h2, (hs g e1).trans h3, h4⟩
end Go.Proofs.Ytlnhhgmdajbepaa
