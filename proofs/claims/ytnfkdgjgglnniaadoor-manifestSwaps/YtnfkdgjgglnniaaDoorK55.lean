/- Own texts, joined: Fsx, Fsy. -/
import Derived.Test.YtnfkdgjgglnniaaDoorK54
import Derived.Test.YtnfkdgjgglnniaaDoorK08
import Derived.Laws.OwnMore
namespace Go.Proofs.YtnfkdgjgglnniaaDoor
open Go.ChangeShapes Go.WideShapes Go.ChangeAt Go.RowKit
set_option linter.unusedVariables false
/-- the disk A lies there -/
def DA (x : World) (base q b : Nat) (A : Ak) : Prop := ∃ D, DkAt x base q b D ∧ D.ab = A
theorem DA.size {x : World} {base q b : Nat} {A : Ak} (h : DA x base q b A) : base ≤ x.heap.size := by
  obtain ⟨D, hd, _⟩ := h
  exact Nat.le_trans hd.lo.1 (Nat.le_of_lt hd.lt.1)
theorem DA.keep {x y : World} {base q b : Nat} {A : Ak} (h : DA x base q b A) (hb : Below x.heap.size x y) : DA y base q b A := by
  obtain ⟨D, hd, e⟩ := h
  exact ⟨D, hd.keep hb, e⟩
theorem To.a {x x' : World} {base q b : Nat} {D : Dk} {A : Ak} (h : DkAt x base q b D) (t : To base q b D.fs A x x') : DA x' base q b A ∧ Below base x x' := by
  obtain ⟨D', hd, e, hc⟩ := t
  exact ⟨⟨D', hd, e⟩, hc.to_below h (Below.refl _ _) (Nat.le_trans h.lo.1 (Nat.le_of_lt h.lt.1))⟩
theorem new_A (n : Int) (w : World) (h1 : -9223372036854775808 ≤ n) (h2 : n ≤ 9223372036854775807) :
    Calls Tryd.prog 5 #[.int .i64 n] w fun r w' => ∃ q b, r = .returned (.pointer (some ⟨q, 0, none⟩)) ∧ DA w' w.heap.size q b (newD n).ab ∧ Below w.heap.size w w' :=
  (fsnew_any n w h1 h2).mono (fun r w' ⟨q, b, e, hd, hb⟩ => ⟨q, b, e, ⟨_, hd, rfl⟩, hb⟩)
section
variable {x : World} {base q b : Nat} {A : Ak} (h : DA x base q b A) (ok : AkOk A)
include h ok
theorem create_A (nm : List UInt8) (hl : nm.length ≤ 281474976710656) : Calls Tryd.prog 18 #[.pointer (some ⟨q, 0, none⟩), .string (bs nm)] x fun r x' => r = .returned (.int .i64 ((createA A nm).2 : Nat)) ∧ DA x' base q b (createA A nm).1 ∧ Below base x x' := by
  obtain ⟨D, hd, rfl⟩ := h
  exact (create_any x base q b D hd ok.dk nm hl).mono (fun r x' hr => ⟨hr.1, hr.2.a hd⟩)
theorem append_A (nm : List UInt8) (hl : nm.length ≤ 281474976710656) (B : Option Addr) (n C : Nat) (l : List Nat) (hln : l.length = n) (hB : Bytes x B l) (hnc : n ≤ C) (hA : B = none → C = 0) (hn : (n : Int) ≤ 281474976710656) : Calls Tryd.prog 20 #[.pointer (some ⟨q, 0, none⟩), .string (bs nm), .slice B n C] x fun r x' => r = .returned (.int .i64 ((appendA A nm l).2 : Nat)) ∧ DA x' base q b (appendA A nm l).1 ∧ Below base x x' := by
  obtain ⟨D, hd, rfl⟩ := h
  exact (append_any x base q b D hd ok.dk nm hl B n C l hln hB hnc hA hn).mono (fun r x' hr => ⟨hr.1, hr.2.a hd⟩)
theorem sync_A (nm : List UInt8) (hl : nm.length ≤ 281474976710656) : Calls Tryd.prog 22 #[.pointer (some ⟨q, 0, none⟩), .string (bs nm)] x fun r x' => r = .returned (.int .i64 ((syncA A nm).2 : Nat)) ∧ DA x' base q b (syncA A nm).1 ∧ Below base x x' := by
  obtain ⟨D, hd, rfl⟩ := h
  exact (sync_any x base q b D hd ok.dk nm hl).mono (fun r x' hr => ⟨hr.1, hr.2.a hd⟩)
theorem rename_A (nm to : List UInt8) (hl : nm.length ≤ 281474976710656) (hl2 : to.length ≤ 281474976710656) : Calls Tryd.prog 24 #[.pointer (some ⟨q, 0, none⟩), .string (bs nm), .string (bs to)] x fun r x' => r = .returned (.int .i64 ((renameA A nm to).2 : Nat)) ∧ DA x' base q b (renameA A nm to).1 ∧ Below base x x' := by
  obtain ⟨D, hd, rfl⟩ := h
  exact (rename_any x base q b D hd ok.dk nm to hl hl2).mono (fun r x' hr => ⟨hr.1, hr.2.a hd⟩)
theorem size_A (nm : List UInt8) (hl : nm.length ≤ 281474976710656) : Calls Tryd.prog 30 #[.pointer (some ⟨q, 0, none⟩), .string (bs nm)] x fun r x' => r = .returned (.tuple #[.int .i64 ((sizeA A nm).1 : Nat), .int .i64 ((sizeA A nm).2 : Nat)]) ∧ Below x.heap.size x x' := by
  obtain ⟨D, hd, rfl⟩ := h
  exact dsize_any x base q b D hd ok.dk nm hl
theorem read_A (nm : List UInt8) (hl : nm.length ≤ 281474976710656) (i n : Int) (hi1 : -9223372036854775808 ≤ i) (hi2 : i ≤ 9223372036854775807) (hn1 : -9223372036854775808 ≤ n) (hn2 : n ≤ 9223372036854775807) : Calls Tryd.prog 31 #[.pointer (some ⟨q, 0, none⟩), .string (bs nm), .int .i64 i, .int .i64 n] x fun r x' => ∃ v, r = .returned (.tuple #[v, .int .i64 ((readA A nm i n).2.2 : Nat)]) ∧ Own x' x.heap.size v (readA A nm i n).2.1 ∧ DA x' base q b (readA A nm i n).1 ∧ Below base x x' := by
  obtain ⟨D, hd, rfl⟩ := h
  exact (read_any x base q b D hd ok.dk nm hl i n hi1 hi2 hn1 hn2).mono (fun r x' ⟨v, e, ho, ht⟩ => ⟨v, e, ho, ht.a hd⟩)
theorem fuse_A (n : Int) : Calls Tryd.prog 10 #[.pointer (some ⟨q, 0, none⟩), .int .i64 n] x fun r x' => r = .returned (.tuple #[]) ∧ DA x' base q b (fuseA A n) ∧ Below base x x' := by
  obtain ⟨D, hd, rfl⟩ := h
  exact (fuse_any x base q b D hd n).mono (fun r x' hr => ⟨hr.1, hr.2.a hd⟩)
theorem used_A : Calls Tryd.prog 58 #[.pointer (some ⟨q, 0, none⟩)] x fun r x' => r = .returned (.int .i64 (usedA A.fs : Nat)) ∧ Below x.heap.size x x' := by
  obtain ⟨D, hd, rfl⟩ := h
  have e : usedA D.ab.fs = usedN D.fs := used_ab D.fs
  rw [e]
  have h1 := ok.dk.used
  have h2 := ok.dk.room
  exact used_any x base q b D hd (by omega)
theorem free_A : Calls Tryd.prog 40 #[.pointer (some ⟨q, 0, none⟩)] x fun r x' => r = .returned (.int .i64 (A.room - (usedA A.fs : Nat))) ∧ Below x.heap.size x x' := by
  obtain ⟨D, hd, rfl⟩ := h
  have e : usedA D.ab.fs = usedN D.fs := used_ab D.fs
  rw [e]
  exact free_any x base q b D hd ok.dk
theorem restart_A (K : Option Addr) (nk C : Nat) (ks : List Int) (hkn : ks.length = nk) (hks : Ints x K ks) (hty : ∀ g off, K = some ⟨g, off, none⟩ → ks ≠ [] → ∃ c m, x.heap[g]? = some (.cells c 3 m)) (hkl : (nk : Int) ≤ 281474976710656) : Calls Tryd.prog 11 #[.pointer (some ⟨q, 0, none⟩), .slice K nk C] x fun r x' => r = .returned (.tuple #[]) ∧ DA x' base q b (restartA A ks) ∧ Below base x x' := by
  obtain ⟨D, hd, rfl⟩ := h
  refine (restart_any x base q b D hd ok.dk K nk C ks hkn hks (fun g off e hne hob => ?_) hkl).mono (fun r x' hr => ⟨hr.1, hr.2.a hd⟩)
  obtain ⟨c, m, hg⟩ := hty g off e hne
  rcases hob with h1 | h1 | ⟨f, hf, h1⟩
  · subst h1
    have := hd.blk
    rw [hg] at this
    injection this with h2
    injection h2 with _ h3
    cases h3
  · subst h1
    obtain ⟨M, hm, _⟩ := hd.map
    obtain ⟨es, cc, hb⟩ := owns_blkS hm
    rw [hg] at hb
    cases hb
  · obtain ⟨cc, hb⟩ := (hd.dat f hf).typ h1
    rw [hg] at hb
    injection hb with h2
    injection h2 with _ h3
    cases h3
end
/-- bytes of one's own, as an argument -/
theorem Own.ready {w : World} {base : Nat} {v : Value} {l : List Nat} (h : Own w base v l) : ∃ A C, v = .slice A l.length C ∧ Bytes w A l ∧ l.length ≤ C ∧ (A = none → C = 0) := by
  obtain ⟨a, cap, e, h1, _, h2, h3⟩ := h.shape
  refine ⟨a, cap, e, h2, h1, fun ha => ?_⟩
  rcases h3 with ⟨_, _, h4⟩ | ⟨g, h4, _⟩
  · exact h4
  · rw [ha] at h4; cases h4
theorem Tryd.infoIn : (Tryd.prog.info? 3).map (fun i => (i.zero, i.size, i.bytes)) = some (some (.int .i64 0), 1, 8) := by kernel_rfl
def BIn (l : List Int) : List Value := l.map fun n => Value.int .i64 n
theorem BIn_one (l : List Int) : ∀ v ∈ BIn l, v.oneCell' = true := by
  intro v hv
  obtain ⟨n, _, rfl⟩ := List.mem_map.1 hv
  rfl
theorem ints_cells {w : World} {x0 : Addr} {l : List Int} (h : Ints w (some x0) l) : ∀ j u, (BIn l)[j]? = some u → w.cell? (x0.add j) = some u := by
  intro j u hj
  have hjl : j < l.length := by have := (List.getElem?_eq_some_iff.1 hj).1; simpa [BIn] using this
  rcases h.2 with h1 | ⟨g, off, h1, _, h2⟩
  · rw [h1] at hjl; simp at hjl
  · cases h1
    have h3 := h2 j hjl
    rw [show (⟨g, off, none⟩ : Addr).add j = ⟨g, off + j, none⟩ from by simp [Addr.add], h3, ← hj]
    simp [BIn, List.getD_eq_getElem?_getD, hjl]
/-- append([]int{}, ks...) -/
theorem wpList_append_ks (w : World) {ops : Array Oper} {rest : List Oper} {o : Oper} {act : Act} {Q : Exit → Act → World → Prop}
    (hg : o.guard = none) (s x : Operand) (hop : o.op = Op.call { callee := Callee.builtin Builtin.append, args := #[s, x], argTypes := #[25, 25] })
    (l : List Int) (a : Option Addr) (n cap : Nat) (hs : act.eval s = .slice (some ⟨w.heap.size, 0, none⟩) 0 0) (hx : act.eval x = .slice a n cap) (hln : l.length = n) (hb : Ints w a l) (hn : a = none → cap = 0) (hnc : n ≤ cap) (hl : n * 8 ≤ 140737488355328)
    (hK : ∀ K C w', Ints w' K l → (∀ g off, K = some ⟨g, off, none⟩ → l ≠ [] → ∃ c m, w'.heap[g]? = some (.cells c 3 m)) → Below w.heap.size w w' → wpList Tryd.prog ops Q rest (act.put o.dst (.slice K n C)) w') :
    wpList Tryd.prog ops Q (o :: rest) act (w.alloc (.cells #[] 3)) := by
  subst hln
  obtain ⟨i0, hi, hz0, hz1, hz2⟩ := info_parts Tryd.infoIn
  have hlit : (w.alloc (.cells #[] 3)).ownsRow w.heap.size 3 1 (.slice (some ⟨w.heap.size, 0, none⟩) 0 0) 0 [] := World.ownsRow_lit w #[] 0 (Nat.le_refl _) (by simp) rfl
  cases a with
  | none =>
    have hc := hn rfl
    have hl0 : l = [] := List.length_eq_zero_iff.1 (by omega)
    subst hl0
    refine wpList_append_own_none hg s x 25 hop w.heap.size 3 i0 1 Tryd.underlying25 hi _ _ _ hs hlit (by rw [hx, hc]; rfl) ?_
    exact hK _ _ _ ⟨by simp, .inl rfl⟩ (fun _ _ _ h => absurd rfl h) ((Below.refl _ _).alloc (Nat.le_refl _) _)
  | some x0 =>
    have hN1 : Ints (w.alloc (.cells #[] 3)) (some x0) l := hb.keep ((Below.refl _ _).alloc (Nat.le_refl _) _)
    refine wpList_append_own _ hg s x 25 hop w.heap.size 3 i0 (.int .i64 0) 1 8 Tryd.underlying25 hi hz0 hz1 hz2 rfl (by decide) _ _ _ hs hlit x0 l.length cap (BIn l) hx (by simp [BIn]) (ints_cells hN1) (BIn_one l) (by unfold maxLen; omega) (by omega) (by simp) ?_
    intro v2 w2 ho2 hg2 _
    rw [List.nil_append, Nat.zero_add] at ho2
    have hbel : Below w.heap.size w w2 := (((Below.refl w.heap.size w).alloc (Nat.le_refl _) _).grown hg2 (by simp) (fun k hk => by cases hk; exact Nat.le_refl _))
    rcases ho2.2 with ⟨h1, h2⟩ | ⟨g, cp, cur, h1, h2, h3, h4, h5, h6, h7⟩
    · rw [h1]
      have hl0 : l = [] := List.length_eq_zero_iff.1 h2
      subst hl0
      exact hK none 0 w2 ⟨by simp, .inl rfl⟩ (fun _ _ _ h => absurd rfl h) hbel
    · rw [h1]
      refine hK (some ⟨g, 0, none⟩) cp w2 ⟨hb.1, .inr ⟨g, 0, rfl, lt_of_heap h3, fun i hi => ?_⟩⟩ (fun g' off e _ => by cases e; exact ⟨_, _, h3⟩) hbel
      rw [Nat.zero_add, cell_of_row _ _ i _ _ _ h3]
      have h8 := congrArg (fun y => y[i]?) h7
      simp only [List.getElem?_take, Nat.mul_one, if_pos hi] at h8
      rw [← Array.getElem?_toList, h8]
      simp [BIn, List.getD_eq_getElem?_getD, hi]
theorem below_dn {B : Nat} {w x : World} (h : Below B w x) (n : Nat) : Below B w (x.drewN n) := h.trans ⟨rfl, rfl, rfl, Nat.le_refl _, fun k _ => rfl⟩
end Go.Proofs.YtnfkdgjgglnniaaDoor
namespace Go.Proofs.YtnfkdgjgglnniaaDoor
open Go.ChangeShapes Go.WideShapes Go.ChangeAt Go.RowKit
set_option linter.unusedVariables false
set_option linter.unusedSimpArgs false

/-- a call: its number, two names, bytes, two numbers, what is kept -/
structure Oa where
  k : Int
  nm : List UInt8
  to : List UInt8
  P : Option Addr
  C : Nat
  lb : List Nat
  n : Int
  m : Int
  K : Option Addr
  CK : Nat
  ks : List Int
abbrev opV (o : Oa) : Value := .agg #[.int .i64 o.k, .string (bs o.nm), .string (bs o.to), .slice o.P o.lb.length o.C, .int .i64 o.n, .int .i64 o.m, .slice o.K o.ks.length o.CK]
structure OpIn (w : World) (o : Oa) : Prop where
  k : inI o.k
  nm : o.nm.length ≤ 281474976710656
  to : o.to.length ≤ 281474976710656
  b : Bytes w o.P o.lb
  bc : o.lb.length ≤ o.C
  bn : o.P = none → o.C = 0
  bl : o.lb.length ≤ 140737488351232
  n : inI o.n
  m : inI o.m
  ks : Ints w o.K o.ks
  kc : o.ks.length ≤ o.CK
  kn : o.K = none → o.CK = 0
  kl : o.ks.length * 8 ≤ 140737488355328
theorem OpIn.keep {w w' : World} {o : Oa} (h : OpIn w o) (hb : Below w.heap.size w w') : OpIn w' o := ⟨h.k, h.nm, h.to, h.b.keep hb, h.bc, h.bn, h.bl, h.n, h.m, h.ks.keep hb, h.kc, h.kn, h.kl⟩
/-- what a call makes of a disk, and what it answers -/
def doA (A : Ak) (o : Oa) : Ak × List Nat × Int × Nat :=
  if o.k = 0 then ((createA A o.nm).1, [], 0, (createA A o.nm).2)
  else if o.k = 1 then ((appendA A o.nm o.lb).1, [], 0, (appendA A o.nm o.lb).2)
  else if o.k = 2 then ((syncA A o.nm).1, [], 0, (syncA A o.nm).2)
  else if o.k = 3 then ((renameA A o.nm o.to).1, [], 0, (renameA A o.nm o.to).2)
  else if o.k = 4 then ((removeA A o.nm).1, [], 0, (removeA A o.nm).2)
  else if o.k = 5 then ((cutA A o.nm o.n).1, [], 0, (cutA A o.nm o.n).2)
  else if o.k = 6 then ((readA A o.nm o.n o.m).1, (readA A o.nm o.n o.m).2.1, 0, (readA A o.nm o.n o.m).2.2)
  else if o.k = 7 then (A, [], ((sizeA A o.nm).1 : Nat), (sizeA A o.nm).2)
  else if o.k = 8 then (restartA A o.ks, [], 0, 0)
  else if o.k = 9 then (fuseA A o.n, [], 0, 0)
  else (A, [], 0, 0)
theorem doA_ok {A : Ak} (h : AkOk A) {o : Oa} (hn : inI o.n) : AkOk (doA A o).1 := by
  unfold doA
  split
  · exact createA_ok h _
  · split
    · exact appendA_ok h _ _
    · split
      · exact syncA_ok h _
      · split
        · exact renameA_ok h _ _
        · split
          · exact removeA_ok h _
          · split
            · exact cutA_ok h _ _
            · split
              · exact readA_ok h _ _ _
              · split
                · exact h
                · split
                  · exact restartA_ok h _
                  · split
                    · exact fuseA_ok h hn.2
                    · exact h
/-- the disk A lies there, and the blocks F are none of its own -/
def DF (x : World) (base q b : Nat) (A : Ak) (F : Nat → Prop) : Prop := ∃ D, DkAt x base q b D ∧ D.ab = A ∧ ∀ k, F k → k < x.heap.size ∧ ¬ Ob q b D.fs k
theorem DF.da {x : World} {base q b : Nat} {A : Ak} {F : Nat → Prop} (h : DF x base q b A F) : DA x base q b A := by
  obtain ⟨D, h1, h2, _⟩ := h; exact ⟨D, h1, h2⟩
theorem DA.df {x : World} {base q b : Nat} {A : Ak} (h : DA x base q b A) : DF x base q b A (fun _ => False) := by
  obtain ⟨D, h1, h2⟩ := h; exact ⟨D, h1, h2, fun _ h => h.elim⟩
theorem DF.keep {x y : World} {base q b : Nat} {A : Ak} {F : Nat → Prop} (h : DF x base q b A F) (hb : Below x.heap.size x y) : DF y base q b A F := by
  obtain ⟨D, h1, h2, h3⟩ := h; exact ⟨D, h1.keep hb, h2, fun k hk => ⟨Nat.lt_of_lt_of_le (h3 k hk).1 hb.size, (h3 k hk).2⟩⟩
/-- what was made beside the disk is foreign to it -/
theorem DF.more {x y : World} {base q b : Nat} {A : Ak} {F : Nat → Prop} (h : DF x base q b A F) (hb : Below x.heap.size x y) : DF y base q b A (fun k => F k ∨ (x.heap.size ≤ k ∧ k < y.heap.size)) := by
  obtain ⟨D, h1, h2, h3⟩ := h
  refine ⟨D, h1.keep hb, h2, fun k hk => ?_⟩
  rcases hk with hk | ⟨k1, k2⟩
  · exact ⟨Nat.lt_of_lt_of_le (h3 k hk).1 hb.size, (h3 k hk).2⟩
  · exact ⟨k2, fun ho => by have := (h1.ob ho).2; omega⟩
theorem DF.sub {x : World} {base q b : Nat} {A : Ak} {F G : Nat → Prop} (h : DF x base q b A F) (hg : ∀ k, G k → F k) : DF x base q b A G := by
  obtain ⟨D, h1, h2, h3⟩ := h; exact ⟨D, h1, h2, fun k hk => h3 k (hg k hk)⟩
/-- only foreign blocks were turned -/
theorem DF.turn {x y : World} {base q b : Nat} {A : Ak} {F : Nat → Prop} (h : DF x base q b A F) (hs : x.heap.size ≤ y.heap.size) (ht : ∀ k, k < x.heap.size → ¬ F k → y.heap[k]? = x.heap[k]?) : DF y base q b A F := by
  obtain ⟨D, h1, h2, h3⟩ := h
  exact ⟨D, h1.same (fun k hk => ht k (h1.ob hk).2 (fun hf => (h3 k hf).2 hk)), h2, fun k hk => ⟨Nat.lt_of_lt_of_le (h3 k hk).1 hs, (h3 k hk).2⟩⟩
theorem To.f {x x0 x' : World} {base q b : Nat} {D : Dk} {A : Ak} {F : Nat → Prop} (h : DkAt x base q b D) (hF : ∀ k, F k → k < x.heap.size ∧ ¬ Ob q b D.fs k) (hb : Below x.heap.size x x0) (t : To base q b D.fs A x0 x') : DF x' base q b A F ∧ (∀ k, F k → x'.heap[k]? = x.heap[k]?) ∧ Below base x x' := by
  obtain ⟨D', hd, e, hc⟩ := t
  have hbase : base ≤ x.heap.size := Nat.le_trans h.lo.1 (Nat.le_of_lt h.lt.1)
  have h0 := h.keep hb
  refine ⟨⟨D', hd, e, fun k hk => ⟨Nat.lt_of_lt_of_le (hF k hk).1 (Nat.le_trans hb.size hc.size), fun ho => ?_⟩⟩, fun k hk => (hc.block k (Nat.lt_of_lt_of_le (hF k hk).1 hb.size) (hF k hk).2).trans (hb.block k (hF k hk).1), hc.to_below h0 (hb.mono hbase) (Nat.le_trans hbase hb.size)⟩
  rcases hc.own k ho with h1 | h1
  · exact (hF k hk).2 h1
  · have := (hF k hk).1; have := hb.size; omega
/-- bytes of one's own while they are turned: all blocks but theirs are as they were -/
structure Tz (w wr : World) (base : Nat) (a : Option Addr) (k c : Nat) : Prop where
  os : wr.os = w.os
  tape : wr.tape = w.tape
  output : wr.output = w.output
  size : wr.heap.size = w.heap.size
  block : ∀ j, a ≠ some ⟨j, 0, none⟩ → wr.heap[j]? = w.heap[j]?
  p : ∃ xs, wr.ownsRow base 5 1 (.slice a k c) k xs ∧ ∀ x ∈ xs, ∃ z : Int, x = .int .u8 z
theorem Tz.step {w wr : World} {base : Nat} {a : Option Addr} {k c : Nat} (h : Tz w wr base a k c) (j : Nat) (hj : j < k) :
    ∃ g z, a = some ⟨g, 0, none⟩ ∧ wr.cell? ⟨g, j, none⟩ = some (.int .u8 z) ∧ wr.frozen? ⟨g, j, none⟩ = false ∧ ∀ y : Int, Tz w (wr.setCell ⟨g, j, none⟩ (.int .u8 y)) base a k c := by
  obtain ⟨xs, hx, hz⟩ := h.p
  have hx2 := hx
  rcases hx2.2 with ⟨_, hn⟩ | ⟨g, cap, cur, hv, hb, _⟩
  · omega
  · injection hv with h1 h2 h3
    subst h1
    have e2 := hx.cellAt j (by omega)
    have hl := hx.1
    obtain ⟨x, hxj⟩ : ∃ x, xs[j]? = some x := ⟨_, List.getElem?_eq_getElem (by omega)⟩
    obtain ⟨z, rfl⟩ := hz x (List.mem_of_getElem? hxj)
    refine ⟨g, z, rfl, by rw [e2]; exact hxj, hx.frozenAt j, fun y => ?_⟩
    have hst := hx.stored j (.int .u8 y)
    refine ⟨h.os, h.tape, h.output, by simp [World.setCell]; exact h.size, fun k hk => (heap_setCell_other _ ⟨g, j, none⟩ k _ (fun hh => hk (by rw [hh]))).trans (h.block k hk), ⟨_, hst.1, fun x hx => by rcases List.mem_or_eq_of_mem_set hx with h9 | rfl; exact hz x h9; exact ⟨y, rfl⟩⟩⟩
theorem Tz.start {w : World} {base : Nat} {a : Option Addr} {k c : Nat} {l : List Nat} (h : Own w base (.slice a k c) l) (hk : l.length = k) : Tz w w base a k c := by
  subst hk
  exact ⟨rfl, rfl, rfl, rfl, fun _ _ => rfl, ⟨_, h.2, fun x hx => by obtain ⟨n, _, rfl⟩ := List.mem_map.1 hx; exact ⟨_, rfl⟩⟩⟩
theorem Tz.lo {w wr : World} {base : Nat} {a : Option Addr} {k c : Nat} (h : Tz w wr base a k c) (g : Nat) (hg : a = some ⟨g, 0, none⟩) : base ≤ g ∧ g < wr.heap.size := by
  obtain ⟨xs, hx, _⟩ := h.p
  exact hx.lt g (by rw [hg]; rfl)
/-- the same bytes in a world that has kept their block -/
theorem own_kept {x y : World} {base : Nat} {a : Option Addr} {k c : Nat} {l : List Nat} (h : Own x base (.slice a k c) l) (hs : ∀ g, a = some ⟨g, 0, none⟩ → y.heap[g]? = x.heap[g]?) : Own y base (.slice a k c) l := by
  refine ⟨h.1, h.2.1, ?_⟩
  rcases h.2.2 with h1 | ⟨g, cap, cur, h1, h2, h3, h4⟩
  · exact .inl h1
  · injection h1 with e1 e2 e3
    exact .inr ⟨g, cap, cur, by rw [e1, e3, e2], h2, (hs g e1).trans h3, h4⟩
end Go.Proofs.YtnfkdgjgglnniaaDoor
