/- Own texts, joined: Sc4. -/
import Derived.Test.YtfnkhpijcbpeoaaDoorK11
namespace Go.Proofs.YtfnkhpijcbpeoaaDoor
open Go.ChangeShapes Go.WideShapes Go.ChangeAt Go.RowKit Go.Shelf
set_option linter.unusedVariables false
attribute [local go_sem] Oper.semAt_some
theorem scanN_facts (l : List Nat) : ∀ (f p : Nat), ∀ x ∈ scanN f l p, x.body.length ≤ 16384 ∧ x.pos + x.body.length + 20 ≤ l.length ∧ p ≤ x.pos
  | 0, p, x, h => by cases h
  | f + 1, p, x, h => by
    unfold scanN at h
    split at h
    · rename_i hc
      obtain ⟨h1, h2, h3⟩ := decN_pos hc.2
      rw [List.length_drop] at h2
      have hpn : (decB (l.drop p)).length ≤ 16384 := by
        obtain ⟨q1, q2, q3⟩ := decE_zero hc.2
        have hp : pn (l.drop p) ≤ 16384 := by
          unfold peekE at q1
          split at q1
          · cases q1
          · split at q1
            · cases q1
            · split at q1
              · cases q1
              · split at q1
                · rename_i hh; exact hh.1
                · cases q1
        unfold decB
        rw [if_pos hc.2, List.length_take]
        omega
      rcases List.mem_cons.1 h with rfl | h
      · exact ⟨hpn, by simp only; omega, Nat.le_refl _⟩
      · have := scanN_facts l f _ x h
        exact ⟨this.1, this.2.1, by omega⟩
    · cases h
theorem scanL_facts (l : List Nat) (x : Fm) (h : x ∈ scanL l) : x.body.length ≤ 16384 ∧ x.pos + x.body.length + 20 ≤ l.length := ⟨(scanN_facts l _ 0 x h).1, (scanN_facts l _ 0 x h).2.1⟩
theorem scanN_count (l : List Nat) : ∀ (f p : Nat), 20 * (scanN f l p).length + p ≤ l.length ∨ scanN f l p = []
  | 0, p => .inr rfl
  | f + 1, p => by
    unfold scanN
    split
    · rename_i hc
      left
      obtain ⟨h1, h2, h3⟩ := decN_pos hc.2
      rw [List.length_drop] at h2
      rcases scanN_count l f (p + decN (l.drop p)) with h | h
      · simp only [List.length_cons]; omega
      · rw [h]; simp only [List.length_cons, List.length_nil]; omega
    · exact .inr rfl
theorem scanL_count (l : List Nat) : 20 * (scanL l).length ≤ l.length := by
  rcases scanN_count l (l.length + 1) 0 with h | h
  · unfold scanL; omega
  · unfold scanL; rw [h]; simp
theorem Tryd.infoPl : (Tryd.prog.info? 79).map (fun i => (i.zero, i.size, i.bytes)) = some (some (.agg #[.int .i64 0, .int .i64 0, .int .i64 0, .int .i64 0, .slice none 0 0]), 5, 56) := by kernel_rfl
theorem one5 (c v z q : Int) (a : Option Addr) (n k : Nat) : ∀ u ∈ [Value.int .i64 c, .int .i64 v, .int .i64 z, .int .i64 q, .slice a n k], u.oneCell' = true := by
  intro u hu
  simp at hu
  rcases hu with rfl | rfl | rfl | rfl | rfl <;> rfl
theorem cell_newL (w : World) (xs : List Value) (e : TypeId) : ∀ j u, xs[j]? = some u → (w.alloc (.cells xs.toArray e)).cell? ((⟨w.heap.size, 0, none⟩ : Addr).add j) = some u := by
  intro j u hj
  have hc := cell_of_row (w.alloc (.cells xs.toArray e)) w.heap.size j xs.toArray e (0, 0) (heap_alloc_new w _)
  rw [show (⟨w.heap.size, 0, none⟩ : Addr).add j = ⟨w.heap.size, j, none⟩ from by by_cases h : j = 0 <;> simp [Addr.add, h], hc]
  simpa using hj
/-- the new frame's own box, behind the append -/
theorem far_box {w W w2 w5 : World} {p z k s : Int} {bv v : Value} {n : Nat} {xs : List Value} (hr : W.ownsRow w.heap.size 79 5 v n xs) (hb : Below W.heap.size W w2) (ho : ((w2.alloc (.cells #[.int .i64 p, .int .i64 z, .int .i64 k, .int .i64 s, bv] 79)).alloc (.cells #[.int .i64 p, .int .i64 z, .int .i64 k, .int .i64 s, bv] 79)).ownsRow w.heap.size 79 5 v n xs)
    (hg : ((w2.alloc (.cells #[.int .i64 p, .int .i64 z, .int .i64 k, .int .i64 s, bv] 79)).alloc (.cells #[.int .i64 p, .int .i64 z, .int .i64 k, .int .i64 s, bv] 79)).grownBy w5 v.ownBlock) : w5.cell? ⟨w2.heap.size, 1, none⟩ = some (.int .i64 z) ∧ w2.heap.size < w5.heap.size := by
  have h1 : ((w2.alloc (.cells #[.int .i64 p, .int .i64 z, .int .i64 k, .int .i64 s, bv] 79)).alloc (.cells #[.int .i64 p, .int .i64 z, .int .i64 k, .int .i64 s, bv] 79)).heap[w2.heap.size]? = some (.cells #[.int .i64 p, .int .i64 z, .int .i64 k, .int .i64 s, bv] 79) := (Below.heap_alloc _ _ _ (by simp)).trans (heap_alloc_new w2 _)
  have h2 : w5.heap[w2.heap.size]? = some (.cells #[.int .i64 p, .int .i64 z, .int .i64 k, .int .i64 s, bv] 79) := by
    rw [hg.block _ (lt_of_heap h1) (fun e => ?_)]
    · exact h1
    · have := (hr.lt _ e.symm).2
      have := hb.size
      omega
  exact ⟨by rw [cell_of_row _ _ 1 _ _ _ h2]; rfl, lt_of_heap h2⟩
theorem drewN_below {B : Nat} {w w' : World} (h : Below B w w') (n : Nat) : Below B w (w'.drewN n) := by
  induction n with
  | zero => exact h
  | succ n ih => exact ih.drew
theorem drewN_row {w : World} {base n size : Nat} {e : TypeId} {v : Value} {xs : List Value} (h : w.ownsRow base e size v n xs) (m : Nat) : (w.drewN m).ownsRow base e size v n xs := by
  induction m with
  | zero => exact h
  | succ m ih => exact World.ownsRow.drew ih
theorem drewN_heap {w : World} (n k : Nat) : (w.drewN n).heap[k]? = w.heap[k]? := by
  induction n with
  | zero => rfl
  | succ n ih => exact ih
/-- what is left when the loop's mark is taken up -/
theorem all_end {w W W' : World} {xs : List It} {v : Value} {D nq : Nat} (hr : W.ownsRow w.heap.size 79 5 v xs.length (pflt xs)) (hby : ∀ x ∈ xs, Own W w.heap.size x.bv x.fm.body) (hbel : Below w.heap.size w W) (hb : Below W.heap.size W W') (hK : W.heap[D]? = some (.deferred (some []))) (hD : w.heap.size ≤ D) :
    (W'.drewN nq).heap[D]? = some (.deferred (some [])) ∧ ((W'.drewN nq).putObj D (.deferred none)).ownsRow w.heap.size 79 5 v xs.length (pflt xs) ∧ (∀ x ∈ xs, Own ((W'.drewN nq).putObj D (.deferred none)) w.heap.size x.bv x.fm.body) ∧ Below w.heap.size w ((W'.drewN nq).putObj D (.deferred none)) := by
  have hK2 : (W'.drewN nq).heap[D]? = some (.deferred (some [])) := by rw [drewN_heap]; exact (hb.block D (lt_of_heap hK)).trans hK
  have hB2 : Below w.heap.size w (W'.drewN nq) := drewN_below (hbel.trans (hb.mono hbel.size)) nq
  refine ⟨hK2, ownsRow_putObj (drewN_row (own_below hr hb) nq) _ hK2 rfl, fun x hx => ⟨(hby x hx).1, ownsRow_putObj (drewN_row (own_below (hby x hx).2 hb) nq) _ hK2 rfl⟩, ?_⟩
  exact hB2.grown (grownBy_putObj' _ D _) hB2.size (fun k e => by cases e; exact hD)
/-- why a scan ends where it ends -/
def allE (l : List Nat) : Nat := if endZ 0 (scanL l) = l.length then 0 else decE (l.drop (endZ 0 (scanL l)))
end Go.Proofs.YtfnkhpijcbpeoaaDoor
