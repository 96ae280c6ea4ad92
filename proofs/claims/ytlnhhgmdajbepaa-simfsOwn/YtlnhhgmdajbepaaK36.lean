/- Own texts, joined: Rdb. -/
import Derived.Test.YtlnhhgmdajbepaaK29
import Derived.Test.YtlnhhgmdajbepaaK30
import Derived.Test.YtlnhhgmdajbepaaK31
import Derived.Test.YtlnhhgmdajbepaaK32
import Derived.Test.YtlnhhgmdajbepaaK33
import Derived.Test.YtlnhhgmdajbepaaK34
import Derived.Test.YtlnhhgmdajbepaaK35
namespace Go.Proofs.Ytlnhhgmdajbepaa
open Go.ChangeShapes Go.WideShapes Go.ChangeAt Go.RowKit
set_option linter.unusedVariables false
set_option linter.unusedSimpArgs false
theorem rchange_any (w : World) (X : List (Fa × Value)) (a : Option Addr) (n c : Nat) (q : Rn) (hn : X.length = n) (hX : FlsA w a X) (hnl : n ≤ 1000) (o : Oa) (ho : OpIn w o) (hk : 0 ≤ o.k ∧ o.k ≤ 5) (f : Fa) (hg : o.k ≠ 0 → getA (X.map Prod.fst) o.nm = some f) (hsz : o.k ≠ 0 → f.l.length ≤ 67108864) (h1 : o.k = 1 → (o.lb.length : Int) ≤ 67108864) (h5 : o.k = 5 → 0 ≤ o.n ∧ o.n ≤ (f.l.length : Int)) :
    Calls Try.prog 48 #[rdV (.slice a n c) q, opV o] w fun r w' => ∃ a' j c' Y, r = .returned (rdV (.slice a' j c') q) ∧ FlsB X w w' a' Y ∧ Y.length = j ∧ Y.map Prod.fst = chA (X.map Prod.fst) f o ∧ Below w.heap.size w w' := by
  rcases (by omega : o.k = 0 ∨ o.k = 1 ∨ o.k = 2 ∨ o.k = 3 ∨ o.k = 4 ∨ o.k = 5) with k | k | k | k | k | k
  · exact rchange_0 w X a n c q hn hX hnl o ho k f
  · exact rchange_1 w X a n c q hn hX hnl o ho k f (hg (by omega)) (hsz (by omega)) (by have := hsz (by omega); have := h1 k; omega)
  · exact rchange_2 w X a n c q hn hX hnl o ho k f (hg (by omega)) (hsz (by omega))
  · exact rchange_3 w X a n c q hn hX hnl o ho k f (hg (by omega)) (hsz (by omega))
  · exact rchange_4 w X a n c q hn hX hnl o ho k f (hg (by omega)) (hsz (by omega))
  · have h := h5 k
    by_cases e : (o.n.toNat : Int) < (f.s : Int)
    · exact rchange_5b w X a n c q hn hX hnl o ho k f (hg (by omega)) (hsz (by omega)) o.n.toNat (by omega) (by omega) e
    · exact rchange_5a w X a n c q hn hX hnl o ho k f (hg (by omega)) (hsz (by omega)) o.n.toNat (by omega) (by omega) e
/-- the files behind a call: those that came in, or others -/
def FlsC (X : List (Fa × Value)) (a : Option Addr) (w w' : World) (a' : Option Addr) (Y : List (Fa × Value)) : Prop := FlsB X w w' a' Y ∨ (a' = a ∧ Y = X)
theorem FlsB.mono {X Y : List (Fa × Value)} {w x w' : World} {a' : Option Addr} (h : FlsB X x w' a' Y) (hs : w.heap.size ≤ x.heap.size) : FlsB X w w' a' Y :=
  ⟨h.fls, h.row.mono hs, fun e he => (h.vals e he).imp id (fun h2 g hg => Nat.le_trans hs (h2 g hg))⟩
theorem FlsB.turn {X Y : List (Fa × Value)} {w x x8 y : World} {a a' : Option Addr} (h : FlsB X x x8 a' Y) (hX : FlsA w a X) (h0 : Below w.heap.size w y) (h8 : Below w.heap.size w x8) (hs : w.heap.size ≤ x.heap.size) (hy : x8.heap.size ≤ y.heap.size) (ht : ∀ k, x.heap.size ≤ k → k < x8.heap.size → y.heap[k]? = x8.heap[k]?) : FlsB X w y a' Y := by
  have hr := h.row.turn ht
  refine ⟨hr.fls (fun e he => ?_), hr.mono hs, fun e he => (h.vals e he).imp id (fun h2 g hg => Nat.le_trans hs (h2 g hg))⟩
  obtain ⟨a2, c2, h1, h2, h3⟩ := h.fls.byt e he
  refine ⟨a2, c2, h1, ?_, h3⟩
  rcases h.vals e he with ⟨p, hp, e1⟩ | hv
  · obtain ⟨a3, c3, h4, h5, _⟩ := hX.byt p hp
    rw [h1, h4] at e1
    injection e1 with e2 e3 _
    rcases h5.2 with h6 | ⟨b, off, h6, h7, _⟩
    · rw [h6] at e3
      rw [List.length_eq_zero_iff.1 e3]
      exact Bytes.none _ _
    · refine bytes_same h2 hy (fun b2 off2 o2 e4 => ?_)
      rw [e4, h6] at e2
      injection e2 with e2
      injection e2 with e2 _ _
      rw [e2]
      exact (h0.block b h7).trans (h8.block b h7).symm
  · rcases h2.2 with h6 | ⟨b, off, h6, h7, _⟩
    · rw [h6]; exact Bytes.none _ _
    · refine bytes_same h2 hy (fun b2 off2 o2 e4 => ht b2 (hv b2 (by rw [h1, e4]; rfl)) ?_)
      rw [h6] at e4
      injection e4 with e4
      injection e4 with e4 _ _
      rw [← e4]; exact h7
/-- files among F -/
theorem FlsC.to {F : Nat → Prop} {X Y : List (Fa × Value)} {w w' : World} {a b : Option Addr} (h : FlsC X a w w' b Y) (hX : FlsF F w a X) (hb : Below w.heap.size w w') : FlsF (fun k => F k ∨ (w.heap.size ≤ k ∧ k < w'.heap.size)) w' b Y := by
  rcases h with h | ⟨rfl, rfl⟩
  · exact h.to hX hb.size
  · exact (hX.keep hb).sub (fun k hk => .inl hk)
/-- what Do answers -/
def DoQ (X : List (Fa × Value)) (a : Option Addr) (w : World) (q' : Rn) (L : List Fa) (l : List Nat) (i e : Int) (r : Ending) (w' : World) : Prop :=
  ∃ a' n' c' Y v, r = .returned (.tuple #[rdV (.slice a' n' c') q', v, .int .i64 i, .int .i64 e]) ∧ FlsC X a w w' a' Y ∧ Y.length = n' ∧ Y.map Prod.fst = L ∧ Own w' w.heap.size v l ∧ FlsA w' a' Y ∧ Below w.heap.size w w'
/-- a disk whose numbers are written anew -/
theorem Ch3.setn {w x : World} {v v2 : Value} {q q2 : Rn} {o : Oa} (h : Ch3 w x v q o) (j : Nat) (u : Value) (hr : RdAt (x.setCell ⟨w.heap.size, j, none⟩ u) w.heap.size v2 q2) : Ch3 w (x.setCell ⟨w.heap.size, j, none⟩ u) v2 q2 o :=
  ⟨hr, (heap_setCell_other x ⟨w.heap.size, j, none⟩ _ _ (show w.heap.size + 1 ≠ w.heap.size by omega)).trans h.op, (heap_setCell_other x ⟨w.heap.size, j, none⟩ _ _ (show w.heap.size + 1 + 1 ≠ w.heap.size by omega)).trans h.rz, h.low.setCell (Nat.le_refl _) _⟩
/-- a contract of barred, of change -/
def BarC (X : List (Fa × Value)) (a : Option Addr) (n c : Nat) (q : Rn) (o : Oa) (e : Int) : Prop := ∀ x : World, FlsA x a X → OpIn x o → Calls Try.prog 46 #[rdV (.slice a n c) q, opV o] x fun r w' => r = .returned (.int .i64 e) ∧ Below x.heap.size x w'
def ChC (X : List (Fa × Value)) (a : Option Addr) (n c : Nat) (q : Rn) (o : Oa) (L : List Fa) : Prop := ∀ x : World, FlsA x a X → OpIn x o → Calls Try.prog 48 #[rdV (.slice a n c) q, opV o] x fun r w' => ∃ a' j c' Y, r = .returned (rdV (.slice a' j c') q) ∧ FlsB X x w' a' Y ∧ Y.length = j ∧ Y.map Prod.fst = L ∧ Below x.heap.size x w'
end Go.Proofs.Ytlnhhgmdajbepaa
