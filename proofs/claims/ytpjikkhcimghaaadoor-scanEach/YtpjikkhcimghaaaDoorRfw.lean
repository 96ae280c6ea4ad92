/- A range over a function whose items are told of in the world in which they come: what is known of an item (X) where the iterator hands it on reaches the loop's body. -/
import Derived.Test.YtpjikkhcimghaaaDoorAid
import Derived.RangeFuncNested
import Derived.RangeFuncBound
import Derived.RangeFuncCalls
import Derived.RangeFuncLeaves
import Derived.Shelf.Abstract
import Derived.OwnWalkIn
import Derived.TacticsInMore
import Derived.LoopNIn
import Derived.LoopIn
namespace Go.Proofs.YtpjikkhcimghaaaDoor
open Go.ChangeShapes Go.WideShapes Go.ChangeAt Go.RowKit
set_option linter.unusedVariables false
/-- an iterator's contract: each item x comes in a world W1 of which X pre x W1 is known -/
def SeqW {α : Type} (F : Fence) (n : Nat) (P : Program) (g : Nat) (lb : Array Value) (encs : α → Array Value) (Kp : World → World → Prop) (X : List α → α → World → Prop) (S Sp : List α → Prop) (w : World) : Prop :=
  ∀ (l : Nat) (J Jx : List α → World → Prop) (W : World), Below w.heap.size w W → AbidesFrom W.heap.size J → AbidesFrom W.heap.size Jx →
    (∀ pre x W1, J pre W1 → X pre x W1 → YieldAt F (n - 1) P l (encs x) W1 fun e W' =>
      (e = .returned (.bool true) ∧ J (pre ++ [x]) W' ∧ Kp W1 W') ∨ (e = .returned (.bool false) ∧ Jx (pre ++ [x]) W')) →
    J [] W →
    CallsIn F n P g (#[.func (.yield l) #[] #[]] ++ lb) W fun e W' => (∃ v, e = .returned v) ∧ ((∃ xs, S xs ∧ J xs W') ∨ (∃ pre, Sp pre ∧ Jx pre W'))
section
variable {F : Fence} {n : Nat} {P : Program}
/-- one round of such a loop, from the yield to its end -/
theorem round_w {α : Type} {ps : Array Tmp} {assign body : Code} {tmps : Array Value} {fn : FuncId} {w : World} {encs : α → Array Value} {Kp : World → World → Prop} {X : List α → α → World → Prop} {I : List α → World → Prop} {Ix : Code → List α → World → Prop} {Ax : List α → α → Act → World → Prop}
    (hfn : F.fn fn) (hps : ∀ x, (encs x).size = ps.size)
    (hKt : ∀ {A B C : World}, Kp A B → Kp B C → Kp A C) (hKb : ∀ (W : World) (l : Nat) (o o' : Obj), w.heap.size ≤ l → W.heap[l]? = some o → o.isCells = false → o.isWalk = false → Kp W (W.putObj l o'))
    (hI : OwnFrom w.heap.size I) (hIx : ∀ c, OwnFrom w.heap.size (Ix c)) (hAx : ∀ pre x a', OwnFrom w.heap.size (fun (_ : Unit) W => Ax pre x a' W))
    (hassign : ∀ (l : Nat) (pre : List α) (x : α) (W : World) (K : Act → World → Prop), I pre W → X pre x W → (∀ a' W', KeepsFrom w.heap.size W W' → Kp W W' → I pre W' → Ax pre x a' W' → K a' W') →
      assign.wpIn (F.inRound l) (n - 1 - 1) P (Exit.then K (fun _ _ _ => False)) { tmps := (ps.zip (encs x)).foldl (fun t (p, v) => t.setIfInBounds p v) tmps, defers := [] } W)
    (hbody : ∀ (l : Nat) (pre : List α) (x : α) (a' : Act) (W : World), I pre W → Ax pre x a' W → body.wpIn (F.inRound l) (n - 1 - 1) P (ownPostG w.heap.size Kp I Ix (pre ++ [x]) W) a' W)
    (rec : LoopState → Option Code → Loop) (hrec : rec = fun st pe => { state := st, pending := pe, fn, tmps, params := ps, assign, body, defers := w.heap.size })
    (pre : List α) (x : α) (W : World) (hi : I pre W) (hl : W.heap[w.heap.size + 1]? = some (.loop (rec .ready none))) (hk : W.heap[w.heap.size]? = some (.deferred (some []))) (hX : X pre x W) :
    YieldAt F (n - 1 - 1) P (w.heap.size + 1) (encs x) W fun e W' =>
      (e = .returned (.bool true) ∧ (I (pre ++ [x]) W' ∧ W'.heap[w.heap.size + 1]? = some (.loop (rec .ready none)) ∧ W'.heap[w.heap.size]? = some (.deferred (some []))) ∧ Kp W W') ∨
      (e = .returned (.bool false) ∧ ∃ c, Ix c (pre ++ [x]) W' ∧ W'.heap[w.heap.size + 1]? = some (.loop (rec .done (some c))) ∧ W'.heap[w.heap.size]? = some (.deferred (some []))) := by
  have hy := run_yield (P := P) (args := encs x) hl (by rw [hrec]; exact hps x)
  rw [hrec] at hy
  refine ⟨fn, _, assign, body, hy, roundIn_of_wpIn hfn (hassign _ pre x W _ hi hX fun a' V hfrom hkeep hi' hax => ?_)⟩
  have hlV := hfrom.same _ _ (by omega) hl rfl
  have hkV := hfrom.same _ _ (Nat.le_refl _) hk rfl
  have hlt : w.heap.size + 1 < V.heap.size := (Array.getElem?_eq_some_iff.1 hlV).1
  refine ⟨_, run_beginRound hlV (by rw [hrec]), ?_⟩
  obtain ⟨B, hB⟩ : ∃ B, B = V.putObj (w.heap.size + 1) (.loop { rec .ready none with state := .busy }) := ⟨_, rfl⟩
  rw [← hB]
  have hlB : B.heap[w.heap.size + 1]? = some (.loop { rec .ready none with state := .busy }) := by rw [hB]; exact World.putObj_heap_same hlt
  have hkB : B.heap[w.heap.size]? = some (.deferred (some [])) := by rw [hB]; exact (World.putObj_heap_other (by omega)).trans hkV
  have hVB : Kp V B := by rw [hB]; exact hKb _ _ _ _ (by omega) hlV rfl rfl
  have hiB : I pre B := by rw [hB]; exact hI.putObj _ hi' (by omega) hlV rfl
  have haB : Ax pre x a' B := by rw [hB]; exact (hAx pre x a').putObj (s := ()) _ hax (by omega) hlV rfl
  have close : ∀ (jump : Option Code) (C : World), KeepsFrom w.heap.size B C → ∃ D, D = C.putObj (w.heap.size + 1) (.loop (rec (if jump.isNone then .ready else .done) jump)) ∧ (Instr.endRound (w.heap.size + 1) jump).run P C = .ok (.bool jump.isNone) D ∧ C.heap[w.heap.size + 1]? = some (.loop { rec .ready none with state := .busy }) ∧ D.heap[w.heap.size + 1]? = some (.loop (rec (if jump.isNone then .ready else .done) jump)) ∧ D.heap[w.heap.size]? = some (.deferred (some [])) := by
    intro jump C hC
    have hlC := hC.same _ _ (by omega) hlB rfl
    have hkC := hC.same _ _ (Nat.le_refl _) hkB rfl
    have hend := run_endRound (P := P) jump hlC
    refine ⟨_, rfl, ?_, hlC, World.putObj_heap_same (Array.getElem?_eq_some_iff.1 hlC).1, (World.putObj_heap_other (by omega)).trans hkC⟩
    rw [hrec] at hend ⊢
    exact hend
  refine wpIn_mono (hbody _ pre x a' B hiB haB) fun e a3 C hp => ?_
  cases e with
  | normal =>
    obtain ⟨hC, hkp, hiC⟩ := hp
    obtain ⟨D, rfl, hr, hlC, hlD, hkD⟩ := close none C hC
    exact ⟨_, _, hr, .inl ⟨rfl, ⟨hI.putObj _ hiC (by omega) hlC rfl, hlD, hkD⟩, hKt hkeep (hKt (hKt hVB hkp) (hKb _ _ _ _ (by omega) hlC rfl rfl))⟩⟩
  | ret =>
    obtain ⟨hC, hiC⟩ := hp
    obtain ⟨D, rfl, hr, hlC, hlD, hkD⟩ := close (some .ret) C hC
    exact ⟨_, _, hr, .inr ⟨rfl, .ret, (hIx _).putObj _ hiC (by omega) hlC rfl, hlD, hkD⟩⟩
  | exit id =>
    obtain ⟨hC, hiC⟩ := hp
    obtain ⟨D, rfl, hr, hlC, hlD, hkD⟩ := close (some (.exit id)) C hC
    exact ⟨_, _, hr, .inr ⟨rfl, .exit id, (hIx _).putObj _ hiC (by omega) hlC rfl, hlD, hkD⟩⟩
  | goto t =>
    obtain ⟨hC, hiC⟩ := hp
    obtain ⟨D, rfl, hr, hlC, hlD, hkD⟩ := close (some (.goto t)) C hC
    exact ⟨_, _, hr, .inr ⟨rfl, .goto t, (hIx _).putObj _ hiC (by omega) hlC rfl, hlD, hkD⟩⟩
  | panic ch => exact hp.elim
  | outgrown => exact hp.elim
/-- the loop, by the iterator's contract and one walk of its body -/
theorem range_w {α : Type} {g : Operand} {ps : Array Tmp} {assign body : Code} {Q : Exit → Act → World → Prop} {a : Act} {w : World}
    (hro : F.round = none) (h1 : 1 ≤ n) {gf : Nat} {lb : Array Value} (hg : a.eval g = .func (.func gf) #[] lb) (hFg : F.fn gf) (eg : ∀ args w, (callFunc gf args).run P w = .ok (.enter gf args) w)
    {encs : α → Array Value} {Kp : World → World → Prop} {X : List α → α → World → Prop} {S Sp : List α → Prop} (hseq : SeqW F (n - 1) P gf lb encs Kp X S Sp w) (hps : ∀ x, (encs x).size = ps.size)
    (hKt : ∀ {A B C : World}, Kp A B → Kp B C → Kp A C) (hKb : ∀ (W : World) (l : Nat) (o o' : Obj), w.heap.size ≤ l → W.heap[l]? = some o → o.isCells = false → o.isWalk = false → Kp W (W.putObj l o'))
    (I : List α → World → Prop) (Ix : Code → List α → World → Prop) (hI : OwnFrom w.heap.size I) (hIx : ∀ c, OwnFrom w.heap.size (Ix c)) (h0 : I [] w) (Ax : List α → α → Act → World → Prop) (hAx : ∀ pre x a', OwnFrom w.heap.size (fun (_ : Unit) W => Ax pre x a' W))
    (hassign : ∀ (l : Nat) (pre : List α) (x : α) (W : World) (K : Act → World → Prop), I pre W → X pre x W → (∀ a' W', KeepsFrom w.heap.size W W' → Kp W W' → I pre W' → Ax pre x a' W' → K a' W') →
      assign.wpIn (F.inRound l) (n - 1 - 1) P (Exit.then K (fun _ _ _ => False)) { tmps := (ps.zip (encs x)).foldl (fun t (p, v) => t.setIfInBounds p v) a.tmps, defers := [] } W)
    (hbody : ∀ (l : Nat) (pre : List α) (x : α) (a' : Act) (W : World), I pre W → Ax pre x a' W → body.wpIn (F.inRound l) (n - 1 - 1) P (ownPostG w.heap.size Kp I Ix (pre ++ [x]) W) a' W)
    (hdone : ∀ (D : Nat) (xs : List α) (W : World), w.heap.size ≤ D → S xs → I xs W → W.heap[D]? = some (.deferred (some [])) → Q .normal { a with defers := { target := .collected D, args := #[] } :: a.defers } W)
    (hstop : ∀ (D : Nat) (c : Code) (pre : List α) (W : World), w.heap.size ≤ D → Sp pre → Ix c pre W → W.heap[D]? = some (.deferred (some [])) → c.wpIn F n P Q { a with defers := { target := .collected D, args := #[] } :: a.defers } W) :
    (Code.rangeFunc g ps assign body).wpIn F n P Q a w := by
  refine wpIn_rangeFunc fun fn hfn => ?_
  rw [hro]
  obtain ⟨rec, hrec⟩ : ∃ rec : LoopState → Option Code → Loop, rec = fun st pe => { state := st, pending := pe, fn, tmps := a.tmps, params := ps, assign, body, defers := w.heap.size } := ⟨_, rfl⟩
  obtain ⟨V, hV⟩ : ∃ V, V = (w.alloc (.deferred (some []))).alloc (.loop (rec .ready none)) := ⟨_, rfl⟩
  have hlV : V.heap[w.heap.size + 1]? = some (.loop (rec .ready none)) := by
    have h := World.alloc_heap_new (w.alloc (.deferred (some []))) (.loop (rec .ready none))
    rw [World.size_alloc] at h
    rw [hV]; exact h
  have hkV : V.heap[w.heap.size]? = some (.deferred (some [])) := by rw [hV]; exact (Below.heap_alloc _ _ _ (by simp)).trans (World.alloc_heap_new w _)
  have hiV : I [] V := by rw [hV]; exact hI.alloc _ (hI.alloc _ h0)
  have hbV : Below w.heap.size w V := by rw [hV]; exact ((Below.refl _ w).alloc (Nat.le_refl _) _).alloc (by simp) _
  have hsV : w.heap.size ≤ V.heap.size := hbV.size
  refine ⟨w.heap.size + 1, [{ target := .collected w.heap.size, args := #[] }], V, { target := .fn (.func gf) lb, args := #[.func (.yield (w.heap.size + 1)) #[] #[]] }, V, gf, #[.func (.yield (w.heap.size + 1)) #[] #[]] ++ lb, V, ?_, ?_, ?_, ?_, fun _ => h1, ?_⟩
  · rw [hV, hrec]; exact run_enterLoop_outer _ _ _ _ _
  · simp only [resolve, hg]
    simp [go_sem]
  · intro f' hf'
    simp [Target.leads] at hf'
    subst hf'
    exact hFg
  · simp [invoke, go_sem, eg]
  · have turn : ∀ {A : World} {row : Option Nat}, (∀ r, row = some r → V.heap.size ≤ r ∧ ∃ o : Obj, A.heap[r]? = some o ∧ o.isWalk = true) → ∀ r, row = some r → w.heap.size ≤ r ∧ ∃ o : Obj, A.heap[r]? = some o ∧ o.isCells = false := by
      intro A row hr r e
      obtain ⟨q1, o, q2, q3⟩ := hr r e
      exact ⟨Nat.le_trans hsV q1, o, q2, Obj.not_cells_of_walk q3⟩
    refine (hseq (w.heap.size + 1)
      (fun pre W => I pre W ∧ W.heap[w.heap.size + 1]? = some (.loop (rec .ready none)) ∧ W.heap[w.heap.size]? = some (.deferred (some [])))
      (fun pre W => ∃ c, Ix c pre W ∧ W.heap[w.heap.size + 1]? = some (.loop (rec .done (some c))) ∧ W.heap[w.heap.size]? = some (.deferred (some [])))
      V hbV ?_ ?_ ?_ ⟨hiV, hlV, hkV⟩).mono ?_
    · rintro s A B row ⟨q1, q2, q3⟩ hgr hr
      exact ⟨hI s A B row q1 hgr (turn hr), (grownBy_keeps hgr (fun r e => (hr r e).2) q2 rfl).trans q2, (grownBy_keeps hgr (fun r e => (hr r e).2) q3 rfl).trans q3⟩
    · rintro s A B row ⟨c, q1, q2, q3⟩ hgr hr
      exact ⟨c, hIx c s A B row q1 hgr (turn hr), (grownBy_keeps hgr (fun r e => (hr r e).2) q2 rfl).trans q2, (grownBy_keeps hgr (fun r e => (hr r e).2) q3 rfl).trans q3⟩
    · rintro pre x W ⟨q1, q2, q3⟩ hX
      exact round_w (Kp := Kp) hfn hps hKt hKb hI hIx hAx hassign hbody rec hrec pre x W q1 q2 q3 hX
    · rintro e W2 ⟨⟨v, rfl⟩, (⟨xs, hS, q1, q2, q3⟩ | ⟨pre, hSp, c, q1, q2, q3⟩)⟩
      · have h := run_endLoop (P := P) q2 (by rw [hrec]; simp)
        rw [hrec] at h
        exact ⟨none, _, h, hdone _ xs _ (Nat.le_refl _) hS (hI.putObj _ q1 (by omega) q2 rfl) ((World.putObj_heap_other (by omega)).trans q3)⟩
      · have h := run_endLoop (P := P) q2 (by rw [hrec]; simp)
        rw [hrec] at h
        exact ⟨some c, _, h, hstop _ c pre _ (Nat.le_refl _) hSp ((hIx c).putObj _ q1 (by omega) q2 rfl) ((World.putObj_heap_other (by omega)).trans q3)⟩
end
end Go.Proofs.YtpjikkhcimghaaaDoor
