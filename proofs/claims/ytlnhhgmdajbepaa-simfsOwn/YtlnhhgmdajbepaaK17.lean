/- Own texts, joined: Opw. -/
import Derived.Test.YtlnhhgmdajbepaaK15
import Derived.Test.YtlnhhgmdajbepaaK16
namespace Go.Proofs.Ytlnhhgmdajbepaa
open Go.ChangeShapes Go.WideShapes Go.ChangeAt Go.RowKit Go.Deep
set_option linter.unusedVariables false
def OpAt (w : World) (k : Nat) (o : Oa) : Prop := w.heap[k]? = some (.cells (opL o).toArray 34)
def opZ : Oa := ⟨0, [], [], none, 0, [], 0, 0, none, 0, []⟩
theorem Try.infoOp : (Try.prog.info? 34).map (·.size) = some 7 := by kernel_rfl
theorem OpAt.newZ (w : World) : OpAt (w.alloc (.cells #[.int .i64 0, .string ⟨#[]⟩, .string ⟨#[]⟩, .slice none 0 0, .int .i64 0, .int .i64 0, .slice none 0 0] 34)) w.heap.size opZ := heap_alloc_new w _
theorem OpAt.keep {w w' : World} {k : Nat} {o : Oa} (h : OpAt w k o) (hb : Below w.heap.size w w') : OpAt w' k o := (hb.block k (lt_of_heap h)).trans h
theorem OpAt.load {w : World} {k : Nat} {o : Oa} (h : OpAt w k o) : (Instr.loadAt 34 (.pointer (some ⟨k, 0, none⟩))).run Try.prog w = .ok (opV o) w := by
  simp only [Instr.loadAt, Instr.sureAddr, Sem.run_bind, Sem.run_pure, Result.andThen_ok, run_loadVar_row _ _ _ _ _ _ _ h Try.underlying34 rfl Try.infoOp]
  rfl
theorem slice_one (A : Option Addr) (n c : Nat) : (Value.slice A n c).oneCell' = true := by cases A <;> rfl
theorem op_one (o : Oa) : (opL o).toArray.all (·.oneCell') = true := by
  simp only [opL, List.all_toArray, List.all_cons, List.all_nil, slice_one, Bool.and_true]
  rfl
theorem OpAt.store {w : World} {k : Nat} {o : Oa} (h : OpAt w k o) (o2 : Oa) : ∃ w2, (Instr.storeAt 34 (.pointer (some ⟨k, 0, none⟩)) (opV o2)).run Try.prog w = .ok () w2 ∧ OpAt w2 k o2 ∧ (∀ B a, Below B a w → B ≤ k → Below B a w2) ∧ w2.heap.size = w.heap.size := by
  refine ⟨w.setRow k (opL o2).toArray, ?_, ?_, fun B a hb hB => ⟨hb.os, hb.tape, hb.output, ?_, fun j hj => ?_⟩, ?_⟩
  · have h1 := run_storeVar_row w k 34 34 (opL o).toArray (opL o2).toArray h Try.infoOp rfl (op_one o2)
    simp only [Instr.storeAt, Instr.sureAddr, Sem.run_bind, Sem.run_pure, Result.andThen_ok]
    exact h1
  · unfold OpAt at h ⊢
    simp [World.setRow, Array.getElem?_modify, h]
  · have := hb.size; simp [World.setRow]; exact this
  · rw [← hb.block j hj]
    simp only [World.setRow, Array.getElem?_modify]
    rw [if_neg (by omega)]
  · simp [World.setRow]
theorem wpList_load_opb {ops : Array Oper} {rest : List Oper} {o : Oper} {a : Act} {w : World} {Q : Exit → Act → World → Prop} (hgd : o.guard = none) (x : Operand) (ho : o.op = .load 34 x)
    {k : Nat} {p : Oa} (hL : OpAt w k p) (hx : a.eval x = .pointer (some ⟨k, 0, none⟩)) (h : wpList Try.prog ops Q rest (a.put o.dst (opV p)) w) : wpList Try.prog ops Q (o :: rest) a w :=
  wpList_plain hgd fun _ hK => by
    unfold Oper.wp execOp
    simp only [ho, hx, Sem.run_bind, Sem.run_pure, Result.andThen_ok, hL.load]
    exact hK _ _ h
theorem wpList_load_opr {ops : Array Oper} {rest : List Oper} {o : Oper} {a : Act} {w : World} {Q : Exit → Act → World → Prop} (hgd : o.guard = none) (x : Operand) (ho : o.op = .load 34 x)
    {b off : Nat} {p : Oa} (hL : w.rangeAt b off (opL p)) (hx : a.eval x = .pointer (some ⟨b, off, none⟩)) (h : wpList Try.prog ops Q rest (a.put o.dst (opV p)) w) : wpList Try.prog ops Q (o :: rest) a w :=
  wpList_plain hgd fun _ hK => by
    unfold Oper.wp execOp
    simp only [ho, hx, Sem.run_bind, Sem.run_pure, Result.andThen_ok, run_loadAt_mid w b off 34 (opL p) _ hL Try.underlying34 rfl Try.infoOp]
    exact hK _ _ h
theorem wpList_store_op {ops : Array Oper} {rest : List Oper} {o : Oper} {a : Act} {w : World} {Q : Exit → Act → World → Prop} (hgd : o.guard = none) (x y : Operand) (ho : o.op = .store 34 x y) (hd : o.dst = none)
    {k : Nat} {p p2 : Oa} (hL : OpAt w k p) (hx : a.eval x = .pointer (some ⟨k, 0, none⟩)) (hy : a.eval y = opV p2)
    (h : ∀ w2, OpAt w2 k p2 → (∀ B a, Below B a w → B ≤ k → Below B a w2) → w2.heap.size = w.heap.size → wpList Try.prog ops Q rest a w2) : wpList Try.prog ops Q (o :: rest) a w :=
  wpList_plain hgd fun _ hK => by
    obtain ⟨w2, h1, h2, h3, h4⟩ := hL.store p2
    unfold Oper.wp execOp
    simp only [ho, hx, hy, Sem.run_bind, Sem.run_pure, Result.andThen_ok, h1]
    refine hK _ _ ?_
    rw [hd]
    exact h w2 h2 h3 h4
theorem foundA_p {A : Ak} {nm : List UInt8} {R : Type} {P : R → Prop} {bad : Nat → R} {X : Fa → R} (h1 : ∀ e, P (bad e)) (h2 : ∀ f, P (X f)) : P (foundA A nm bad X) := foundA_ok h1 (fun f _ _ => h2 f)
theorem stepTo_room (A : Ak) (L : List Fa) : (stepTo A L).1.room = A.room := by
  unfold stepTo; split <;> exact stepA_room A
theorem stepTo_e (A : Ak) (L : List Fa) : (stepTo A L).2 = 0 ∨ (stepTo A L).2 = 3 := by
  unfold stepTo; split <;> simp
theorem doA_room (A : Ak) (o : Oa) : (doA A o).1.room = A.room := by
  unfold doA
  split
  · show (createA A o.nm).1.room = _
    unfold createA
    repeat' split
    all_goals first | rfl | exact stepA_room A
  · split
    · show (appendA A o.nm o.lb).1.room = _
      unfold appendA
      exact foundA_p (P := fun r : Ak × Nat => r.1.room = A.room) (fun e => rfl) (fun f => by split; rfl; exact stepA_room A)
    · split
      · exact foundA_p (P := fun r : Ak × Nat => r.1.room = A.room) (fun e => rfl) (fun f => stepTo_room A _)
      · split
        · show (renameA A o.nm o.to).1.room = _
          unfold renameA
          split
          · rfl
          · exact foundA_p (P := fun r : Ak × Nat => r.1.room = A.room) (fun e => rfl) (fun f => stepTo_room A _)
        · split
          · exact foundA_p (P := fun r : Ak × Nat => r.1.room = A.room) (fun e => rfl) (fun f => stepTo_room A _)
          · split
            · exact foundA_p (P := fun r : Ak × Nat => r.1.room = A.room) (fun e => rfl) (fun f => by split; rfl; exact stepTo_room A _)
            · split
              · exact foundA_p (P := fun r : Ak × List Nat × Nat => r.1.room = A.room) (fun e => rfl) (fun f => by split <;> rfl)
              · repeat' split
                all_goals rfl
/-- what is refused changes nothing -/
theorem doA_bad (A : Ak) (o : Oa) (h0 : (doA A o).2.2.2 ≠ 0) (h3 : (doA A o).2.2.2 ≠ 3) : (doA A o).1 = A := by
  have st : ∀ (r : Ak × Nat), (r.2 = 0 ∨ r.2 = 3 ∨ r.1 = A) → r.2 ≠ 0 → r.2 ≠ 3 → r.1 = A := fun r hr a b => by
    rcases hr with hr | hr | hr
    · exact absurd hr a
    · exact absurd hr b
    · exact hr
  have sT : ∀ L, (stepTo A L).2 = 0 ∨ (stepTo A L).2 = 3 ∨ (stepTo A L).1 = A := fun L => by rcases stepTo_e A L with h | h; exact .inl h; exact .inr (.inl h)
  unfold doA at h0 h3 ⊢
  split at h0 <;> rename_i k0
  · rw [if_pos k0] at h3 ⊢
    refine st (createA A o.nm) ?_ h0 h3
    unfold createA
    repeat' split
    all_goals simp
  · rw [if_neg k0] at h3 ⊢
    split at h0 <;> rename_i k1
    · rw [if_pos k1] at h3 ⊢
      refine st (appendA A o.nm o.lb) ?_ h0 h3
      unfold appendA
      exact foundA_p (P := fun r : Ak × Nat => r.2 = 0 ∨ r.2 = 3 ∨ r.1 = A) (fun e => .inr (.inr rfl)) (fun f => by
        split
        · exact .inr (.inr rfl)
        · unfold stepAE
          split
          · exact .inr (.inl rfl)
          · exact .inl rfl)
    · rw [if_neg k1] at h3 ⊢
      split at h0 <;> rename_i k2
      · rw [if_pos k2] at h3 ⊢
        exact st (syncA A o.nm) (foundA_p (P := fun r : Ak × Nat => r.2 = 0 ∨ r.2 = 3 ∨ r.1 = A) (fun e => .inr (.inr rfl)) (fun f => sT _)) h0 h3
      · rw [if_neg k2] at h3 ⊢
        split at h0 <;> rename_i k3
        · rw [if_pos k3] at h3 ⊢
          refine st (renameA A o.nm o.to) ?_ h0 h3
          unfold renameA
          split
          · exact .inr (.inr rfl)
          · exact foundA_p (P := fun r : Ak × Nat => r.2 = 0 ∨ r.2 = 3 ∨ r.1 = A) (fun e => .inr (.inr rfl)) (fun f => sT _)
        · rw [if_neg k3] at h3 ⊢
          split at h0 <;> rename_i k4
          · rw [if_pos k4] at h3 ⊢
            exact st (removeA A o.nm) (foundA_p (P := fun r : Ak × Nat => r.2 = 0 ∨ r.2 = 3 ∨ r.1 = A) (fun e => .inr (.inr rfl)) (fun f => sT _)) h0 h3
          · rw [if_neg k4] at h3 ⊢
            split at h0 <;> rename_i k5
            · rw [if_pos k5] at h3 ⊢
              exact st (cutA A o.nm o.n) (foundA_p (P := fun r : Ak × Nat => r.2 = 0 ∨ r.2 = 3 ∨ r.1 = A) (fun e => .inr (.inr rfl)) (fun f => by
                split
                · exact .inr (.inr rfl)
                · exact sT _)) h0 h3
            · rw [if_neg k5] at h3 ⊢
              split at h0 <;> rename_i k6
              · rw [if_pos k6] at h3 ⊢
                have hr : (readA A o.nm o.n o.m).2.2 = 0 ∨ (readA A o.nm o.n o.m).2.2 = 3 ∨ (readA A o.nm o.n o.m).1 = A := foundA_p (P := fun r : Ak × List Nat × Nat => r.2.2 = 0 ∨ r.2.2 = 3 ∨ r.1 = A) (fun e => .inr (.inr rfl)) (fun f => by
                  split
                  · exact .inr (.inr rfl)
                  · exact .inl rfl)
                rcases hr with hr | hr | hr
                · exact absurd hr h0
                · exact absurd hr h3
                · exact hr
              · rw [if_neg k6] at h3 ⊢
                split at h0 <;> rename_i k7
                · rw [if_pos k7]
                · rw [if_neg k7]
                  split at h0 <;> rename_i k8
                  · exact absurd rfl h0
                  · split at h0 <;> exact absurd rfl h0
theorem image_F {x : World} {base q b : Nat} {A : Ak} {F : Nat → Prop} (h : DF x base q b A F) (ok : AkOk A) : Calls Try.prog 24 #[.pointer (some ⟨q, 0, none⟩)] x fun r x' => ∃ v X, r = .returned v ∧ OwnIm x' x.heap.size v X ∧ X.map Prod.fst = A.fs ∧ Below x.heap.size x x' := by
  obtain ⟨D, hd, rfl, _⟩ := h
  exact image_any x base q b D hd ok.dk
end Go.Proofs.Ytlnhhgmdajbepaa
