/- simfs: a file's box; New, step, put. -/
import Derived.Test.YtlnhhgmdajbepaaFs2
import Derived.Test.YtlnhhgmdajbepaaGld
import Derived.Test.YtlnhhgmdajbepaaRgt
import Derived.Laws.ResultCell
import Derived.Deep.RegionHeld3
import Derived.Deep.MidRow
namespace Go.Proofs.Ytlnhhgmdajbepaa
open Go.ChangeShapes Go.WideShapes Go.ChangeAt Go.RowKit
set_option linter.unusedVariables false
set_option linter.unusedSimpArgs false
abbrev fiV (v : Value) (s : Int) : Value := .agg #[v, .int .i64 s]
def FiAt (w : World) (k : Nat) (v : Value) (s : Int) : Prop := w.heap[k]? = some (.cells #[v, .int .i64 s] 85)
theorem FiAt.cells {w : World} {k : Nat} {v : Value} {s : Int} (h : FiAt w k v s) : w.cell? ⟨k, 0, none⟩ = some v ∧ w.cell? ⟨k, 1, none⟩ = some (.int .i64 s) :=
  ⟨by rw [cell_of_row _ _ 0 _ _ _ h]; rfl, by rw [cell_of_row _ _ 1 _ _ _ h]; rfl⟩
theorem FiAt.froz {w : World} {k : Nat} {v : Value} {s : Int} (h : FiAt w k v s) (i : Nat) : w.frozen? ⟨k, i, none⟩ = false := frozen_of_row _ _ i _ _ h
theorem FiAt.new (w : World) (v : Value) (s : Int) : FiAt (w.alloc (.cells #[v, .int .i64 s] 85)) w.heap.size v s := heap_alloc_new w _
theorem FiAt.keep {w w' : World} {k : Nat} {v : Value} {s : Int} (h : FiAt w k v s) (hb : Below w.heap.size w w') : FiAt w' k v s := (hb.block k (lt_of_heap h)).trans h
theorem Try.infoFi : (Try.prog.info? 85).map (·.size) = some 2 := by kernel_rfl
theorem FiAt.loadVar {w : World} {k : Nat} {v : Value} {s : Int} (h : FiAt w k v s) : (Go.loadVar 85 ⟨k, 0, none⟩).run Try.prog w = .ok (fiV v s) w :=
  run_loadVar_row _ _ _ _ _ _ _ h Try.underlying85 rfl Try.infoFi
theorem FiAt.load {w : World} {k : Nat} {v : Value} {s : Int} (h : FiAt w k v s) : (Instr.loadAt 85 (.pointer (some ⟨k, 0, none⟩))).run Try.prog w = .ok (fiV v s) w := by
  simp only [Instr.loadAt, Instr.sureAddr, Sem.run_bind, Sem.run_pure, Result.andThen_ok, h.loadVar]
theorem fi_one (v : Value) (s : Int) (hv : v.oneCell' = true) : (#[v, .int .i64 s] : Array Value).all (·.oneCell') = true := by
  simp [hv]; rfl
theorem FiAt.store {w : World} {k : Nat} {v : Value} {s : Int} (h : FiAt w k v s) (v2 : Value) (s2 : Int) (hv : v2.oneCell' = true) : ∃ w2, (Instr.storeAt 85 (.pointer (some ⟨k, 0, none⟩)) (fiV v2 s2)).run Try.prog w = .ok () w2 ∧ FiAt w2 k v2 s2 ∧ (∀ B a, Below B a w → B ≤ k → Below B a w2) ∧ (∀ j, j ≠ k → w2.heap[j]? = w.heap[j]?) ∧ w2.heap.size = w.heap.size := by
  refine ⟨w.setRow k #[v2, .int .i64 s2], ?_, ?_, fun B a hb hB => ⟨hb.os, hb.tape, hb.output, ?_, fun j hj => ?_⟩, fun j hj => ?_, ?_⟩
  · simp only [Instr.storeAt, Instr.sureAddr, Sem.run_bind, Sem.run_pure, Result.andThen_ok, run_storeVar_row w k 85 85 #[v, .int .i64 s] #[v2, .int .i64 s2] h Try.infoFi rfl (fi_one v2 s2 hv)]
  · unfold FiAt at h ⊢
    simp [World.setRow, Array.getElem?_modify, h]
  · have := hb.size; simp [World.setRow]; exact this
  · rw [← hb.block j hj]
    simp only [World.setRow, Array.getElem?_modify]
    rw [if_neg (by omega)]
  · simp only [World.setRow, Array.getElem?_modify]
    rw [if_neg (Ne.symm hj)]
  · simp [World.setRow]
theorem wpList_load_fi {ops : Array Oper} {rest : List Oper} {o : Oper} {a : Act} {w : World} {Q : Exit → Act → World → Prop} (hgd : o.guard = none) (x : Operand) (ho : o.op = .load 85 x)
    {k : Nat} {v : Value} {s : Int} (hL : FiAt w k v s) (hx : a.eval x = .pointer (some ⟨k, 0, none⟩)) (h : wpList Try.prog ops Q rest (a.put o.dst (fiV v s)) w) : wpList Try.prog ops Q (o :: rest) a w :=
  wpList_plain hgd fun _ hK => by
    unfold Oper.wp execOp
    simp only [ho, hx, Sem.run_bind, Sem.run_pure, Result.andThen_ok, hL.load]
    exact hK _ _ h
theorem wpList_store_fi {ops : Array Oper} {rest : List Oper} {o : Oper} {a : Act} {w : World} {Q : Exit → Act → World → Prop} (hgd : o.guard = none) (x y : Operand) (ho : o.op = .store 85 x y) (hd : o.dst = none)
    {k : Nat} {v v2 : Value} {s s2 : Int} (hL : FiAt w k v s) (hv : v2.oneCell' = true) (hx : a.eval x = .pointer (some ⟨k, 0, none⟩)) (hy : a.eval y = fiV v2 s2)
    (h : ∀ w2, FiAt w2 k v2 s2 → (∀ B a, Below B a w → B ≤ k → Below B a w2) → (∀ j, j ≠ k → w2.heap[j]? = w.heap[j]?) → w2.heap.size = w.heap.size → wpList Try.prog ops Q rest a w2) : wpList Try.prog ops Q (o :: rest) a w :=
  wpList_plain hgd fun _ hK => by
    obtain ⟨w2, h1, h2, h3, h4, h5⟩ := hL.store v2 s2 hv
    unfold Oper.wp execOp
    simp only [ho, hx, hy, Sem.run_bind, Sem.run_pure, Result.andThen_ok, h1]
    refine hK _ _ ?_
    rw [hd]
    exact h w2 h2 h3 h4 h5
theorem results_fi2 {fn : Func} {p u : Tmp} (h : fn.results = #[.cell p 85, .tmp u]) (tmps : Array Value) (w : World) (b : Nat) {v : Value} {s : Int} (x : Value) (hp : tmps.getD p undef = .pointer (some ⟨b, 0, none⟩)) (hx : tmps.getD u undef = x) (hl : FiAt w b v s) :
    (results fn tmps).run Try.prog w = .ok (.tuple #[fiV v s, x]) w := by
  rw [results_cell_tmp h, hp]
  simp only [asAddr, Sem.run_pure, Result.andThen_ok, hl.loadVar, hx]
theorem results_fi1 {fn : Func} {p : Tmp} (h : fn.results = #[.cell p 85]) (tmps : Array Value) (w : World) (k : Nat) {v : Value} {s : Int} (hp : tmps.getD p undef = .pointer (some ⟨k, 0, none⟩)) (hl : FiAt w k v s) :
    (results fn tmps).run Try.prog w = .ok (fiV v s) w := by
  simp only [Array.getD_eq_getD_getElem?] at hp
  simp [results, h, hp, asAddr, hl.loadVar]
/-- a new disk's room -/
def roomI (n : Int) : Int := if n < 0 then 0 else if 67108864 < n then 67108864 else n
theorem room_ok (n : Int) : 0 ≤ roomI n ∧ roomI n ≤ 67108864 := by unfold roomI; split <;> (try split) <;> omega
abbrev newD (n : Int) : Dk := ⟨roomI n, 0, false, 0, 0, []⟩
theorem newD_ok (n : Int) : DkOk (newD n) := ⟨room_ok n, (room_ok n).1, ⟨by simp, by simp⟩, ⟨by simp, by simp⟩, ⟨by simp, by simp⟩, Nat.zero_le _, (fun f hf => by cases hf), (fun f hf => by cases hf)⟩
theorem make_mapS (w : World) : (Instr.makeMap 73 none).run Try.prog w = .ok (.map (some w.heap.size)) (w.alloc (.map #[] 0)) := by
  kernel_rfl
theorem new_at (n : Int) (w : World) (q b : Nat) (W : World) (hb : b = w.heap.size) (hq : q = w.heap.size + 1) (hW : W = (w.alloc (.map #[] 0)).alloc (.cells (dkA (newD n) b) 75)) : DkAt W w.heap.size q b (newD n) ∧ Below w.heap.size w W := by
  subst hb hq hW
  have h1 : ((w.alloc (.map #[] 0)).alloc (.cells (dkA (newD n) w.heap.size) 75)).heap[w.heap.size + 1]? = some (.cells (dkA (newD n) w.heap.size) 75) := by
    have := heap_alloc_new (w.alloc (.map #[] 0)) (.cells (dkA (newD n) w.heap.size) 75)
    rw [World.size_alloc] at this
    exact this
  have h2 : ((w.alloc (.map #[] 0)).alloc (.cells (dkA (newD n) w.heap.size) 75)).ownsMap Try.prog 9 hvS w.heap.size 0 (.map []) := by
    exact owns_sameS (World.ownsMap_made _ _ _ _) (Below.heap_alloc _ _ _ (by simp))
  exact ⟨⟨h1, ⟨_, h2, repN_nil⟩, List.Pairwise.nil, (fun f hf => by cases hf), List.Pairwise.nil, ⟨by omega, Nat.le_refl _⟩⟩, ((Below.refl _ _).alloc (Nat.le_refl _) _).alloc (by simp) _⟩
set_option maxRecDepth 20000 in
set_option maxHeartbeats 1000000 in
theorem fsnew_any (n : Int) (w : World) (h1 : -9223372036854775808 ≤ n) (h2 : n ≤ 9223372036854775807) :
    Calls Try.prog 14 #[.int .i64 n] w fun r w' => ∃ q b, r = .returned (.pointer (some ⟨q, 0, none⟩)) ∧ DkAt w' w.heap.size q b (newD n) ∧ Below w.heap.size w w' := by
  have hm := make_mapS w
  have HW : Hid (∀ W, W = (w.alloc (.map #[] 0)).alloc (.cells (dkA (newD n) w.heap.size) 75) → DkAt W w.heap.size (w.heap.size + 1) w.heap.size (newD n) ∧ Below w.heap.size w W) := fun W hW => new_at n w _ _ W rfl rfl hW
  by_cases a1 : n < 0
  · have HR : Hid (roomI n = 0) := if_pos a1
    go_enter Try.func14, Try.ntmps14
    go_wp2
    go_ret
    refine ⟨_, _, rfl, HW.out _ ?_⟩
    simp only [dkA, newD, HR.out]
  · by_cases a2 : 67108864 < n
    · have HR : Hid (roomI n = 67108864) := by show _ = _; unfold roomI; rw [if_neg a1, if_pos a2]
      go_enter Try.func14, Try.ntmps14
      go_wp2
      go_ret
      have hz := HW.out _ (show _ = (w.alloc (.map #[] 0)).alloc (.cells (dkA (newD n) w.heap.size) 75) from rfl)
      simp only [dkA, HR.out] at hz
      exact ⟨_, rfl, ⟨_, hz.1⟩, hz.2⟩
    · have HR : Hid (roomI n = n) := by show _ = _; unfold roomI; rw [if_neg a1, if_neg a2]
      go_enter Try.func14, Try.ntmps14
      go_wp2
      go_ret
      have hz := HW.out _ (show _ = (w.alloc (.map #[] 0)).alloc (.cells (dkA (newD n) w.heap.size) 75) from rfl)
      simp only [dkA, HR.out] at hz
      exact ⟨_, rfl, ⟨_, hz.1⟩, hz.2⟩
/-- only block q has turned -/
structure On (q : Nat) (w w' : World) : Prop where
  os : w'.os = w.os
  tape : w'.tape = w.tape
  output : w'.output = w.output
  size : w'.heap.size = w.heap.size
  block : ∀ k, k ≠ q → w'.heap[k]? = w.heap[k]?
theorem On.refl (q : Nat) (w : World) : On q w w := ⟨rfl, rfl, rfl, rfl, fun _ _ => rfl⟩
theorem On.set {q : Nat} {w x : World} (h : On q w x) (i : Nat) (v : Value) : On q w (x.setCell ⟨q, i, none⟩ v) :=
  ⟨h.os, h.tape, h.output, by simp [World.setCell]; exact h.size, fun k hk => (heap_setCell_other x ⟨q, i, none⟩ k v hk).trans (h.block k hk)⟩
theorem On.below {q B : Nat} {w w' : World} (h : On q w w') (hB : B ≤ q) : Below B w w' := ⟨h.os, h.tape, h.output, by rw [h.size]; exact Nat.le_refl _, fun k hk => h.block k (by omega)⟩
/-- the disk behind a step, and what the step answers -/
def stepD (D : Dk) : Dk := if D.fuse = 1 then { D with off := true, fuse := 0 } else { D with off := false, fuse := (if 1 ≤ D.fuse then D.fuse - 1 else 0), steps := wrap64 (D.steps + 1) }
def stepE (D : Dk) : Nat := if D.fuse = 1 then 3 else 0
theorem stepD_fs (D : Dk) : (stepD D).fs = D.fs := by unfold stepD; split <;> rfl
theorem stepD_room (D : Dk) : (stepD D).room = D.room := by unfold stepD; split <;> rfl
theorem wrap_rng (x : Int) : -9223372036854775808 ≤ wrap64 x ∧ wrap64 x ≤ 9223372036854775807 := by unfold wrap64; omega
theorem stepD_ok {D : Dk} (h : DkOk D) : DkOk (stepD D) := by
  have hf := h.fuse
  have hw := wrap_rng (D.steps + 1)
  unfold stepD
  split
  · exact ⟨h.room, h.used, ⟨by simp, by simp⟩, h.steps, h.read, h.few, h.name, h.safe⟩
  · exact ⟨h.room, h.used, ⟨by simp only; split <;> omega, by simp only; split <;> omega⟩, hw, h.read, h.few, h.name, h.safe⟩
set_option maxRecDepth 20000 in
set_option maxHeartbeats 2000000 in
theorem step_any (w : World) (base q b : Nat) (D : Dk) (h : DkAt w base q b D) (hf1 : 0 ≤ D.fuse) (hf2 : D.fuse ≤ 9223372036854775807) :
    Calls Try.prog 56 #[.pointer (some ⟨q, 0, none⟩)] w fun r w' => r = .returned (.int .i64 (stepE D : Nat)) ∧ DkAt w' base q b (stepD D) ∧ On q w w' := by
  obtain ⟨c0, c1, c2, c3, c4, c5⟩ := h.cells
  have z2 := h.froz 2
  have z3 := h.froz 3
  have z4 := h.froz 4
  have HD : Hid (DkAt w base q b D) := h
  have HX : Hid (∀ (w' : World) (D2 : Dk), D2.fs = D.fs → On q w w' → w'.heap[q]? = some (.cells (dkA D2 b) 75) → DkAt w' base q b D2) := fun w' D2 e ho hq => h.setTo e hq (fun k _ _ hk => ho.block k hk)
  have hblk : w.heap[q]? = some (.cells (dkA D b) 75) := h.blk
  have HBK : Hid (w.heap[q]? = some (.cells (dkA D b) 75)) := hblk
  obtain ⟨room, fuse, off, steps, read, fs⟩ := D
  simp only at c0 c1 c2 c3 c4 c5 hf1 hf2
  clear h hblk
  by_cases h1 : fuse = 1
  · subst h1
    go_enter Try.func56, Try.ntmps56
    go_wp2
    go_ret
    refine ⟨rfl, HX.out _ _ (stepD_fs _) ?_ ?_, ?_⟩
    · exact ((On.refl q w).set 3 _).set 2 _
    · rw [heap_setCell_same _ q 2 _ _ _ (heap_setCell_same w q 3 _ _ _ HBK.out)]
      rfl
    · exact ((On.refl q w).set 3 _).set 2 _
  · have h1b : (fuse == 1) = false := by simpa using h1
    have HE : Hid (stepE ⟨room, fuse, off, steps, read, fs⟩ = 0) := if_neg h1
    by_cases h2 : 1 ≤ fuse
    · have HS : Hid (stepD ⟨room, fuse, off, steps, read, fs⟩ = ⟨room, fuse - 1, false, wrap64 (steps + 1), read, fs⟩) := by show _ = _; unfold stepD; rw [if_neg h1, if_pos h2]
      go_enter Try.func56, Try.ntmps56
      go_wp2
      go_ret
      refine ⟨by rw [HE.out]; rfl, HX.out _ _ (stepD_fs _) ?_ ?_, ?_⟩
      · exact (((On.refl q w).set 3 _).set 2 _).set 4 _
      · rw [heap_setCell_same _ q 4 _ _ _ (heap_setCell_same _ q 2 _ _ _ (heap_setCell_same w q 3 _ _ _ HBK.out)), HS.out]
        rfl
      · exact (((On.refl q w).set 3 _).set 2 _).set 4 _
    · have HS : Hid (stepD ⟨room, fuse, off, steps, read, fs⟩ = ⟨room, 0, false, wrap64 (steps + 1), read, fs⟩) := by show _ = _; unfold stepD; rw [if_neg h1, if_neg h2]
      go_enter Try.func56, Try.ntmps56
      go_wp2
      go_ret
      refine ⟨by rw [HE.out]; rfl, HX.out _ _ (stepD_fs _) ?_ ?_, ?_⟩
      · exact (((On.refl q w).set 3 _).set 2 _).set 4 _
      · rw [heap_setCell_same _ q 4 _ _ _ (heap_setCell_same _ q 2 _ _ _ (heap_setCell_same w q 3 _ _ _ HBK.out)), HS.out]
        rfl
      · exact (((On.refl q w).set 3 _).set 2 _).set 4 _
end Go.Proofs.Ytlnhhgmdajbepaa
