/- Own texts, joined: Fs3, Fs4, Fs5, Fs6, Fs7. -/
import Derived.Test.YtnfkdgjgglnniaaDoorK45
import Derived.Test.YtnfkdgjgglnniaaDoorK44
import Derived.Laws.ResultCell
import Derived.Deep.RegionHeld3
import Derived.Deep.MidRow
import Derived.Maps.RangeWalk
namespace Go.Proofs.YtnfkdgjgglnniaaDoor
open Go.ChangeShapes Go.WideShapes Go.ChangeAt Go.RowKit
set_option linter.unusedVariables false
set_option linter.unusedSimpArgs false
abbrev fiV (v : Value) (s : Int) : Value := .agg #[v, .int .i64 s]
def FiAt (w : World) (k : Nat) (v : Value) (s : Int) : Prop := w.heap[k]? = some (.cells #[v, .int .i64 s] 60)
theorem FiAt.cells {w : World} {k : Nat} {v : Value} {s : Int} (h : FiAt w k v s) : w.cell? ⟨k, 0, none⟩ = some v ∧ w.cell? ⟨k, 1, none⟩ = some (.int .i64 s) :=
  ⟨by rw [cell_of_row _ _ 0 _ _ _ h]; rfl, by rw [cell_of_row _ _ 1 _ _ _ h]; rfl⟩
theorem FiAt.froz {w : World} {k : Nat} {v : Value} {s : Int} (h : FiAt w k v s) (i : Nat) : w.frozen? ⟨k, i, none⟩ = false := frozen_of_row _ _ i _ _ h
theorem FiAt.new (w : World) (v : Value) (s : Int) : FiAt (w.alloc (.cells #[v, .int .i64 s] 60)) w.heap.size v s := heap_alloc_new w _
theorem FiAt.keep {w w' : World} {k : Nat} {v : Value} {s : Int} (h : FiAt w k v s) (hb : Below w.heap.size w w') : FiAt w' k v s := (hb.block k (lt_of_heap h)).trans h
theorem Tryd.infoFi : (Tryd.prog.info? 60).map (·.size) = some 2 := by kernel_rfl
theorem FiAt.loadVar {w : World} {k : Nat} {v : Value} {s : Int} (h : FiAt w k v s) : (Go.loadVar 60 ⟨k, 0, none⟩).run Tryd.prog w = .ok (fiV v s) w :=
  run_loadVar_row _ _ _ _ _ _ _ h Tryd.underlying60 rfl Tryd.infoFi
theorem FiAt.load {w : World} {k : Nat} {v : Value} {s : Int} (h : FiAt w k v s) : (Instr.loadAt 60 (.pointer (some ⟨k, 0, none⟩))).run Tryd.prog w = .ok (fiV v s) w := by
  simp only [Instr.loadAt, Instr.sureAddr, Sem.run_bind, Sem.run_pure, Result.andThen_ok, h.loadVar]
theorem fi_one (v : Value) (s : Int) (hv : v.oneCell' = true) : (#[v, .int .i64 s] : Array Value).all (·.oneCell') = true := by
  simp [hv]; rfl
theorem FiAt.store {w : World} {k : Nat} {v : Value} {s : Int} (h : FiAt w k v s) (v2 : Value) (s2 : Int) (hv : v2.oneCell' = true) : ∃ w2, (Instr.storeAt 60 (.pointer (some ⟨k, 0, none⟩)) (fiV v2 s2)).run Tryd.prog w = .ok () w2 ∧ FiAt w2 k v2 s2 ∧ (∀ B a, Below B a w → B ≤ k → Below B a w2) ∧ (∀ j, j ≠ k → w2.heap[j]? = w.heap[j]?) ∧ w2.heap.size = w.heap.size := by
  refine ⟨w.setRow k #[v2, .int .i64 s2], ?_, ?_, fun B a hb hB => ⟨hb.os, hb.tape, hb.output, ?_, fun j hj => ?_⟩, fun j hj => ?_, ?_⟩
  · simp only [Instr.storeAt, Instr.sureAddr, Sem.run_bind, Sem.run_pure, Result.andThen_ok, run_storeVar_row w k 60 60 #[v, .int .i64 s] #[v2, .int .i64 s2] h Tryd.infoFi rfl (fi_one v2 s2 hv)]
  · unfold FiAt at h ⊢
    simp [World.setRow, Array.getElem?_modify, h]
  · have := hb.size; simp [World.setRow]; exact this
  · rw [← hb.block j hj]
    simp only [World.setRow, Array.getElem?_modify]
    rw [if_neg (by omega)]
  · simp only [World.setRow, Array.getElem?_modify]
    rw [if_neg (Ne.symm hj)]
  · simp [World.setRow]
theorem wpList_load_fi {ops : Array Oper} {rest : List Oper} {o : Oper} {a : Act} {w : World} {Q : Exit → Act → World → Prop} (hgd : o.guard = none) (x : Operand) (ho : o.op = .load 60 x)
    {k : Nat} {v : Value} {s : Int} (hL : FiAt w k v s) (hx : a.eval x = .pointer (some ⟨k, 0, none⟩)) (h : wpList Tryd.prog ops Q rest (a.put o.dst (fiV v s)) w) : wpList Tryd.prog ops Q (o :: rest) a w :=
  wpList_plain hgd fun _ hK => by
    unfold Oper.wp execOp
    simp only [ho, hx, Sem.run_bind, Sem.run_pure, Result.andThen_ok, hL.load]
    exact hK _ _ h
theorem wpList_store_fi {ops : Array Oper} {rest : List Oper} {o : Oper} {a : Act} {w : World} {Q : Exit → Act → World → Prop} (hgd : o.guard = none) (x y : Operand) (ho : o.op = .store 60 x y) (hd : o.dst = none)
    {k : Nat} {v v2 : Value} {s s2 : Int} (hL : FiAt w k v s) (hv : v2.oneCell' = true) (hx : a.eval x = .pointer (some ⟨k, 0, none⟩)) (hy : a.eval y = fiV v2 s2)
    (h : ∀ w2, FiAt w2 k v2 s2 → (∀ B a, Below B a w → B ≤ k → Below B a w2) → (∀ j, j ≠ k → w2.heap[j]? = w.heap[j]?) → w2.heap.size = w.heap.size → wpList Tryd.prog ops Q rest a w2) : wpList Tryd.prog ops Q (o :: rest) a w :=
  wpList_plain hgd fun _ hK => by
    obtain ⟨w2, h1, h2, h3, h4, h5⟩ := hL.store v2 s2 hv
    unfold Oper.wp execOp
    simp only [ho, hx, hy, Sem.run_bind, Sem.run_pure, Result.andThen_ok, h1]
    refine hK _ _ ?_
    rw [hd]
    exact h w2 h2 h3 h4 h5
theorem results_fi2 {fn : Func} {p u : Tmp} (h : fn.results = #[.cell p 60, .tmp u]) (tmps : Array Value) (w : World) (b : Nat) {v : Value} {s : Int} (x : Value) (hp : tmps.getD p undef = .pointer (some ⟨b, 0, none⟩)) (hx : tmps.getD u undef = x) (hl : FiAt w b v s) :
    (results fn tmps).run Tryd.prog w = .ok (.tuple #[fiV v s, x]) w := by
  rw [results_cell_tmp h, hp]
  simp only [asAddr, Sem.run_pure, Result.andThen_ok, hl.loadVar, hx]
theorem results_fi1 {fn : Func} {p : Tmp} (h : fn.results = #[.cell p 60]) (tmps : Array Value) (w : World) (k : Nat) {v : Value} {s : Int} (hp : tmps.getD p undef = .pointer (some ⟨k, 0, none⟩)) (hl : FiAt w k v s) :
    (results fn tmps).run Tryd.prog w = .ok (fiV v s) w := by
  simp only [Array.getD_eq_getD_getElem?] at hp
  simp [results, h, hp, asAddr, hl.loadVar]
/-- a new disk's room -/
def roomI (n : Int) : Int := if n < 0 then 0 else if 67108864 < n then 67108864 else n
theorem room_ok (n : Int) : 0 ≤ roomI n ∧ roomI n ≤ 67108864 := by unfold roomI; split <;> (try split) <;> omega
abbrev newD (n : Int) : Dk := ⟨roomI n, 0, false, 0, 0, []⟩
theorem newD_ok (n : Int) : DkOk (newD n) := ⟨room_ok n, (room_ok n).1, ⟨by simp, by simp⟩, ⟨by simp, by simp⟩, ⟨by simp, by simp⟩, Nat.zero_le _, (fun f hf => by cases hf), (fun f hf => by cases hf)⟩
theorem make_mapS (w : World) : (Instr.makeMap 46 none).run Tryd.prog w = .ok (.map (some w.heap.size)) (w.alloc (.map #[] 0)) := by
  kernel_rfl
theorem new_at (n : Int) (w : World) (q b : Nat) (W : World) (hb : b = w.heap.size) (hq : q = w.heap.size + 1) (hW : W = (w.alloc (.map #[] 0)).alloc (.cells (dkA (newD n) b) 48)) : DkAt W w.heap.size q b (newD n) ∧ Below w.heap.size w W := by
  subst hb hq hW
  have h1 : ((w.alloc (.map #[] 0)).alloc (.cells (dkA (newD n) w.heap.size) 48)).heap[w.heap.size + 1]? = some (.cells (dkA (newD n) w.heap.size) 48) := by
    have := heap_alloc_new (w.alloc (.map #[] 0)) (.cells (dkA (newD n) w.heap.size) 48)
    rw [World.size_alloc] at this
    exact this
  have h2 : ((w.alloc (.map #[] 0)).alloc (.cells (dkA (newD n) w.heap.size) 48)).ownsMap Tryd.prog 9 hvS w.heap.size 0 (.map []) := by
    exact owns_sameS (World.ownsMap_made _ _ _ _) (Below.heap_alloc _ _ _ (by simp))
  exact ⟨⟨h1, ⟨_, h2, repN_nil⟩, List.Pairwise.nil, (fun f hf => by cases hf), List.Pairwise.nil, ⟨by omega, Nat.le_refl _⟩⟩, ((Below.refl _ _).alloc (Nat.le_refl _) _).alloc (by simp) _⟩
set_option maxRecDepth 20000 in
set_option maxHeartbeats 1000000 in
theorem fsnew_any (n : Int) (w : World) (h1 : -9223372036854775808 ≤ n) (h2 : n ≤ 9223372036854775807) :
    Calls Tryd.prog 5 #[.int .i64 n] w fun r w' => ∃ q b, r = .returned (.pointer (some ⟨q, 0, none⟩)) ∧ DkAt w' w.heap.size q b (newD n) ∧ Below w.heap.size w w' := by
  have hm := make_mapS w
  have HW : Hid (∀ W, W = (w.alloc (.map #[] 0)).alloc (.cells (dkA (newD n) w.heap.size) 48) → DkAt W w.heap.size (w.heap.size + 1) w.heap.size (newD n) ∧ Below w.heap.size w W) := fun W hW => new_at n w _ _ W rfl rfl hW
  by_cases a1 : n < 0
  · have HR : Hid (roomI n = 0) := if_pos a1
    go_enter Tryd.func5, Tryd.ntmps5
    go_wp2
    go_ret
    refine ⟨_, _, rfl, HW.out _ ?_⟩
    simp only [dkA, newD, HR.out]
  · by_cases a2 : 67108864 < n
    · have HR : Hid (roomI n = 67108864) := by show _ = _; unfold roomI; rw [if_neg a1, if_pos a2]
      go_enter Tryd.func5, Tryd.ntmps5
      go_wp2
      go_ret
      have hz := HW.out _ (show _ = (w.alloc (.map #[] 0)).alloc (.cells (dkA (newD n) w.heap.size) 48) from rfl)
      simp only [dkA, HR.out] at hz
      exact ⟨_, rfl, ⟨_, hz.1⟩, hz.2⟩
    · have HR : Hid (roomI n = n) := by show _ = _; unfold roomI; rw [if_neg a1, if_neg a2]
      go_enter Tryd.func5, Tryd.ntmps5
      go_wp2
      go_ret
      have hz := HW.out _ (show _ = (w.alloc (.map #[] 0)).alloc (.cells (dkA (newD n) w.heap.size) 48) from rfl)
      simp only [dkA, HR.out] at hz
      exact ⟨_, rfl, ⟨_, hz.1⟩, hz.2⟩
/-- only block q has turned -/
structure On (q : Nat) (w w' : World) : Prop where
  os : w'.os = w.os
  tape : w'.tape = w.tape
  output : w'.output = w.output
  size : w'.heap.size = w.heap.size
  block : ∀ k, k ≠ q → w'.heap[k]? = w.heap[k]?
theorem On.refl (q : Nat) (w : World) : On q w w := ⟨rfl, rfl, rfl, rfl, fun _ _ => rfl⟩
theorem On.set {q : Nat} {w x : World} (h : On q w x) (i : Nat) (v : Value) : On q w (x.setCell ⟨q, i, none⟩ v) :=
  ⟨h.os, h.tape, h.output, by simp [World.setCell]; exact h.size, fun k hk => (heap_setCell_other x ⟨q, i, none⟩ k v hk).trans (h.block k hk)⟩
theorem On.below {q B : Nat} {w w' : World} (h : On q w w') (hB : B ≤ q) : Below B w w' := ⟨h.os, h.tape, h.output, by rw [h.size]; exact Nat.le_refl _, fun k hk => h.block k (by omega)⟩
/-- the disk behind a step, and what the step answers -/
def stepD (D : Dk) : Dk := if D.fuse = 1 then { D with off := true, fuse := 0 } else { D with off := false, fuse := (if 1 ≤ D.fuse then D.fuse - 1 else 0), steps := wrap64 (D.steps + 1) }
def stepE (D : Dk) : Nat := if D.fuse = 1 then 3 else 0
theorem stepD_fs (D : Dk) : (stepD D).fs = D.fs := by unfold stepD; split <;> rfl
theorem stepD_room (D : Dk) : (stepD D).room = D.room := by unfold stepD; split <;> rfl
theorem wrap_rng (x : Int) : -9223372036854775808 ≤ wrap64 x ∧ wrap64 x ≤ 9223372036854775807 := by unfold wrap64; omega
theorem stepD_ok {D : Dk} (h : DkOk D) : DkOk (stepD D) := by
  have hf := h.fuse
  have hw := wrap_rng (D.steps + 1)
  unfold stepD
  split
  · exact ⟨h.room, h.used, ⟨by simp, by simp⟩, h.steps, h.read, h.few, h.name, h.safe⟩
  · exact ⟨h.room, h.used, ⟨by simp only; split <;> omega, by simp only; split <;> omega⟩, hw, h.read, h.few, h.name, h.safe⟩
set_option maxRecDepth 20000 in
set_option maxHeartbeats 2000000 in
theorem step_any (w : World) (base q b : Nat) (D : Dk) (h : DkAt w base q b D) (hf1 : 0 ≤ D.fuse) (hf2 : D.fuse ≤ 9223372036854775807) :
    Calls Tryd.prog 38 #[.pointer (some ⟨q, 0, none⟩)] w fun r w' => r = .returned (.int .i64 (stepE D : Nat)) ∧ DkAt w' base q b (stepD D) ∧ On q w w' := by
  obtain ⟨c0, c1, c2, c3, c4, c5⟩ := h.cells
  have z2 := h.froz 2
  have z3 := h.froz 3
  have z4 := h.froz 4
  have HD : Hid (DkAt w base q b D) := h
  have HX : Hid (∀ (w' : World) (D2 : Dk), D2.fs = D.fs → On q w w' → w'.heap[q]? = some (.cells (dkA D2 b) 48) → DkAt w' base q b D2) := fun w' D2 e ho hq => h.setTo e hq (fun k _ _ hk => ho.block k hk)
  have hblk : w.heap[q]? = some (.cells (dkA D b) 48) := h.blk
  have HBK : Hid (w.heap[q]? = some (.cells (dkA D b) 48)) := hblk
  obtain ⟨room, fuse, off, steps, read, fs⟩ := D
  simp only at c0 c1 c2 c3 c4 c5 hf1 hf2
  clear h hblk
  by_cases h1 : fuse = 1
  · subst h1
    go_enter Tryd.func38, Tryd.ntmps38
    go_wp2
    go_ret
    refine ⟨rfl, HX.out _ _ (stepD_fs _) ?_ ?_, ?_⟩
    · exact ((On.refl q w).set 3 _).set 2 _
    · rw [heap_setCell_same _ q 2 _ _ _ (heap_setCell_same w q 3 _ _ _ HBK.out)]
      rfl
    · exact ((On.refl q w).set 3 _).set 2 _
  · have h1b : (fuse == 1) = false := by simpa using h1
    have HE : Hid (stepE ⟨room, fuse, off, steps, read, fs⟩ = 0) := if_neg h1
    by_cases h2 : 1 ≤ fuse
    · have HS : Hid (stepD ⟨room, fuse, off, steps, read, fs⟩ = ⟨room, fuse - 1, false, wrap64 (steps + 1), read, fs⟩) := by show _ = _; unfold stepD; rw [if_neg h1, if_pos h2]
      go_enter Tryd.func38, Tryd.ntmps38
      go_wp2
      go_ret
      refine ⟨by rw [HE.out]; rfl, HX.out _ _ (stepD_fs _) ?_ ?_, ?_⟩
      · exact (((On.refl q w).set 3 _).set 2 _).set 4 _
      · rw [heap_setCell_same _ q 4 _ _ _ (heap_setCell_same _ q 2 _ _ _ (heap_setCell_same w q 3 _ _ _ HBK.out)), HS.out]
        rfl
      · exact (((On.refl q w).set 3 _).set 2 _).set 4 _
    · have HS : Hid (stepD ⟨room, fuse, off, steps, read, fs⟩ = ⟨room, 0, false, wrap64 (steps + 1), read, fs⟩) := by show _ = _; unfold stepD; rw [if_neg h1, if_neg h2]
      go_enter Tryd.func38, Tryd.ntmps38
      go_wp2
      go_ret
      refine ⟨by rw [HE.out]; rfl, HX.out _ _ (stepD_fs _) ?_ ?_, ?_⟩
      · exact (((On.refl q w).set 3 _).set 2 _).set 4 _
      · rw [heap_setCell_same _ q 4 _ _ _ (heap_setCell_same _ q 2 _ _ _ (heap_setCell_same w q 3 _ _ _ HBK.out)), HS.out]
        rfl
      · exact (((On.refl q w).set 3 _).set 2 _).set 4 _
end Go.Proofs.YtnfkdgjgglnniaaDoor
namespace Go.Proofs.YtnfkdgjgglnniaaDoor
open Go.ChangeShapes Go.WideShapes Go.ChangeAt Go.RowKit
set_option linter.unusedVariables false
set_option linter.unusedSimpArgs false
def barE (D : Dk) (Ls : List (List UInt8)) : Nat := if D.off = true then 3 else if Ls.all rightS = true then 0 else 50
set_option maxRecDepth 20000 in
set_option maxHeartbeats 2000000 in
theorem barred_any (w : World) (base q b : Nat) (D : Dk) (h : DkAt w base q b D) (g m : Nat) (Ls : List (List UInt8)) (hm : Ls.length = m) (hm2 : m ≤ 2) (hl : ∀ x ∈ Ls, x.length ≤ 281474976710656) (hc : ∀ i x, Ls[i]? = some x → w.cell? ⟨g, i, none⟩ = some (.string (bs x))) :
    Calls Tryd.prog 37 #[.pointer (some ⟨q, 0, none⟩), .slice (some ⟨g, 0, none⟩) m m] w fun r w' => r = .returned (.int .i64 (barE D Ls : Nat)) ∧ w = w' := by
  obtain ⟨c0, c1, c2, c3, c4, c5⟩ := h.cells
  have HM : Hid (Ls.length = m) := hm
  have HL : Hid (∀ x ∈ Ls, x.length ≤ 281474976710656) := hl
  have HC : Hid (∀ i x, Ls[i]? = some x → w.cell? ⟨g, i, none⟩ = some (.string (bs x))) := hc
  have hmI : (m : Int) ≤ 2 := by omega
  obtain ⟨off, hoff⟩ : ∃ off, D.off = off := ⟨_, rfl⟩
  have HO : Hid (D.off = off) := hoff
  rw [hoff] at c3
  clear h hm hl hc c0 c1 c2 c4 c5 hoff
  cases off with
  | true =>
    have HE : Hid (barE D Ls = 3) := if_pos HO.out
    go_enter Tryd.func37, Tryd.ntmps37
    go_wp2
    go_ret
    exact ⟨by rw [HE.out]; rfl, rfl⟩
  | false =>
    have HN : Hid (¬ D.off = true) := by show ¬ _; rw [HO.out]; simp
    go_enter Tryd.func37, Tryd.ntmps37
    go_wp2
    go_loop [15] (fun vi => ∃ k : Nat, k ≤ m ∧ vi = .int .i64 k ∧ Hid ((Ls.take k).all rightS = true)) (fun vi => m - (intOf vi).toNat)
    case atStart => exact ⟨0, Nat.zero_le _, rfl, rfl⟩
    case round =>
      obtain ⟨k, hk, rfl, HK⟩ := hrel
      by_cases hkm : k < m
      · obtain ⟨x, hx⟩ : ∃ x, Ls[k]? = some x := ⟨_, List.getElem?_eq_getElem (by rw [HM.out]; exact hkm)⟩
        have ck := HC.out k x hx
        have HX : Hid (Ls[k]? = some x ∧ x.length ≤ 281474976710656) := ⟨hx, HL.out x (List.mem_of_getElem? hx)⟩
        have hkI : (k : Int) < (m : Int) := by omega
        have HT : Hid ((Ls.take (k + 1)).all rightS = rightS x) := by
          show _ = _
          have hlt : k < Ls.length := by rw [HM.out]; exact hkm
          rw [List.take_succ_eq_append_getElem hlt, List.all_append, HK.out]
          rw [List.getElem?_eq_getElem hlt] at hx
          cases hx
          simp
        clear hx
        cases hr : rightS x with
        | true =>
          have HRT : Hid (rightS x = true) := hr
          clear hr
          go_wp2_with (go_at_call 57; refine (right_any x _ HX.out.2).mono ?_; rw [HRT.out]; rintro _ w1 ⟨rfl, rfl⟩)
          go_round
          case rel => exact ⟨k + 1, by omega, by go_num, by show _ = _; rw [HT.out]; exact HRT.out⟩
          case measure => simp [intOf]; omega
        | false =>
          have HRF : Hid (rightS x = false) := hr
          have HE : Hid (barE D Ls = 50) := by
            show _ = _
            unfold barE
            rw [if_neg HN.out, if_neg]
            intro hall
            have := List.all_eq_true.1 hall x (List.mem_of_getElem? HX.out.1)
            rw [hr] at this
            cases this
          clear hr
          go_wp2_with (go_at_call 57; refine (right_any x _ HX.out.2).mono ?_; rw [HRF.out]; rintro _ w1 ⟨rfl, rfl⟩)
          go_ret
          exact ⟨by rw [HE.out]; rfl, rfl⟩
      · obtain rfl : m = k := by omega
        have HE : Hid (barE D Ls = 0) := by
          show _ = _
          unfold barE
          have h9 := HK.out
          rw [List.take_of_length_le (by rw [HM.out]; exact Nat.le_refl _)] at h9
          rw [if_neg HN.out, if_pos h9]
        go_wp2
        go_ret
        exact ⟨by rw [HE.out]; rfl, rfl⟩
/-- barred of one name -/
theorem barred_one (w : World) (base q b : Nat) (D : Dk) (h : DkAt w base q b D) (nm : List UInt8) (g : Nat) (hg : w.heap.size = g) (hl : nm.length ≤ 281474976710656) :
    Calls Tryd.prog 37 #[.pointer (some ⟨q, 0, none⟩), .slice (some ⟨g, 0, none⟩) 1 1] (w.alloc (.cells #[.string (bs nm)] 9)) fun r w' => r = .returned (.int .i64 (barE D [nm] : Nat)) ∧ w' = w.alloc (.cells #[.string (bs nm)] 9) := by
  subst hg
  have hb : Below w.heap.size w (w.alloc (.cells #[.string (bs nm)] 9)) := (Below.refl _ _).alloc (Nat.le_refl _) _
  refine (barred_any _ base q b D (h.keep hb) w.heap.size 1 [nm] rfl (by omega) (fun x hx => by rw [List.mem_singleton.1 hx]; exact hl) (fun i x hx => ?_)).mono ?_
  · cases i with
    | zero =>
      simp only [List.getElem?_cons_zero, Option.some.injEq] at hx
      subst hx
      rw [cell_of_row _ _ 0 _ _ _ (heap_alloc_new w (.cells #[.string (bs nm)] 9))]
      rfl
    | succ i => simp at hx
  · rintro _ w' ⟨h1, h2⟩
    exact ⟨h1, h2.symm⟩
theorem fs_keyed : Maps.Keyed Tryd.prog 9 := Maps.string_keyed Tryd.underlying9
theorem fs_key {nm : List UInt8} (h : nm.length ≤ 281474976710656) : keyOf Tryd.prog 9 (.string (bs nm)) = some (.string nm) := by
  have := WideMaps.keyOf_string_mk Tryd.underlying9 (s := bs nm) (show nm.toArray.size ≤ maxLen by unfold maxLen; simp; omega)
  simpa using this
theorem step_mapUpdateS {ops : Array Oper} {o : Oper} {a : Act} {w w2 : World} {K : Act → World → Prop} {Q : Exit → Act → World → Prop} {X : Prop} (hgd : o.guard = none) (m x y : Operand) (ho : o.op = .mapUpdate 46 m x y)
    {b : Nat} {key v : Value} (hm : a.eval m = .map (some b)) (hx : a.eval x = key) (hy : a.eval y = v) (hrun : (Instr.mapUpdate 46 (.map (some b)) key v).run Tryd.prog w = .ok () w2) (h : K (a.put o.dst undef) w2) :
    if Region.wanted o (yielded ops a.tmps) = true then Oper.wp Tryd.prog o a w K Q else X := by
  have hw : Region.wanted o (yielded ops a.tmps) = true := by simp [Region.wanted, hgd]
  rw [if_pos hw]
  unfold Oper.wp execOp
  simp only [ho, hm, hx, hy, hrun, Sem.run_bind, Sem.run_pure, Result.andThen_ok]
  exact h
end Go.Proofs.YtnfkdgjgglnniaaDoor
namespace Go.Proofs.YtnfkdgjgglnniaaDoor
open Go.ChangeShapes Go.WideShapes Go.ChangeAt Go.RowKit
set_option linter.unusedVariables false
set_option linter.unusedSimpArgs false
theorem cell_heapS {x y : World} {g : Nat} (h : y.heap[g]? = x.heap[g]?) (j : Nat) : y.cell? ⟨g, j, none⟩ = x.cell? ⟨g, j, none⟩ := by
  unfold World.cell?
  simp only [h]
theorem exec_load_fi {o : Oper} {a : Act} {w : World} (x : Operand) (ho : o.op = .load 60 x) {k : Nat} {v : Value} {s : Int} (hx : a.eval x = .pointer (some ⟨k, 0, none⟩)) (hL : FiAt w k v s) : (execOp a.eval o).run Tryd.prog w = .ok (.value (fiV v s)) w := by
  unfold execOp
  simp only [ho, hx, Sem.run_bind, Sem.run_pure, Result.andThen_ok, hL.load]
theorem map_eq (b : Nat) (w' : World) : (binOp .eql 46 (.map (some b)) (.map none)).run Tryd.prog w' = .ok (.bool false) w' := by kernel_rfl
theorem on_turned {w w' : World} {b : Nat} (h : w.mapTurned w' b) : On b w w' := by
  obtain ⟨es, c, es', c', hb, rfl⟩ := h
  exact ⟨rfl, rfl, rfl, by simp [Go.ChangeMaps.setBlock], fun k hk => Go.ChangeMaps.heap_setBlock_other hb _ hk⟩
theorem ins_dist (f : Fi) : ∀ {L : List Fi}, SortN L → OwnDist L → (∀ g ∈ L, g.name ≠ f.name → ∀ k, f.v.ownBlock = some k → g.v.ownBlock ≠ some k) → OwnDist (insN f L)
  | [], _, _, _ => by unfold insN; exact List.pairwise_singleton _ _
  | g :: r, hs, hd, hf => by
    obtain ⟨h1, h2⟩ := List.pairwise_cons.1 hs
    obtain ⟨d1, d2⟩ := List.pairwise_cons.1 hd
    unfold insN
    by_cases e1 : f.name < g.name
    · rw [if_pos e1]
      refine List.pairwise_cons.2 ⟨fun x hx => hf x hx (fun e => ?_), hd⟩
      rcases List.mem_cons.1 hx with h3 | h3
      · rw [h3] at e; rw [e] at e1; exact lt_irr _ e1
      · have := lt_tr e1 (h1 x h3); rw [e] at this; exact lt_irr _ this
    · rw [if_neg e1]
      by_cases e2 : f.name = g.name
      · rw [if_pos e2]
        refine List.pairwise_cons.2 ⟨fun x hx => hf x (List.mem_cons_of_mem _ hx) (fun e => ?_), d2⟩
        have := h1 x hx
        rw [e, e2] at this
        exact lt_irr _ this
      · rw [if_neg e2]
        refine List.pairwise_cons.2 ⟨fun x hx => ?_, ins_dist f h2 d2 (fun y hy => hf y (List.mem_cons_of_mem _ hy))⟩
        rcases mem_ins hx with h3 | h3
        · rw [h3]
          intro k hk hk2
          exact hf g (List.mem_cons_self ..) (fun e => e2 e.symm) k hk2 hk
        · exact d1 x h3
/-- a file laid under its name -/
abbrev putD (D : Dk) (f : Fi) : Dk := { D with fs := insN f D.fs }
theorem DkAt.putTo {w w' : World} {base q b n : Nat} {D : Dk} {M : DataW Value} (h : DkAt w base q b D) (f : Fi) (hd : DatAt w base f.v f.l) (hdis : ∀ g ∈ D.fs, g.name ≠ f.name → ∀ k, f.v.ownBlock = some k → g.v.ownBlock ≠ some k) (hr : RepN M D.fs) (hm : w'.ownsMap Tryd.prog 9 hvS b n (M.put (.string f.name) (.held (FiV f)))) (ho : On b w w') : DkAt w' base q b (putD D f) := by
  have hrp := hr.put h.srt f
  have hmt := owns_tight hm
  rw [hrp.sz] at hmt
  refine ⟨(ho.block q h.ne).trans h.blk, ⟨_, hmt, hrp⟩, ins_sorted f h.srt, fun g hg => ?_, ins_dist f h.srt h.dist hdis, h.lo⟩
  rcases mem_ins hg with h1 | h1
  · rw [h1]; exact hd.moved (fun k _ _ hk => ho.block k (h.dat_ne hd k hk).2)
  · exact (h.dat g h1).moved (fun k _ _ hk => ho.block k (h.dat_ne (h.dat g h1) k hk).2)
set_option maxRecDepth 20000 in
set_option maxHeartbeats 2000000 in
theorem fput_any (w : World) (base q b : Nat) (D : Dk) (h : DkAt w base q b D) (hfew : D.fs.length < maxLen) (nm : List UInt8) (v : Value) (l : List Nat) (s : Nat) (hl : nm.length ≤ 281474976710656) (hd : DatAt w base v l) (hdis : ∀ g ∈ D.fs, g.name ≠ nm → ∀ k, v.ownBlock = some k → g.v.ownBlock ≠ some k) :
    Calls Tryd.prog 28 #[.pointer (some ⟨q, 0, none⟩), .string (bs nm), fiV v (s : Int)] w fun r w' => r = .returned (.tuple #[]) ∧ DkAt w' base q b (putD D ⟨nm, v, l, s⟩) ∧ Kept b b w w' := by
  obtain ⟨S, hS⟩ : ∃ S : Int, S = (s : Int) := ⟨_, rfl⟩
  rw [← hS]
  have hone : v.oneCell' = true := by obtain ⟨_, _, _, _, _, _, _, h1⟩ := hd.bytes; exact h1
  have hb : Below w.heap.size w (w.alloc (.cells #[v, .int .i64 S] 60)) := (Below.refl _ _).alloc (Nat.le_refl _) _
  have h2 := h.keep hb
  have h3 : DkAt (w.alloc (.cells #[v, .int .i64 S] 60)).drew base q b D := h2.keep ((Below.refl _ _).drew)
  obtain ⟨M, hm, hr⟩ := h3.map
  obtain ⟨w2, hrun, hown, hturn⟩ := hm.store fs_keyed Tryd.underlying46 hfew (fs_key hl) (val := fiV v S) (d := .held (fiV v S)) (ps := []) rfl
  have hlt := h.lt
  have HRUN : Hid ((Instr.mapUpdate 46 (.map (some b)) (.string (bs nm)) (fiV v S)).run Tryd.prog (w.alloc (.cells #[v, .int .i64 S] 60)).drew = .ok () w2) := hrun
  have hon := on_turned hturn
  have hdat3 : DatAt (w.alloc (.cells #[v, .int .i64 S] 60)).drew base v l := (hd.keep hb).keep ((Below.refl _ _).drew)
  have HE : Hid (DkAt w2 base q b (putD D ⟨nm, v, l, s⟩) ∧ Kept b b w w2) := ⟨h3.putTo ⟨nm, v, l, s⟩ hdat3 hdis hr (by rw [hS] at hown; exact hown) hon, ⟨hon.os.trans rfl, hon.tape.trans rfl, hon.output.trans rfl, by rw [hon.size]; simp, fun k hk h1 _ => (hon.block k h1).trans (Below.heap_alloc _ _ k hk)⟩⟩
  have HP0 : Hid ((w.alloc (.cells #[v, .int .i64 S] 60)).drew.heap[q]? = w.heap[q]? ∧ (w.alloc (.cells #[v, .int .i64 S] 60)).drew.heap[w.heap.size]? = some (.cells #[v, .int .i64 S] 60)) := ⟨Below.heap_alloc _ _ q hlt.1, heap_alloc_new w _⟩
  have HP2 : Hid (w2.heap[q]? = w.heap[q]? ∧ w2.heap[w.heap.size]? = some (.cells #[v, .int .i64 S] 60)) := ⟨(hon.block q h.ne).trans HP0.out.1, (hon.block _ (by omega)).trans HP0.out.2⟩
  have c1 := h2.cells.2.1
  have HC1 : Hid (w.cell? ⟨q, 1, none⟩ = some (.map (some b))) := h.cells.2.1
  have hme : ∀ w' : World, (binOp .eql 46 (.map (some b)) (.map none)).run Tryd.prog w' = .ok (.bool false) w' := map_eq b
  clear h h2 h3 hb hm hr hrun hown hturn hon hdat3 hd hdis hlt hS
  go_enter Tryd.func28, Tryd.ntmps28
  go_wp2
  refine wp_region_held (S := (fun y => y.heap[q]? = w.heap[q]? ∧ y.heap[w.heap.size]? = some (.cells #[v, .int .i64 S] 60))) (by kernel_rfl) ?_
  change wpAnyH _ _ _ _ _ _ _ _ (World.drew _)
  refine wpAnyH_take (i := 0) (oi := { dst := some 15, op := Op.move (Operand.tmp 0), type := 27, pos := "simfs.go:87", after := #[], guard := none }) (v := ?_) rfl (by kernel_rfl) (by kernel_rfl) (by kernel_rfl) (fun _ _ _ h => h) (Or.inl ⟨by rfl, ?_⟩) HP0.out ?_
  rotate_left
  · (intro y hy; go_simp; try (with_reducible rfl))
  simp only [Act.put, List.setIfInBounds_toArray, List.set_cons_zero, List.set_cons_succ]
  refine wpAnyH_take (i := 1) (oi := { dst := some 16, op := Op.nilCheck (Operand.tmp 15), type := 0, pos := "simfs.go:87", after := #[{ on := 0, ground := Ground.data }], guard := none }) (v := ?_) rfl (by kernel_rfl) (by kernel_rfl) (by kernel_rfl) (fun _ _ _ h => h) (Or.inl ⟨by rfl, ?_⟩) HP0.out ?_
  rotate_left
  · (intro y hy; go_simp; try (with_reducible rfl))
  simp only [Act.put, List.setIfInBounds_toArray, List.set_cons_zero, List.set_cons_succ]
  refine wpAnyH_take (i := 2) (oi := { dst := some 17, op := Op.fieldAddr 48 (Operand.tmp 16) 1, type := 0, pos := "simfs.go:87", after := #[{ on := 1, ground := Ground.data }], guard := none }) (v := ?_) rfl (by kernel_rfl) (by kernel_rfl) (by kernel_rfl) (fun _ _ _ h => h) (Or.inl ⟨by rfl, ?_⟩) HP0.out ?_
  rotate_left
  · (intro y hy; go_simp; try (with_reducible rfl))
  simp only [Act.put, List.setIfInBounds_toArray, List.set_cons_zero, List.set_cons_succ]
  refine wpAnyH_take (i := 3) (oi := { dst := some 18, op := Op.load 46 (Operand.tmp 17), type := 46, pos := "simfs.go:87", after := #[{ on := 2, ground := Ground.data }], guard := none }) (v := .map (some b)) rfl (by kernel_rfl) (by kernel_rfl) (by kernel_rfl) (fun _ _ _ h => h) (Or.inl ⟨by rfl, ?_⟩) HP0.out ?_
  · (intro y hy; have h0 := (cell_heapS hy.1 1).trans HC1.out; go_simp)
  simp only [Act.put, List.setIfInBounds_toArray, List.set_cons_zero, List.set_cons_succ]
  refine wpAnyH_take (i := 4) (oi := { dst := some 19, op := Op.move (Operand.tmp 1), type := 9, pos := "simfs.go:87", after := #[], guard := none }) (v := ?_) rfl (by kernel_rfl) (by kernel_rfl) (by kernel_rfl) (fun _ _ _ h => h) (Or.inl ⟨by rfl, ?_⟩) HP0.out ?_
  rotate_left
  · (intro y hy; go_simp; try (with_reducible rfl))
  simp only [Act.put, List.setIfInBounds_toArray, List.set_cons_zero, List.set_cons_succ]
  refine wpAnyH_take (i := 5) (oi := { dst := some 20, op := Op.load 60 (Operand.tmp 5), type := 60, pos := "simfs.go:87", after := #[], guard := none }) (v := fiV v S) rfl (by kernel_rfl) (by kernel_rfl) (by kernel_rfl) (fun _ _ _ h => h) (Or.inl ⟨by rfl, fun y hy => exec_load_fi _ rfl rfl hy.2⟩) HP0.out ?_
  simp only [Act.put, List.setIfInBounds_toArray, List.set_cons_zero, List.set_cons_succ]
  refine wpAnyH_ready (rs := [6]) (by kernel_rfl) (by simp) ?_
  refine AllReadyH.cons (o := { dst := none, op := Op.mapUpdate 46 (Operand.tmp 18) (Operand.tmp 19) (Operand.tmp 20), type := 0, pos := "simfs.go:87", after := #[{ on := 3, ground := Ground.data }, { on := 4, ground := Ground.data }, { on := 5, ground := Ground.data }, { on := 0, ground := Ground.phase }, { on := 1, ground := Ground.phase }, { on := 2, ground := Ground.phase }, { on := 3, ground := Ground.phase }, { on := 4, ground := Ground.phase }, { on := 5, ground := Ground.phase }], guard := none }) rfl (fun K hK => ?_) AllReadyH.nil
  refine step_mapUpdateS rfl _ _ _ rfl rfl rfl rfl HRUN.out ?_
  (refine hK _ _ HP2.out ?_; clear hK K; intro _)
  try simp only [Act.put, List.setIfInBounds_toArray, List.set_cons_zero, List.set_cons_succ]
  refine wpAnyH_done (by kernel_rfl) ?_ _
  go_wp2
  go_end0
  exact ⟨rfl, HE.out.1, HE.out.2⟩
/-- what find answers -/
def findE (D : Dk) (nm : List UInt8) : Nat := if barE D [nm] ≠ 0 then barE D [nm] else if (getN D.fs nm).isSome = true then 0 else 51
theorem zero_fi (w : World) : (zeroValue 60).run Tryd.prog w = .ok (fiV (.slice none 0 0) 0) w := by kernel_rfl
theorem lookS {w : World} {b n : Nat} {M : DataW Value} {L : List Fi} {nm : List UInt8} (hm : w.ownsMap Tryd.prog 9 hvS b n M) (hr : RepN M L) (hl : nm.length ≤ 281474976710656) :
    (Instr.lookup 46 (.map (some b)) (.string (bs nm)) true).run Tryd.prog w = .ok (.tuple #[(match getN L nm with | some f => FiV f | none => fiV (.slice none 0 0) 0), .bool (getN L nm).isSome]) w := by
  obtain ⟨v, ps, hrun, hR⟩ := hm.look_ok fs_keyed Tryd.underlying46 (zero_fi w) (zd := .held (fiV (.slice none 0 0) 0)) (zp := []) rfl (fs_key hl)
  rw [hr.look] at hR
  have h1 := hvS_inv hR
  rw [hr.hs] at hrun
  cases hg : getN L nm with
  | none =>
    rw [hg] at h1 hrun
    simp only [DataW.held.injEq] at h1
    rw [hrun, ← h1]
  | some f =>
    rw [hg] at h1 hrun
    simp only [DataW.held.injEq] at h1
    rw [hrun, ← h1]
theorem wpList_lookS {ops : Array Oper} {rest : List Oper} {o : Oper} {a : Act} {w : World} {Q : Exit → Act → World → Prop} (hg : o.guard = none) (m x : Operand) (hop : o.op = Op.lookup 46 m x true) {b : Nat} {nm : List UInt8} {v : Value} (hm : a.eval m = .map (some b)) (hx : a.eval x = .string (bs nm))
    (hrun : (Instr.lookup 46 (.map (some b)) (.string (bs nm)) true).run Tryd.prog w = .ok v w) (hK : wpList Tryd.prog ops Q rest (a.put o.dst v) w) : wpList Tryd.prog ops Q (o :: rest) a w := by
  refine wpList_plain hg fun K' hK' => ?_
  unfold Oper.wp
  simp [execOp, hop, hm, hx, hrun, Result.andThen]
  exact hK' _ _ hK
set_option maxRecDepth 20000 in
set_option maxHeartbeats 2000000 in
theorem find_bar (w : World) (base q b : Nat) (D : Dk) (h : DkAt w base q b D) (nm : List UInt8) (hl : nm.length ≤ 281474976710656) (hE : barE D [nm] ≠ 0) :
    Calls Tryd.prog 39 #[.pointer (some ⟨q, 0, none⟩), .string (bs nm)] w fun r w' => r = .returned (.tuple #[fiV (.slice none 0 0) 0, .int .i64 (barE D [nm] : Nat)]) ∧ Below w.heap.size w w' := by
  have hb0 : Below w.heap.size w (w.alloc (.cells #[.slice none 0 0, .int .i64 0] 60)) := (Below.refl _ _).alloc (Nat.le_refl _) _
  have HD1 : Hid (DkAt (w.alloc (.cells #[.slice none 0 0, .int .i64 0] 60)) base q b D) := h.keep hb0
  have HF1 : Hid (FiAt ((w.alloc (.cells #[.slice none 0 0, .int .i64 0] 60)).alloc (.cells #[.string (bs nm)] 9)) w.heap.size (.slice none 0 0) 0) := (FiAt.new w _ _).keep ((Below.refl _ _).alloc (Nat.le_refl _) _)
  have HB1 : Hid (Below w.heap.size w ((w.alloc (.cells #[.slice none 0 0, .int .i64 0] 60)).alloc (.cells #[.string (bs nm)] 9))) := hb0.alloc hb0.size _
  have hd2 : DkAt ((w.alloc (.cells #[.slice none 0 0, .int .i64 0] 60)).alloc (.cells #[.string (bs nm)] 9)) base q b D := HD1.out.keep ((Below.refl _ _).alloc (Nat.le_refl _) _)
  have HD2 : Hid (DkAt ((w.alloc (.cells #[.slice none 0 0, .int .i64 0] 60)).alloc (.cells #[.string (bs nm)] 9)) base q b D) := hd2
  have HN2 : Hid (FiAt (((w.alloc (.cells #[.slice none 0 0, .int .i64 0] 60)).alloc (.cells #[.string (bs nm)] 9)).alloc (.cells #[.slice none 0 0, .int .i64 0] 60)) (w.heap.size + 1 + 1) (.slice none 0 0) 0) := by have h := FiAt.new ((w.alloc (.cells #[.slice none 0 0, .int .i64 0] 60)).alloc (.cells #[.string (bs nm)] 9)) (.slice none 0 0) 0; rw [World.size_alloc, World.size_alloc] at h; exact h
  have c1 := hd2.cells.2.1
  obtain ⟨M, hm, hr⟩ := hd2.map
  have hlk := lookS hm hr hl
  obtain ⟨E, hEE⟩ : ∃ E, barE D [nm] = E := ⟨_, rfl⟩
  rw [hEE] at hE ⊢
  have HB : Hid (barE D [nm] = E) := hEE
  have hq : ((E : Int) != 0) = true := by simp; exact hE
  clear hE hEE hlk
  have T1 : Hid True := trivial
  clear h hb0 hd2 hm hr
  go_enter Tryd.func39, Tryd.ntmps39
  go_wp2_with (first
    | (go_at_call 37; refine (barred_one _ base q b D HD1.out nm (w.heap.size + 1) (by simp) hl).mono ?_; rw [HB.out]; rintro _ x1 ⟨rfl, rfl⟩)
    | ((with_reducible refine guard_store 60 ?_); refine wpList_store_fi rfl _ _ rfl rfl HF1.out rfl rfl rfl (v2 := .slice none 0 0) (s2 := 0) ?_; intro x3 hf ho hh hs; have HF3 : Hid (_) := hf; have HB3 : Hid (Below w.heap.size w x3) := ho _ _ HB1.out (Nat.le_refl _); clear hf ho hh hs))
  exact bodyPost_ret (results_fi2 rfl _ _ _ _ rfl rfl HF3.out) rfl ⟨rfl, HB3.out⟩
set_option maxRecDepth 20000 in
set_option maxHeartbeats 2000000 in
theorem find_none (w : World) (base q b : Nat) (D : Dk) (h : DkAt w base q b D) (nm : List UInt8) (hl : nm.length ≤ 281474976710656) (hE : barE D [nm] = 0) (hN : getN D.fs nm = none) :
    Calls Tryd.prog 39 #[.pointer (some ⟨q, 0, none⟩), .string (bs nm)] w fun r w' => r = .returned (.tuple #[fiV (.slice none 0 0) 0, .int .i64 51]) ∧ Below w.heap.size w w' := by
  have hb0 : Below w.heap.size w (w.alloc (.cells #[.slice none 0 0, .int .i64 0] 60)) := (Below.refl _ _).alloc (Nat.le_refl _) _
  have HD1 : Hid (DkAt (w.alloc (.cells #[.slice none 0 0, .int .i64 0] 60)) base q b D) := h.keep hb0
  have HF1 : Hid (FiAt ((w.alloc (.cells #[.slice none 0 0, .int .i64 0] 60)).alloc (.cells #[.string (bs nm)] 9)) w.heap.size (.slice none 0 0) 0) := (FiAt.new w _ _).keep ((Below.refl _ _).alloc (Nat.le_refl _) _)
  have HB1 : Hid (Below w.heap.size w ((w.alloc (.cells #[.slice none 0 0, .int .i64 0] 60)).alloc (.cells #[.string (bs nm)] 9))) := hb0.alloc hb0.size _
  have hd2 : DkAt ((w.alloc (.cells #[.slice none 0 0, .int .i64 0] 60)).alloc (.cells #[.string (bs nm)] 9)) base q b D := HD1.out.keep ((Below.refl _ _).alloc (Nat.le_refl _) _)
  have HD2 : Hid (DkAt ((w.alloc (.cells #[.slice none 0 0, .int .i64 0] 60)).alloc (.cells #[.string (bs nm)] 9)) base q b D) := hd2
  have HN2 : Hid (FiAt (((w.alloc (.cells #[.slice none 0 0, .int .i64 0] 60)).alloc (.cells #[.string (bs nm)] 9)).alloc (.cells #[.slice none 0 0, .int .i64 0] 60)) (w.heap.size + 1 + 1) (.slice none 0 0) 0) := by have h := FiAt.new ((w.alloc (.cells #[.slice none 0 0, .int .i64 0] 60)).alloc (.cells #[.string (bs nm)] 9)) (.slice none 0 0) 0; rw [World.size_alloc, World.size_alloc] at h; exact h
  have c1 := hd2.cells.2.1
  obtain ⟨M, hm, hr⟩ := hd2.map
  have hlk := lookS hm hr hl
  have HB : Hid (barE D [nm] = 0) := hE
  have HONE : Hid ((Value.slice none 0 0).oneCell' = true) := rfl
  rw [hN] at hlk
  simp only [Option.isSome_none] at hlk
  clear hE hN
  have T1 : Hid True := trivial
  clear h hb0 hd2 hm hr
  go_enter Tryd.func39, Tryd.ntmps39
  go_wp2_with (first
    | (go_at_call 37; refine (barred_one _ base q b D HD1.out nm (w.heap.size + 1) (by simp) hl).mono ?_; rw [HB.out]; rintro _ x1 ⟨rfl, rfl⟩)
    | (at_lookup; refine wpList_lookS rfl _ _ rfl rfl rfl hlk ?_)
    | ((with_reducible refine guard_store 60 ?_); clear T1; refine wpList_store_fi rfl _ _ rfl rfl HN2.out HONE.out rfl rfl (v2 := .slice none 0 0) (s2 := 0) ?_; intro x3 hf ho hh hs; have hb3 : Below ((w.alloc (.cells #[.slice none 0 0, .int .i64 0] 60)).alloc (.cells #[.string (bs nm)] 9)).heap.size ((w.alloc (.cells #[.slice none 0 0, .int .i64 0] 60)).alloc (.cells #[.string (bs nm)] 9)) x3 := ho _ _ ((Below.refl _ _).alloc (Nat.le_refl _) _) (by simp); have HF3 : Hid (FiAt x3 (w.heap.size + 1 + 1) (.slice none 0 0) (0)) := hf; have HG3 : Hid (FiAt x3 w.heap.size (.slice none 0 0) 0) := HF1.out.keep hb3; have HB3 : Hid (Below w.heap.size w x3) := HB1.out.trans (hb3.mono HB1.out.size); clear hf ho hh hs hb3)
    | ((with_reducible refine guard_store 60 ?_); refine wpList_store_fi rfl _ _ rfl rfl HG3.out rfl rfl rfl (v2 := .slice none 0 0) (s2 := 0) ?_; intro x4 hf ho hh hs; have HF4 : Hid (_) := hf; have HB4 : Hid (Below w.heap.size w x4) := ho _ _ HB3.out (Nat.le_refl _); clear hf ho hh hs))
  exact bodyPost_ret (results_fi2 rfl _ _ _ _ rfl rfl HF4.out) rfl ⟨rfl, HB4.out⟩
set_option maxRecDepth 20000 in
set_option maxHeartbeats 2000000 in
theorem find_ok (w : World) (base q b : Nat) (D : Dk) (h : DkAt w base q b D) (nm : List UInt8) (hl : nm.length ≤ 281474976710656) (hE : barE D [nm] = 0) (f : Fi) (hN : getN D.fs nm = some f) :
    Calls Tryd.prog 39 #[.pointer (some ⟨q, 0, none⟩), .string (bs nm)] w fun r w' => r = .returned (.tuple #[FiV f, .int .i64 0]) ∧ Below w.heap.size w w' := by
  have hb0 : Below w.heap.size w (w.alloc (.cells #[.slice none 0 0, .int .i64 0] 60)) := (Below.refl _ _).alloc (Nat.le_refl _) _
  have HD1 : Hid (DkAt (w.alloc (.cells #[.slice none 0 0, .int .i64 0] 60)) base q b D) := h.keep hb0
  have HF1 : Hid (FiAt ((w.alloc (.cells #[.slice none 0 0, .int .i64 0] 60)).alloc (.cells #[.string (bs nm)] 9)) w.heap.size (.slice none 0 0) 0) := (FiAt.new w _ _).keep ((Below.refl _ _).alloc (Nat.le_refl _) _)
  have HB1 : Hid (Below w.heap.size w ((w.alloc (.cells #[.slice none 0 0, .int .i64 0] 60)).alloc (.cells #[.string (bs nm)] 9))) := hb0.alloc hb0.size _
  have hd2 : DkAt ((w.alloc (.cells #[.slice none 0 0, .int .i64 0] 60)).alloc (.cells #[.string (bs nm)] 9)) base q b D := HD1.out.keep ((Below.refl _ _).alloc (Nat.le_refl _) _)
  have HD2 : Hid (DkAt ((w.alloc (.cells #[.slice none 0 0, .int .i64 0] 60)).alloc (.cells #[.string (bs nm)] 9)) base q b D) := hd2
  have HN2 : Hid (FiAt (((w.alloc (.cells #[.slice none 0 0, .int .i64 0] 60)).alloc (.cells #[.string (bs nm)] 9)).alloc (.cells #[.slice none 0 0, .int .i64 0] 60)) (w.heap.size + 1 + 1) (.slice none 0 0) 0) := by have h := FiAt.new ((w.alloc (.cells #[.slice none 0 0, .int .i64 0] 60)).alloc (.cells #[.string (bs nm)] 9)) (.slice none 0 0) 0; rw [World.size_alloc, World.size_alloc] at h; exact h
  have c1 := hd2.cells.2.1
  obtain ⟨M, hm, hr⟩ := hd2.map
  have hlk := lookS hm hr hl
  have HB : Hid (barE D [nm] = 0) := hE
  have hone : f.v.oneCell' = true := by obtain ⟨_, _, _, _, _, _, _, h1⟩ := (h.dat f (getN_mem hN).1).bytes; exact h1
  rw [hN] at hlk
  simp only [Option.isSome_some] at hlk
  obtain ⟨V, hV⟩ : ∃ V, f.v = V := ⟨_, rfl⟩
  obtain ⟨S, hS⟩ : ∃ S : Int, (f.s : Int) = S := ⟨_, rfl⟩
  have HVS : Hid (FiV f = fiV V S) := by show _ = _; rw [← hV, ← hS]
  rw [HVS.out] at hlk
  rw [hV] at hone
  have HONE : Hid (V.oneCell' = true) := hone
  clear hE hN hV hS hone
  have T1 : Hid True := trivial
  clear h hb0 hd2 hm hr
  go_enter Tryd.func39, Tryd.ntmps39
  go_wp2_with (first
    | (go_at_call 37; refine (barred_one _ base q b D HD1.out nm (w.heap.size + 1) (by simp) hl).mono ?_; rw [HB.out]; rintro _ x1 ⟨rfl, rfl⟩)
    | (at_lookup; refine wpList_lookS rfl _ _ rfl rfl rfl hlk ?_)
    | ((with_reducible refine guard_store 60 ?_); clear T1; refine wpList_store_fi rfl _ _ rfl rfl HN2.out HONE.out rfl rfl (v2 := V) (s2 := S) ?_; intro x3 hf ho hh hs; have hb3 : Below ((w.alloc (.cells #[.slice none 0 0, .int .i64 0] 60)).alloc (.cells #[.string (bs nm)] 9)).heap.size ((w.alloc (.cells #[.slice none 0 0, .int .i64 0] 60)).alloc (.cells #[.string (bs nm)] 9)) x3 := ho _ _ ((Below.refl _ _).alloc (Nat.le_refl _) _) (by simp); have HF3 : Hid (FiAt x3 (w.heap.size + 1 + 1) (V) (S)) := hf; have HG3 : Hid (FiAt x3 w.heap.size (.slice none 0 0) 0) := HF1.out.keep hb3; have HB3 : Hid (Below w.heap.size w x3) := HB1.out.trans (hb3.mono HB1.out.size); clear hf ho hh hs hb3)
    | ((with_reducible refine guard_load 60 ?_); refine wpList_load_fi rfl _ rfl HF3.out rfl ?_)
    | ((with_reducible refine guard_store 60 ?_); refine wpList_store_fi rfl _ _ rfl rfl HG3.out HONE.out rfl rfl (v2 := V) (s2 := S) ?_; intro x4 hf ho hh hs; have HF4 : Hid (_) := hf; have HB4 : Hid (Below w.heap.size w x4) := ho _ _ HB3.out (Nat.le_refl _); clear hf ho hh hs))
  exact bodyPost_ret (results_fi2 rfl _ _ _ _ rfl rfl HF4.out) rfl ⟨by rw [HVS.out]; rfl, HB4.out⟩


end Go.Proofs.YtnfkdgjgglnniaaDoor
namespace Go.Proofs.YtnfkdgjgglnniaaDoor
open Go.ChangeShapes Go.WideShapes Go.ChangeAt Go.RowKit
set_option linter.unusedVariables false
set_option linter.unusedSimpArgs false
/-- the bytes of the files that have come -/
def doneN (left : Lit → Bool) (L : List Fi) : Nat := usedN (L.filter (fun f => !left (.string f.name)))
theorem usedN_cons (f : Fi) (r : List Fi) : usedN (f :: r) = f.l.length + usedN r := by unfold usedN; simp
theorem doneN_cons (left : Lit → Bool) (f : Fi) (r : List Fi) : doneN left (f :: r) = (if left (.string f.name) = true then 0 else f.l.length) + doneN left r := by
  unfold doneN
  by_cases h : left (.string f.name) = true
  · rw [List.filter_cons, if_neg (by simp [h]), if_pos h, Nat.zero_add]
  · rw [List.filter_cons, if_pos (by simp [h]), if_neg h, usedN_cons]
theorem doneN_le (left : Lit → Bool) : ∀ L : List Fi, doneN left L ≤ usedN L
  | [] => Nat.le_refl _
  | f :: r => by
    have := doneN_le left r
    rw [doneN_cons, usedN_cons]
    split <;> omega
theorem doneN_zero (left : Lit → Bool) : ∀ L : List Fi, (∀ f ∈ L, left (.string f.name) = true) → doneN left L = 0
  | [], _ => rfl
  | f :: r, h => by
    rw [doneN_cons, if_pos (h f (List.mem_cons_self ..)), doneN_zero left r (fun x hx => h x (List.mem_cons_of_mem _ hx))]
theorem doneN_all (left : Lit → Bool) (h : ∀ k, left k = false) : ∀ L : List Fi, doneN left L = usedN L
  | [] => rfl
  | f :: r => by
    rw [doneN_cons, if_neg (by rw [h]; simp), doneN_all left h r, usedN_cons]
theorem doneN_same {l1 l2 : Lit → Bool} : ∀ {L : List Fi}, (∀ f ∈ L, l1 (.string f.name) = l2 (.string f.name)) → doneN l1 L = doneN l2 L
  | [], _ => rfl
  | f :: r, h => by
    rw [doneN_cons, doneN_cons, h f (List.mem_cons_self ..), doneN_same (fun x hx => h x (List.mem_cons_of_mem _ hx))]
theorem same_str (a b : List UInt8) : (Lit.string a).sameKey (.string b) = (a == b) := by
  rfl
theorem doneN_step {left : Lit → Bool} {f : Fi} : ∀ {L : List Fi}, SortN L → f ∈ L → left (.string f.name) = true → doneN (fun z => left z && !z.sameKey (.string f.name)) L = doneN left L + f.l.length
  | [], _, h, _ => by cases h
  | g :: r, hs, h, hl => by
    obtain ⟨h1, h2⟩ := List.pairwise_cons.1 hs
    rw [doneN_cons, doneN_cons]
    rcases List.mem_cons.1 h with e | e
    · subst e
      have hx : ∀ x ∈ r, (left (.string x.name) && !(Lit.string x.name).sameKey (.string f.name)) = left (.string x.name) := by
        intro x hx
        have hne : (x.name == f.name) = false := by
          simp
          intro e2
          have := h1 x hx
          rw [e2] at this
          exact lt_irr _ this
        rw [same_str, hne]
        simp
      rw [doneN_same hx, same_str, hl]
      simp
      omega
    · have hne : (g.name == f.name) = false := by
        simp
        intro e2
        have := h1 f e
        rw [e2] at this
        exact lt_irr _ this
      rw [doneN_step h2 e hl, same_str, hne]
      simp
      omega
theorem keyS_inv {key : Value} {kl : Lit} (h : keyOf Tryd.prog 9 key = some kl) : ∃ t : List UInt8, key = .string (bs t) ∧ kl = .string t := by
  cases key <;> simp [keyOf, Tryd.underlying9, mapKey] at h
  obtain ⟨_, rfl⟩ := h
  exact ⟨_, rfl, rfl⟩
theorem ranges_same {w w' : World} {b r n : Nat} {M : DataW Value} {left : Lit → Bool} {cnt : Nat} (h : w.ranges Tryd.prog 9 hvS b r n M left cnt) (hb : w'.heap[b]? = w.heap[b]?) (hr : w'.heap[r]? = w.heap[r]?) : w'.ranges Tryd.prog 9 hvS b r n M left cnt := by
  obtain ⟨es, clock, since, seen, c0, g1, F, hs, hD, g2, rest⟩ := h
  exact ⟨es, clock, since, seen, c0, hb.trans g1, F, hs, hD, hr.trans g2, rest⟩
/-- what has come is a file of the disk -/
theorem RepN.came {M : DataW Value} {L : List Fi} (h : RepN M L) {kl : Lit} {c : Value} {t : List UInt8} {y : DataW Value × List MemPlace} (hk : kl = .string t) (hy : hvS c = some y) (hat : ∀ zd, M.atKey kl zd = y.1) : ∃ f, f ∈ L ∧ f.name = t ∧ c = FiV f := by
  subst hk
  have e1 : y.1 = .held c := hvS_inv (v := c) (d := y.1) (ps := y.2) hy
  cases hg : getN L t with
  | none =>
    have h1 := hat (.held (.bool true))
    have h2 := hat (.held (.bool false))
    rw [h.look, hg] at h1 h2
    simp only at h1 h2
    rw [← h2] at h1
    simp at h1
  | some f =>
    have h1 := hat (.held (.bool true))
    rw [h.look, hg, e1] at h1
    simp only [DataW.held.injEq] at h1
    obtain ⟨h2, h3⟩ := getN_mem hg
    exact ⟨f, h2, h3, h1.symm⟩
set_option maxRecDepth 100000 in
set_option maxHeartbeats 2000000 in
theorem used_any (w : World) (base q b : Nat) (D : Dk) (h : DkAt w base q b D) (hu : (usedN D.fs : Int) ≤ 67108864) :
    Calls Tryd.prog 58 #[.pointer (some ⟨q, 0, none⟩)] w fun r w' => r = .returned (.int .i64 (usedN D.fs : Nat)) ∧ Below w.heap.size w w' := by
  obtain ⟨M, hm, hr⟩ := h.map
  have c1 := h.cells.2.1
  have HR : Hid (RepN M D.fs) := hr
  have HD : Hid (DkAt w base q b D) := h
  have HU : Hid ((usedN D.fs : Int) ≤ 67108864) := hu
  have HS : Hid (SortN D.fs) := h.srt
  obtain ⟨n, hn⟩ : ∃ n, D.fs.length = n := ⟨_, rfl⟩
  rw [hn] at hm
  have HM : Hid (w.ownsMap Tryd.prog 9 hvS b n M) := hm
  have HQ : Hid (q < w.heap.size ∧ b < w.heap.size) := h.lt
  clear hn hm hr h hu
  go_enter Tryd.func58, Tryd.ntmps58
  go_wp2_with (first
    | (at_range; refine wpList_range_own _ rfl _ 46 rfl 9 60 fs_keyed Tryd.underlying46 _ b n _ rfl HM.out ?_; intro w0 hrg0 hg0 hs0)
    | go_in)
  go_frame
  go_loopw [3] (fun v3 wr => ∃ (left : Lit → Bool) (cnt : Nat), v3 = .int .i64 (doneN left D.fs : Nat) ∧ Hid (wr.ranges Tryd.prog 9 hvS b w.heap.size n M left cnt ∧ Below w.heap.size w wr))
    (fun _ wr => wr.rangeLeft b w.heap.size)
  case atStart =>
    refine ⟨_, _, ?_, hrg0, (Below.refl _ _).grown hg0 (Nat.le_refl _) (fun j hj => by cases hj)⟩
    rw [doneN_zero _ _ (fun f hf => by rw [HR.out.hs]; cases hg : getN D.fs f.name with | none => exact absurd rfl (getN_none.1 hg f hf) | some _ => rfl)]
    rfl
  case round =>
    obtain ⟨left, cnt, hv3, HRG⟩ := hrel
    obtain ⟨dn, hdn⟩ : ∃ dn : Nat, doneN left D.fs = dn := ⟨_, rfl⟩
    have HDN : Hid (doneN left D.fs = dn) := hdn
    have HDL : Hid ((dn : Int) ≤ 67108864) := by
      have h1 := doneN_le left D.fs
      have h2 := HU.out
      show _ ≤ _
      omega
    rw [hdn] at hv3
    subst hv3
    clear hdn
    go_wp2_with (first
      | (at_next; refine wpList_next_ranges _ rfl _ rfl 9 fs_keyed hvS (fun l : List UInt8 => Value.string (bs l)) id (fun key kl hk => by obtain ⟨t, h1, _⟩ := keyS_inv hk; exact ⟨t, h1⟩) (fun v y _ => ⟨v, rfl⟩) b w.heap.size n _ _ _ rfl HRG.out.1 ?_ ?_)
      | go_in)
    · intro hc0 hl0
      have HE : Hid (dn = usedN D.fs) := by show _ = _; rw [← HDN.out, doneN_all left hl0]
      clear hc0 hl0
      go_wp2
      go_ret
      exact ⟨by rw [← HE.out]; rfl, HRG.out.2⟩
    · intro x c kl yd yp w1 cnt1 hkl hlx hy hat hrg1 hlt hg1 hs1 hen
      obtain ⟨t, e1, e2⟩ := keyS_inv hkl
      obtain ⟨f, hf, hfn, hfc⟩ := HR.out.came (y := (yd, yp)) e2 hy hat
      subst hfn e2
      try simp only [id_eq] at hfc hen
      subst hfc
      obtain ⟨a, cp, hfv, hfl, hcp, _, _, hone⟩ := (HD.out.dat f hf).bytes
      obtain ⟨m, hm⟩ : ∃ m, f.l.length = m := ⟨_, rfl⟩
      rw [hm] at hfv hfl
      have HFV : Hid (FiV f = fiV (.slice a m cp) f.s) := by show Value.agg #[f.v, _] = _; rw [hfv]
      rw [HFV.out] at hen
      have HST : Hid (doneN (fun z => left z && !z.sameKey (.string f.name)) D.fs = dn + m) := by
        show _ = _
        rw [doneN_step HS.out hf hlx, HDN.out, hm]
      have hsum : (dn : Int) + m ≤ 67108864 := by
        have h1 := doneN_le (fun z => left z && !z.sameKey (.string f.name)) D.fs
        have h2 := HU.out
        rw [HST.out] at h1
        omega
      have hdn0 : (0 : Int) ≤ (dn : Int) := by omega
      have hm0 : (0 : Int) ≤ (m : Int) := by omega
      have hbw : Below w.heap.size w w1 := HRG.out.2.grown hg1 HRG.out.2.size (fun j hj => by cases hj; exact Nat.le_refl _)
      have HBW : Hid (Below w.heap.size w w1) := hbw
      have hrl := HRG.out.1.left_eq
      have HLT : Hid (w.heap.size < w1.heap.size ∧ b < w1.heap.size ∧ cnt1 < cnt) := ⟨hrg1.lt, hrg1.owns.lt, hlt⟩
      have HRG1 : Hid (w1.ranges Tryd.prog 9 hvS b w.heap.size n M (fun z => left z && !z.sameKey (.string f.name)) cnt1) := hrg1
      have HRL : Hid (wr.rangeLeft b w.heap.size = cnt) := hrl
      have HF1 : Hid (FiAt (w1.alloc (.cells #[.slice none 0 0, .int .i64 0] 60)) w1.heap.size (.slice none 0 0) 0) := FiAt.new w1 _ _
      obtain ⟨V, hV⟩ : ∃ V, Value.slice a m cp = V := ⟨_, rfl⟩
      obtain ⟨S, hS⟩ : ∃ S : Int, (f.s : Int) = S := ⟨_, rfl⟩
      have HONE : Hid ((Value.slice a m cp).oneCell' = true) := by show _ = _; rw [← hfv]; exact hone
      clear hV hS hrl hbw hlt hrg1 hg1 hs1 hlx hy hat hkl hf hfv hfl hcp hone hm
      go_wp2_with (first
        | ((with_reducible refine guard_store 60 ?_); refine wpList_store_fi rfl _ _ rfl rfl HF1.out HONE.out rfl rfl (v2 := .slice a m cp) (s2 := f.s) ?_; intro x3 hf3 ho3 hh3 hs3; have hc3 := hf3.cells.1; have HX3 : Hid (x3.heap.size = w1.heap.size + 1 ∧ (∀ j, j < w1.heap.size → x3.heap[j]? = w1.heap[j]?) ∧ Below w.heap.size w x3) := ⟨hs3.trans (World.size_alloc _ _), fun j hj => (hh3 j (by omega)).trans (Below.heap_alloc _ _ _ (by omega)), ho3 _ _ (HBW.out.alloc HBW.out.size _) (Nat.le_of_lt HLT.out.1)⟩; clear hf3 ho3 hh3 hs3)
        | go_in)
      go_roundw
      case rel => exact ⟨_, _, by rw [HST.out]; go_num, ranges_same HRG1.out (HX3.out.2.1 _ HLT.out.2.1) (HX3.out.2.1 _ HLT.out.1), HX3.out.2.2⟩
      case measure => rw [(ranges_same HRG1.out (HX3.out.2.1 _ HLT.out.2.1) (HX3.out.2.1 _ HLT.out.1)).left_eq, HRL.out]; exact HLT.out.2.2
end Go.Proofs.YtnfkdgjgglnniaaDoor
namespace Go.Proofs.YtnfkdgjgglnniaaDoor
open Go.ChangeShapes Go.WideShapes Go.ChangeAt Go.RowKit
set_option linter.unusedVariables false
set_option linter.unusedSimpArgs false
set_option maxRecDepth 100000 in
set_option maxHeartbeats 2000000 in
theorem free_any (w : World) (base q b : Nat) (D : Dk) (h : DkAt w base q b D) (ho : DkOk D) :
    Calls Tryd.prog 40 #[.pointer (some ⟨q, 0, none⟩)] w fun r w' => r = .returned (.int .i64 (D.room - (usedN D.fs : Nat))) ∧ Below w.heap.size w w' := by
  have hR1 := ho.room
  have hR2 := ho.used
  have c0 := h.cells.1
  obtain ⟨R, hR⟩ : ∃ R, D.room = R := ⟨_, rfl⟩
  obtain ⟨U, hU⟩ : ∃ U : Nat, usedN D.fs = U := ⟨_, rfl⟩
  rw [hR] at hR1 hR2 c0 ⊢
  rw [hU] at hR2 ⊢
  have hU0 : (0 : Int) ≤ (U : Int) := by omega
  have HU : Hid (usedN D.fs = U) := hU
  have HUL : Hid ((usedN D.fs : Int) ≤ 67108864) := by show _ ≤ _; rw [hU]; omega
  have HD : Hid (DkAt w base q b D) := h
  have HX : Hid (∀ x1 : World, Below w.heap.size w x1 → x1.cell? ⟨q, 0, none⟩ = some (.int .i64 R)) := fun x1 hb => by rw [(h.keep hb).cells.1, hR]
  have HW : Hid (IntKind.i64.wrap (R - (U : Int)) = R - (U : Int)) := by show _ = _; rw [wrap_i64]; omega
  clear hR hU h ho
  go_enter Tryd.func40, Tryd.ntmps40
  go_wp2
  go_region_with (go_at_call 58; go_loud (refine (used_any w.drew base q b D (HD.out.moved (fun _ _ _ => rfl)) HUL.out).mono ?_; rw [HU.out]; rintro _ x1 ⟨rfl, hb⟩; have hb1 : Below w.heap.size w x1 := (Below.refl _ w).drew.trans hb; have c0x := HX.out _ hb1; have HB1 : Hid (Below w.heap.size w x1) := hb1; clear hb hb1))
  all_goals go_wp2
  all_goals go_ret
  all_goals exact ⟨by show Ending.returned (Value.int .i64 (IntKind.i64.wrap (R - (U : Int)))) = _; rw [HW.out], HB1.out⟩
end Go.Proofs.YtnfkdgjgglnniaaDoor
