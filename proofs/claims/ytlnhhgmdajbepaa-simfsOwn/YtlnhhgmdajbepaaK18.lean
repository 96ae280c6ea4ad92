/- Own texts, joined: Fmt. -/
import Derived.Test.YtlnhhgmdajbepaaK17
namespace Go.Proofs.Ytlnhhgmdajbepaa
open Go.ChangeShapes Go.WideShapes Go.ChangeAt Go.RowKit
set_option linter.unusedVariables false
set_option linter.unusedSimpArgs false
/-- a file as it is handed in -/
structure Fe where
  name : List UInt8
  l : List Nat
  s : Int
abbrev flV (nm : List UInt8) (v : Value) (s : Int) : Value := .agg #[.string (bs nm), v, .int .i64 s]
def FlAt (w : World) (k : Nat) (nm : List UInt8) (v : Value) (s : Int) : Prop := w.heap[k]? = some (.cells #[.string (bs nm), v, .int .i64 s] 49)
theorem FlAt.cells {w : World} {k : Nat} {nm : List UInt8} {v : Value} {s : Int} (h : FlAt w k nm v s) : w.cell? ⟨k, 0, none⟩ = some (.string (bs nm)) ∧ w.cell? ⟨k, 1, none⟩ = some v ∧ w.cell? ⟨k, 2, none⟩ = some (.int .i64 s) :=
  ⟨by rw [cell_of_row _ _ 0 _ _ _ h]; rfl, by rw [cell_of_row _ _ 1 _ _ _ h]; rfl, by rw [cell_of_row _ _ 2 _ _ _ h]; rfl⟩
theorem FlAt.keep {w w' : World} {k : Nat} {nm : List UInt8} {v : Value} {s : Int} (h : FlAt w k nm v s) (hb : Below w.heap.size w w') : FlAt w' k nm v s := (hb.block k (lt_of_heap h)).trans h
theorem FlAt.new (w : World) (nm : List UInt8) (v : Value) (s : Int) : FlAt (w.alloc (.cells #[.string (bs nm), v, .int .i64 s] 49)) w.heap.size nm v s := heap_alloc_new w _
theorem Try.infoFl3 : (Try.prog.info? 49).map (·.size) = some 3 := by kernel_rfl
theorem FlAt.load {w : World} {k : Nat} {nm : List UInt8} {v : Value} {s : Int} (h : FlAt w k nm v s) : (Instr.loadAt 49 (.pointer (some ⟨k, 0, none⟩))).run Try.prog w = .ok (flV nm v s) w := by
  simp only [Instr.loadAt, Instr.sureAddr, Sem.run_bind, Sem.run_pure, Result.andThen_ok, run_loadVar_row _ _ _ _ _ _ _ h Try.underlying49 rfl Try.infoFl3]
theorem fl_one (nm : List UInt8) (s : Int) {v : Value} (hv : v.oneCell' = true) : (#[.string (bs nm), v, .int .i64 s] : Array Value).all (·.oneCell') = true := by
  rw [← Array.all_toList]
  show (true && (v.oneCell' && (true && true))) = true
  rw [hv]
  rfl
theorem FlAt.store {w : World} {k : Nat} {nm nm2 : List UInt8} {v v2 : Value} {s s2 : Int} (h : FlAt w k nm v s) (hv : v2.oneCell' = true) : ∃ w2, (Instr.storeAt 49 (.pointer (some ⟨k, 0, none⟩)) (flV nm2 v2 s2)).run Try.prog w = .ok () w2 ∧ FlAt w2 k nm2 v2 s2 ∧ (∀ B a, Below B a w → B ≤ k → Below B a w2) := by
  have hall : (#[.string (bs nm2), v2, .int .i64 s2] : Array Value).all (·.oneCell') = true := fl_one nm2 s2 hv
  refine ⟨w.setRow k #[.string (bs nm2), v2, .int .i64 s2], ?_, ?_, fun B a hb hB => ⟨hb.os, hb.tape, hb.output, ?_, fun j hj => ?_⟩⟩
  · have h1 := run_storeVar_row w k 49 49 #[.string (bs nm), v, .int .i64 s] #[.string (bs nm2), v2, .int .i64 s2] h Try.infoFl3 rfl hall
    simp only [Instr.storeAt, Instr.sureAddr, Sem.run_bind, Sem.run_pure, Result.andThen_ok]
    exact h1
  · unfold FlAt at h ⊢
    simp [World.setRow, Array.getElem?_modify, h]
  · have := hb.size; simp [World.setRow]; exact this
  · rw [← hb.block j hj]
    simp only [World.setRow, Array.getElem?_modify]
    rw [if_neg (by omega)]
theorem wpList_load_flb {ops : Array Oper} {rest : List Oper} {o : Oper} {a : Act} {w : World} {Q : Exit → Act → World → Prop} (hgd : o.guard = none) (x : Operand) (ho : o.op = .load 49 x)
    {k : Nat} {nm : List UInt8} {v : Value} {s : Int} (hL : FlAt w k nm v s) (hx : a.eval x = .pointer (some ⟨k, 0, none⟩)) (h : wpList Try.prog ops Q rest (a.put o.dst (flV nm v s)) w) : wpList Try.prog ops Q (o :: rest) a w :=
  wpList_plain hgd fun _ hK => by
    unfold Oper.wp execOp
    simp only [ho, hx, Sem.run_bind, Sem.run_pure, Result.andThen_ok, hL.load]
    exact hK _ _ h
theorem wpList_load_flr {ops : Array Oper} {rest : List Oper} {o : Oper} {a : Act} {w : World} {Q : Exit → Act → World → Prop} (hgd : o.guard = none) (x : Operand) (ho : o.op = .load 49 x)
    {b off : Nat} {nm : List UInt8} {v : Value} {s : Int} (hL : w.rangeAt b off [.string (bs nm), v, .int .i64 s]) (hx : a.eval x = .pointer (some ⟨b, off, none⟩)) (h : wpList Try.prog ops Q rest (a.put o.dst (flV nm v s)) w) : wpList Try.prog ops Q (o :: rest) a w :=
  wpList_plain hgd fun _ hK => by
    unfold Oper.wp execOp
    simp only [ho, hx, Sem.run_bind, Sem.run_pure, Result.andThen_ok, run_loadAt_mid w b off 49 [.string (bs nm), v, .int .i64 s] _ hL Try.underlying49 rfl Try.infoFl3]
    exact hK _ _ h
theorem wpList_store_fl {ops : Array Oper} {rest : List Oper} {o : Oper} {a : Act} {w : World} {Q : Exit → Act → World → Prop} (hgd : o.guard = none) (x y : Operand) (ho : o.op = .store 49 x y) (hd : o.dst = none)
    {k : Nat} {nm nm2 : List UInt8} {v v2 : Value} {s s2 : Int} (hL : FlAt w k nm v s) (hv : v2.oneCell' = true) (hx : a.eval x = .pointer (some ⟨k, 0, none⟩)) (hy : a.eval y = flV nm2 v2 s2)
    (h : ∀ w2, FlAt w2 k nm2 v2 s2 → (∀ B a, Below B a w → B ≤ k → Below B a w2) → wpList Try.prog ops Q rest a w2) : wpList Try.prog ops Q (o :: rest) a w :=
  wpList_plain hgd fun _ hK => by
    obtain ⟨w2, h1, h2, h3⟩ := hL.store (nm2 := nm2) (s2 := s2) hv
    unfold Oper.wp execOp
    simp only [ho, hx, hy, Sem.run_bind, Sem.run_pure, Result.andThen_ok, h1]
    refine hK _ _ ?_
    rw [hd]
    exact h w2 h2 h3
/-- what bars a file from a disk -/
def mntE (A : Ak) (f : Fe) : Nat := if rightS f.name = false then 50 else if (getA A.fs f.name).isSome = true then 52 else if f.s < 0 ∨ (f.l.length : Int) < f.s then 1 else if A.room - (usedA A.fs : Nat) < (f.l.length : Int) then 54 else 0
def mntA (A : Ak) : List Fe → Nat × Ak
  | [] => (0, A)
  | f :: r => if mntE A f ≠ 0 then (mntE A f, A) else mntA (A.put (insA ⟨f.name, f.l, f.s.toNat⟩ A.fs)) r
set_option maxRecDepth 100000 in
set_option maxHeartbeats 4000000 in
theorem mountable_any (x : World) (base q b : Nat) (D : Dk) (h : DkAt x base q b D) (f : Fe) (A2 : Option Addr) (C2 : Nat) (free : Int) (hl : f.name.length ≤ 281474976710656) (hm : f.l.length ≤ 140737488351232) (hf1 : -9223372036854775808 ≤ free) (hf2 : free ≤ 9223372036854775807) (hfr : free = D.ab.room - (usedA D.ab.fs : Nat)) (hsi : inI f.s) :
    Calls Try.prog 50 #[.pointer (some ⟨q, 0, none⟩), flV f.name (.slice A2 f.l.length C2) f.s, .int .i64 free] x fun r x' => r = .returned (.int .i64 (mntE D.ab f : Nat)) ∧ Below x.heap.size x x' := by
  obtain ⟨nm, l, s⟩ := f
  simp only at hl hm hsi
  obtain ⟨m, hlm⟩ : ∃ m, l.length = m := ⟨_, rfl⟩
  have e0 : mntE D.ab ⟨nm, l, s⟩ = if rightS nm = false then 50 else if (getN D.fs nm).isSome = true then 52 else if s < 0 ∨ (m : Int) < s then 1 else if free < (m : Int) then 54 else 0 := by
    unfold mntE
    simp only
    rw [hlm, hfr]
    have e : (getA D.ab.fs nm).isSome = (getN D.fs nm).isSome := by show (getA (D.fs.map Fi.ab) nm).isSome = _; rw [get_ab, Option.isSome_map]
    rw [e]
  rw [e0]
  simp only
  rw [hlm]
  rw [hlm] at hm
  have hmI : (m : Int) ≤ 140737488351232 := by omega
  have hm0 : (0 : Int) ≤ (m : Int) := by omega
  obtain ⟨v, hv⟩ : ∃ v, Value.slice A2 m C2 = v := ⟨_, rfl⟩
  have hb0 : Below x.heap.size x (x.alloc (.cells #[.string (bs nm), .slice A2 m C2, .int .i64 s] 49)) := (Below.refl _ _).alloc (Nat.le_refl _) _
  have hrow : FlAt (x.alloc (.cells #[.string (bs nm), .slice A2 m C2, .int .i64 s] 49)) x.heap.size nm (.slice A2 m C2) s := FlAt.new _ _ _ _
  obtain ⟨c0, c1, c2⟩ := hrow.cells
  have HL : Hid (nm.length ≤ 281474976710656) := hl
  have HD : Hid (DkAt x base q b D) := h
  have HLT : Hid (q < x.heap.size ∧ b < x.heap.size) := h.lt
  have hd0 := h.keep hb0
  have HX0 : Hid (x.alloc (.cells #[.string (bs nm), .slice A2 m C2, .int .i64 s] 49) = x.alloc (.cells #[.string (bs nm), .slice A2 m C2, .int .i64 s] 49) ∧ Below x.heap.size x (x.alloc (.cells #[.string (bs nm), .slice A2 m C2, .int .i64 s] 49)) ∧ FlAt (x.alloc (.cells #[.string (bs nm), .slice A2 m C2, .int .i64 s] 49)) x.heap.size nm (.slice A2 m C2) s ∧ DkAt (x.alloc (.cells #[.string (bs nm), .slice A2 m C2, .int .i64 s] 49)) base q b D) := ⟨rfl, hb0, hrow, hd0⟩
  have HRT : Hid (∀ y, Calls Try.prog 25 #[.string (bs nm)] y fun e w' => e = .returned (.bool (rightS nm)) ∧ y = w') := fun y => right_any nm y hl
  clear hv v e0 hb0 hrow hd0 h hl hlm hm hfr
  cases hR : rightS nm with
  | false =>
    rw [hR] at HRT
    rw [if_pos rfl]
    clear hR
    go_enter Try.func50, Try.ntmps50
    go_wp2_with (first
      | (go_at_call 25; refine (HRT.out _).mono ?_; rintro _ x1 ⟨rfl, rfl⟩)
      | go_in)
    go_ret
    exact ⟨rfl, HX0.out.2.1⟩
  | true =>
    rw [hR] at HRT
    rw [if_neg (by simp)]
    clear hR
    obtain ⟨LV, LS, LB, hLK, hone, hLB⟩ : ∃ (LV : Value) (LS : Int) (LB : Bool), (∀ y : World, y.heap[b]? = (x.alloc (.cells #[.string (bs nm), .slice A2 m C2, .int .i64 s] 49)).heap[b]? → (Instr.lookup 73 (.map (some b)) (.string (bs nm)) true).run Try.prog y = .ok (.tuple #[fiV LV LS, .bool LB]) y) ∧ LV.oneCell' = true ∧ LB = (getN D.fs nm).isSome := by
      obtain ⟨M, hm, hr⟩ := HX0.out.2.2.2.map
      cases hN : getN D.fs nm with
      | none =>
        refine ⟨.slice none 0 0, 0, false, fun y hy => ?_, rfl, rfl⟩
        have h1 := lookS (owns_sameS hm hy) hr HL.out
        rw [hN] at h1
        exact h1
      | some f =>
        refine ⟨f.v, f.s, true, fun y hy => ?_, ?_, rfl⟩
        · have h1 := lookS (owns_sameS hm hy) hr HL.out
          rw [hN] at h1
          exact h1
        · obtain ⟨_, _, _, _, _, _, _, h1⟩ := (HD.out.dat f (getN_mem hN).1).bytes
          exact h1
    rw [← hLB]
    have HLK : Hid (∀ y : World, y.heap[b]? = (x.alloc (.cells #[.string (bs nm), .slice A2 m C2, .int .i64 s] 49)).heap[b]? → (Instr.lookup 73 (.map (some b)) (.string (bs nm)) true).run Try.prog y = .ok (.tuple #[fiV LV LS, .bool LB]) y) := hLK
    have HONE : Hid (LV.oneCell' = true) := hone
    have HC1 : Hid ((x.alloc (.cells #[.string (bs nm), .slice A2 m C2, .int .i64 s] 49)).cell? ⟨q, 1, none⟩ = some (.map (some b))) := HX0.out.2.2.2.cells.2.1
    clear hLK hone hLB
    cases LB with
    | true =>
      rw [if_pos rfl]
      go_enter Try.func50, Try.ntmps50
      go_wp2_with (first
        | (go_at_call 25; refine (HRT.out _).mono ?_; rintro _ x1 ⟨rfl, rfl⟩)
        | go_in)
      obtain ⟨x0, hx0⟩ : ∃ x0, x.alloc (.cells #[.string (bs nm), .slice A2 m C2, .int .i64 s] 49) = x0 := ⟨_, rfl⟩
      rw [hx0] at HLK HC1 HX0 c0 c1 c2
      rw [hx0]
      have HB0 : Hid (Below x.heap.size x x0) := HX0.out.2.1
      have HFB : Hid (FlAt x0 x.heap.size nm (.slice A2 m C2) s) := HX0.out.2.2.1
      clear hx0
      refine wp_region_held (S := (fun y => y.heap[q]? = x0.heap[q]? ∧ y.heap[b]? = x0.heap[b]? ∧ FlAt y x.heap.size nm (.slice A2 m C2) s)) (by kernel_rfl) ?_
      change wpAnyH _ _ _ _ _ _ _ _ (World.drew _)
      obtain ⟨xd, hxd⟩ : ∃ xd, x0.drew = xd := ⟨_, rfl⟩
      have HBD : Hid (Below x.heap.size x xd) := by rw [← hxd]; exact HB0.out.trans ((Below.refl _ _).drew)
      have HPD : Hid (xd.heap[q]? = x0.heap[q]? ∧ xd.heap[b]? = x0.heap[b]? ∧ FlAt xd x.heap.size nm (.slice A2 m C2) s) := by rw [← hxd]; exact ⟨rfl, rfl, HFB.out⟩
      rw [hxd]
      clear hxd
      refine wpAnyH_take (i := 0) (oi := { dst := some 14, op := Op.move (Operand.tmp 0), type := 24, pos := "simfs.go:70", after := #[], guard := none }) (v := ?_) rfl (by kernel_rfl) (by kernel_rfl) (by kernel_rfl) (fun _ _ _ h => h) (Or.inl ⟨by rfl, ?_⟩) HPD.out ?_
      rotate_left
      · (intro y hy; go_simp; try (with_reducible rfl))
      simp only [Act.put, List.setIfInBounds_toArray, List.set_cons_zero, List.set_cons_succ]
      refine wpAnyH_take (i := 1) (oi := { dst := some 15, op := Op.nilCheck (Operand.tmp 14), type := 0, pos := "simfs.go:70", after := #[{ on := 0, ground := Ground.data }], guard := none }) (v := ?_) rfl (by kernel_rfl) (by kernel_rfl) (by kernel_rfl) (fun _ _ _ h => h) (Or.inl ⟨by rfl, ?_⟩) HPD.out ?_
      rotate_left
      · (intro y hy; go_simp; try (with_reducible rfl))
      simp only [Act.put, List.setIfInBounds_toArray, List.set_cons_zero, List.set_cons_succ]
      refine wpAnyH_take (i := 2) (oi := { dst := some 16, op := Op.fieldAddr 75 (Operand.tmp 15) 1, type := 0, pos := "simfs.go:70", after := #[{ on := 1, ground := Ground.data }], guard := none }) (v := ?_) rfl (by kernel_rfl) (by kernel_rfl) (by kernel_rfl) (fun _ _ _ h => h) (Or.inl ⟨by rfl, ?_⟩) HPD.out ?_
      rotate_left
      · (intro y hy; go_simp; try (with_reducible rfl))
      simp only [Act.put, List.setIfInBounds_toArray, List.set_cons_zero, List.set_cons_succ]
      refine wpAnyH_take (i := 3) (oi := { dst := some 17, op := Op.load 73 (Operand.tmp 16), type := 73, pos := "simfs.go:70", after := #[{ on := 2, ground := Ground.data }], guard := none }) (v := .map (some b)) rfl (by kernel_rfl) (by kernel_rfl) (by kernel_rfl) (fun _ _ _ h => h) (Or.inl ⟨by rfl, ?_⟩) HPD.out ?_
      · (intro y hy; have h0 := (cell_heapS hy.1 1).trans HC1.out; go_simp)
      simp only [Act.put, List.setIfInBounds_toArray, List.set_cons_zero, List.set_cons_succ]
      refine wpAnyH_take (i := 4) (oi := { dst := some 18, op := Op.fieldAddr 49 (Operand.tmp 4) 0, type := 0, pos := "simfs.go:70", after := #[], guard := none }) (v := ?_) rfl (by kernel_rfl) (by kernel_rfl) (by kernel_rfl) (fun _ _ _ h => h) (Or.inl ⟨by rfl, ?_⟩) HPD.out ?_
      rotate_left
      · (intro y hy; go_simp; try (with_reducible rfl))
      simp only [Act.put, List.setIfInBounds_toArray, List.set_cons_zero, List.set_cons_succ]
      refine wpAnyH_take (i := 5) (oi := { dst := some 19, op := Op.load 9 (Operand.tmp 18), type := 9, pos := "simfs.go:70", after := #[{ on := 4, ground := Ground.data }], guard := none }) (v := .string (bs nm)) rfl (by kernel_rfl) (by kernel_rfl) (by kernel_rfl) (fun _ _ _ h => h) (Or.inl ⟨by rfl, ?_⟩) HPD.out ?_
      · (intro y hy; have h0 := hy.2.2.cells.1; go_simp)
      simp only [Act.put, List.setIfInBounds_toArray, List.set_cons_zero, List.set_cons_succ]
      refine wpAnyH_take (i := 6) (oi := { dst := some 20, op := Op.lookup 73 (Operand.tmp 17) (Operand.tmp 19) true, type := 88, pos := "simfs.go:70", after := #[{ on := 3, ground := Ground.data }, { on := 5, ground := Ground.data }], guard := none }) (v := .tuple #[fiV LV LS, .bool true]) rfl (by kernel_rfl) (by kernel_rfl) (by kernel_rfl) (fun _ _ _ h => h) (Or.inl ⟨by rfl, ?_⟩) HPD.out ?_
      · (intro y hy; have h0 := HLK.out y hy.2.1; go_simp)
      simp only [Act.put, List.setIfInBounds_toArray, List.set_cons_zero, List.set_cons_succ]
      refine wpAnyH_take (i := 7) (oi := { dst := some 13, op := Op.move (Operand.tmp 20), type := 88, pos := "simfs.go:70", after := #[{ on := 6, ground := Ground.data }], guard := none }) (v := ?_) rfl (by kernel_rfl) (by kernel_rfl) (by kernel_rfl) (fun _ _ _ h => h) (Or.inl ⟨by rfl, ?_⟩) HPD.out ?_
      rotate_left
      · (intro y hy; go_simp; try (with_reducible rfl))
      simp only [Act.put, List.setIfInBounds_toArray, List.set_cons_zero, List.set_cons_succ]
      refine wpAnyH_take (i := 8) (oi := { dst := some 21, op := Op.extract (Operand.tmp 13) 0, type := 85, pos := "simfs.go:70", after := #[{ on := 7, ground := Ground.data }], guard := none }) (v := ?_) rfl (by kernel_rfl) (by kernel_rfl) (by kernel_rfl) (fun _ _ _ h => h) (Or.inl ⟨by rfl, ?_⟩) HPD.out ?_
      rotate_left
      · (intro y hy; go_simp; try (with_reducible rfl))
      simp only [Act.put, List.setIfInBounds_toArray, List.set_cons_zero, List.set_cons_succ]
      refine wpAnyH_take (i := 9) (oi := { dst := some 22, op := Op.extract (Operand.tmp 13) 1, type := 4, pos := "simfs.go:70", after := #[{ on := 7, ground := Ground.data }, { on := 11, ground := Ground.gcOnly Departure.lateStores }], guard := none }) (v := ?_) rfl (by kernel_rfl) (by kernel_rfl) (by kernel_rfl) (fun _ _ _ h => h) (Or.inl ⟨by rfl, ?_⟩) HPD.out ?_
      rotate_left
      · (intro y hy; go_simp; try (with_reducible rfl))
      simp only [Act.put, List.setIfInBounds_toArray, List.set_cons_zero, List.set_cons_succ]
      refine wpAnyH_ready (rs := [10]) (by kernel_rfl) (by simp) ?_
      refine AllReadyH.cons (o := { dst := some 7, op := Op.alloc 85, type := 0, pos := "simfs.go:70", after := #[], guard := none }) rfl (fun K hK => ?_) AllReadyH.nil
      go_simp
      have hn1 := FiAt.new xd (.slice none 0 0) 0
      obtain ⟨x1, hx1⟩ : ∃ x1, xd.alloc (.cells #[.slice none 0 0, .int .i64 0] 85) = x1 := ⟨_, rfl⟩
      rw [hx1]
      have hb1 : Below xd.heap.size xd x1 := by rw [← hx1]; exact (Below.refl _ _).alloc (Nat.le_refl _) _
      have HN1 : Hid (FiAt x1 xd.heap.size (.slice none 0 0) 0) := by rw [← hx1]; exact hn1
      have HB1 : Hid (Below x.heap.size x x1) := HBD.out.trans (hb1.mono HBD.out.size)
      have HP1 : Hid (x1.heap[q]? = x0.heap[q]? ∧ x1.heap[b]? = x0.heap[b]? ∧ FlAt x1 x.heap.size nm (.slice A2 m C2) s) := ⟨(hb1.block q (Nat.lt_of_lt_of_le HLT.out.1 HBD.out.size)).trans HPD.out.1, (hb1.block b (Nat.lt_of_lt_of_le HLT.out.2 HBD.out.size)).trans HPD.out.2.1, HPD.out.2.2.keep hb1⟩
      clear hx1 hb1 hn1
      (refine hK _ _ HP1.out ?_; clear hK K; intro _)
      try simp only [Act.put, List.setIfInBounds_toArray, List.set_cons_zero, List.set_cons_succ]
      refine wpAnyH_ready (rs := [11]) (by kernel_rfl) (by simp) ?_
      refine AllReadyH.cons (o := { dst := none, op := Op.store 85 (Operand.tmp 7) (Operand.tmp 21), type := 0, pos := "simfs.go:70", after := #[{ on := 10, ground := Ground.data }, { on := 8, ground := Ground.data }, { on := 0, ground := Ground.phase }, { on := 1, ground := Ground.phase }, { on := 2, ground := Ground.phase }, { on := 3, ground := Ground.phase }, { on := 4, ground := Ground.phase }, { on := 5, ground := Ground.phase }, { on := 6, ground := Ground.phase }, { on := 7, ground := Ground.phase }, { on := 8, ground := Ground.phase }, { on := 9, ground := Ground.textOnly Departure.lateStores }, { on := 10, ground := Ground.phase }], guard := none }) rfl (fun K hK => ?_) AllReadyH.nil
      refine step_store_fi rfl _ _ rfl rfl HN1.out HONE.out rfl rfl (v2 := LV) (s2 := LS) ?_
      intro x2 hf2 ho2
      have HB2 : Hid (Below x.heap.size x x2) := ho2 _ _ HB1.out HBD.out.size
      have hlow : ∀ k, k < xd.heap.size → x2.heap[k]? = x1.heap[k]? := fun k hk => (ho2 _ _ (Below.refl xd.heap.size x1) (Nat.le_refl _)).block k hk
      have HP2 : Hid (x2.heap[q]? = x0.heap[q]? ∧ x2.heap[b]? = x0.heap[b]? ∧ FlAt x2 x.heap.size nm (.slice A2 m C2) s) := ⟨(hlow q (Nat.lt_of_lt_of_le HLT.out.1 HBD.out.size)).trans HP1.out.1, (hlow b (Nat.lt_of_lt_of_le HLT.out.2 HBD.out.size)).trans HP1.out.2.1, (hlow _ (lt_of_heap HPD.out.2.2)).trans HP1.out.2.2⟩
      clear hf2 ho2 hlow
      (refine hK _ _ HP2.out ?_; clear hK K; intro _)
      try simp only [Act.put, List.setIfInBounds_toArray, List.set_cons_zero, List.set_cons_succ]
      refine wpAnyH_ready (rs := [12]) (by kernel_rfl) (by simp) ?_
      refine AllReadyH.cons (o := { dst := some 8, op := Op.assign (Operand.tmp 22), type := 4, pos := "simfs.go:70", after := #[{ on := 9, ground := Ground.data }, { on := 11, ground := Ground.chain }, { on := 0, ground := Ground.phase }, { on := 1, ground := Ground.phase }, { on := 2, ground := Ground.phase }, { on := 3, ground := Ground.phase }, { on := 4, ground := Ground.phase }, { on := 5, ground := Ground.phase }, { on := 6, ground := Ground.phase }, { on := 7, ground := Ground.phase }, { on := 8, ground := Ground.phase }, { on := 9, ground := Ground.phase }, { on := 10, ground := Ground.phase }, { on := 11, ground := Ground.phase }], guard := none }) rfl (fun K hK => ?_) AllReadyH.nil
      go_simp
      (refine hK _ _ HP2.out ?_; clear hK K; intro _)
      try simp only [Act.put, List.setIfInBounds_toArray, List.set_cons_zero, List.set_cons_succ]
      refine wpAnyH_done (by kernel_rfl) ?_ _
      obtain ⟨f0, f1, f2⟩ := HP2.out.2.2.cells
      go_wp2
      go_ret
      exact ⟨rfl, HB2.out⟩
    | false =>
      rw [if_neg (by simp)]
      by_cases b1 : s < 0
      · rw [if_pos (.inl b1)]
        go_enter Try.func50, Try.ntmps50
        go_wp2_with (first
          | (go_at_call 25; refine (HRT.out _).mono ?_; rintro _ x1 ⟨rfl, rfl⟩)
          | go_in)
        obtain ⟨x0, hx0⟩ : ∃ x0, x.alloc (.cells #[.string (bs nm), .slice A2 m C2, .int .i64 s] 49) = x0 := ⟨_, rfl⟩
        rw [hx0] at HLK HC1 HX0 c0 c1 c2
        rw [hx0]
        have HB0 : Hid (Below x.heap.size x x0) := HX0.out.2.1
        have HFB : Hid (FlAt x0 x.heap.size nm (.slice A2 m C2) s) := HX0.out.2.2.1
        clear hx0
        refine wp_region_held (S := (fun y => y.heap[q]? = x0.heap[q]? ∧ y.heap[b]? = x0.heap[b]? ∧ FlAt y x.heap.size nm (.slice A2 m C2) s)) (by kernel_rfl) ?_
        change wpAnyH _ _ _ _ _ _ _ _ (World.drew _)
        obtain ⟨xd, hxd⟩ : ∃ xd, x0.drew = xd := ⟨_, rfl⟩
        have HBD : Hid (Below x.heap.size x xd) := by rw [← hxd]; exact HB0.out.trans ((Below.refl _ _).drew)
        have HPD : Hid (xd.heap[q]? = x0.heap[q]? ∧ xd.heap[b]? = x0.heap[b]? ∧ FlAt xd x.heap.size nm (.slice A2 m C2) s) := by rw [← hxd]; exact ⟨rfl, rfl, HFB.out⟩
        rw [hxd]
        clear hxd
        refine wpAnyH_take (i := 0) (oi := { dst := some 14, op := Op.move (Operand.tmp 0), type := 24, pos := "simfs.go:70", after := #[], guard := none }) (v := ?_) rfl (by kernel_rfl) (by kernel_rfl) (by kernel_rfl) (fun _ _ _ h => h) (Or.inl ⟨by rfl, ?_⟩) HPD.out ?_
        rotate_left
        · (intro y hy; go_simp; try (with_reducible rfl))
        simp only [Act.put, List.setIfInBounds_toArray, List.set_cons_zero, List.set_cons_succ]
        refine wpAnyH_take (i := 1) (oi := { dst := some 15, op := Op.nilCheck (Operand.tmp 14), type := 0, pos := "simfs.go:70", after := #[{ on := 0, ground := Ground.data }], guard := none }) (v := ?_) rfl (by kernel_rfl) (by kernel_rfl) (by kernel_rfl) (fun _ _ _ h => h) (Or.inl ⟨by rfl, ?_⟩) HPD.out ?_
        rotate_left
        · (intro y hy; go_simp; try (with_reducible rfl))
        simp only [Act.put, List.setIfInBounds_toArray, List.set_cons_zero, List.set_cons_succ]
        refine wpAnyH_take (i := 2) (oi := { dst := some 16, op := Op.fieldAddr 75 (Operand.tmp 15) 1, type := 0, pos := "simfs.go:70", after := #[{ on := 1, ground := Ground.data }], guard := none }) (v := ?_) rfl (by kernel_rfl) (by kernel_rfl) (by kernel_rfl) (fun _ _ _ h => h) (Or.inl ⟨by rfl, ?_⟩) HPD.out ?_
        rotate_left
        · (intro y hy; go_simp; try (with_reducible rfl))
        simp only [Act.put, List.setIfInBounds_toArray, List.set_cons_zero, List.set_cons_succ]
        refine wpAnyH_take (i := 3) (oi := { dst := some 17, op := Op.load 73 (Operand.tmp 16), type := 73, pos := "simfs.go:70", after := #[{ on := 2, ground := Ground.data }], guard := none }) (v := .map (some b)) rfl (by kernel_rfl) (by kernel_rfl) (by kernel_rfl) (fun _ _ _ h => h) (Or.inl ⟨by rfl, ?_⟩) HPD.out ?_
        · (intro y hy; have h0 := (cell_heapS hy.1 1).trans HC1.out; go_simp)
        simp only [Act.put, List.setIfInBounds_toArray, List.set_cons_zero, List.set_cons_succ]
        refine wpAnyH_take (i := 4) (oi := { dst := some 18, op := Op.fieldAddr 49 (Operand.tmp 4) 0, type := 0, pos := "simfs.go:70", after := #[], guard := none }) (v := ?_) rfl (by kernel_rfl) (by kernel_rfl) (by kernel_rfl) (fun _ _ _ h => h) (Or.inl ⟨by rfl, ?_⟩) HPD.out ?_
        rotate_left
        · (intro y hy; go_simp; try (with_reducible rfl))
        simp only [Act.put, List.setIfInBounds_toArray, List.set_cons_zero, List.set_cons_succ]
        refine wpAnyH_take (i := 5) (oi := { dst := some 19, op := Op.load 9 (Operand.tmp 18), type := 9, pos := "simfs.go:70", after := #[{ on := 4, ground := Ground.data }], guard := none }) (v := .string (bs nm)) rfl (by kernel_rfl) (by kernel_rfl) (by kernel_rfl) (fun _ _ _ h => h) (Or.inl ⟨by rfl, ?_⟩) HPD.out ?_
        · (intro y hy; have h0 := hy.2.2.cells.1; go_simp)
        simp only [Act.put, List.setIfInBounds_toArray, List.set_cons_zero, List.set_cons_succ]
        refine wpAnyH_take (i := 6) (oi := { dst := some 20, op := Op.lookup 73 (Operand.tmp 17) (Operand.tmp 19) true, type := 88, pos := "simfs.go:70", after := #[{ on := 3, ground := Ground.data }, { on := 5, ground := Ground.data }], guard := none }) (v := .tuple #[fiV LV LS, .bool false]) rfl (by kernel_rfl) (by kernel_rfl) (by kernel_rfl) (fun _ _ _ h => h) (Or.inl ⟨by rfl, ?_⟩) HPD.out ?_
        · (intro y hy; have h0 := HLK.out y hy.2.1; go_simp)
        simp only [Act.put, List.setIfInBounds_toArray, List.set_cons_zero, List.set_cons_succ]
        refine wpAnyH_take (i := 7) (oi := { dst := some 13, op := Op.move (Operand.tmp 20), type := 88, pos := "simfs.go:70", after := #[{ on := 6, ground := Ground.data }], guard := none }) (v := ?_) rfl (by kernel_rfl) (by kernel_rfl) (by kernel_rfl) (fun _ _ _ h => h) (Or.inl ⟨by rfl, ?_⟩) HPD.out ?_
        rotate_left
        · (intro y hy; go_simp; try (with_reducible rfl))
        simp only [Act.put, List.setIfInBounds_toArray, List.set_cons_zero, List.set_cons_succ]
        refine wpAnyH_take (i := 8) (oi := { dst := some 21, op := Op.extract (Operand.tmp 13) 0, type := 85, pos := "simfs.go:70", after := #[{ on := 7, ground := Ground.data }], guard := none }) (v := ?_) rfl (by kernel_rfl) (by kernel_rfl) (by kernel_rfl) (fun _ _ _ h => h) (Or.inl ⟨by rfl, ?_⟩) HPD.out ?_
        rotate_left
        · (intro y hy; go_simp; try (with_reducible rfl))
        simp only [Act.put, List.setIfInBounds_toArray, List.set_cons_zero, List.set_cons_succ]
        refine wpAnyH_take (i := 9) (oi := { dst := some 22, op := Op.extract (Operand.tmp 13) 1, type := 4, pos := "simfs.go:70", after := #[{ on := 7, ground := Ground.data }, { on := 11, ground := Ground.gcOnly Departure.lateStores }], guard := none }) (v := ?_) rfl (by kernel_rfl) (by kernel_rfl) (by kernel_rfl) (fun _ _ _ h => h) (Or.inl ⟨by rfl, ?_⟩) HPD.out ?_
        rotate_left
        · (intro y hy; go_simp; try (with_reducible rfl))
        simp only [Act.put, List.setIfInBounds_toArray, List.set_cons_zero, List.set_cons_succ]
        refine wpAnyH_ready (rs := [10]) (by kernel_rfl) (by simp) ?_
        refine AllReadyH.cons (o := { dst := some 7, op := Op.alloc 85, type := 0, pos := "simfs.go:70", after := #[], guard := none }) rfl (fun K hK => ?_) AllReadyH.nil
        go_simp
        have hn1 := FiAt.new xd (.slice none 0 0) 0
        obtain ⟨x1, hx1⟩ : ∃ x1, xd.alloc (.cells #[.slice none 0 0, .int .i64 0] 85) = x1 := ⟨_, rfl⟩
        rw [hx1]
        have hb1 : Below xd.heap.size xd x1 := by rw [← hx1]; exact (Below.refl _ _).alloc (Nat.le_refl _) _
        have HN1 : Hid (FiAt x1 xd.heap.size (.slice none 0 0) 0) := by rw [← hx1]; exact hn1
        have HB1 : Hid (Below x.heap.size x x1) := HBD.out.trans (hb1.mono HBD.out.size)
        have HP1 : Hid (x1.heap[q]? = x0.heap[q]? ∧ x1.heap[b]? = x0.heap[b]? ∧ FlAt x1 x.heap.size nm (.slice A2 m C2) s) := ⟨(hb1.block q (Nat.lt_of_lt_of_le HLT.out.1 HBD.out.size)).trans HPD.out.1, (hb1.block b (Nat.lt_of_lt_of_le HLT.out.2 HBD.out.size)).trans HPD.out.2.1, HPD.out.2.2.keep hb1⟩
        clear hx1 hb1 hn1
        (refine hK _ _ HP1.out ?_; clear hK K; intro _)
        try simp only [Act.put, List.setIfInBounds_toArray, List.set_cons_zero, List.set_cons_succ]
        refine wpAnyH_ready (rs := [11]) (by kernel_rfl) (by simp) ?_
        refine AllReadyH.cons (o := { dst := none, op := Op.store 85 (Operand.tmp 7) (Operand.tmp 21), type := 0, pos := "simfs.go:70", after := #[{ on := 10, ground := Ground.data }, { on := 8, ground := Ground.data }, { on := 0, ground := Ground.phase }, { on := 1, ground := Ground.phase }, { on := 2, ground := Ground.phase }, { on := 3, ground := Ground.phase }, { on := 4, ground := Ground.phase }, { on := 5, ground := Ground.phase }, { on := 6, ground := Ground.phase }, { on := 7, ground := Ground.phase }, { on := 8, ground := Ground.phase }, { on := 9, ground := Ground.textOnly Departure.lateStores }, { on := 10, ground := Ground.phase }], guard := none }) rfl (fun K hK => ?_) AllReadyH.nil
        refine step_store_fi rfl _ _ rfl rfl HN1.out HONE.out rfl rfl (v2 := LV) (s2 := LS) ?_
        intro x2 hf2 ho2
        have HB2 : Hid (Below x.heap.size x x2) := ho2 _ _ HB1.out HBD.out.size
        have hlow : ∀ k, k < xd.heap.size → x2.heap[k]? = x1.heap[k]? := fun k hk => (ho2 _ _ (Below.refl xd.heap.size x1) (Nat.le_refl _)).block k hk
        have HP2 : Hid (x2.heap[q]? = x0.heap[q]? ∧ x2.heap[b]? = x0.heap[b]? ∧ FlAt x2 x.heap.size nm (.slice A2 m C2) s) := ⟨(hlow q (Nat.lt_of_lt_of_le HLT.out.1 HBD.out.size)).trans HP1.out.1, (hlow b (Nat.lt_of_lt_of_le HLT.out.2 HBD.out.size)).trans HP1.out.2.1, (hlow _ (lt_of_heap HPD.out.2.2)).trans HP1.out.2.2⟩
        clear hf2 ho2 hlow
        (refine hK _ _ HP2.out ?_; clear hK K; intro _)
        try simp only [Act.put, List.setIfInBounds_toArray, List.set_cons_zero, List.set_cons_succ]
        refine wpAnyH_ready (rs := [12]) (by kernel_rfl) (by simp) ?_
        refine AllReadyH.cons (o := { dst := some 8, op := Op.assign (Operand.tmp 22), type := 4, pos := "simfs.go:70", after := #[{ on := 9, ground := Ground.data }, { on := 11, ground := Ground.chain }, { on := 0, ground := Ground.phase }, { on := 1, ground := Ground.phase }, { on := 2, ground := Ground.phase }, { on := 3, ground := Ground.phase }, { on := 4, ground := Ground.phase }, { on := 5, ground := Ground.phase }, { on := 6, ground := Ground.phase }, { on := 7, ground := Ground.phase }, { on := 8, ground := Ground.phase }, { on := 9, ground := Ground.phase }, { on := 10, ground := Ground.phase }, { on := 11, ground := Ground.phase }], guard := none }) rfl (fun K hK => ?_) AllReadyH.nil
        go_simp
        (refine hK _ _ HP2.out ?_; clear hK K; intro _)
        try simp only [Act.put, List.setIfInBounds_toArray, List.set_cons_zero, List.set_cons_succ]
        refine wpAnyH_done (by kernel_rfl) ?_ _
        obtain ⟨f0, f1, f2⟩ := HP2.out.2.2.cells
        go_wp2
        go_ret
        exact ⟨rfl, HB2.out⟩
      · by_cases b2 : (m : Int) < s
        · rw [if_pos (.inr b2)]
          go_enter Try.func50, Try.ntmps50
          go_wp2_with (first
            | (go_at_call 25; refine (HRT.out _).mono ?_; rintro _ x1 ⟨rfl, rfl⟩)
            | go_in)
          obtain ⟨x0, hx0⟩ : ∃ x0, x.alloc (.cells #[.string (bs nm), .slice A2 m C2, .int .i64 s] 49) = x0 := ⟨_, rfl⟩
          rw [hx0] at HLK HC1 HX0 c0 c1 c2
          rw [hx0]
          have HB0 : Hid (Below x.heap.size x x0) := HX0.out.2.1
          have HFB : Hid (FlAt x0 x.heap.size nm (.slice A2 m C2) s) := HX0.out.2.2.1
          clear hx0
          refine wp_region_held (S := (fun y => y.heap[q]? = x0.heap[q]? ∧ y.heap[b]? = x0.heap[b]? ∧ FlAt y x.heap.size nm (.slice A2 m C2) s)) (by kernel_rfl) ?_
          change wpAnyH _ _ _ _ _ _ _ _ (World.drew _)
          obtain ⟨xd, hxd⟩ : ∃ xd, x0.drew = xd := ⟨_, rfl⟩
          have HBD : Hid (Below x.heap.size x xd) := by rw [← hxd]; exact HB0.out.trans ((Below.refl _ _).drew)
          have HPD : Hid (xd.heap[q]? = x0.heap[q]? ∧ xd.heap[b]? = x0.heap[b]? ∧ FlAt xd x.heap.size nm (.slice A2 m C2) s) := by rw [← hxd]; exact ⟨rfl, rfl, HFB.out⟩
          rw [hxd]
          clear hxd
          refine wpAnyH_take (i := 0) (oi := { dst := some 14, op := Op.move (Operand.tmp 0), type := 24, pos := "simfs.go:70", after := #[], guard := none }) (v := ?_) rfl (by kernel_rfl) (by kernel_rfl) (by kernel_rfl) (fun _ _ _ h => h) (Or.inl ⟨by rfl, ?_⟩) HPD.out ?_
          rotate_left
          · (intro y hy; go_simp; try (with_reducible rfl))
          simp only [Act.put, List.setIfInBounds_toArray, List.set_cons_zero, List.set_cons_succ]
          refine wpAnyH_take (i := 1) (oi := { dst := some 15, op := Op.nilCheck (Operand.tmp 14), type := 0, pos := "simfs.go:70", after := #[{ on := 0, ground := Ground.data }], guard := none }) (v := ?_) rfl (by kernel_rfl) (by kernel_rfl) (by kernel_rfl) (fun _ _ _ h => h) (Or.inl ⟨by rfl, ?_⟩) HPD.out ?_
          rotate_left
          · (intro y hy; go_simp; try (with_reducible rfl))
          simp only [Act.put, List.setIfInBounds_toArray, List.set_cons_zero, List.set_cons_succ]
          refine wpAnyH_take (i := 2) (oi := { dst := some 16, op := Op.fieldAddr 75 (Operand.tmp 15) 1, type := 0, pos := "simfs.go:70", after := #[{ on := 1, ground := Ground.data }], guard := none }) (v := ?_) rfl (by kernel_rfl) (by kernel_rfl) (by kernel_rfl) (fun _ _ _ h => h) (Or.inl ⟨by rfl, ?_⟩) HPD.out ?_
          rotate_left
          · (intro y hy; go_simp; try (with_reducible rfl))
          simp only [Act.put, List.setIfInBounds_toArray, List.set_cons_zero, List.set_cons_succ]
          refine wpAnyH_take (i := 3) (oi := { dst := some 17, op := Op.load 73 (Operand.tmp 16), type := 73, pos := "simfs.go:70", after := #[{ on := 2, ground := Ground.data }], guard := none }) (v := .map (some b)) rfl (by kernel_rfl) (by kernel_rfl) (by kernel_rfl) (fun _ _ _ h => h) (Or.inl ⟨by rfl, ?_⟩) HPD.out ?_
          · (intro y hy; have h0 := (cell_heapS hy.1 1).trans HC1.out; go_simp)
          simp only [Act.put, List.setIfInBounds_toArray, List.set_cons_zero, List.set_cons_succ]
          refine wpAnyH_take (i := 4) (oi := { dst := some 18, op := Op.fieldAddr 49 (Operand.tmp 4) 0, type := 0, pos := "simfs.go:70", after := #[], guard := none }) (v := ?_) rfl (by kernel_rfl) (by kernel_rfl) (by kernel_rfl) (fun _ _ _ h => h) (Or.inl ⟨by rfl, ?_⟩) HPD.out ?_
          rotate_left
          · (intro y hy; go_simp; try (with_reducible rfl))
          simp only [Act.put, List.setIfInBounds_toArray, List.set_cons_zero, List.set_cons_succ]
          refine wpAnyH_take (i := 5) (oi := { dst := some 19, op := Op.load 9 (Operand.tmp 18), type := 9, pos := "simfs.go:70", after := #[{ on := 4, ground := Ground.data }], guard := none }) (v := .string (bs nm)) rfl (by kernel_rfl) (by kernel_rfl) (by kernel_rfl) (fun _ _ _ h => h) (Or.inl ⟨by rfl, ?_⟩) HPD.out ?_
          · (intro y hy; have h0 := hy.2.2.cells.1; go_simp)
          simp only [Act.put, List.setIfInBounds_toArray, List.set_cons_zero, List.set_cons_succ]
          refine wpAnyH_take (i := 6) (oi := { dst := some 20, op := Op.lookup 73 (Operand.tmp 17) (Operand.tmp 19) true, type := 88, pos := "simfs.go:70", after := #[{ on := 3, ground := Ground.data }, { on := 5, ground := Ground.data }], guard := none }) (v := .tuple #[fiV LV LS, .bool false]) rfl (by kernel_rfl) (by kernel_rfl) (by kernel_rfl) (fun _ _ _ h => h) (Or.inl ⟨by rfl, ?_⟩) HPD.out ?_
          · (intro y hy; have h0 := HLK.out y hy.2.1; go_simp)
          simp only [Act.put, List.setIfInBounds_toArray, List.set_cons_zero, List.set_cons_succ]
          refine wpAnyH_take (i := 7) (oi := { dst := some 13, op := Op.move (Operand.tmp 20), type := 88, pos := "simfs.go:70", after := #[{ on := 6, ground := Ground.data }], guard := none }) (v := ?_) rfl (by kernel_rfl) (by kernel_rfl) (by kernel_rfl) (fun _ _ _ h => h) (Or.inl ⟨by rfl, ?_⟩) HPD.out ?_
          rotate_left
          · (intro y hy; go_simp; try (with_reducible rfl))
          simp only [Act.put, List.setIfInBounds_toArray, List.set_cons_zero, List.set_cons_succ]
          refine wpAnyH_take (i := 8) (oi := { dst := some 21, op := Op.extract (Operand.tmp 13) 0, type := 85, pos := "simfs.go:70", after := #[{ on := 7, ground := Ground.data }], guard := none }) (v := ?_) rfl (by kernel_rfl) (by kernel_rfl) (by kernel_rfl) (fun _ _ _ h => h) (Or.inl ⟨by rfl, ?_⟩) HPD.out ?_
          rotate_left
          · (intro y hy; go_simp; try (with_reducible rfl))
          simp only [Act.put, List.setIfInBounds_toArray, List.set_cons_zero, List.set_cons_succ]
          refine wpAnyH_take (i := 9) (oi := { dst := some 22, op := Op.extract (Operand.tmp 13) 1, type := 4, pos := "simfs.go:70", after := #[{ on := 7, ground := Ground.data }, { on := 11, ground := Ground.gcOnly Departure.lateStores }], guard := none }) (v := ?_) rfl (by kernel_rfl) (by kernel_rfl) (by kernel_rfl) (fun _ _ _ h => h) (Or.inl ⟨by rfl, ?_⟩) HPD.out ?_
          rotate_left
          · (intro y hy; go_simp; try (with_reducible rfl))
          simp only [Act.put, List.setIfInBounds_toArray, List.set_cons_zero, List.set_cons_succ]
          refine wpAnyH_ready (rs := [10]) (by kernel_rfl) (by simp) ?_
          refine AllReadyH.cons (o := { dst := some 7, op := Op.alloc 85, type := 0, pos := "simfs.go:70", after := #[], guard := none }) rfl (fun K hK => ?_) AllReadyH.nil
          go_simp
          have hn1 := FiAt.new xd (.slice none 0 0) 0
          obtain ⟨x1, hx1⟩ : ∃ x1, xd.alloc (.cells #[.slice none 0 0, .int .i64 0] 85) = x1 := ⟨_, rfl⟩
          rw [hx1]
          have hb1 : Below xd.heap.size xd x1 := by rw [← hx1]; exact (Below.refl _ _).alloc (Nat.le_refl _) _
          have HN1 : Hid (FiAt x1 xd.heap.size (.slice none 0 0) 0) := by rw [← hx1]; exact hn1
          have HB1 : Hid (Below x.heap.size x x1) := HBD.out.trans (hb1.mono HBD.out.size)
          have HP1 : Hid (x1.heap[q]? = x0.heap[q]? ∧ x1.heap[b]? = x0.heap[b]? ∧ FlAt x1 x.heap.size nm (.slice A2 m C2) s) := ⟨(hb1.block q (Nat.lt_of_lt_of_le HLT.out.1 HBD.out.size)).trans HPD.out.1, (hb1.block b (Nat.lt_of_lt_of_le HLT.out.2 HBD.out.size)).trans HPD.out.2.1, HPD.out.2.2.keep hb1⟩
          clear hx1 hb1 hn1
          (refine hK _ _ HP1.out ?_; clear hK K; intro _)
          try simp only [Act.put, List.setIfInBounds_toArray, List.set_cons_zero, List.set_cons_succ]
          refine wpAnyH_ready (rs := [11]) (by kernel_rfl) (by simp) ?_
          refine AllReadyH.cons (o := { dst := none, op := Op.store 85 (Operand.tmp 7) (Operand.tmp 21), type := 0, pos := "simfs.go:70", after := #[{ on := 10, ground := Ground.data }, { on := 8, ground := Ground.data }, { on := 0, ground := Ground.phase }, { on := 1, ground := Ground.phase }, { on := 2, ground := Ground.phase }, { on := 3, ground := Ground.phase }, { on := 4, ground := Ground.phase }, { on := 5, ground := Ground.phase }, { on := 6, ground := Ground.phase }, { on := 7, ground := Ground.phase }, { on := 8, ground := Ground.phase }, { on := 9, ground := Ground.textOnly Departure.lateStores }, { on := 10, ground := Ground.phase }], guard := none }) rfl (fun K hK => ?_) AllReadyH.nil
          refine step_store_fi rfl _ _ rfl rfl HN1.out HONE.out rfl rfl (v2 := LV) (s2 := LS) ?_
          intro x2 hf2 ho2
          have HB2 : Hid (Below x.heap.size x x2) := ho2 _ _ HB1.out HBD.out.size
          have hlow : ∀ k, k < xd.heap.size → x2.heap[k]? = x1.heap[k]? := fun k hk => (ho2 _ _ (Below.refl xd.heap.size x1) (Nat.le_refl _)).block k hk
          have HP2 : Hid (x2.heap[q]? = x0.heap[q]? ∧ x2.heap[b]? = x0.heap[b]? ∧ FlAt x2 x.heap.size nm (.slice A2 m C2) s) := ⟨(hlow q (Nat.lt_of_lt_of_le HLT.out.1 HBD.out.size)).trans HP1.out.1, (hlow b (Nat.lt_of_lt_of_le HLT.out.2 HBD.out.size)).trans HP1.out.2.1, (hlow _ (lt_of_heap HPD.out.2.2)).trans HP1.out.2.2⟩
          clear hf2 ho2 hlow
          (refine hK _ _ HP2.out ?_; clear hK K; intro _)
          try simp only [Act.put, List.setIfInBounds_toArray, List.set_cons_zero, List.set_cons_succ]
          refine wpAnyH_ready (rs := [12]) (by kernel_rfl) (by simp) ?_
          refine AllReadyH.cons (o := { dst := some 8, op := Op.assign (Operand.tmp 22), type := 4, pos := "simfs.go:70", after := #[{ on := 9, ground := Ground.data }, { on := 11, ground := Ground.chain }, { on := 0, ground := Ground.phase }, { on := 1, ground := Ground.phase }, { on := 2, ground := Ground.phase }, { on := 3, ground := Ground.phase }, { on := 4, ground := Ground.phase }, { on := 5, ground := Ground.phase }, { on := 6, ground := Ground.phase }, { on := 7, ground := Ground.phase }, { on := 8, ground := Ground.phase }, { on := 9, ground := Ground.phase }, { on := 10, ground := Ground.phase }, { on := 11, ground := Ground.phase }], guard := none }) rfl (fun K hK => ?_) AllReadyH.nil
          go_simp
          (refine hK _ _ HP2.out ?_; clear hK K; intro _)
          try simp only [Act.put, List.setIfInBounds_toArray, List.set_cons_zero, List.set_cons_succ]
          refine wpAnyH_done (by kernel_rfl) ?_ _
          obtain ⟨f0, f1, f2⟩ := HP2.out.2.2.cells
          go_wp2
          go_ret
          exact ⟨rfl, HB2.out⟩
        · rw [if_neg (by omega)]
          by_cases b3 : free < (m : Int)
          · rw [if_pos b3]
            go_enter Try.func50, Try.ntmps50
            go_wp2_with (first
              | (go_at_call 25; refine (HRT.out _).mono ?_; rintro _ x1 ⟨rfl, rfl⟩)
              | go_in)
            obtain ⟨x0, hx0⟩ : ∃ x0, x.alloc (.cells #[.string (bs nm), .slice A2 m C2, .int .i64 s] 49) = x0 := ⟨_, rfl⟩
            rw [hx0] at HLK HC1 HX0 c0 c1 c2
            rw [hx0]
            have HB0 : Hid (Below x.heap.size x x0) := HX0.out.2.1
            have HFB : Hid (FlAt x0 x.heap.size nm (.slice A2 m C2) s) := HX0.out.2.2.1
            clear hx0
            refine wp_region_held (S := (fun y => y.heap[q]? = x0.heap[q]? ∧ y.heap[b]? = x0.heap[b]? ∧ FlAt y x.heap.size nm (.slice A2 m C2) s)) (by kernel_rfl) ?_
            change wpAnyH _ _ _ _ _ _ _ _ (World.drew _)
            obtain ⟨xd, hxd⟩ : ∃ xd, x0.drew = xd := ⟨_, rfl⟩
            have HBD : Hid (Below x.heap.size x xd) := by rw [← hxd]; exact HB0.out.trans ((Below.refl _ _).drew)
            have HPD : Hid (xd.heap[q]? = x0.heap[q]? ∧ xd.heap[b]? = x0.heap[b]? ∧ FlAt xd x.heap.size nm (.slice A2 m C2) s) := by rw [← hxd]; exact ⟨rfl, rfl, HFB.out⟩
            rw [hxd]
            clear hxd
            refine wpAnyH_take (i := 0) (oi := { dst := some 14, op := Op.move (Operand.tmp 0), type := 24, pos := "simfs.go:70", after := #[], guard := none }) (v := ?_) rfl (by kernel_rfl) (by kernel_rfl) (by kernel_rfl) (fun _ _ _ h => h) (Or.inl ⟨by rfl, ?_⟩) HPD.out ?_
            rotate_left
            · (intro y hy; go_simp; try (with_reducible rfl))
            simp only [Act.put, List.setIfInBounds_toArray, List.set_cons_zero, List.set_cons_succ]
            refine wpAnyH_take (i := 1) (oi := { dst := some 15, op := Op.nilCheck (Operand.tmp 14), type := 0, pos := "simfs.go:70", after := #[{ on := 0, ground := Ground.data }], guard := none }) (v := ?_) rfl (by kernel_rfl) (by kernel_rfl) (by kernel_rfl) (fun _ _ _ h => h) (Or.inl ⟨by rfl, ?_⟩) HPD.out ?_
            rotate_left
            · (intro y hy; go_simp; try (with_reducible rfl))
            simp only [Act.put, List.setIfInBounds_toArray, List.set_cons_zero, List.set_cons_succ]
            refine wpAnyH_take (i := 2) (oi := { dst := some 16, op := Op.fieldAddr 75 (Operand.tmp 15) 1, type := 0, pos := "simfs.go:70", after := #[{ on := 1, ground := Ground.data }], guard := none }) (v := ?_) rfl (by kernel_rfl) (by kernel_rfl) (by kernel_rfl) (fun _ _ _ h => h) (Or.inl ⟨by rfl, ?_⟩) HPD.out ?_
            rotate_left
            · (intro y hy; go_simp; try (with_reducible rfl))
            simp only [Act.put, List.setIfInBounds_toArray, List.set_cons_zero, List.set_cons_succ]
            refine wpAnyH_take (i := 3) (oi := { dst := some 17, op := Op.load 73 (Operand.tmp 16), type := 73, pos := "simfs.go:70", after := #[{ on := 2, ground := Ground.data }], guard := none }) (v := .map (some b)) rfl (by kernel_rfl) (by kernel_rfl) (by kernel_rfl) (fun _ _ _ h => h) (Or.inl ⟨by rfl, ?_⟩) HPD.out ?_
            · (intro y hy; have h0 := (cell_heapS hy.1 1).trans HC1.out; go_simp)
            simp only [Act.put, List.setIfInBounds_toArray, List.set_cons_zero, List.set_cons_succ]
            refine wpAnyH_take (i := 4) (oi := { dst := some 18, op := Op.fieldAddr 49 (Operand.tmp 4) 0, type := 0, pos := "simfs.go:70", after := #[], guard := none }) (v := ?_) rfl (by kernel_rfl) (by kernel_rfl) (by kernel_rfl) (fun _ _ _ h => h) (Or.inl ⟨by rfl, ?_⟩) HPD.out ?_
            rotate_left
            · (intro y hy; go_simp; try (with_reducible rfl))
            simp only [Act.put, List.setIfInBounds_toArray, List.set_cons_zero, List.set_cons_succ]
            refine wpAnyH_take (i := 5) (oi := { dst := some 19, op := Op.load 9 (Operand.tmp 18), type := 9, pos := "simfs.go:70", after := #[{ on := 4, ground := Ground.data }], guard := none }) (v := .string (bs nm)) rfl (by kernel_rfl) (by kernel_rfl) (by kernel_rfl) (fun _ _ _ h => h) (Or.inl ⟨by rfl, ?_⟩) HPD.out ?_
            · (intro y hy; have h0 := hy.2.2.cells.1; go_simp)
            simp only [Act.put, List.setIfInBounds_toArray, List.set_cons_zero, List.set_cons_succ]
            refine wpAnyH_take (i := 6) (oi := { dst := some 20, op := Op.lookup 73 (Operand.tmp 17) (Operand.tmp 19) true, type := 88, pos := "simfs.go:70", after := #[{ on := 3, ground := Ground.data }, { on := 5, ground := Ground.data }], guard := none }) (v := .tuple #[fiV LV LS, .bool false]) rfl (by kernel_rfl) (by kernel_rfl) (by kernel_rfl) (fun _ _ _ h => h) (Or.inl ⟨by rfl, ?_⟩) HPD.out ?_
            · (intro y hy; have h0 := HLK.out y hy.2.1; go_simp)
            simp only [Act.put, List.setIfInBounds_toArray, List.set_cons_zero, List.set_cons_succ]
            refine wpAnyH_take (i := 7) (oi := { dst := some 13, op := Op.move (Operand.tmp 20), type := 88, pos := "simfs.go:70", after := #[{ on := 6, ground := Ground.data }], guard := none }) (v := ?_) rfl (by kernel_rfl) (by kernel_rfl) (by kernel_rfl) (fun _ _ _ h => h) (Or.inl ⟨by rfl, ?_⟩) HPD.out ?_
            rotate_left
            · (intro y hy; go_simp; try (with_reducible rfl))
            simp only [Act.put, List.setIfInBounds_toArray, List.set_cons_zero, List.set_cons_succ]
            refine wpAnyH_take (i := 8) (oi := { dst := some 21, op := Op.extract (Operand.tmp 13) 0, type := 85, pos := "simfs.go:70", after := #[{ on := 7, ground := Ground.data }], guard := none }) (v := ?_) rfl (by kernel_rfl) (by kernel_rfl) (by kernel_rfl) (fun _ _ _ h => h) (Or.inl ⟨by rfl, ?_⟩) HPD.out ?_
            rotate_left
            · (intro y hy; go_simp; try (with_reducible rfl))
            simp only [Act.put, List.setIfInBounds_toArray, List.set_cons_zero, List.set_cons_succ]
            refine wpAnyH_take (i := 9) (oi := { dst := some 22, op := Op.extract (Operand.tmp 13) 1, type := 4, pos := "simfs.go:70", after := #[{ on := 7, ground := Ground.data }, { on := 11, ground := Ground.gcOnly Departure.lateStores }], guard := none }) (v := ?_) rfl (by kernel_rfl) (by kernel_rfl) (by kernel_rfl) (fun _ _ _ h => h) (Or.inl ⟨by rfl, ?_⟩) HPD.out ?_
            rotate_left
            · (intro y hy; go_simp; try (with_reducible rfl))
            simp only [Act.put, List.setIfInBounds_toArray, List.set_cons_zero, List.set_cons_succ]
            refine wpAnyH_ready (rs := [10]) (by kernel_rfl) (by simp) ?_
            refine AllReadyH.cons (o := { dst := some 7, op := Op.alloc 85, type := 0, pos := "simfs.go:70", after := #[], guard := none }) rfl (fun K hK => ?_) AllReadyH.nil
            go_simp
            have hn1 := FiAt.new xd (.slice none 0 0) 0
            obtain ⟨x1, hx1⟩ : ∃ x1, xd.alloc (.cells #[.slice none 0 0, .int .i64 0] 85) = x1 := ⟨_, rfl⟩
            rw [hx1]
            have hb1 : Below xd.heap.size xd x1 := by rw [← hx1]; exact (Below.refl _ _).alloc (Nat.le_refl _) _
            have HN1 : Hid (FiAt x1 xd.heap.size (.slice none 0 0) 0) := by rw [← hx1]; exact hn1
            have HB1 : Hid (Below x.heap.size x x1) := HBD.out.trans (hb1.mono HBD.out.size)
            have HP1 : Hid (x1.heap[q]? = x0.heap[q]? ∧ x1.heap[b]? = x0.heap[b]? ∧ FlAt x1 x.heap.size nm (.slice A2 m C2) s) := ⟨(hb1.block q (Nat.lt_of_lt_of_le HLT.out.1 HBD.out.size)).trans HPD.out.1, (hb1.block b (Nat.lt_of_lt_of_le HLT.out.2 HBD.out.size)).trans HPD.out.2.1, HPD.out.2.2.keep hb1⟩
            clear hx1 hb1 hn1
            (refine hK _ _ HP1.out ?_; clear hK K; intro _)
            try simp only [Act.put, List.setIfInBounds_toArray, List.set_cons_zero, List.set_cons_succ]
            refine wpAnyH_ready (rs := [11]) (by kernel_rfl) (by simp) ?_
            refine AllReadyH.cons (o := { dst := none, op := Op.store 85 (Operand.tmp 7) (Operand.tmp 21), type := 0, pos := "simfs.go:70", after := #[{ on := 10, ground := Ground.data }, { on := 8, ground := Ground.data }, { on := 0, ground := Ground.phase }, { on := 1, ground := Ground.phase }, { on := 2, ground := Ground.phase }, { on := 3, ground := Ground.phase }, { on := 4, ground := Ground.phase }, { on := 5, ground := Ground.phase }, { on := 6, ground := Ground.phase }, { on := 7, ground := Ground.phase }, { on := 8, ground := Ground.phase }, { on := 9, ground := Ground.textOnly Departure.lateStores }, { on := 10, ground := Ground.phase }], guard := none }) rfl (fun K hK => ?_) AllReadyH.nil
            refine step_store_fi rfl _ _ rfl rfl HN1.out HONE.out rfl rfl (v2 := LV) (s2 := LS) ?_
            intro x2 hf2 ho2
            have HB2 : Hid (Below x.heap.size x x2) := ho2 _ _ HB1.out HBD.out.size
            have hlow : ∀ k, k < xd.heap.size → x2.heap[k]? = x1.heap[k]? := fun k hk => (ho2 _ _ (Below.refl xd.heap.size x1) (Nat.le_refl _)).block k hk
            have HP2 : Hid (x2.heap[q]? = x0.heap[q]? ∧ x2.heap[b]? = x0.heap[b]? ∧ FlAt x2 x.heap.size nm (.slice A2 m C2) s) := ⟨(hlow q (Nat.lt_of_lt_of_le HLT.out.1 HBD.out.size)).trans HP1.out.1, (hlow b (Nat.lt_of_lt_of_le HLT.out.2 HBD.out.size)).trans HP1.out.2.1, (hlow _ (lt_of_heap HPD.out.2.2)).trans HP1.out.2.2⟩
            clear hf2 ho2 hlow
            (refine hK _ _ HP2.out ?_; clear hK K; intro _)
            try simp only [Act.put, List.setIfInBounds_toArray, List.set_cons_zero, List.set_cons_succ]
            refine wpAnyH_ready (rs := [12]) (by kernel_rfl) (by simp) ?_
            refine AllReadyH.cons (o := { dst := some 8, op := Op.assign (Operand.tmp 22), type := 4, pos := "simfs.go:70", after := #[{ on := 9, ground := Ground.data }, { on := 11, ground := Ground.chain }, { on := 0, ground := Ground.phase }, { on := 1, ground := Ground.phase }, { on := 2, ground := Ground.phase }, { on := 3, ground := Ground.phase }, { on := 4, ground := Ground.phase }, { on := 5, ground := Ground.phase }, { on := 6, ground := Ground.phase }, { on := 7, ground := Ground.phase }, { on := 8, ground := Ground.phase }, { on := 9, ground := Ground.phase }, { on := 10, ground := Ground.phase }, { on := 11, ground := Ground.phase }], guard := none }) rfl (fun K hK => ?_) AllReadyH.nil
            go_simp
            (refine hK _ _ HP2.out ?_; clear hK K; intro _)
            try simp only [Act.put, List.setIfInBounds_toArray, List.set_cons_zero, List.set_cons_succ]
            refine wpAnyH_done (by kernel_rfl) ?_ _
            obtain ⟨f0, f1, f2⟩ := HP2.out.2.2.cells
            go_wp2
            go_ret
            exact ⟨rfl, HB2.out⟩
          · rw [if_neg b3]
            go_enter Try.func50, Try.ntmps50
            go_wp2_with (first
              | (go_at_call 25; refine (HRT.out _).mono ?_; rintro _ x1 ⟨rfl, rfl⟩)
              | go_in)
            obtain ⟨x0, hx0⟩ : ∃ x0, x.alloc (.cells #[.string (bs nm), .slice A2 m C2, .int .i64 s] 49) = x0 := ⟨_, rfl⟩
            rw [hx0] at HLK HC1 HX0 c0 c1 c2
            rw [hx0]
            have HB0 : Hid (Below x.heap.size x x0) := HX0.out.2.1
            have HFB : Hid (FlAt x0 x.heap.size nm (.slice A2 m C2) s) := HX0.out.2.2.1
            clear hx0
            refine wp_region_held (S := (fun y => y.heap[q]? = x0.heap[q]? ∧ y.heap[b]? = x0.heap[b]? ∧ FlAt y x.heap.size nm (.slice A2 m C2) s)) (by kernel_rfl) ?_
            change wpAnyH _ _ _ _ _ _ _ _ (World.drew _)
            obtain ⟨xd, hxd⟩ : ∃ xd, x0.drew = xd := ⟨_, rfl⟩
            have HBD : Hid (Below x.heap.size x xd) := by rw [← hxd]; exact HB0.out.trans ((Below.refl _ _).drew)
            have HPD : Hid (xd.heap[q]? = x0.heap[q]? ∧ xd.heap[b]? = x0.heap[b]? ∧ FlAt xd x.heap.size nm (.slice A2 m C2) s) := by rw [← hxd]; exact ⟨rfl, rfl, HFB.out⟩
            rw [hxd]
            clear hxd
            refine wpAnyH_take (i := 0) (oi := { dst := some 14, op := Op.move (Operand.tmp 0), type := 24, pos := "simfs.go:70", after := #[], guard := none }) (v := ?_) rfl (by kernel_rfl) (by kernel_rfl) (by kernel_rfl) (fun _ _ _ h => h) (Or.inl ⟨by rfl, ?_⟩) HPD.out ?_
            rotate_left
            · (intro y hy; go_simp; try (with_reducible rfl))
            simp only [Act.put, List.setIfInBounds_toArray, List.set_cons_zero, List.set_cons_succ]
            refine wpAnyH_take (i := 1) (oi := { dst := some 15, op := Op.nilCheck (Operand.tmp 14), type := 0, pos := "simfs.go:70", after := #[{ on := 0, ground := Ground.data }], guard := none }) (v := ?_) rfl (by kernel_rfl) (by kernel_rfl) (by kernel_rfl) (fun _ _ _ h => h) (Or.inl ⟨by rfl, ?_⟩) HPD.out ?_
            rotate_left
            · (intro y hy; go_simp; try (with_reducible rfl))
            simp only [Act.put, List.setIfInBounds_toArray, List.set_cons_zero, List.set_cons_succ]
            refine wpAnyH_take (i := 2) (oi := { dst := some 16, op := Op.fieldAddr 75 (Operand.tmp 15) 1, type := 0, pos := "simfs.go:70", after := #[{ on := 1, ground := Ground.data }], guard := none }) (v := ?_) rfl (by kernel_rfl) (by kernel_rfl) (by kernel_rfl) (fun _ _ _ h => h) (Or.inl ⟨by rfl, ?_⟩) HPD.out ?_
            rotate_left
            · (intro y hy; go_simp; try (with_reducible rfl))
            simp only [Act.put, List.setIfInBounds_toArray, List.set_cons_zero, List.set_cons_succ]
            refine wpAnyH_take (i := 3) (oi := { dst := some 17, op := Op.load 73 (Operand.tmp 16), type := 73, pos := "simfs.go:70", after := #[{ on := 2, ground := Ground.data }], guard := none }) (v := .map (some b)) rfl (by kernel_rfl) (by kernel_rfl) (by kernel_rfl) (fun _ _ _ h => h) (Or.inl ⟨by rfl, ?_⟩) HPD.out ?_
            · (intro y hy; have h0 := (cell_heapS hy.1 1).trans HC1.out; go_simp)
            simp only [Act.put, List.setIfInBounds_toArray, List.set_cons_zero, List.set_cons_succ]
            refine wpAnyH_take (i := 4) (oi := { dst := some 18, op := Op.fieldAddr 49 (Operand.tmp 4) 0, type := 0, pos := "simfs.go:70", after := #[], guard := none }) (v := ?_) rfl (by kernel_rfl) (by kernel_rfl) (by kernel_rfl) (fun _ _ _ h => h) (Or.inl ⟨by rfl, ?_⟩) HPD.out ?_
            rotate_left
            · (intro y hy; go_simp; try (with_reducible rfl))
            simp only [Act.put, List.setIfInBounds_toArray, List.set_cons_zero, List.set_cons_succ]
            refine wpAnyH_take (i := 5) (oi := { dst := some 19, op := Op.load 9 (Operand.tmp 18), type := 9, pos := "simfs.go:70", after := #[{ on := 4, ground := Ground.data }], guard := none }) (v := .string (bs nm)) rfl (by kernel_rfl) (by kernel_rfl) (by kernel_rfl) (fun _ _ _ h => h) (Or.inl ⟨by rfl, ?_⟩) HPD.out ?_
            · (intro y hy; have h0 := hy.2.2.cells.1; go_simp)
            simp only [Act.put, List.setIfInBounds_toArray, List.set_cons_zero, List.set_cons_succ]
            refine wpAnyH_take (i := 6) (oi := { dst := some 20, op := Op.lookup 73 (Operand.tmp 17) (Operand.tmp 19) true, type := 88, pos := "simfs.go:70", after := #[{ on := 3, ground := Ground.data }, { on := 5, ground := Ground.data }], guard := none }) (v := .tuple #[fiV LV LS, .bool false]) rfl (by kernel_rfl) (by kernel_rfl) (by kernel_rfl) (fun _ _ _ h => h) (Or.inl ⟨by rfl, ?_⟩) HPD.out ?_
            · (intro y hy; have h0 := HLK.out y hy.2.1; go_simp)
            simp only [Act.put, List.setIfInBounds_toArray, List.set_cons_zero, List.set_cons_succ]
            refine wpAnyH_take (i := 7) (oi := { dst := some 13, op := Op.move (Operand.tmp 20), type := 88, pos := "simfs.go:70", after := #[{ on := 6, ground := Ground.data }], guard := none }) (v := ?_) rfl (by kernel_rfl) (by kernel_rfl) (by kernel_rfl) (fun _ _ _ h => h) (Or.inl ⟨by rfl, ?_⟩) HPD.out ?_
            rotate_left
            · (intro y hy; go_simp; try (with_reducible rfl))
            simp only [Act.put, List.setIfInBounds_toArray, List.set_cons_zero, List.set_cons_succ]
            refine wpAnyH_take (i := 8) (oi := { dst := some 21, op := Op.extract (Operand.tmp 13) 0, type := 85, pos := "simfs.go:70", after := #[{ on := 7, ground := Ground.data }], guard := none }) (v := ?_) rfl (by kernel_rfl) (by kernel_rfl) (by kernel_rfl) (fun _ _ _ h => h) (Or.inl ⟨by rfl, ?_⟩) HPD.out ?_
            rotate_left
            · (intro y hy; go_simp; try (with_reducible rfl))
            simp only [Act.put, List.setIfInBounds_toArray, List.set_cons_zero, List.set_cons_succ]
            refine wpAnyH_take (i := 9) (oi := { dst := some 22, op := Op.extract (Operand.tmp 13) 1, type := 4, pos := "simfs.go:70", after := #[{ on := 7, ground := Ground.data }, { on := 11, ground := Ground.gcOnly Departure.lateStores }], guard := none }) (v := ?_) rfl (by kernel_rfl) (by kernel_rfl) (by kernel_rfl) (fun _ _ _ h => h) (Or.inl ⟨by rfl, ?_⟩) HPD.out ?_
            rotate_left
            · (intro y hy; go_simp; try (with_reducible rfl))
            simp only [Act.put, List.setIfInBounds_toArray, List.set_cons_zero, List.set_cons_succ]
            refine wpAnyH_ready (rs := [10]) (by kernel_rfl) (by simp) ?_
            refine AllReadyH.cons (o := { dst := some 7, op := Op.alloc 85, type := 0, pos := "simfs.go:70", after := #[], guard := none }) rfl (fun K hK => ?_) AllReadyH.nil
            go_simp
            have hn1 := FiAt.new xd (.slice none 0 0) 0
            obtain ⟨x1, hx1⟩ : ∃ x1, xd.alloc (.cells #[.slice none 0 0, .int .i64 0] 85) = x1 := ⟨_, rfl⟩
            rw [hx1]
            have hb1 : Below xd.heap.size xd x1 := by rw [← hx1]; exact (Below.refl _ _).alloc (Nat.le_refl _) _
            have HN1 : Hid (FiAt x1 xd.heap.size (.slice none 0 0) 0) := by rw [← hx1]; exact hn1
            have HB1 : Hid (Below x.heap.size x x1) := HBD.out.trans (hb1.mono HBD.out.size)
            have HP1 : Hid (x1.heap[q]? = x0.heap[q]? ∧ x1.heap[b]? = x0.heap[b]? ∧ FlAt x1 x.heap.size nm (.slice A2 m C2) s) := ⟨(hb1.block q (Nat.lt_of_lt_of_le HLT.out.1 HBD.out.size)).trans HPD.out.1, (hb1.block b (Nat.lt_of_lt_of_le HLT.out.2 HBD.out.size)).trans HPD.out.2.1, HPD.out.2.2.keep hb1⟩
            clear hx1 hb1 hn1
            (refine hK _ _ HP1.out ?_; clear hK K; intro _)
            try simp only [Act.put, List.setIfInBounds_toArray, List.set_cons_zero, List.set_cons_succ]
            refine wpAnyH_ready (rs := [11]) (by kernel_rfl) (by simp) ?_
            refine AllReadyH.cons (o := { dst := none, op := Op.store 85 (Operand.tmp 7) (Operand.tmp 21), type := 0, pos := "simfs.go:70", after := #[{ on := 10, ground := Ground.data }, { on := 8, ground := Ground.data }, { on := 0, ground := Ground.phase }, { on := 1, ground := Ground.phase }, { on := 2, ground := Ground.phase }, { on := 3, ground := Ground.phase }, { on := 4, ground := Ground.phase }, { on := 5, ground := Ground.phase }, { on := 6, ground := Ground.phase }, { on := 7, ground := Ground.phase }, { on := 8, ground := Ground.phase }, { on := 9, ground := Ground.textOnly Departure.lateStores }, { on := 10, ground := Ground.phase }], guard := none }) rfl (fun K hK => ?_) AllReadyH.nil
            refine step_store_fi rfl _ _ rfl rfl HN1.out HONE.out rfl rfl (v2 := LV) (s2 := LS) ?_
            intro x2 hf2 ho2
            have HB2 : Hid (Below x.heap.size x x2) := ho2 _ _ HB1.out HBD.out.size
            have hlow : ∀ k, k < xd.heap.size → x2.heap[k]? = x1.heap[k]? := fun k hk => (ho2 _ _ (Below.refl xd.heap.size x1) (Nat.le_refl _)).block k hk
            have HP2 : Hid (x2.heap[q]? = x0.heap[q]? ∧ x2.heap[b]? = x0.heap[b]? ∧ FlAt x2 x.heap.size nm (.slice A2 m C2) s) := ⟨(hlow q (Nat.lt_of_lt_of_le HLT.out.1 HBD.out.size)).trans HP1.out.1, (hlow b (Nat.lt_of_lt_of_le HLT.out.2 HBD.out.size)).trans HP1.out.2.1, (hlow _ (lt_of_heap HPD.out.2.2)).trans HP1.out.2.2⟩
            clear hf2 ho2 hlow
            (refine hK _ _ HP2.out ?_; clear hK K; intro _)
            try simp only [Act.put, List.setIfInBounds_toArray, List.set_cons_zero, List.set_cons_succ]
            refine wpAnyH_ready (rs := [12]) (by kernel_rfl) (by simp) ?_
            refine AllReadyH.cons (o := { dst := some 8, op := Op.assign (Operand.tmp 22), type := 4, pos := "simfs.go:70", after := #[{ on := 9, ground := Ground.data }, { on := 11, ground := Ground.chain }, { on := 0, ground := Ground.phase }, { on := 1, ground := Ground.phase }, { on := 2, ground := Ground.phase }, { on := 3, ground := Ground.phase }, { on := 4, ground := Ground.phase }, { on := 5, ground := Ground.phase }, { on := 6, ground := Ground.phase }, { on := 7, ground := Ground.phase }, { on := 8, ground := Ground.phase }, { on := 9, ground := Ground.phase }, { on := 10, ground := Ground.phase }, { on := 11, ground := Ground.phase }], guard := none }) rfl (fun K hK => ?_) AllReadyH.nil
            go_simp
            (refine hK _ _ HP2.out ?_; clear hK K; intro _)
            try simp only [Act.put, List.setIfInBounds_toArray, List.set_cons_zero, List.set_cons_succ]
            refine wpAnyH_done (by kernel_rfl) ?_ _
            obtain ⟨f0, f1, f2⟩ := HP2.out.2.2.cells
            go_wp2
            go_ret
            exact ⟨rfl, HB2.out⟩

end Go.Proofs.Ytlnhhgmdajbepaa
