/- Scans of laid frames; a cut of placed frames; places moved. -/
import Derived.Test.YtfclpkfbfdeegaaDoorSc14
import Derived.Test.YtfclpkfbfdeegaaDoorSc10
namespace Go.Proofs.YtfclpkfbfdeegaaDoor
open Go.ChangeShapes Go.WideShapes Go.ChangeAt Go.RowKit Go.Shelf
set_option linter.unusedVariables false
theorem fok_of {w : World} {f : Fi} (h : fOk f) (hw : FiOk w f) : Fok f.k.toNat f.s.toNat f.body := by
  obtain ⟨k, s, h1, h2, h3, h4, h5, h6⟩ := encE_ok h
  refine ⟨fun y hy => ?_, by omega, by omega, h6, by omega⟩
  obtain ⟨i, hi, rfl⟩ := List.mem_iff_getElem.1 hy
  have := hw.byt.1 i
  simpa [List.getD_eq_getElem?_getD, hi] using this
theorem scan_lay (r : List Nat) : ∀ (L : List Fi), (∀ f ∈ L, Fok f.k.toNat f.s.toNat f.body) → (∃ P, P.length = L.length ∧ scanL (layF L ++ r) = P ++ (scanL r).map (sh (layF L).length)) ∧ endZ 0 (scanL (layF L ++ r)) = (layF L).length + endZ 0 (scanL r) ∧ allE (layF L ++ r) = allE r
  | [], _ => by
    refine ⟨⟨[], rfl, ?_⟩, ?_, rfl⟩
    · simp only [layF, List.nil_append, List.length_nil]
      rw [show sh 0 = id from by funext f; simp [sh], List.map_id]
    · simp [layF]
  | f :: L, h => by
    obtain ⟨⟨P, h1, h2⟩, h3, h4⟩ := scan_lay r L (fun g hg => h g (List.mem_cons_of_mem _ hg))
    have hf := h f (List.mem_cons_self ..)
    have e : layF (f :: L) ++ r = fL f ++ (layF L ++ r) := by simp [layF, List.append_assoc]
    have hl : (layF (f :: L)).length = f.body.length + 20 + (layF L).length := by simp only [layF, fL, List.length_append, frameL_length]
    rw [e, hl]
    refine ⟨⟨⟨0, f.k.toNat, f.s.toNat, f.body⟩ :: P.map (sh (f.body.length + 20)), by simp [h1], ?_⟩, ?_, ?_⟩
    · unfold fL
      rw [scanL_frame hf, h2, List.map_append, List.cons_append, List.map_map]
      congr 3
      funext g
      simp only [sh, Function.comp]
      congr 1
      omega
    · unfold fL
      rw [end_frame hf, h3]
      omega
    · unfold fL
      rw [allE_frame hf, h4]
theorem plc_drop {w : World} {b off n : Nat} {ys : List It} (h : ∀ j, j < ys.length * 5 → w.cell? ⟨b, off + j, none⟩ = (pflt ys)[j]?) (hn : n ≤ ys.length) : ∀ j, j < (ys.drop n).length * 5 → w.cell? ⟨b, off + n * 5 + j, none⟩ = (pflt (ys.drop n))[j]? := by
  intro j hj
  rw [List.length_drop] at hj
  have e : pflt ys = pflt (ys.take n) ++ pflt (ys.drop n) := by rw [← pflt_append, List.take_append_drop]
  have hl : (pflt (ys.take n)).length = n * 5 := by rw [pflt_length, List.length_take]; congr 1; omega
  rw [Nat.add_assoc, h (n * 5 + j) (by omega), e, List.getElem?_append_right (by omega), hl]
  congr 1
  omega
theorem sliceP_under : Tryd.prog.underlying 24 = some (.slice (Tryd.prog.elem 24)) := by kernel_rfl
theorem sliceP_size (w : World) : (sizeOf (Tryd.prog.elem 24)).run Tryd.prog w = .ok 5 w := by kernel_rfl
theorem at_sliceP {ops : Array Oper} {rest : List Oper} {a : Act} {w : World} {Q : Exit → Act → World → Prop} {dst : Option Tmp} {ty : TypeId} {pos : String} {after : Array Edge} {s lo : Operand}
    (h : wpList Tryd.prog ops Q (⟨dst, .slice 24 s (some lo) none none, ty, pos, after, none⟩ :: rest) a w) : wpList Tryd.prog ops Q (⟨dst, .slice 24 s (some lo) none none, ty, pos, after, none⟩ :: rest) a w := h
theorem plc_cut {w : World} {a : Option Addr} {ys : List It} (h : PlcA w a ys) (i cap : Nat) (hi : i ≤ ys.length) (hc : ys.length ≤ cap) : PlcA w (if cap = i then a else a.map (·.add (i * 5))) (ys.drop i) := by
  refine ⟨?_, fun x hx => h.byt x (List.mem_of_mem_drop hx)⟩
  by_cases hci : cap = i
  · exact .inl (List.drop_of_length_le (by omega))
  · rw [if_neg hci]
    rcases h.lie with rfl | ⟨b, off, rfl, hlt, hcell⟩
    · exact .inl (by simp)
    · refine .inr ⟨b, off + i * 5, by simp [Addr.add], hlt, plc_drop hcell hi⟩
theorem wpList_sliceP {ops : Array Oper} {rest : List Oper} {o : Oper} {a : Act} {w : World} {Q : Exit → Act → World → Prop} (hgd : o.guard = none) (s lo : Operand) (ho : o.op = .slice 24 s (some lo) none none)
    {A : Option Addr} {n cap i : Nat} {ys : List It} (hs : a.eval s = .slice A n cap) (hlo : a.eval lo = .int .i64 (i : Int)) (hi : i ≤ n) (hn : n ≤ cap) (hl : ys.length = n) (hb : PlcA w A ys)
    (h : ∀ x, PlcA w x (ys.drop i) → wpList Tryd.prog ops Q rest (a.put o.dst (.slice x (n - i) (cap - i))) w) : wpList Tryd.prog ops Q (o :: rest) a w :=
  wpList_plain hgd fun _ hK => by
    have hrun := run_slice_l (P := Tryd.prog) w 24 A n cap sliceP_under .i64 (i : Int) (by omega) (by omega)
    unfold Oper.wp execOp
    simp only [ho, hs, hlo, Option.map_some, Option.map_none, Sem.run_bind, Sem.run_pure, Result.andThen_ok, run_sliceAt_slice (P := Tryd.prog) w 24 _ _ _ _ sliceP_under, hrun, sliceP_size, sliced, Int.toNat_natCast]
    exact hK _ _ (h _ (plc_cut hb i cap (by omega) (by omega)))
/-- the first k of them moved by d -/
def mvd (d : Nat) (xs : List It) (k : Nat) : List It := (xs.take k).map (shI d) ++ xs.drop k
theorem mvd_len (d : Nat) (xs : List It) (k : Nat) : (mvd d xs k).length = xs.length := by
  unfold mvd; rw [List.length_append, List.length_map, List.length_take, List.length_drop]; omega
theorem mvd_set (d : Nat) (xs : List It) (k : Nat) (x : It) (hx : xs[k]? = some x) : (pflt (mvd d xs k)).set (k * 5) (.int .i64 ((d : Int) + (x.fm.pos : Int))) = pflt (mvd d xs (k + 1)) := by
  have hk := get_lt hx
  have e1 : xs.drop k = x :: xs.drop (k + 1) := by
    rw [List.drop_eq_getElem_cons hk]
    congr 1
    exact (List.getElem?_eq_some_iff.1 hx).2
  have e2 : xs.take (k + 1) = xs.take k ++ [x] := by rw [List.take_add_one, hx]; rfl
  unfold mvd
  rw [e1, e2, List.map_append, List.append_assoc, pflt_append, pflt_append]
  have hl : (pflt ((xs.take k).map (shI d))).length = k * 5 := by rw [pflt_length, List.length_map, List.length_take]; congr 1; omega
  rw [List.set_append_right _ _ (by omega), hl, Nat.sub_self]
  simp [pflt, shI, sh]
theorem mvd_all (d : Nat) (xs : List It) (n : Nat) (h : xs.length = n) : mvd d xs n = xs.map (shI d) := by
  unfold mvd
  rw [List.take_of_length_le (by omega), List.drop_of_length_le (by omega), List.append_nil]
theorem mvd_get (d : Nat) (xs : List It) (k : Nat) (x : It) (hx : xs[k]? = some x) : (mvd d xs k)[k]? = some x := by
  have hk := get_lt hx
  unfold mvd
  rw [List.getElem?_append_right (by simp; omega), List.length_map, List.length_take, List.getElem?_drop]
  rw [show k + (k - min k xs.length) = k from by omega]
  exact hx
/-- placed frames of one's own of which one place is written -/
theorem OwnP.setPos {W : World} {base d k n c : Nat} {a : Option Addr} {xs : List It} {x : It} (h : OwnP W base (.slice a n c) (mvd d xs k)) (hx : xs[k]? = some x) (hn : xs.length = n) : ∃ g, a = some ⟨g, 0, none⟩ ∧ base ≤ g ∧ g < W.heap.size ∧ W.cell? ⟨g, k * 5, none⟩ = some (.int .i64 (x.fm.pos : Int)) ∧ W.frozen? ⟨g, k * 5, none⟩ = false ∧ OwnP (W.setCell ⟨g, k * 5, none⟩ (.int .i64 ((d : Int) + (x.fm.pos : Int)))) base (.slice a n c) (mvd d xs (k + 1)) := by
  have hk := get_lt hx
  obtain ⟨hrow, hby⟩ := h
  rw [mvd_len, hn] at hrow
  obtain ⟨g, c2, hv, hb, hlt⟩ := hrow.form (by omega)
  cases hv
  have hst := (hrow.stored (k * 5) (.int .i64 ((d : Int) + (x.fm.pos : Int)))).1
  rw [mvd_set d xs k x hx] at hst
  refine ⟨g, rfl, hb, hlt, (hrow.cellAt (k * 5) (by omega)).trans (pflt_get _ k x (mvd_get d xs k x hx)).1, hrow.frozenAt _, ⟨by rw [mvd_len, hn]; exact hst, fun y hy => ?_⟩⟩
  have hy2 : ∃ z ∈ mvd d xs k, z.bv = y.bv ∧ z.fm.body = y.fm.body := by
    unfold mvd at hy ⊢
    rw [List.take_add_one, hx] at hy
    rcases List.mem_append.1 hy with hy | hy
    · rw [List.map_append] at hy
      rcases List.mem_append.1 hy with hy | hy
      · exact ⟨y, List.mem_append_left _ hy, rfl, rfl⟩
      · simp at hy
        subst hy
        refine ⟨x, List.mem_append_right _ ?_, rfl, rfl⟩
        rw [List.drop_eq_getElem_cons hk]
        exact List.mem_cons.2 (.inl (List.getElem?_eq_some_iff.1 hx).2.symm)
    · refine ⟨y, List.mem_append_right _ ?_, rfl, rfl⟩
      rw [List.drop_eq_getElem_cons hk]
      exact List.mem_cons_of_mem _ hy
  obtain ⟨z, hz, e1, e2⟩ := hy2
  have hz2 := hby z hz
  rw [e1, e2] at hz2
  have := body_kept (n := n) (xs := pflt (mvd d xs k)) hrow (hrow.stored (k * 5) (.int .i64 ((d : Int) + (x.fm.pos : Int)))).2 hz2
  exact this
end Go.Proofs.YtfclpkfbfdeegaaDoor
