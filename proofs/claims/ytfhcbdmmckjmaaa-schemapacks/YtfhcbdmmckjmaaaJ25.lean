/- Own texts, joined: Sr5, Sr6, Sr7. -/
import Derived.Test.YtfhcbdmmckjmaaaJ24
import Derived.Test.YtfhcbdmmckjmaaaJ06
import Derived.Test.YtfhcbdmmckjmaaaJ19
import Derived.Test.YtfhcbdmmckjmaaaJ17
import Derived.Test.YtfhcbdmmckjmaaaJ21
import Derived.Deep.RegionHeld3
import Derived.Test.YtfhcbdmmckjmaaaJ12
namespace Go.Proofs.Ytfhcbdmmckjmaaa
open Go.ChangeShapes Go.WideShapes Go.ChangeAt Go.RowKit
set_option linter.unusedVariables false
set_option maxRecDepth 20000 in
theorem clamp_any (u : Nat) (w : World) : Calls Try.prog 36 #[.int .u64 (u : Int)] w fun r w' => r = .returned (.int .i64 (capN u)) ∧ w = w' := by
  by_cases h : u ≤ 4611686018427387904
  · have HC : Hid (capN u = (u : Int)) := if_pos h
    have hI : (u : Int) ≤ 4611686018427387904 := by omega
    have hd : decide ((4611686018427387904 : Int) < (u : Int)) = false := by simp; omega
    clear h
    go_enter Try.func36, Try.ntmps36
    go_wp2
    go_ret
    exact ⟨by rw [HC.out]; rfl, rfl⟩
  · have HC : Hid (capN u = 4611686018427387904) := if_neg h
    have hI : (4611686018427387904 : Int) < (u : Int) := by omega
    clear h
    go_enter Try.func36, Try.ntmps36
    go_wp2
    go_ret
    exact ⟨by rw [HC.out]; rfl, rfl⟩
/-- a row of whole numbers that may be written -/
structure RowW (w : World) (b : Nat) (l : List Int) : Prop where
  row : RowI w b l
  fro : ∀ j, w.frozen? ⟨b, j, none⟩ = false
theorem RowW.set {w : World} {b : Nat} {l : List Int} (h : RowW w b l) (t : Nat) (x : Int) (m : List Int) (hl : m.length = l.length) (hm : ∀ j, j < m.length → m.getD j 0 = if j = t then x else l.getD j 0) (ht : t < l.length) : RowW (w.setCell ⟨b, t, none⟩ (.int .i64 x)) b m := by
  refine ⟨⟨by simpa [World.setCell] using h.row.1, fun j hj => ?_⟩, fun j => by rw [World.frozen?_setCell]; exact h.fro j⟩
  rw [hm j hj]
  by_cases e : j = t
  · subst e
    rw [if_pos rfl]
    exact World.cell?_setCell_same _ _ _ (by rw [h.row.2 j ht])
  · rw [if_neg e, World.cell?_setCell_other _ _ _ _ (by intro h9; simp at h9)]
    exact h.row.2 j (by omega)
/-- in the loop: w when called, w3 behind the reading, x now -/
structure Rv (w w3 x : World) (v : Int) (gs : List Fld) : Prop where
  bel : Below w.heap.size w w3
  be3 : Below w3.heap.size w3 x
  res : EvAt w3 w.heap.size zeroE
  non : EvAt w3 (w.heap.size + 1) zeroE
  num : RowW x w3.heap.size (NL v gs)
  ev : EvAt x (w3.heap.size + 1) { zeroE with who := str8 (txtF gs 8), note := str8 (txtF gs 10) }
theorem Rv.keep {w w3 x y : World} {v : Int} {gs : List Fld} (h : Rv w w3 x v gs) (hb : Below x.heap.size x y) : Rv w w3 y v gs :=
  ⟨h.bel, below_next h.be3 hb, h.res, h.non, ⟨h.num.row.keep hb, fun j => by
    have h1 := hb.block w3.heap.size h.num.row.1
    have h2 := h.num.fro j
    unfold World.frozen? at h2 ⊢
    rw [h1]; exact h2⟩, h.ev.after hb⟩
theorem Rv.drew {w w3 x : World} {v : Int} {gs : List Fld} (h : Rv w w3 x v gs) : Hid (Rv w w3 x.drew v gs) := h.keep (Below.refl _ _).drew
theorem zero_nums (v : Int) : NL v [] = [0, 0, 0, 0, 0, 0, 0, 0, 0, 0, 0] := by
  have h : ∀ t : Nat, rval v [] t = 0 := fun t => by
    have h0 : numF [] (t : Int) = 0 := rfl
    unfold rval
    rw [h0]
    split <;> rfl
  unfold NL
  simp [List.range, List.range.loop, h]
theorem Rv.who {w w3 x : World} {v : Int} {gs : List Fld} (h : Rv w w3 x v gs) {f : Fld} (hn : getF gs f.tag = none) (ht : f.tag = 8) (hx : f.text = true) : Rv w w3 (x.setCell ⟨w3.heap.size + 1, 7, none⟩ (.string (str8 f.bytes))) v (gs ++ [f]) := by
  have hne : NL v (gs ++ [f]) = NL v gs := by
    unfold NL
    exact List.map_congr_left (fun t _ => by unfold rval; rw [numF_snoc_text hn hx])
  have h3 := h.num.row.1
  refine ⟨h.bel, h.be3.setCell (p := ⟨w3.heap.size + 1, 7, none⟩) (by show _ ≤ w3.heap.size + 1; omega) _, h.res, h.non, ?_, ?_⟩
  · rw [hne]
    refine ⟨⟨by simpa [World.setCell] using h3, fun j hj => ?_⟩, fun j => by rw [World.frozen?_setCell]; exact h.num.fro j⟩
    rw [World.cell?_setCell_other _ _ _ _ (by intro h9; simp at h9)]
    exact h.num.row.2 j hj
  · refine h.ev.set _ ?_
    have e1 : txtF (gs ++ [f]) 8 = f.bytes := by rw [← ht]; exact txtF_snoc_same hn hx
    have e2 : txtF (gs ++ [f]) 10 = txtF gs 10 := txtF_snoc_other (by rw [ht]; decide)
    rw [e1, e2]; rfl
theorem Rv.note {w w3 x : World} {v : Int} {gs : List Fld} (h : Rv w w3 x v gs) {f : Fld} (hn : getF gs f.tag = none) (ht : f.tag = 10) (hx : f.text = true) : Rv w w3 (x.setCell ⟨w3.heap.size + 1, 9, none⟩ (.string (str8 f.bytes))) v (gs ++ [f]) := by
  have hne : NL v (gs ++ [f]) = NL v gs := by
    unfold NL
    exact List.map_congr_left (fun t _ => by unfold rval; rw [numF_snoc_text hn hx])
  have h3 := h.num.row.1
  refine ⟨h.bel, h.be3.setCell (p := ⟨w3.heap.size + 1, 9, none⟩) (by show _ ≤ w3.heap.size + 1; omega) _, h.res, h.non, ?_, ?_⟩
  · rw [hne]
    refine ⟨⟨by simpa [World.setCell] using h3, fun j hj => ?_⟩, fun j => by rw [World.frozen?_setCell]; exact h.num.fro j⟩
    rw [World.cell?_setCell_other _ _ _ _ (by intro h9; simp at h9)]
    exact h.num.row.2 j hj
  · refine h.ev.set _ ?_
    have e1 : txtF (gs ++ [f]) 10 = f.bytes := by rw [← ht]; exact txtF_snoc_same hn hx
    have e2 : txtF (gs ++ [f]) 8 = txtF gs 8 := txtF_snoc_other (by rw [ht]; decide)
    rw [e1, e2]; rfl
theorem Rv.put {w w3 x : World} {v : Int} {gs : List Fld} (h : Rv w w3 x v gs) {f : Fld} (T : Nat) (hT : f.tag = (T : Int)) (hT11 : T < 11) (hn : getF gs f.tag = none) (ht : isT f.tag = false) (hx : f.text = false) (X : Int) (hX : X = if T = 4 ∧ v ≤ 2 then zag (f.num : Int) else capN f.num) : Rv w w3 (x.setCell ⟨w3.heap.size, T, none⟩ (.int .i64 X)) v (gs ++ [f]) := by
  refine ⟨h.bel, h.be3.setCell (p := ⟨w3.heap.size, T, none⟩) (Nat.le_refl _) _, h.res, h.non, h.num.set T X _ (by rw [NL_len, NL_len]) (fun j hj => ?_) (by rw [NL_len]; exact hT11), ?_⟩
  · rw [NL_len] at hj
    rw [NL_get _ _ _ hj, NL_get _ _ _ hj]
    by_cases e : j = T
    · subst e
      rw [if_pos rfl, hX]
      unfold rval
      rw [← hT, numF_snoc_same hn hx]
    · rw [if_neg e]
      unfold rval
      rw [numF_snoc_other (by rw [hT]; omega)]
  · have e1 : txtF (gs ++ [f]) 8 = txtF gs 8 := txtF_snoc_other (by intro e; rw [e] at ht; cases ht)
    have e2 : txtF (gs ++ [f]) 10 = txtF gs 10 := txtF_snoc_other (by intro e; rw [e] at ht; cases ht)
    rw [e1, e2]
    exact (heap_setCell_other x ⟨w3.heap.size, T, none⟩ (w3.heap.size + 1) _ (by show w3.heap.size + 1 ≠ w3.heap.size; omega)).trans h.ev
end Go.Proofs.Ytfhcbdmmckjmaaa
namespace Go.Proofs.Ytfhcbdmmckjmaaa
open Go.ChangeShapes Go.WideShapes Go.ChangeAt Go.RowKit
set_option linter.unusedVariables false
theorem two_ev (w : World) : ∃ W, (w.alloc (.cells (evA zeroE) 24)).alloc (.cells (evA zeroE) 24) = W ∧ EvAt W w.heap.size zeroE ∧ EvAt W (w.heap.size + 1) zeroE ∧ Below w.heap.size w W := by
  refine ⟨_, rfl, (evAt_new w zeroE).after ((Below.refl _ _).alloc (Nat.le_refl _) _), ?_, (((Below.refl _ _).alloc (Nat.le_refl _) _).alloc (by simp) _)⟩
  have := evAt_new (w.alloc (.cells (evA zeroE) 24)) zeroE
  simpa using this
set_option maxRecDepth 20000 in
set_option maxHeartbeats 2000000 in
theorem rdec06_no (v : Int) (a : Option Addr) (n cap : Nat) (w : World) (hv : v < 1 ∨ (1 ≤ v ∧ 5 < v)) :
    Calls Try.prog 16 #[.int .i64 v, .slice a n cap] w fun r w' => r = .returned (.tuple #[.agg (evA zeroE), .int .i64 30]) ∧ Below w.heap.size w w' := by
  obtain ⟨W, hW, h0, h1, hb⟩ := two_ev w
  have HW : Hid (_ = W) := hW
  have H0 : Hid (EvAt W w.heap.size zeroE) := h0
  have H1 : Hid (EvAt W (w.heap.size + 1) zeroE) := h1
  have HB : Hid (Below w.heap.size w W) := hb
  have T1 : Hid True := trivial
  clear hW h0 h1 hb
  rcases hv with hv | ⟨hv0, hv⟩
  all_goals
    try have d1 : decide (v < 1) = false := by simp; omega
    go_enter Try.func16, Try.ntmps16
    go_wp2_with (first
      | ((with_reducible refine guard_store 24 ?_); clear T1; rw [show (w.alloc (.cells #[.int .i64 0, .int .i64 0, .int .i64 0, .int .i64 0, .int .i64 0, .int .i64 0, .int .i64 0, .string ⟨#[]⟩, .int .i64 0, .string ⟨#[]⟩] 24)).alloc (.cells #[.int .i64 0, .int .i64 0, .int .i64 0, .int .i64 0, .int .i64 0, .int .i64 0, .int .i64 0, .string ⟨#[]⟩, .int .i64 0, .string ⟨#[]⟩] 24) = W from HW.out]; refine wpList_store_ev (e := zeroE) (e2 := zeroE) rfl _ _ rfl H1.out rfl rfl ?_; intro x1 z1 z2 z3 z4; have HN : Hid (EvAt x1 (w.heap.size + 1) zeroE) := z1; have HR : Hid (EvAt x1 w.heap.size zeroE) := (z3 _ (by omega)).trans H0.out; have HBX : Hid (Below w.heap.size w x1) := z2 _ _ HB.out (by omega); clear z1 z2 z3 z4)
      | ((with_reducible refine guard_load 24 ?_); refine wpList_load_ev rfl _ rfl HN.out rfl ?_)
      | ((with_reducible refine guard_store 24 ?_); refine wpList_store_ev (e := zeroE) (e2 := zeroE) rfl _ _ rfl HR.out rfl rfl ?_; intro x5 z1 z2 z3 z4))
    exact bodyPost_ret (results_ev rfl _ _ _ _ _ rfl rfl z1) rfl ⟨rfl, z2 _ _ HBX.out (Nat.le_refl _)⟩
theorem mk11 (w : World) : (Instr.makeSlice 55 (.int .i64 11) (.int .i64 11)).run Try.prog w = .ok (.slice (some ⟨w.heap.size, 0, none⟩) 11 11) (w.alloc (.cells #[.int .i64 0, .int .i64 0, .int .i64 0, .int .i64 0, .int .i64 0, .int .i64 0, .int .i64 0, .int .i64 0, .int .i64 0, .int .i64 0, .int .i64 0] 3)) := by kernel_rfl
theorem rv_box (w3 : World) : ∃ W, (w3.alloc (.cells #[.int .i64 0, .int .i64 0, .int .i64 0, .int .i64 0, .int .i64 0, .int .i64 0, .int .i64 0, .int .i64 0, .int .i64 0, .int .i64 0, .int .i64 0] 3)).alloc (.cells (evA zeroE) 24) = W ∧ EvAt W (w3.heap.size + 1) zeroE ∧ W.heap[w3.heap.size]? = some (.cells (IV [0, 0, 0, 0, 0, 0, 0, 0, 0, 0, 0]) 3) ∧ Below w3.heap.size w3 W := by
  refine ⟨_, rfl, ?_, ?_, (((Below.refl _ _).alloc (Nat.le_refl _) _).alloc (by simp) _)⟩
  · have := evAt_new (w3.alloc (.cells #[.int .i64 0, .int .i64 0, .int .i64 0, .int .i64 0, .int .i64 0, .int .i64 0, .int .i64 0, .int .i64 0, .int .i64 0, .int .i64 0, .int .i64 0] 3)) zeroE
    simpa using this
  · exact (Below.heap_alloc _ _ _ (by simp)).trans (heap_alloc_new w3 _)
theorem Rv.start {w w3 x : World} {v : Int} (hb : Below w.heap.size w w3) (h0 : EvAt w3 w.heap.size zeroE) (h1 : EvAt w3 (w.heap.size + 1) zeroE) (h3 : Below w3.heap.size w3 x) (hn : x.heap[w3.heap.size]? = some (.cells (IV [0, 0, 0, 0, 0, 0, 0, 0, 0, 0, 0]) 3)) (he : EvAt x (w3.heap.size + 1) zeroE) : Rv w w3 x v [] := by
  refine ⟨hb, h3, h0, h1, ⟨?_, fun j => frozen_of_row _ _ j _ _ hn⟩, he⟩
  rw [zero_nums]
  exact row_of hn
theorem take_mem {fs : List Fld} {k : Nat} {f g : Fld} (h : fs[k]? = some f) (hg : g ∈ fs.take (k + 1)) : g ∈ fs.take k ∨ g = f := by
  have hk : k < fs.length := by
    by_cases hh : k < fs.length
    · exact hh
    · rw [List.getElem?_eq_none (by omega)] at h; cases h
  rw [List.getElem?_eq_getElem hk] at h
  rw [List.take_succ_eq_append_getElem hk, Option.some.inj h] at hg
  rcases List.mem_append.1 hg with h1 | h1
  · exact .inl h1
  · exact .inr (List.mem_singleton.1 h1)
/-- the fields of the version's tags among the first k -/
def gsl (H : Int) (fs : List Fld) (k : Nat) : List Fld := (fs.take k).filter (fun f => decide (f.tag ≤ H))
def alN (H : Int) (fs : List Fld) (k : Nat) : Bool := (fs.take k).any (fun f => decide (H < f.tag))
theorem gsl_step {H : Int} {fs : List Fld} {k : Nat} {f : Fld} (h : fs[k]? = some f) : gsl H fs (k + 1) = if f.tag ≤ H then gsl H fs k ++ [f] else gsl H fs k := by
  have hk : k < fs.length := by
    by_cases hh : k < fs.length
    · exact hh
    · rw [List.getElem?_eq_none (by omega)] at h; cases h
  rw [List.getElem?_eq_getElem hk] at h
  unfold gsl
  rw [List.take_succ_eq_append_getElem hk, Option.some.inj h, List.filter_append, List.filter_cons]
  by_cases e : f.tag ≤ H
  · rw [if_pos e, if_pos (by simpa using e)]; rfl
  · rw [if_neg e, if_neg (by simpa using e)]; simp
theorem alN_step {H : Int} {fs : List Fld} {k : Nat} {f : Fld} (h : fs[k]? = some f) : alN H fs (k + 1) = (alN H fs k || decide (H < f.tag)) := by
  have hk : k < fs.length := by
    by_cases hh : k < fs.length
    · exact hh
    · rw [List.getElem?_eq_none (by omega)] at h; cases h
  rw [List.getElem?_eq_getElem hk] at h
  unfold alN
  rw [List.take_succ_eq_append_getElem hk, Option.some.inj h, List.any_append]
  simp
theorem gsl_fresh {H : Int} {fs : List Fld} (hp : fs.Pairwise (fun f g => f.tag < g.tag)) {k : Nat} {f : Fld} (h : fs[k]? = some f) : getF (gsl H fs k) f.tag = none := by
  rw [getF_none]
  intro g hg e
  have hg2 := (List.mem_filter.1 hg).1
  have hk : k < fs.length := by
    by_cases hh : k < fs.length
    · exact hh
    · rw [List.getElem?_eq_none (by omega)] at h; cases h
  obtain ⟨i, hi, hri⟩ := List.mem_iff_getElem.1 hg2
  have hi2 : i < k := by simp at hi; omega
  rw [List.pairwise_iff_getElem] at hp
  have h1 := hp i k (by omega) hk hi2
  rw [List.getElem?_eq_getElem hk] at h
  rw [List.getElem_take] at hri
  rw [hri, Option.some.inj h] at h1
  omega
theorem fill8 {wr : World} {b : Nat} {S8 S10 : ByteArray} (h : EvAt wr b { zeroE with who := S8, note := S10 }) (n1 n2 n3 n4 n5 n6 n7 n9 : Int) (Z : World) (hZ : ((((((((wr.setCell ⟨b, 0, none⟩ (.int .i64 n1)).setCell ⟨b, 1, none⟩ (.int .i64 n2)).setCell ⟨b, 2, none⟩ (.int .i64 n3)).setCell ⟨b, 3, none⟩ (.int .i64 n4)).setCell ⟨b, 4, none⟩ (.int .i64 n5)).setCell ⟨b, 5, none⟩ (.int .i64 n6)).setCell ⟨b, 6, none⟩ (.int .i64 n7)).setCell ⟨b, 8, none⟩ (.int .i64 n9)) = Z) :
    EvAt Z b ⟨n1, n2, n3, n4, n5, n6, n7, S8, n9, S10⟩ ∧ (∀ j, j ≠ b → Z.heap[j]? = wr.heap[j]?) ∧ (∀ B a, Below B a wr → B ≤ b → Below B a Z) := by
  subst hZ
  have s0 : EvAt (wr.setCell ⟨b, 0, none⟩ (.int .i64 n1)) b { zeroE with who := S8, note := S10, kind := n1 } := h.set _ rfl
  have s1 : EvAt ((wr.setCell ⟨b, 0, none⟩ (.int .i64 n1)).setCell ⟨b, 1, none⟩ (.int .i64 n2)) b { zeroE with who := S8, note := S10, kind := n1, order := n2 } := s0.set _ rfl
  have s2 : EvAt (((wr.setCell ⟨b, 0, none⟩ (.int .i64 n1)).setCell ⟨b, 1, none⟩ (.int .i64 n2)).setCell ⟨b, 2, none⟩ (.int .i64 n3)) b { zeroE with who := S8, note := S10, kind := n1, order := n2, item := n3 } := s1.set _ rfl
  have s3 : EvAt ((((wr.setCell ⟨b, 0, none⟩ (.int .i64 n1)).setCell ⟨b, 1, none⟩ (.int .i64 n2)).setCell ⟨b, 2, none⟩ (.int .i64 n3)).setCell ⟨b, 3, none⟩ (.int .i64 n4)) b { zeroE with who := S8, note := S10, kind := n1, order := n2, item := n3, qty := n4 } := s2.set _ rfl
  have s4 : EvAt (((((wr.setCell ⟨b, 0, none⟩ (.int .i64 n1)).setCell ⟨b, 1, none⟩ (.int .i64 n2)).setCell ⟨b, 2, none⟩ (.int .i64 n3)).setCell ⟨b, 3, none⟩ (.int .i64 n4)).setCell ⟨b, 4, none⟩ (.int .i64 n5)) b { zeroE with who := S8, note := S10, kind := n1, order := n2, item := n3, qty := n4, price := n5 } := s3.set _ rfl
  have s5 : EvAt ((((((wr.setCell ⟨b, 0, none⟩ (.int .i64 n1)).setCell ⟨b, 1, none⟩ (.int .i64 n2)).setCell ⟨b, 2, none⟩ (.int .i64 n3)).setCell ⟨b, 3, none⟩ (.int .i64 n4)).setCell ⟨b, 4, none⟩ (.int .i64 n5)).setCell ⟨b, 5, none⟩ (.int .i64 n6)) b { zeroE with who := S8, note := S10, kind := n1, order := n2, item := n3, qty := n4, price := n5, cur := n6 } := s4.set _ rfl
  have s6 : EvAt (((((((wr.setCell ⟨b, 0, none⟩ (.int .i64 n1)).setCell ⟨b, 1, none⟩ (.int .i64 n2)).setCell ⟨b, 2, none⟩ (.int .i64 n3)).setCell ⟨b, 3, none⟩ (.int .i64 n4)).setCell ⟨b, 4, none⟩ (.int .i64 n5)).setCell ⟨b, 5, none⟩ (.int .i64 n6)).setCell ⟨b, 6, none⟩ (.int .i64 n7)) b { zeroE with who := S8, note := S10, kind := n1, order := n2, item := n3, qty := n4, price := n5, cur := n6, tax := n7 } := s5.set _ rfl
  have s8 : EvAt ((((((((wr.setCell ⟨b, 0, none⟩ (.int .i64 n1)).setCell ⟨b, 1, none⟩ (.int .i64 n2)).setCell ⟨b, 2, none⟩ (.int .i64 n3)).setCell ⟨b, 3, none⟩ (.int .i64 n4)).setCell ⟨b, 4, none⟩ (.int .i64 n5)).setCell ⟨b, 5, none⟩ (.int .i64 n6)).setCell ⟨b, 6, none⟩ (.int .i64 n7)).setCell ⟨b, 8, none⟩ (.int .i64 n9)) b { zeroE with who := S8, note := S10, kind := n1, order := n2, item := n3, qty := n4, price := n5, cur := n6, tax := n7, stamp := n9 } := s6.set _ rfl
  exact ⟨s8, fun j hj => ((heap_setCell_other _ ⟨b, 8, none⟩ j _ hj).trans ((heap_setCell_other _ ⟨b, 6, none⟩ j _ hj).trans ((heap_setCell_other _ ⟨b, 5, none⟩ j _ hj).trans ((heap_setCell_other _ ⟨b, 4, none⟩ j _ hj).trans ((heap_setCell_other _ ⟨b, 3, none⟩ j _ hj).trans ((heap_setCell_other _ ⟨b, 2, none⟩ j _ hj).trans ((heap_setCell_other _ ⟨b, 1, none⟩ j _ hj).trans (heap_setCell_other wr ⟨b, 0, none⟩ j _ hj)))))))), fun B a hb hk => ((((((((hb.setCell (p := ⟨b, 0, none⟩) hk _).setCell (p := ⟨b, 1, none⟩) hk _).setCell (p := ⟨b, 2, none⟩) hk _).setCell (p := ⟨b, 3, none⟩) hk _).setCell (p := ⟨b, 4, none⟩) hk _).setCell (p := ⟨b, 5, none⟩) hk _).setCell (p := ⟨b, 6, none⟩) hk _).setCell (p := ⟨b, 8, none⟩) hk _)⟩
set_option maxRecDepth 20000 in
set_option maxHeartbeats 4000000 in
theorem rdec06_yes (v : Int) (l : List Nat) (a : Option Addr) (n cap : Nat) (w : World) (hn : l.length = n) (hb : Bytes w a l) (hcap : n ≤ cap) (hm : n ≤ maxLen) (hv1 : 1 ≤ v) (hv5 : v ≤ 5) (he : (recs l).2.2 = 0) :
    Calls Try.prog 16 #[.int .i64 v, .slice a n cap] w fun r w' => r = .returned (.tuple #[.agg (evA (sdec v l).1), .int .i64 (sdec v l).2]) ∧ Below w.heap.size w w' := by
  have hl := lt_all hb.1
  obtain ⟨r1, r2, r3, r4⟩ := recs_ok l hl he
  obtain ⟨r5, r6⟩ := encs_rise _ _ _ _ r2
  have HPW : Hid ((recs l).1.Pairwise (fun f g => f.tag < g.tag)) := r5
  have HFR : Hid (∀ f ∈ (recs l).1, FRight f ∧ 1 ≤ f.tag ∧ f.tag ≤ 31) := fun f hf => ⟨r3 f hf, (r6 f hf).2.1, (r6 f hf).2.2.1⟩
  obtain ⟨H, hH⟩ : ∃ H, hasK v = H := ⟨_, rfl⟩
  have HHK : Hid (hasK v = H) := hH
  have HHV : Hid ((H : Int) = hasV v) := by show _ = _; rw [← hH]; exact hasK_hasV hv1 hv5
  have hH10 : H ≤ 10 := by have := hasV_le v; have := HHV.out; omega
  have HVV : Hid (1 ≤ v ∧ v ≤ 5) := ⟨hv1, hv5⟩
  have d1 : decide (v < 1) = false := by simp; omega
  have d5 : decide (5 < v) = false := by simp; omega
  obtain ⟨W, hW, h0, h1, hbW⟩ := two_ev w
  have HW : Hid (_ = W) := hW
  have H0 : Hid (EvAt W w.heap.size zeroE) := h0
  have H1 : Hid (EvAt W (w.heap.size + 1) zeroE) := h1
  have HB : Hid (Below w.heap.size w W) := hbW
  have HBY : Hid (Bytes w a l) := hb
  have HN : Hid (_) := hn
  have HE : Hid (_) := he
  have HI0 : Hid (_) := r1
  have HLN : Hid ((recs l).1.length ≤ 512) := by
    have h1 := encs_len _ _ _ _ (fun f hf => (r3 f hf).1) r2
    show _ ≤ _
    simp only [List.length_nil] at h1
    omega
  have T1 : Hid True := trivial
  have hmk := mk11
  clear hW h0 h1 hbW hb hn he hl r1 r2 r3 r4 r5 r6 hH hv1 hv5
  go_enter Try.func16, Try.ntmps16
  go_wp2_with (first
    | ((with_reducible refine guard_store 24 ?_); clear T1; rw [show (w.alloc (.cells #[.int .i64 0, .int .i64 0, .int .i64 0, .int .i64 0, .int .i64 0, .int .i64 0, .int .i64 0, .string ⟨#[]⟩, .int .i64 0, .string ⟨#[]⟩] 24)).alloc (.cells #[.int .i64 0, .int .i64 0, .int .i64 0, .int .i64 0, .int .i64 0, .int .i64 0, .int .i64 0, .string ⟨#[]⟩, .int .i64 0, .string ⟨#[]⟩] 24) = W from HW.out]; refine wpList_store_ev (e := zeroE) (e2 := zeroE) rfl _ _ rfl H1.out rfl rfl ?_; intro x1 z1 z2 z3 z4; have HNN : Hid (EvAt x1 (w.heap.size + 1) zeroE) := z1; have HRR : Hid (EvAt x1 w.heap.size zeroE) := (z3 _ (by omega)).trans H0.out; have HBX : Hid (Below w.heap.size w x1) := z2 _ _ HB.out (by omega); clear z1 z2 z3 z4)
    | (go_at_call 34; refine (rtdec l a n cap _ HN.out (HBY.out.keep HBX.out) hcap hm).mono ?_; unfold DecPost; rw [HE.out, HI0.out]; rintro _ w3 ⟨vv, L, rfl, hL, hR, hb3⟩; obtain ⟨fa, fc, hvv, hF⟩ := hR.fs (fun p hp => by have h9 := (HFR.out p.1 (by rw [hL]; exact List.mem_map_of_mem hp)).1; exact ⟨h9.1, by unfold maxLen; have := h9.2.1; omega⟩); subst hvv; have HL : Hid (_) := hL; have HRW : Hid (Rws w3 x1.heap.size (.slice fa L.length fc) L) := hR; have HFS : Hid (FsAt w3 fa L) := hF; obtain ⟨N, hN⟩ : ∃ N, L.length = N := ⟨_, rfl⟩; have HNL : Hid (L.length = N) := hN; rw [hN]; have HB3 : Hid (Below w.heap.size w w3) := below_next HBX.out hb3; have HN3 : Hid (EvAt w3 (w.heap.size + 1) zeroE) := HNN.out.after hb3; have HR3 : Hid (EvAt w3 w.heap.size zeroE) := HRR.out.after hb3; have hN5 : N ≤ 512 := (by have h9 := HLN.out; rw [hL, List.length_map, hN] at h9; exact h9); clear hL hR hb3 hF hN; obtain ⟨WB, hWB, hwe, hwn, hwb⟩ := rv_box w3; have HWB : Hid ((w3.alloc (.cells #[.int .i64 0, .int .i64 0, .int .i64 0, .int .i64 0, .int .i64 0, .int .i64 0, .int .i64 0, .int .i64 0, .int .i64 0, .int .i64 0, .int .i64 0] 3)).alloc (.cells #[.int .i64 0, .int .i64 0, .int .i64 0, .int .i64 0, .int .i64 0, .int .i64 0, .int .i64 0, .string ⟨#[]⟩, .int .i64 0, .string ⟨#[]⟩] 24) = WB) := hWB; have HWE : Hid (EvAt WB (w3.heap.size + 1) zeroE) := hwe; have HWN : Hid (_) := hwn; have HWL : Hid (Below w3.heap.size w3 WB) := hwb; clear hWB hwe hwn hwb)
    | ((with_reducible refine guard_store 24 ?_); rw [HWB.out]; refine wpList_store_ev (e := zeroE) (e2 := zeroE) rfl _ _ rfl HWE.out rfl rfl ?_; intro x4 z1 z2 z3 z4; have HRV : Hid (Rv w w3 x4 v []) := Rv.start HB3.out HR3.out HN3.out (z2 _ _ HWL.out (by omega)) ((z3 _ (by omega)).trans HWN.out) z1; clear z1 z2 z3 z4))
  go_loopw [10, 37] (fun va vi wr => ∃ k : Nat, k ≤ N ∧ vi = .int .i64 k ∧ va = .bool (alN H (L.map Prod.fst) k) ∧ Hid (Rv w w3 wr v (gsl H (L.map Prod.fst) k) ∧ ∀ f ∈ (L.map Prod.fst).take k, f.tag ≤ (H : Int) → f.text = isT f.tag)) (fun _ vi _ => N - (intOf vi).toNat)
  case atStart => exact ⟨0, Nat.zero_le _, rfl, rfl, HRV.out, fun f hf => by simp at hf⟩
  case round =>
    obtain ⟨k, hk, rfl, rfl, HI⟩ := hrel
    by_cases hkl : k < N
    · obtain ⟨p, hp⟩ : ∃ p, L[k]? = some p := ⟨_, List.getElem?_eq_getElem (by rw [HNL.out]; exact hkl)⟩
      have hpm : p ∈ L := List.mem_of_getElem? hp
      obtain ⟨fb, foff, hab⟩ : ∃ b off, fa = some ⟨b, off, none⟩ := by
        rcases HFS.out.row with h0 | ⟨b2, off2, h1, _⟩
        · rw [h0] at hpm; cases hpm
        · exact ⟨b2, off2, h1⟩
      subst hab
      obtain ⟨c0, c1, c2, c3⟩ := (HFS.out.keep HI.out.1.be3).cells k p hp
      obtain ⟨ad, pcap, hpv, _, _⟩ := (HFS.out.fok p hpm).byt
      have HFI : Hid ((L.map Prod.fst)[k]? = some p.1) := by show _ = _; rw [List.getElem?_map, hp]; rfl
      have HOW : Hid (Own w3 x1.heap.size p.2 p.1.bytes) := HRW.out.byt p hpm
      have hfr := HFR.out p.1 (by rw [HL.out]; exact List.mem_map_of_mem hpm)
      obtain ⟨⟨T, tx, nu, by0⟩, bv⟩ := p
      simp only at c0 c1 c2 c3 hpv hfr HFI HOW
      subst hpv
      obtain ⟨hfr1, hfr2, hfr3⟩ := hfr
      obtain ⟨t, rfl⟩ := Int.eq_ofNat_of_zero_le (by omega : 0 ≤ T)
      obtain ⟨M, hM⟩ : ∃ M, by0.length = M := ⟨_, rfl⟩
      rw [hM] at c3 HOW
      have HNU : Hid (nu ≤ 18446744073709551615) := hfr1.1
      have HFRESH : Hid (getF (gsl H (L.map Prod.fst) k) ((t : Nat) : Int) = none) := gsl_fresh (f := ⟨(t : Int), tx, nu, by0⟩) (by rw [← HL.out]; exact HPW.out) HFI.out
      have HT : Hid (1 ≤ t ∧ t ≤ 31) := ⟨by omega, by omega⟩
      have hFA : FldAt (wr.alloc (.cells #[.int .i64 (t : Int), .bool tx, .int .u64 (nu : Int), .slice ad M pcap] 70)) wr.heap.size (t : Int) tx nu (.slice ad M pcap) := FldAt.new wr _ _ _ _
      have HFA : Hid (FldAt (wr.alloc (.cells #[.int .i64 (t : Int), .bool tx, .int .u64 (nu : Int), .slice ad M pcap] 70)) wr.heap.size (t : Int) tx nu (.slice ad M pcap)) := hFA
      obtain ⟨g0, _, _, _⟩ := hFA.cells
      have HRA : Hid (Rv w w3 (wr.alloc (.cells #[.int .i64 (t : Int), .bool tx, .int .u64 (nu : Int), .slice ad M pcap] 70)) v (gsl H (L.map Prod.fst) k)) := HI.out.1.keep ((Below.refl _ _).alloc (Nat.le_refl _) _)
      clear hfr1 hfr2 hfr3 hM hpm hp hFA
      go_wp2
      obtain ⟨Y, hY⟩ : ∃ Y, wr.alloc (.cells #[.int .i64 (t : Int), .bool tx, .int .u64 (nu : Int), .slice ad M pcap] 70) = Y := ⟨_, rfl⟩
      rw [hY] at g0 HFA HRA ⊢
      clear hY
      go_region_held3 (fun w' => w'.cell? ⟨wr.heap.size, 0, none⟩ = some (.int .i64 (t : Int))) (go_keep) ((go_at_call 27; refine (rhas_any v _ HVV.out.1 HVV.out.2).mono ?_; rw [HHK.out]; rintro _ y1 ⟨rfl, hb1⟩; have hf1 : FldAt y1 wr.heap.size (t : Int) tx nu (.slice ad M pcap) := (show FldAt Y.drew wr.heap.size (t : Int) tx nu (.slice ad M pcap) from HFA.out).keep hb1; obtain ⟨f0, f1, f2, f3⟩ := hf1.cells; have HR1 : Hid (Rv w w3 y1 v (gsl H (L.map Prod.fst) k)) := (show Rv w w3 Y.drew v (gsl H (L.map Prod.fst) k) from HRA.out.keep (Below.refl _ _).drew).keep hb1; clear hf1 hb1))
      by_cases hal : (H : Int) < (t : Int)
      · go_wp2
        go_roundw
        case rel => exact ⟨k + 1, by omega, by go_num, by rw [alN_step HFI.out]; simp [hal], by rw [gsl_step HFI.out, if_neg (show ¬ (t : Int) ≤ (H : Int) by omega)]; exact HR1.out, fun f hf hfH => by rcases take_mem HFI.out hf with h9 | rfl; exact HI.out.2 f h9 hfH; exfalso; simp only at hfH; omega⟩
        case measure => simp [intOf]; omega
      · have hald : decide ((H : Int) < (t : Int)) = false := by simp; omega
        have hth : t ≤ H := by omega
        have HCV : Hid (Own y1 x1.heap.size (.slice ad M pcap) by0) := own_app HOW.out HR1.out.be3
        clear c0 c1 c2 c3 g0
        by_cases h8 : t = 8
        · subst h8
          cases tx with
          | false =>
            have HSD : Hid (sdec v l = (zeroE, 33)) := sdec_wrong HVV.out.1 HVV.out.2 HE.out HPW.out (fun f hf => (HFR.out f hf).2.1) (f := ⟨((8 : Nat) : Int), false, nu, by0⟩) (by rw [HL.out]; exact List.mem_of_getElem? HFI.out) (by rw [← HHV.out]; show ((8 : Nat) : Int) ≤ (H : Int); omega) (by simp [isT])
            have HNY : Hid (EvAt y1 (w.heap.size + 1) zeroE) := HR1.out.non.after HR1.out.be3
            have HRY : Hid (EvAt y1 w.heap.size zeroE) := HR1.out.res.after HR1.out.be3
            have HBY1 : Hid (Below w.heap.size w y1) := below_next HR1.out.bel HR1.out.be3
            go_wp2_with (first
              | ((with_reducible refine guard_load 24 ?_); refine wpList_load_ev rfl _ rfl HNY.out rfl ?_)
              | ((with_reducible refine guard_store 24 ?_); refine wpList_store_ev (e := zeroE) (e2 := zeroE) rfl _ _ rfl HRY.out rfl rfl ?_; intro x5 z1 z2 z3 z4))
            rw [HSD.out]
            exact bodyPost_ret (results_ev rfl _ _ _ _ _ rfl rfl z1) rfl ⟨rfl, z2 _ _ HBY1.out (Nat.le_refl _)⟩
          | true =>
            obtain ⟨ec0, ec1, ec2, ec3, ec4, ec5, ec6, ec7, ec8, ec9⟩ := HR1.out.ev.cells
            have ef7 := HR1.out.ev.froz 7
            have hcn := conv_own HCV.out
            have HNEW : Hid (Rv w w3 (y1.setCell ⟨w3.heap.size + 1, 7, none⟩ (.string (str8 by0))) v (gsl H (L.map Prod.fst) k ++ [⟨((8 : Nat) : Int), true, nu, by0⟩])) := HR1.out.who (f := ⟨((8 : Nat) : Int), true, nu, by0⟩) HFRESH.out rfl rfl
            go_wp2
            go_roundw
            case rel => exact ⟨k + 1, by omega, by go_num, by rw [alN_step HFI.out]; simp [show ¬ (H : Int) < (8 : Int) from by omega], by rw [gsl_step HFI.out, if_pos (show ((8 : Nat) : Int) ≤ (H : Int) by omega)]; exact HNEW.out, fun f hf hfH => by rcases take_mem HFI.out hf with h9 | rfl; exact HI.out.2 f h9 hfH; exact rfl⟩
            case measure => simp [intOf]; omega
        · have t8 : ((t : Int) == 8) = false := by simp; omega
          by_cases h10 : t = 10
          · subst h10
            cases tx with
            | false =>
              have HSD : Hid (sdec v l = (zeroE, 33)) := sdec_wrong HVV.out.1 HVV.out.2 HE.out HPW.out (fun f hf => (HFR.out f hf).2.1) (f := ⟨((10 : Nat) : Int), false, nu, by0⟩) (by rw [HL.out]; exact List.mem_of_getElem? HFI.out) (by rw [← HHV.out]; show ((10 : Nat) : Int) ≤ (H : Int); omega) (by simp [isT])
              have HNY : Hid (EvAt y1 (w.heap.size + 1) zeroE) := HR1.out.non.after HR1.out.be3
              have HRY : Hid (EvAt y1 w.heap.size zeroE) := HR1.out.res.after HR1.out.be3
              have HBY1 : Hid (Below w.heap.size w y1) := below_next HR1.out.bel HR1.out.be3
              go_wp2_with (first
                | ((with_reducible refine guard_load 24 ?_); refine wpList_load_ev rfl _ rfl HNY.out rfl ?_)
                | ((with_reducible refine guard_store 24 ?_); refine wpList_store_ev (e := zeroE) (e2 := zeroE) rfl _ _ rfl HRY.out rfl rfl ?_; intro x5 z1 z2 z3 z4))
              rw [HSD.out]
              exact bodyPost_ret (results_ev rfl _ _ _ _ _ rfl rfl z1) rfl ⟨rfl, z2 _ _ HBY1.out (Nat.le_refl _)⟩
            | true =>
              obtain ⟨ec0, ec1, ec2, ec3, ec4, ec5, ec6, ec7, ec8, ec9⟩ := HR1.out.ev.cells
              have ef9 := HR1.out.ev.froz 9
              have hcn := conv_own HCV.out
              have HNEW : Hid (Rv w w3 (y1.setCell ⟨w3.heap.size + 1, 9, none⟩ (.string (str8 by0))) v (gsl H (L.map Prod.fst) k ++ [⟨((10 : Nat) : Int), true, nu, by0⟩])) := HR1.out.note (f := ⟨((10 : Nat) : Int), true, nu, by0⟩) HFRESH.out rfl rfl
              go_wp2
              go_roundw
              case rel => exact ⟨k + 1, by omega, by go_num, by rw [alN_step HFI.out]; simp [show ¬ (H : Int) < (10 : Int) from by omega], by rw [gsl_step HFI.out, if_pos (show ((10 : Nat) : Int) ≤ (H : Int) by omega)]; exact HNEW.out, fun f hf hfH => by rcases take_mem HFI.out hf with h9 | rfl; exact HI.out.2 f h9 hfH; exact rfl⟩
              case measure => simp [intOf]; omega
          · have t10 : ((t : Int) == 10) = false := by simp; omega
            have HISF : Hid (isT (t : Int) = false) := by show _ = _; unfold isT; simp; omega
            cases tx with
            | true =>
              have HSD : Hid (sdec v l = (zeroE, 33)) := sdec_wrong HVV.out.1 HVV.out.2 HE.out HPW.out (fun f hf => (HFR.out f hf).2.1) (f := ⟨((t : Nat) : Int), true, nu, by0⟩) (by rw [HL.out]; exact List.mem_of_getElem? HFI.out) (by rw [← HHV.out]; show ((t : Nat) : Int) ≤ (H : Int); omega) (by show true ≠ isT (t : Int); rw [HISF.out]; simp)
              have HNY : Hid (EvAt y1 (w.heap.size + 1) zeroE) := HR1.out.non.after HR1.out.be3
              have HRY : Hid (EvAt y1 w.heap.size zeroE) := HR1.out.res.after HR1.out.be3
              have HBY1 : Hid (Below w.heap.size w y1) := below_next HR1.out.bel HR1.out.be3
              go_wp2_with (first
                | ((with_reducible refine guard_load 24 ?_); refine wpList_load_ev rfl _ rfl HNY.out rfl ?_)
                | ((with_reducible refine guard_store 24 ?_); refine wpList_store_ev (e := zeroE) (e2 := zeroE) rfl _ _ rfl HRY.out rfl rfl ?_; intro x5 z1 z2 z3 z4))
              rw [HSD.out]
              exact bodyPost_ret (results_ev rfl _ _ _ _ _ rfl rfl z1) rfl ⟨rfl, z2 _ _ HBY1.out (Nat.le_refl _)⟩
            | false =>
              have hn4 := HR1.out.num.row.2 t (by rw [NL_len]; omega)
              have hf4 := HR1.out.num.fro t
              by_cases h4 : t = 4 ∧ v ≤ 2
              · obtain ⟨rfl, hv2⟩ := h4
                have v3 : v < 3 := by omega
                have HNEW : Hid (Rv w w3 (y1.setCell ⟨w3.heap.size, 4, none⟩ (.int .i64 (zag (nu : Int)))) v (gsl H (L.map Prod.fst) k ++ [⟨((4 : Nat) : Int), false, nu, by0⟩])) := HR1.out.put (f := ⟨((4 : Nat) : Int), false, nu, by0⟩) 4 rfl (by omega) HFRESH.out HISF.out rfl _ (by rw [if_pos ⟨rfl, hv2⟩])
                go_wp2_with (go_at_call 35; refine (rzag_any (nu : Int) _ (by omega) (by have := HNU.out; omega)).mono ?_; rintro _ y2 ⟨rfl, rfl⟩)
                go_roundw
                case rel => exact ⟨k + 1, by omega, by go_num, by rw [alN_step HFI.out]; simp [show ¬ (H : Int) < (4 : Int) from by omega], by rw [gsl_step HFI.out, if_pos (show ((4 : Nat) : Int) ≤ (H : Int) by omega)]; exact HNEW.out, fun f hf hfH => by rcases take_mem HFI.out hf with h9 | rfl; exact HI.out.2 f h9 hfH; exact rfl⟩
                case measure => simp [intOf]; omega
              · have HNEW : Hid (Rv w w3 (y1.setCell ⟨w3.heap.size, t, none⟩ (.int .i64 (capN nu))) v (gsl H (L.map Prod.fst) k ++ [⟨(t : Int), false, nu, by0⟩])) := HR1.out.put (f := ⟨(t : Int), false, nu, by0⟩) t rfl (by omega) HFRESH.out HISF.out rfl _ (by rw [if_neg h4])
                have ht0 : (0 : Int) ≤ (t : Int) := by omega
                have ht11 : (t : Int) < 11 := by omega
                by_cases ht4 : t = 4
                · subst ht4
                  have v3 : decide (v < 3) = false := by simp; omega
                  go_wp2
                  go_region_with (go_at_call 36; refine (clamp_any nu _).mono ?_; rintro _ y2 ⟨rfl, rfl⟩)
                  all_goals have HNEWD := HNEW.out.drew
                  all_goals go_wp2
                  all_goals go_roundw
                  all_goals (first | (exact ⟨k + 1, by omega, by go_num, by rw [alN_step HFI.out]; simp [show ¬ (H : Int) < (4 : Int) from by omega], by rw [gsl_step HFI.out, if_pos (show ((4 : Nat) : Int) ≤ (H : Int) by omega)]; exact HNEWD.out, fun f hf hfH => by rcases take_mem HFI.out hf with h9 | rfl; exact HI.out.2 f h9 hfH; exact HISF.out.symm⟩) | (simp [intOf]; omega))
                · have tt4 : ((t : Int) == 4) = false := by simp; omega
                  go_wp2
                  go_region_with (go_at_call 36; refine (clamp_any nu _).mono ?_; rintro _ y2 ⟨rfl, rfl⟩)
                  all_goals have HNEWD := HNEW.out.drew
                  all_goals go_wp2
                  all_goals go_roundw
                  all_goals (first | (exact ⟨k + 1, by omega, by go_num, by rw [alN_step HFI.out]; simp [show ¬ (H : Int) < (t : Int) from by omega], by rw [gsl_step HFI.out, if_pos (show ((t : Nat) : Int) ≤ (H : Int) by omega)]; exact HNEWD.out, fun f hf hfH => by rcases take_mem HFI.out hf with h9 | rfl; exact HI.out.2 f h9 hfH; exact HISF.out.symm⟩) | (simp [intOf]; omega))
    · obtain rfl : k = N := by omega
      have HTK : Hid ((L.map Prod.fst).take k = L.map Prod.fst) := List.take_of_length_le (by rw [List.length_map, HNL.out]; exact Nat.le_refl _)
      have HFORM : Hid (∀ f ∈ (recs l).1, f.tag ≤ hasV v → f.text = isT f.tag) := fun f hf hfH => HI.out.2 f (by rw [HTK.out, ← HL.out]; exact hf) (by rw [HHV.out]; exact hfH)
      have HNY : Hid (EvAt wr (w.heap.size + 1) zeroE) := HI.out.1.non.after HI.out.1.be3
      have HRY : Hid (EvAt wr w.heap.size zeroE) := HI.out.1.res.after HI.out.1.be3
      have HBY1 : Hid (Below w.heap.size w wr) := below_next HI.out.1.bel HI.out.1.be3
      by_cases hal : alN H (L.map Prod.fst) k = true
      · have HSD : Hid (sdec v l = (zeroE, 20)) := by
          have h9 := hal
          unfold alN at h9
          rw [HTK.out, List.any_eq_true] at h9
          obtain ⟨f, hf, hfh⟩ := h9
          exact sdec_alien HVV.out.1 HVV.out.2 HE.out HFORM.out (f := f) (by rw [HL.out]; exact hf) (by rw [← HHV.out]; simpa using hfh)
        rw [hal]
        clear hal
        go_wp2_with (first
          | ((with_reducible refine guard_load 24 ?_); refine wpList_load_ev rfl _ rfl HNY.out rfl ?_)
          | ((with_reducible refine guard_store 24 ?_); refine wpList_store_ev (e := zeroE) (e2 := zeroE) rfl _ _ rfl HRY.out rfl rfl ?_; intro x5 z1 z2 z3 z4))
        rw [HSD.out]
        exact bodyPost_ret (results_ev rfl _ _ _ _ _ rfl rfl z1) rfl ⟨rfl, z2 _ _ HBY1.out (Nat.le_refl _)⟩
      · have half : alN H (L.map Prod.fst) k = false := by simpa using hal
        have HALL : Hid (∀ f ∈ L.map Prod.fst, f.tag ≤ (H : Int)) := fun f hf => by
          have h9 := half
          unfold alN at h9
          rw [HTK.out, List.any_eq_false] at h9
          have := h9 f hf
          simp at this
          exact this
        have HGS : Hid (gsl H (L.map Prod.fst) k = L.map Prod.fst) := by
          show _ = _
          unfold gsl
          rw [HTK.out, List.filter_eq_self]
          intro f hf
          simpa using HALL.out f hf
        have HSD : Hid (sdec v l = if chk v (evN v (recs l).1) ≠ 0 then (zeroE, chk v (evN v (recs l).1)) else (evN v (recs l).1, 0)) := sdec_fine HVV.out.1 HVV.out.2 HE.out (fun f hf => (HFR.out f hf).2.1) HFORM.out (fun f hf => by rw [← HHV.out]; exact HALL.out f (by rw [← HL.out]; exact hf))
        rw [HL.out] at HSD
        obtain ⟨n1, hn1⟩ : ∃ x, rval v (L.map Prod.fst) 1 = x := ⟨_, rfl⟩
        have a1 : wr.cell? ⟨w3.heap.size, 1, none⟩ = some (.int .i64 n1) := by
          have h9 := HI.out.1.num.row.2 1 (by rw [NL_len]; omega)
          rw [HGS.out, NL_get _ _ _ (by omega), hn1] at h9
          exact h9
        obtain ⟨n2, hn2⟩ : ∃ x, rval v (L.map Prod.fst) 2 = x := ⟨_, rfl⟩
        have a2 : wr.cell? ⟨w3.heap.size, 2, none⟩ = some (.int .i64 n2) := by
          have h9 := HI.out.1.num.row.2 2 (by rw [NL_len]; omega)
          rw [HGS.out, NL_get _ _ _ (by omega), hn2] at h9
          exact h9
        obtain ⟨n3, hn3⟩ : ∃ x, rval v (L.map Prod.fst) 3 = x := ⟨_, rfl⟩
        have a3 : wr.cell? ⟨w3.heap.size, 3, none⟩ = some (.int .i64 n3) := by
          have h9 := HI.out.1.num.row.2 3 (by rw [NL_len]; omega)
          rw [HGS.out, NL_get _ _ _ (by omega), hn3] at h9
          exact h9
        obtain ⟨n4, hn4⟩ : ∃ x, rval v (L.map Prod.fst) 4 = x := ⟨_, rfl⟩
        have a4 : wr.cell? ⟨w3.heap.size, 4, none⟩ = some (.int .i64 n4) := by
          have h9 := HI.out.1.num.row.2 4 (by rw [NL_len]; omega)
          rw [HGS.out, NL_get _ _ _ (by omega), hn4] at h9
          exact h9
        obtain ⟨n5, hn5⟩ : ∃ x, rval v (L.map Prod.fst) 5 = x := ⟨_, rfl⟩
        have a5 : wr.cell? ⟨w3.heap.size, 5, none⟩ = some (.int .i64 n5) := by
          have h9 := HI.out.1.num.row.2 5 (by rw [NL_len]; omega)
          rw [HGS.out, NL_get _ _ _ (by omega), hn5] at h9
          exact h9
        obtain ⟨n6, hn6⟩ : ∃ x, rval v (L.map Prod.fst) 6 = x := ⟨_, rfl⟩
        have a6 : wr.cell? ⟨w3.heap.size, 6, none⟩ = some (.int .i64 n6) := by
          have h9 := HI.out.1.num.row.2 6 (by rw [NL_len]; omega)
          rw [HGS.out, NL_get _ _ _ (by omega), hn6] at h9
          exact h9
        obtain ⟨n7, hn7⟩ : ∃ x, rval v (L.map Prod.fst) 7 = x := ⟨_, rfl⟩
        have a7 : wr.cell? ⟨w3.heap.size, 7, none⟩ = some (.int .i64 n7) := by
          have h9 := HI.out.1.num.row.2 7 (by rw [NL_len]; omega)
          rw [HGS.out, NL_get _ _ _ (by omega), hn7] at h9
          exact h9
        obtain ⟨n9, hn9⟩ : ∃ x, rval v (L.map Prod.fst) 9 = x := ⟨_, rfl⟩
        have a9 : wr.cell? ⟨w3.heap.size, 9, none⟩ = some (.int .i64 n9) := by
          have h9 := HI.out.1.num.row.2 9 (by rw [NL_len]; omega)
          rw [HGS.out, NL_get _ _ _ (by omega), hn9] at h9
          exact h9
        obtain ⟨S8, hS8⟩ : ∃ x, str8 (txtF (L.map Prod.fst) 8) = x := ⟨_, rfl⟩
        obtain ⟨S10, hS10⟩ : ∃ x, str8 (txtF (L.map Prod.fst) 10) = x := ⟨_, rfl⟩
        have he0 : EvAt wr (w3.heap.size + 1) { zeroE with who := S8, note := S10 } := by
          have h9 := HI.out.1.ev
          rw [HGS.out, hS8, hS10] at h9
          exact h9
        have hEV : evN v (L.map Prod.fst) = ⟨n1, n2, n3, n4, n5, n6, n7, S8, n9, S10⟩ := by unfold evN; rw [hn1, hn2, hn3, hn4, hn5, hn6, hn7, hn9, hS8, hS10]
        rw [hEV] at HSD
        rw [half]
        clear half hEV hn1 hn2 hn3 hn4 hn5 hn6 hn7 hn9 hS8 hS10 hal
        obtain ⟨b0, b1, b2, b3, b4, b5, b6, b7, b8, b9⟩ := he0.cells
        have q0 := he0.froz 0
        have q1 := he0.froz 1
        have q2 := he0.froz 2
        have q3 := he0.froz 3
        have q4 := he0.froz 4
        have q5 := he0.froz 5
        have q6 := he0.froz 6
        have q8 := he0.froz 8
        have hne1 : ¬ w3.heap.size = w3.heap.size + 1 := by omega
        have hne2 : ¬ w3.heap.size + 1 = w3.heap.size := by omega
        obtain ⟨Z, hZ⟩ : ∃ Z, ((((((((wr.setCell ⟨w3.heap.size + 1, 0, none⟩ (.int .i64 n1)).setCell ⟨w3.heap.size + 1, 1, none⟩ (.int .i64 n2)).setCell ⟨w3.heap.size + 1, 2, none⟩ (.int .i64 n3)).setCell ⟨w3.heap.size + 1, 3, none⟩ (.int .i64 n4)).setCell ⟨w3.heap.size + 1, 4, none⟩ (.int .i64 n5)).setCell ⟨w3.heap.size + 1, 5, none⟩ (.int .i64 n6)).setCell ⟨w3.heap.size + 1, 6, none⟩ (.int .i64 n7)).setCell ⟨w3.heap.size + 1, 8, none⟩ (.int .i64 n9)) = Z := ⟨_, rfl⟩
        have HZ : Hid (((((((((wr.setCell ⟨w3.heap.size + 1, 0, none⟩ (.int .i64 n1)).setCell ⟨w3.heap.size + 1, 1, none⟩ (.int .i64 n2)).setCell ⟨w3.heap.size + 1, 2, none⟩ (.int .i64 n3)).setCell ⟨w3.heap.size + 1, 3, none⟩ (.int .i64 n4)).setCell ⟨w3.heap.size + 1, 4, none⟩ (.int .i64 n5)).setCell ⟨w3.heap.size + 1, 5, none⟩ (.int .i64 n6)).setCell ⟨w3.heap.size + 1, 6, none⟩ (.int .i64 n7)).setCell ⟨w3.heap.size + 1, 8, none⟩ (.int .i64 n9)) = Z) := hZ
        have hsz : w.heap.size + 2 ≤ w3.heap.size := by have := HN3.out.lt; omega
        obtain ⟨f1, f2, f3⟩ := fill8 he0 n1 n2 n3 n4 n5 n6 n7 n9 _ hZ
        have HEZ : Hid (EvAt Z (w3.heap.size + 1) ⟨n1, n2, n3, n4, n5, n6, n7, S8, n9, S10⟩) := f1
        have HNZ : Hid (EvAt Z (w.heap.size + 1) zeroE) := (f2 _ (by omega)).trans HNY.out
        have HRZ : Hid (EvAt Z w.heap.size zeroE) := (f2 _ (by omega)).trans HRY.out
        have HBZ : Hid (Below w.heap.size w Z) := f3 _ _ HBY1.out (by omega)
        clear he0 f1 f2 f3 hZ
        obtain ⟨EE, hEE⟩ : ∃ E : Ev, E = ⟨n1, n2, n3, n4, n5, n6, n7, S8, n9, S10⟩ := ⟨_, rfl⟩
        rw [← hEE] at HEZ HSD
        obtain ⟨c, hC⟩ : ∃ c, chk v EE = c := ⟨_, rfl⟩
        have HC : Hid (_) := hC
        rw [hC] at HSD
        clear hEE hC
        by_cases hc : c = 0
        · subst hc
          have HSD2 : Hid (sdec v l = (EE, 0)) := by show _ = _; rw [HSD.out]; rfl
          have T2 : Hid True := trivial
          go_wp2_with (first
          | ((with_reducible refine guard_load 24 ?_); clear T2; rw [HZ.out]; refine wpList_load_ev rfl _ rfl HEZ.out rfl ?_)
          | ((with_reducible refine guard_load 24 ?_); first | refine wpList_load_ev rfl _ rfl HEZ.out rfl ?_ | refine wpList_load_ev rfl _ rfl HNZ.out rfl ?_)
          | (go_at_call 11; refine (rcheck_ev v EE _).mono ?_; rw [HC.out]; rintro _ y9 ⟨rfl, hb9⟩; have h1 := HEZ.out.after hb9; have h2 := HNZ.out.after hb9; have h3 := HRZ.out.after hb9; have h4 := below_next HBZ.out hb9; clear HEZ HNZ HRZ HBZ hb9; have HEZ : Hid (EvAt y9 (w3.heap.size + 1) EE) := h1; have HNZ : Hid (EvAt y9 (w.heap.size + 1) zeroE) := h2; have HRZ : Hid (EvAt y9 w.heap.size zeroE) := h3; have HBZ : Hid (Below w.heap.size w y9) := h4; clear h1 h2 h3 h4)
          | ((with_reducible refine guard_store 24 ?_); refine wpList_store_ev (e := zeroE) (e2 := EE) rfl _ _ rfl HRZ.out rfl rfl ?_; intro x5 z1 z2 z3 z4))
          rw [HSD2.out]
          exact bodyPost_ret (results_ev rfl _ _ _ _ _ rfl rfl z1) rfl ⟨rfl, z2 _ _ HBZ.out (Nat.le_refl _)⟩
        · have HSD2 : Hid (sdec v l = (zeroE, c)) := by show _ = _; rw [HSD.out, if_pos hc]
          have hcb : (c != 0) = true := by simpa using hc
          have T2 : Hid True := trivial
          go_wp2_with (first
          | ((with_reducible refine guard_load 24 ?_); clear T2; rw [HZ.out]; refine wpList_load_ev rfl _ rfl HEZ.out rfl ?_)
          | ((with_reducible refine guard_load 24 ?_); first | refine wpList_load_ev rfl _ rfl HEZ.out rfl ?_ | refine wpList_load_ev rfl _ rfl HNZ.out rfl ?_)
          | (go_at_call 11; refine (rcheck_ev v EE _).mono ?_; rw [HC.out]; rintro _ y9 ⟨rfl, hb9⟩; have h1 := HEZ.out.after hb9; have h2 := HNZ.out.after hb9; have h3 := HRZ.out.after hb9; have h4 := below_next HBZ.out hb9; clear HEZ HNZ HRZ HBZ hb9; have HEZ : Hid (EvAt y9 (w3.heap.size + 1) EE) := h1; have HNZ : Hid (EvAt y9 (w.heap.size + 1) zeroE) := h2; have HRZ : Hid (EvAt y9 w.heap.size zeroE) := h3; have HBZ : Hid (Below w.heap.size w y9) := h4; clear h1 h2 h3 h4)
          | ((with_reducible refine guard_store 24 ?_); refine wpList_store_ev (e := zeroE) (e2 := zeroE) rfl _ _ rfl HRZ.out rfl rfl ?_; intro x5 z1 z2 z3 z4))
          rw [HSD2.out]
          exact bodyPost_ret (results_ev rfl _ _ _ _ _ rfl rfl z1) rfl ⟨rfl, z2 _ _ HBZ.out (Nat.le_refl _)⟩
end Go.Proofs.Ytfhcbdmmckjmaaa
/-! Reference Decode of layer 6: whatever it is given. -/
namespace Go.Proofs.Ytfhcbdmmckjmaaa
open Go.ChangeShapes Go.WideShapes Go.ChangeAt Go.RowKit
set_option linter.unusedVariables false
set_option maxRecDepth 20000 in
set_option maxHeartbeats 1000000 in
theorem rdec06_bad (v : Int) (l : List Nat) (a : Option Addr) (n cap : Nat) (w : World) (hn : l.length = n) (hb : Bytes w a l) (hcap : n ≤ cap) (hm : n ≤ maxLen) (hv1 : 1 ≤ v) (hv5 : v ≤ 5) (he : (recs l).2.2 ≠ 0) :
    Calls Try.prog 16 #[.int .i64 v, .slice a n cap] w fun r w' => r = .returned (.tuple #[.agg (evA zeroE), .int .i64 ((recs l).2.2 : Int)]) ∧ Below w.heap.size w w' := by
  have d1 : decide (v < 1) = false := by simp; omega
  have d5 : decide (5 < v) = false := by simp; omega
  obtain ⟨W, hW, h0, h1, hbW⟩ := two_ev w
  have HW : Hid (_ = W) := hW
  have H0 : Hid (EvAt W w.heap.size zeroE) := h0
  have H1 : Hid (EvAt W (w.heap.size + 1) zeroE) := h1
  have HB : Hid (Below w.heap.size w W) := hbW
  have HBY : Hid (Bytes w a l) := hb
  have HN : Hid (_) := hn
  obtain ⟨e, hE⟩ : ∃ e, (recs l).2.2 = e := ⟨_, rfl⟩
  have HEE : Hid (_) := hE
  obtain ⟨i, hI⟩ : ∃ i, (recs l).2.1 = i := ⟨_, rfl⟩
  have HII : Hid (_) := hI
  rw [hE] at he ⊢
  have heb : ((e : Int) != 0) = true := by simp; omega
  have T1 : Hid True := trivial
  clear hW h0 h1 hbW hb hn he hE hI hv1 hv5
  go_enter Try.func16, Try.ntmps16
  go_wp2_with (first
    | ((with_reducible refine guard_store 24 ?_); clear T1; rw [show (w.alloc (.cells #[.int .i64 0, .int .i64 0, .int .i64 0, .int .i64 0, .int .i64 0, .int .i64 0, .int .i64 0, .string ⟨#[]⟩, .int .i64 0, .string ⟨#[]⟩] 24)).alloc (.cells #[.int .i64 0, .int .i64 0, .int .i64 0, .int .i64 0, .int .i64 0, .int .i64 0, .int .i64 0, .string ⟨#[]⟩, .int .i64 0, .string ⟨#[]⟩] 24) = W from HW.out]; refine wpList_store_ev (e := zeroE) (e2 := zeroE) rfl _ _ rfl H1.out rfl rfl ?_; intro x1 z1 z2 z3 z4; have HNN : Hid (EvAt x1 (w.heap.size + 1) zeroE) := z1; have HRR : Hid (EvAt x1 w.heap.size zeroE) := (z3 _ (by omega)).trans H0.out; have HBX : Hid (Below w.heap.size w x1) := z2 _ _ HB.out (by omega); clear z1 z2 z3 z4)
    | (go_at_call 34; refine (rtdec l a n cap _ HN.out (HBY.out.keep HBX.out) hcap hm).mono ?_; rintro r w3 ⟨vv, L, hr, hL, hR, hb3⟩; rw [HEE.out, HII.out] at hr; subst hr; clear hL hR; have HB3 : Hid (Below w.heap.size w w3) := below_next HBX.out hb3; have HN3 : Hid (EvAt w3 (w.heap.size + 1) zeroE) := HNN.out.after hb3; have HR3 : Hid (EvAt w3 w.heap.size zeroE) := HRR.out.after hb3; clear hb3)
    | ((with_reducible refine guard_load 24 ?_); refine wpList_load_ev rfl _ rfl HN3.out rfl ?_)
    | ((with_reducible refine guard_store 24 ?_); refine wpList_store_ev (e := zeroE) (e2 := zeroE) rfl _ _ rfl HR3.out rfl rfl ?_; intro x5 z1 z2 z3 z4))
  exact bodyPost_ret (results_ev rfl _ _ _ _ _ rfl rfl z1) rfl ⟨rfl, z2 _ _ HB3.out (Nat.le_refl _)⟩
theorem rdec06_any (v : Int) (l : List Nat) (a : Option Addr) (n cap : Nat) (w : World) (hn : l.length = n) (hb : Bytes w a l) (hcap : n ≤ cap) (hm : n ≤ maxLen) :
    Calls Try.prog 16 #[.int .i64 v, .slice a n cap] w fun r w' => r = .returned (.tuple #[.agg (evA (sdec v l).1), .int .i64 (sdec v l).2]) ∧ Below w.heap.size w w' := by
  by_cases hv : v < 1 ∨ 5 < v
  · rw [show sdec v l = (zeroE, 30) from if_pos hv]
    exact rdec06_no v a n cap w (by omega)
  · by_cases he : (recs l).2.2 = 0
    · exact rdec06_yes v l a n cap w hn hb hcap hm (by omega) (by omega) he
    · rw [show sdec v l = (zeroE, ((recs l).2.2 : Int)) from (show sdec v l = sdR v (evV v) (qtyV v) (tgV v) l from if_neg hv).trans (if_pos he)]
      exact rdec06_bad v l a n cap w hn hb hcap hm (by omega) (by omega) he
end Go.Proofs.Ytfhcbdmmckjmaaa
