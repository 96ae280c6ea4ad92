/- What index.Last at marks, and index.Seek, answer. -/
import Derived.Test.YtifackbilmkjlabMkS
import Derived.Test.YtifackbilmkjlabSrch
import Derived.Defers
import Derived.Recover
import Derived.Laws.Pointers
import Derived.Deep.RegionWith
namespace Go.Proofs.Ytifackbilmkjlab
open Go.ChangeShapes Go.WideShapes Go.ChangeAt Go.RowKit
set_option linter.unusedVariables false
theorem MkAt.loadVar {w : World} {k : Nat} {s y : Int} (h : MkAt w k s y) : (Go.loadVar 35 ⟨k, 0, none⟩).run Try.prog w = .ok (.agg #[.int .i64 s, .int .i64 y]) w := by
  obtain ⟨h0, h1, _, _⟩ := mk_box h
  simp [go_sem, h0, h1]
theorem results_mk {fn : Func} {p t : Tmp} (h : fn.results = #[.cell p 35, .tmp t]) (tmps : Array Value) (w : World) (k : Nat) {s y : Int} {x : Value} (hp : tmps.getD p undef = .pointer (some ⟨k, 0, none⟩)) (hx : tmps.getD t undef = x) (hl : MkAt w k s y) :
    (results fn tmps).run Try.prog w = .ok (.tuple #[.agg #[.int .i64 s, .int .i64 y], x]) w := by
  simp only [Array.getD_eq_getD_getElem?] at hp hx
  simp [results, h, hp, hx, asAddr, hl.loadVar]
theorem results_int {fn : Func} {t : Tmp} (h : fn.results = #[.cell t 3]) (tmps : Array Value) (w : World) (b : Nat) (v : Value) (ht : tmps.getD t undef = .pointer (some ⟨b, 0, none⟩)) (hl : (Go.loadVar 3 ⟨b, 0, none⟩).run Try.prog w = .ok v w) :
    (results fn tmps).run Try.prog w = .ok v w := by
  simp only [Array.getD_eq_getD_getElem?] at ht
  simp [results, h, ht, asAddr, hl]
set_option maxRecDepth 20000 in
set_option maxHeartbeats 2000000 in
theorem seek1_any (x z seq : Int) (bs : Nat) (w : World) (h : w.cell? ⟨bs, 0, none⟩ = some (.int .i64 seq)) :
    Calls Try.prog 12 #[.agg #[.int .i64 x, .int .i64 z], .pointer (some ⟨bs, 0, none⟩)] w fun e w' => e = .returned (.bool (decide (x ≤ seq))) ∧ Below w.heap.size w w' := by
  have hlt := World.block_lt_of_cell? _ _ h
  simp only at hlt
  go_enter Try.func12, Try.ntmps12
  go_wp2
  go_ret
  exact ⟨rfl, (Below.refl _ _).alloc (Nat.le_refl _) _⟩
set_option maxRecDepth 20000 in
set_option maxHeartbeats 2000000 in
theorem last2_any (x z seq : Int) (b off n cap bs bi bx i : Nat) (w : World) (hin : i < n) (c0 : w.cell? ⟨b, off + i * 2, none⟩ = some (.int .i64 x)) (c1 : w.cell? ⟨b, off + i * 2 + 1, none⟩ = some (.int .i64 z)) (h1 : w.cell? ⟨bi, 0, none⟩ = some (.func (Fn.func 12) #[] #[.pointer (some ⟨bs, 0, none⟩)])) (h2 : w.cell? ⟨bx, 0, none⟩ = some (.slice (some ⟨b, off, none⟩) n cap)) (h3 : w.cell? ⟨bs, 0, none⟩ = some (.int .i64 seq)) :
    Calls Try.prog 16 #[.int .i64 (i : Int), .pointer (some ⟨bi, 0, none⟩), .pointer (some ⟨bx, 0, none⟩)] w fun e w' => e = .returned (.bool (!decide (x ≤ seq))) ∧ Below w.heap.size w w' := by
  have hinI : (i : Int) < (n : Int) := by omega
  have H3 : Hid (w.cell? ⟨bs, 0, none⟩ = some (.int .i64 seq)) := h3
  clear h3
  go_enter Try.func16, Try.ntmps16
  go_wp2
  go_region_with (go_at_call 12; refine (seek1_any x z seq bs _ (by simpa using H3.out)).mono ?_; rintro e w2 ⟨rfl, hb2⟩)
  all_goals go_wp2
  all_goals go_ret
  all_goals refine ⟨rfl, ?_⟩
  all_goals exact (Below.refl _ w).drew.trans hb2
theorem lastD_idle (p0 : Addr) (w : World) : CallsD Try.prog 14 #[.pointer (some p0)] .returning w fun e u' w' => e = .returned (.tuple #[]) ∧ u' = .returning ∧ w' = w := by
  refine callsD_of_wpS Try.func14 rfl fun c₀ cs hu => ?_
  apply wpS_seq
  apply wpS_region
  simp [wpOpsS, go_sem, recoverD, hu, Try.ntmps14, Exit.thenS]
  refine wpS_of_wp ?_
  simp only [Array.replicate, List.replicate]
  go_wp2
  cases c₀
  simp_all [bodyPostS, results, Try.results14]
/-- the three blocks that Last lays -/
theorem lay3l (w : World) (x f : Value) (T1 T2 T3 : TypeId) (y : Value) : ∃ W, ((w.alloc (.cells #[x] T1)).alloc (.cells #[f] T2)).alloc (.cells #[y] T3) = W ∧ W.heap.size = w.heap.size + 3 ∧ W.cell? ⟨w.heap.size, 0, none⟩ = some x ∧ W.cell? ⟨w.heap.size + 1, 0, none⟩ = some f ∧ W.heap[w.heap.size + 1 + 1]? = some (.cells #[y] T3) ∧ Below w.heap.size w W := by
  refine ⟨_, rfl, by simp, ?_, ?_, ?_, ((((Below.refl _ _).alloc (Nat.le_refl _) _).alloc (by simp) _).alloc (by simp; omega) _)⟩
  · have h : (((w.alloc (.cells #[x] T1)).alloc (.cells #[f] T2)).alloc (.cells #[y] T3)).heap[w.heap.size]? = some (.cells #[x] T1) := by
      simp only [World.alloc, Array.getElem?_push, Array.size_push]
      rw [if_neg (by omega), if_neg (by omega), if_pos trivial]
    rw [cell_of_row _ _ 0 _ _ _ h]; rfl
  · have h : (((w.alloc (.cells #[x] T1)).alloc (.cells #[f] T2)).alloc (.cells #[y] T3)).heap[w.heap.size + 1]? = some (.cells #[f] T2) := by
      simp only [World.alloc, Array.getElem?_push, Array.size_push]
      rw [if_neg (by omega), if_pos trivial]
    rw [cell_of_row _ _ 0 _ _ _ h]; rfl
  · simp only [World.alloc, Array.getElem?_push, Array.size_push]
    rw [if_pos trivial]
/-- the first r marks are at or below seq, the others above -/
structure Cut (L : List Mk) (seq : Int) (r : Nat) : Prop where
  le : r ≤ L.length
  low : ∀ t p, t < r → L[t]? = some p → p.1 ≤ seq
  high : ∀ t p, r ≤ t → L[t]? = some p → seq < p.1
/-- numbers never fall -/
def Rise (L : List Mk) : Prop := ∀ (i j : Nat) (p q : Mk), i ≤ j → L[i]? = some p → L[j]? = some q → p.1 ≤ q.1
def pS (L : List Mk) (seq : Int) (i : Nat) : Bool := !decide ((L.getD i (0, 0)).1 ≤ seq)
theorem getD_of {L : List Mk} {i : Nat} {p : Mk} (h : L[i]? = some p) : L.getD i (0, 0) = p := by rw [List.getD_eq_getElem?_getD, h]; rfl
theorem pS_mono (L : List Mk) (seq : Int) (h : Rise L) : ∀ a b, a ≤ b → b < L.length → pS L seq a = true → pS L seq b = true := by
  intro a b hab hb ha
  obtain ⟨q, hq⟩ := get_of_lt hb
  obtain ⟨p, hp⟩ := get_of_lt (L := L) (k := a) (by omega)
  have h1 := h a b p q hab hp hq
  unfold pS at *
  rw [getD_of hp] at ha
  rw [getD_of hq]
  simp at ha ⊢
  omega
theorem cut_of (L : List Mk) (seq : Int) (r n : Nat) (hn : L.length = n) (hr : r ≤ n) (h1 : ∀ t, t < r → pS L seq t = false) (h2 : ∀ t, r ≤ t → t < n → pS L seq t = true) : Cut L seq r := by
  refine ⟨by omega, fun t p ht hp => ?_, fun t p ht hp => ?_⟩
  · have h := h1 t ht
    unfold pS at h
    rw [getD_of hp] at h
    simpa using h
  · have h := h2 t ht (by rw [← hn]; exact lt_of_get hp)
    unfold pS at h
    rw [getD_of hp] at h
    simpa using h
theorem loadInt {w : World} {k : Nat} {v : Int} (h : w.heap[k]? = some (.cells #[.int .i64 v] 3)) : (Go.loadVar 3 ⟨k, 0, none⟩).run Try.prog w = .ok (.int .i64 v) w := by
  have h0 : w.cell? ⟨k, 0, none⟩ = some (.int .i64 v) := by rw [cell_of_row _ _ 0 _ _ _ h]; rfl
  simp [go_sem, h0]
set_option maxRecDepth 20000 in
set_option maxHeartbeats 2000000 in
theorem last_any (L : List Mk) (n : Nat) (a : Option Addr) (cap : Nat) (seq : Int) (bs : Nat) (w : World) (hn : L.length = n) (hm : Marks w a L) (hR : Rise L) (hl : n ≤ 140737488351232) (h3 : w.cell? ⟨bs, 0, none⟩ = some (.int .i64 seq)) :
    Calls Try.prog 11 #[.slice a n cap, .func (Fn.func 12) #[] #[.pointer (some ⟨bs, 0, none⟩)]] w fun e w' => ∃ r : Nat, e = .returned (.int .i64 ((r : Int) - 1)) ∧ Cut L seq r ∧ Below w.heap.size w w' := by
  have hmf : ∀ (fn : Fn) (first cap : Array Value) (w : World), (Instr.makeFunc fn first cap).run Try.prog w = .ok (.func fn first cap) w := fun _ _ _ _ => rfl
  obtain ⟨W, hW, hWs, hx, hf, hp, hb⟩ := lay3l w (.slice a n cap) (.func (Fn.func 12) #[] #[.pointer (some ⟨bs, 0, none⟩)]) 30 44 3 (.int .i64 0)
  have hbs : bs < w.heap.size := by simpa using World.block_lt_of_cell? _ _ h3
  have HSR := srch_mark (.pointer (some ⟨w.heap.size + 1, 0, none⟩)) (.pointer (some ⟨w.heap.size, 0, none⟩)) n (pS L seq) W hl (by
    intro wr hbe i hi
    obtain ⟨⟨x, z⟩, hpi⟩ := get_of_lt (L := L) (k := i) (by omega)
    rcases hm.keep hb with h0 | ⟨b, off, rfl, hlt, hc⟩
    · subst h0; simp at hn; omega
    obtain ⟨c0, c1⟩ := Marks.cells hc i (x, z) hpi
    simp only at c0 c1
    have := last2_any x z seq b off n cap bs (w.heap.size + 1) w.heap.size i wr hi ((hbe.cell (p := ⟨b, off + i * 2, none⟩) hlt).trans c0) ((hbe.cell (p := ⟨b, off + i * 2 + 1, none⟩) hlt).trans c1) ((hbe.cell (p := ⟨w.heap.size + 1, 0, none⟩) (by show w.heap.size + 1 < W.heap.size; omega)).trans hf) ((hbe.cell (p := ⟨w.heap.size, 0, none⟩) (by show w.heap.size < W.heap.size; omega)).trans hx) ((hbe.cell (p := ⟨bs, 0, none⟩) (by show bs < W.heap.size; omega)).trans ((hb.cell (p := ⟨bs, 0, none⟩) hbs).trans h3))
    unfold pS
    rw [getD_of hpi]
    exact this) (by rw [← hn]; exact pS_mono L seq hR)
  have HS : Hid (Calls Try.prog 15 #[.int .i64 (n : Int), .func (Fn.func 16) #[] #[.pointer (some ⟨w.heap.size + 1, 0, none⟩), .pointer (some ⟨w.heap.size, 0, none⟩)]] W fun e w' => ∃ r : Nat, e = .returned (.int .i64 (r : Int)) ∧ r ≤ n ∧ (∀ t, t < r → pS L seq t = false) ∧ (∀ t, r ≤ t → t < n → pS L seq t = true) ∧ Below W.heap.size W w') := HSR
  have HW : Hid (_ = W) := hW
  have HK : Hid (W.heap.size = w.heap.size + 3 ∧ W.heap[w.heap.size + 1 + 1]? = some (.cells #[.int .i64 0] 3) ∧ Below w.heap.size w W ∧ L.length = n) := ⟨hWs, hp, hb, hn⟩
  have hnI : (n : Int) ≤ 140737488351232 := by omega
  clear HSR hW hWs hp hb hn hm hR h3 hx hf hl
  go_enter_defers Try.func11, Try.ntmps11
  go_wp2_with (go_at_call 15; rw [HW.out]; refine HS.out.mono ?_; rintro e w5 ⟨r, rfl, hrn, h1, h2, hb5⟩; have H12 : Hid ((∀ t, t < r → pS L seq t = false) ∧ (∀ t, r ≤ t → t < n → pS L seq t = true)) := ⟨h1, h2⟩; clear h1 h2; have hp5 : w5.heap[w.heap.size + 1 + 1]? = some (.cells #[.int .i64 0] 3) := (hb5.block _ (by have := HK.out.1; omega)).trans HK.out.2.1; have HP5 : Hid (w5.heap[w.heap.size + 1 + 1]? = some (.cells #[.int .i64 0] 3)) := hp5; have y0 : w5.cell? ⟨w.heap.size + 1 + 1, 0, none⟩ = some (.int .i64 0) := (by rw [cell_of_row _ _ 0 _ _ _ hp5]; rfl); have y1 : w5.frozen? ⟨w.heap.size + 1 + 1, 0, none⟩ = false := frozen_of_row _ _ 0 _ _ hp5; clear hp5)
  refine leaves_cons (f := 14) (args := #[.pointer (some ⟨w.heap.size + 1 + 1, 0, none⟩)]) (by simp) (by simp [go_sem]) ?_
  refine (lastD_idle _ _).mono ?_
  rintro e u' w6 ⟨rfl, rfl, rfl⟩
  have hfin := heap_setCell_same w5 (w.heap.size + 1 + 1) 0 _ _ (.int .i64 ((r : Int) - 1)) HP5.out
  exact ⟨_, results_int rfl _ _ _ _ rfl (loadInt hfin), r, rfl, cut_of L seq r n HK.out.2.2.2 hrn H12.out.1 H12.out.2, (HK.out.2.2.1.trans (hb5.mono (by have := HK.out.1; omega))).setCell (p := ⟨w.heap.size + 1 + 1, 0, none⟩) (by show w.heap.size ≤ w.heap.size + 1 + 1; omega) _⟩
end Go.Proofs.Ytifackbilmkjlab
