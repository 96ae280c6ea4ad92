/- What index.Last at ints answers, for the law's two closures. -/
import Derived.Test.YtifackbilmkjlaaMk
import Derived.Test.YtifackbilmkjlaaMkV
import Derived.Test.YtifackbilmkjlaaIntsA
import Derived.Defers
import Derived.Recover
import Derived.Laws.Pointers
import Derived.Deep.RegionWith
namespace Go.Proofs.Ytifackbilmkjlaa
open Go.ChangeShapes Go.WideShapes Go.ChangeAt Go.RowKit
set_option linter.unusedVariables false
set_option maxRecDepth 20000 in
set_option maxHeartbeats 2000000 in
theorem srch_int (c1 c2 : Value) (n : Nat) (p : Nat → Bool) (w : World) (hn : n ≤ 140737488351232)
    (hf : ∀ wr, Below w.heap.size w wr → ∀ i : Nat, i < n → Calls Try.prog 29 #[.int .i64 (i : Int), c1, c2] wr fun e w' => e = .returned (.bool (p i)) ∧ Below wr.heap.size wr w')
    (hmono : ∀ a b, a ≤ b → b < n → p a = true → p b = true) :
    Calls Try.prog 28 #[.int .i64 (n : Int), .func (Fn.func 29) #[] #[c1, c2]] w fun e w' => ∃ r : Nat, e = .returned (.int .i64 (r : Int)) ∧ r ≤ n ∧ (∀ t, t < r → p t = false) ∧ (∀ t, r ≤ t → t < n → p t = true) ∧ Below w.heap.size w w' := by
  have HF : Hid (∀ wr, Below w.heap.size w wr → ∀ i : Nat, i < n → Calls Try.prog 29 #[.int .i64 (i : Int), c1, c2] wr fun e w' => e = .returned (.bool (p i)) ∧ Below wr.heap.size wr w') := hf
  have HM : Hid (∀ a b, a ≤ b → b < n → p a = true → p b = true) := hmono
  clear hf hmono
  have hnI : (n : Int) ≤ 140737488351232 := by omega
  go_enter Try.func28, Try.ntmps28
  go_wp2
  go_loopw [5, 6] (fun vi vj wr => ∃ (lo hi : Nat), vi = .int .i64 lo ∧ vj = .int .i64 hi ∧ lo ≤ hi ∧ hi ≤ n ∧ (∀ t, t < lo → p t = false) ∧ (∀ t, hi ≤ t → t < n → p t = true) ∧ Below w.heap.size w wr) (fun vi vj _ => (intOf vj).toNat - (intOf vi).toNat)
  case atStart => exact ⟨0, n, rfl, rfl, Nat.zero_le _, Nat.le_refl _, fun t ht => absurd ht (Nat.not_lt_zero _), fun t h1 h2 => by omega, Below.refl _ _⟩
  case round =>
    obtain ⟨lo, hi, rfl, rfl, hlh, hin, h1, h2, hbe⟩ := hrel
    have H1 : Hid (∀ t, t < lo → p t = false) := h1
    have H2 : Hid (∀ t, hi ≤ t → t < n → p t = true) := h2
    clear h1 h2
    by_cases hlt : lo < hi
    · have hc := HF.out wr hbe ((lo + hi) / 2) (by omega)
      rw [show (((lo + hi) / 2 : Nat) : Int) = ((lo : Int) + (hi : Int)) / 2 by omega] at hc
      cases hp : p ((lo + hi) / 2) with
      | false =>
        rw [hp] at hc
        have HP : Hid (p ((lo + hi) / 2) = false) := hp
        clear hp
        go_wp2_with (go_at_call 29; refine hc.mono ?_; rintro e w2 ⟨rfl, hb2⟩)
        go_roundw
        case rel =>
          refine ⟨(lo + hi) / 2 + 1, hi, by rw [show ((lo : Int) + (hi : Int)) / 2 + 1 = (((lo + hi) / 2 + 1 : Nat) : Int) by omega], rfl, by omega, hin, fun t ht => ?_, H2.out, below_next hbe hb2⟩
          cases h : p t with
          | false => rfl
          | true => have h3 := HM.out t ((lo + hi) / 2) (by omega) (by omega) h; rw [HP.out] at h3; cases h3
        case measure => simp [intOf]; omega
      | true =>
        rw [hp] at hc
        have HP : Hid (p ((lo + hi) / 2) = true) := hp
        clear hp
        go_wp2_with (go_at_call 29; refine hc.mono ?_; rintro e w2 ⟨rfl, hb2⟩)
        go_roundw
        case rel => exact ⟨lo, (lo + hi) / 2, rfl, by rw [show ((lo : Int) + (hi : Int)) / 2 = (((lo + hi) / 2 : Nat) : Int) by omega], by omega, by omega, H1.out, fun t ht htn => HM.out ((lo + hi) / 2) t ht htn HP.out, below_next hbe hb2⟩
        case measure => simp [intOf]; omega
    · obtain rfl : hi = lo := by omega
      go_wp2
      go_ret
      exact ⟨hi, rfl, hin, H1.out, H2.out, hbe⟩
theorem results_int {fn : Func} {t : Tmp} (h : fn.results = #[.cell t 3]) (tmps : Array Value) (w : World) (b : Nat) (v : Value) (ht : tmps.getD t undef = .pointer (some ⟨b, 0, none⟩)) (hl : (Go.loadVar 3 ⟨b, 0, none⟩).run Try.prog w = .ok v w) :
    (results fn tmps).run Try.prog w = .ok v w := by
  simp only [Array.getD_eq_getD_getElem?] at ht
  simp [results, h, ht, asAddr, hl]
theorem loadInt {w : World} {k : Nat} {v : Int} (h : w.heap[k]? = some (.cells #[.int .i64 v] 3)) : (Go.loadVar 3 ⟨k, 0, none⟩).run Try.prog w = .ok (.int .i64 v) w := by
  have h0 : w.cell? ⟨k, 0, none⟩ = some (.int .i64 v) := by rw [cell_of_row _ _ 0 _ _ _ h]; rfl
  simp [go_sem, h0]
theorem lay3l (w : World) (x f : Value) (T1 T2 T3 : TypeId) (y : Value) : ∃ W, ((w.alloc (.cells #[x] T1)).alloc (.cells #[f] T2)).alloc (.cells #[y] T3) = W ∧ W.heap.size = w.heap.size + 3 ∧ W.cell? ⟨w.heap.size, 0, none⟩ = some x ∧ W.cell? ⟨w.heap.size + 1, 0, none⟩ = some f ∧ W.heap[w.heap.size + 1 + 1]? = some (.cells #[y] T3) ∧ Below w.heap.size w W := by
  refine ⟨_, rfl, by simp, ?_, ?_, ?_, ((((Below.refl _ _).alloc (Nat.le_refl _) _).alloc (by simp) _).alloc (by simp; omega) _)⟩
  · have h : (((w.alloc (.cells #[x] T1)).alloc (.cells #[f] T2)).alloc (.cells #[y] T3)).heap[w.heap.size]? = some (.cells #[x] T1) := by
      simp only [World.alloc, Array.getElem?_push, Array.size_push]
      rw [if_neg (by omega), if_neg (by omega), if_pos trivial]
    rw [cell_of_row _ _ 0 _ _ _ h]; rfl
  · have h : (((w.alloc (.cells #[x] T1)).alloc (.cells #[f] T2)).alloc (.cells #[y] T3)).heap[w.heap.size + 1]? = some (.cells #[f] T2) := by
      simp only [World.alloc, Array.getElem?_push, Array.size_push]
      rw [if_neg (by omega), if_pos trivial]
    rw [cell_of_row _ _ 0 _ _ _ h]; rfl
  · simp only [World.alloc, Array.getElem?_push, Array.size_push]
    rw [if_pos trivial]
theorem lastID_idle (p0 : Addr) (w : World) : CallsD Try.prog 27 #[.pointer (some p0)] .returning w fun e u' w' => e = .returned (.tuple #[]) ∧ u' = .returning ∧ w' = w := by
  refine callsD_of_wpS Try.func27 rfl fun c₀ cs hu => ?_
  apply wpS_seq
  apply wpS_region
  simp [wpOpsS, go_sem, recoverD, hu, Try.ntmps27, Exit.thenS]
  refine wpS_of_wp ?_
  simp only [Array.replicate, List.replicate]
  go_wp2
  cases c₀
  simp_all [bodyPostS, results, Try.results27]
/-- the first r numbers are at or below seq, the others above -/
structure CutI (X : List Int) (seq : Int) (r : Nat) : Prop where
  le : r ≤ X.length
  low : ∀ t p, t < r → X[t]? = some p → p ≤ seq
  high : ∀ t p, r ≤ t → X[t]? = some p → seq < p
def RiseI (X : List Int) : Prop := ∀ (i j : Nat) (p q : Int), i ≤ j → X[i]? = some p → X[j]? = some q → p ≤ q
def pI (X : List Int) (seq : Int) (i : Nat) : Bool := !decide (X.getD i 0 ≤ seq)
theorem getD_ofI {X : List Int} {i : Nat} {p : Int} (h : X[i]? = some p) : X.getD i 0 = p := by rw [List.getD_eq_getElem?_getD, h]; rfl
theorem pI_mono (X : List Int) (seq : Int) (h : RiseI X) : ∀ a b, a ≤ b → b < X.length → pI X seq a = true → pI X seq b = true := by
  intro a b hab hb ha
  obtain ⟨q, hq⟩ := get_of_lt hb
  obtain ⟨p, hp⟩ := get_of_lt (L := X) (k := a) (by omega)
  have h1 := h a b p q hab hp hq
  unfold pI at *
  rw [getD_ofI hp] at ha
  rw [getD_ofI hq]
  simp at ha ⊢
  omega
theorem cutI_of (X : List Int) (seq : Int) (r n : Nat) (hn : X.length = n) (hr : r ≤ n) (h1 : ∀ t, t < r → pI X seq t = false) (h2 : ∀ t, r ≤ t → t < n → pI X seq t = true) : CutI X seq r := by
  refine ⟨by omega, fun t p ht hp => ?_, fun t p ht hp => ?_⟩
  · have h := h1 t ht
    unfold pI at h
    rw [getD_ofI hp] at h
    simpa using h
  · have h := h2 t ht (by rw [← hn]; exact lt_of_get hp)
    unfold pI at h
    rw [getD_ofI hp] at h
    simpa using h
set_option maxRecDepth 20000 in
set_option maxHeartbeats 2000000 in
theorem clA_any (x : Int) (w : World) :
    Calls Try.prog 10 #[.int .i64 x] w fun e w' => e = .returned (.bool (decide (x ≤ 3))) ∧ Below w.heap.size w w' := by
  go_enter Try.func10, Try.ntmps10
  go_wp2
  go_ret
  exact ⟨rfl, Below.refl _ _⟩
set_option maxRecDepth 20000 in
set_option maxHeartbeats 2000000 in
theorem lastI2A (x : Int) (b off n cap bi bx i : Nat) (w : World) (hin : i < n) (c0 : w.cell? ⟨b, off + i, none⟩ = some (.int .i64 x)) (h1 : w.cell? ⟨bi, 0, none⟩ = some (.func (Fn.func 10) #[] #[])) (h2 : w.cell? ⟨bx, 0, none⟩ = some (.slice (some ⟨b, off, none⟩) n cap)) :
    Calls Try.prog 29 #[.int .i64 (i : Int), .pointer (some ⟨bi, 0, none⟩), .pointer (some ⟨bx, 0, none⟩)] w fun e w' => e = .returned (.bool (!decide (x ≤ 3))) ∧ Below w.heap.size w w' := by
  have hinI : (i : Int) < (n : Int) := by omega
  go_enter Try.func29, Try.ntmps29
  go_wp2
  go_region_with (go_at_call 10; refine (clA_any x _).mono ?_; rintro e w2 ⟨rfl, hb2⟩)
  all_goals go_wp2
  all_goals go_ret
  all_goals refine ⟨rfl, ?_⟩
  all_goals exact (Below.refl _ w).drew.trans hb2
set_option maxRecDepth 20000 in
set_option maxHeartbeats 2000000 in
theorem lastIA (X : List Int) (n : Nat) (a : Option Addr) (cap : Nat) (w : World) (hn : X.length = n) (hm : Ints w a X) (hR : RiseI X) (hl : n ≤ 140737488351232) :
    Calls Try.prog 9 #[.slice a n cap, .func (Fn.func 10) #[] #[]] w fun e w' => ∃ r : Nat, e = .returned (.int .i64 ((r : Int) - 1)) ∧ CutI X 3 r ∧ Below w.heap.size w w' := by
  have hmf : ∀ (fn : Fn) (first cap : Array Value) (w : World), (Instr.makeFunc fn first cap).run Try.prog w = .ok (.func fn first cap) w := fun _ _ _ _ => rfl
  obtain ⟨W, hW, hWs, hx, hf, hp, hb⟩ := lay3l w (.slice a n cap) (.func (Fn.func 10) #[] #[]) 22 24 3 (.int .i64 0)
  have HSR := srch_int (.pointer (some ⟨w.heap.size + 1, 0, none⟩)) (.pointer (some ⟨w.heap.size, 0, none⟩)) n (pI X 3) W hl (by
    intro wr hbe i hi
    obtain ⟨x, hpi⟩ := get_of_lt (L := X) (k := i) (by omega)
    rcases (hm.keep hb).2 with h0 | ⟨b, off, rfl, hlt, hc⟩
    · subst h0; simp at hn; omega
    have c0 := hc i (by omega)
    rw [getD_ofI hpi] at c0
    have := lastI2A x b off n cap (w.heap.size + 1) w.heap.size i wr hi ((hbe.cell (p := ⟨b, off + i, none⟩) hlt).trans c0) ((hbe.cell (p := ⟨w.heap.size + 1, 0, none⟩) (by show w.heap.size + 1 < W.heap.size; omega)).trans hf) ((hbe.cell (p := ⟨w.heap.size, 0, none⟩) (by show w.heap.size < W.heap.size; omega)).trans hx)
    unfold pI
    rw [getD_ofI hpi]
    exact this) (by rw [← hn]; exact pI_mono X 3 hR)
  have HS : Hid (Calls Try.prog 28 #[.int .i64 (n : Int), .func (Fn.func 29) #[] #[.pointer (some ⟨w.heap.size + 1, 0, none⟩), .pointer (some ⟨w.heap.size, 0, none⟩)]] W fun e w' => ∃ r : Nat, e = .returned (.int .i64 (r : Int)) ∧ r ≤ n ∧ (∀ t, t < r → pI X 3 t = false) ∧ (∀ t, r ≤ t → t < n → pI X 3 t = true) ∧ Below W.heap.size W w') := HSR
  have HW : Hid (_ = W) := hW
  have HK : Hid (W.heap.size = w.heap.size + 3 ∧ W.heap[w.heap.size + 1 + 1]? = some (.cells #[.int .i64 0] 3) ∧ Below w.heap.size w W ∧ X.length = n) := ⟨hWs, hp, hb, hn⟩
  have hnI : (n : Int) ≤ 140737488351232 := by omega
  clear HSR hW hWs hp hb hn hm hR hx hf hl
  go_enter_defers Try.func9, Try.ntmps9
  go_wp2_with (go_at_call 28; rw [HW.out]; refine HS.out.mono ?_; rintro e w5 ⟨r, rfl, hrn, h1, h2, hb5⟩; have H12 : Hid ((∀ t, t < r → pI X 3 t = false) ∧ (∀ t, r ≤ t → t < n → pI X 3 t = true)) := ⟨h1, h2⟩; clear h1 h2; have hp5 : w5.heap[w.heap.size + 1 + 1]? = some (.cells #[.int .i64 0] 3) := (hb5.block _ (by have := HK.out.1; omega)).trans HK.out.2.1; have HP5 : Hid (w5.heap[w.heap.size + 1 + 1]? = some (.cells #[.int .i64 0] 3)) := hp5; have y0 : w5.cell? ⟨w.heap.size + 1 + 1, 0, none⟩ = some (.int .i64 0) := (by rw [cell_of_row _ _ 0 _ _ _ hp5]; rfl); have y1 : w5.frozen? ⟨w.heap.size + 1 + 1, 0, none⟩ = false := frozen_of_row _ _ 0 _ _ hp5; clear hp5)
  refine leaves_cons (f := 27) (args := #[.pointer (some ⟨w.heap.size + 1 + 1, 0, none⟩)]) (by simp) (by simp [go_sem]) ?_
  refine (lastID_idle _ _).mono ?_
  rintro e u' w6 ⟨rfl, rfl, rfl⟩
  have hfin := heap_setCell_same w5 (w.heap.size + 1 + 1) 0 _ _ (.int .i64 ((r : Int) - 1)) HP5.out
  exact ⟨_, results_int rfl _ _ _ _ rfl (loadInt hfin), r, rfl, cutI_of X 3 r n HK.out.2.2.2 hrn H12.out.1 H12.out.2, (HK.out.2.2.1.trans (hb5.mono (by have := HK.out.1; omega))).setCell (p := ⟨w.heap.size + 1 + 1, 0, none⟩) (by show w.heap.size ≤ w.heap.size + 1 + 1; omega) _⟩
set_option maxRecDepth 20000 in
set_option maxHeartbeats 2000000 in
theorem clB_any (x : Int) (seq : Int) (bs : Nat) (w : World) (h3 : w.cell? ⟨bs, 0, none⟩ = some (.int .i64 seq)) :
    Calls Try.prog 11 #[.int .i64 x, .pointer (some ⟨bs, 0, none⟩)] w fun e w' => e = .returned (.bool (decide (x ≤ seq))) ∧ Below w.heap.size w w' := by
  go_enter Try.func11, Try.ntmps11
  go_wp2
  go_ret
  exact ⟨rfl, Below.refl _ _⟩
set_option maxRecDepth 20000 in
set_option maxHeartbeats 2000000 in
theorem lastI2B (x : Int) (seq : Int) (bs : Nat) (b off n cap bi bx i : Nat) (w : World) (hin : i < n) (c0 : w.cell? ⟨b, off + i, none⟩ = some (.int .i64 x)) (h1 : w.cell? ⟨bi, 0, none⟩ = some (.func (Fn.func 11) #[] #[.pointer (some ⟨bs, 0, none⟩)])) (h2 : w.cell? ⟨bx, 0, none⟩ = some (.slice (some ⟨b, off, none⟩) n cap)) (h3 : w.cell? ⟨bs, 0, none⟩ = some (.int .i64 seq)) :
    Calls Try.prog 29 #[.int .i64 (i : Int), .pointer (some ⟨bi, 0, none⟩), .pointer (some ⟨bx, 0, none⟩)] w fun e w' => e = .returned (.bool (!decide (x ≤ seq))) ∧ Below w.heap.size w w' := by
  have hinI : (i : Int) < (n : Int) := by omega
  have H3 : Hid (w.cell? ⟨bs, 0, none⟩ = some (.int .i64 seq)) := h3
  clear h3
  go_enter Try.func29, Try.ntmps29
  go_wp2
  go_region_with (go_at_call 11; refine (clB_any x seq bs _ (by simpa using H3.out)).mono ?_; rintro e w2 ⟨rfl, hb2⟩)
  all_goals go_wp2
  all_goals go_ret
  all_goals refine ⟨rfl, ?_⟩
  all_goals exact (Below.refl _ w).drew.trans hb2
set_option maxRecDepth 20000 in
set_option maxHeartbeats 2000000 in
theorem lastIB (X : List Int) (n : Nat) (a : Option Addr) (cap : Nat) (seq : Int) (bs : Nat) (w : World) (hn : X.length = n) (hm : Ints w a X) (hR : RiseI X) (hl : n ≤ 140737488351232) (h3 : w.cell? ⟨bs, 0, none⟩ = some (.int .i64 seq)) :
    Calls Try.prog 9 #[.slice a n cap, .func (Fn.func 11) #[] #[.pointer (some ⟨bs, 0, none⟩)]] w fun e w' => ∃ r : Nat, e = .returned (.int .i64 ((r : Int) - 1)) ∧ CutI X seq r ∧ Below w.heap.size w w' := by
  have hmf : ∀ (fn : Fn) (first cap : Array Value) (w : World), (Instr.makeFunc fn first cap).run Try.prog w = .ok (.func fn first cap) w := fun _ _ _ _ => rfl
  obtain ⟨W, hW, hWs, hx, hf, hp, hb⟩ := lay3l w (.slice a n cap) (.func (Fn.func 11) #[] #[.pointer (some ⟨bs, 0, none⟩)]) 22 24 3 (.int .i64 0)
  have hbs : bs < w.heap.size := by simpa using World.block_lt_of_cell? _ _ h3
  have HSR := srch_int (.pointer (some ⟨w.heap.size + 1, 0, none⟩)) (.pointer (some ⟨w.heap.size, 0, none⟩)) n (pI X seq) W hl (by
    intro wr hbe i hi
    obtain ⟨x, hpi⟩ := get_of_lt (L := X) (k := i) (by omega)
    rcases (hm.keep hb).2 with h0 | ⟨b, off, rfl, hlt, hc⟩
    · subst h0; simp at hn; omega
    have c0 := hc i (by omega)
    rw [getD_ofI hpi] at c0
    have := lastI2B x seq bs b off n cap (w.heap.size + 1) w.heap.size i wr hi ((hbe.cell (p := ⟨b, off + i, none⟩) hlt).trans c0) ((hbe.cell (p := ⟨w.heap.size + 1, 0, none⟩) (by show w.heap.size + 1 < W.heap.size; omega)).trans hf) ((hbe.cell (p := ⟨w.heap.size, 0, none⟩) (by show w.heap.size < W.heap.size; omega)).trans hx) ((hbe.cell (p := ⟨bs, 0, none⟩) (by show bs < W.heap.size; omega)).trans ((hb.cell (p := ⟨bs, 0, none⟩) hbs).trans h3))
    unfold pI
    rw [getD_ofI hpi]
    exact this) (by rw [← hn]; exact pI_mono X seq hR)
  have HS : Hid (Calls Try.prog 28 #[.int .i64 (n : Int), .func (Fn.func 29) #[] #[.pointer (some ⟨w.heap.size + 1, 0, none⟩), .pointer (some ⟨w.heap.size, 0, none⟩)]] W fun e w' => ∃ r : Nat, e = .returned (.int .i64 (r : Int)) ∧ r ≤ n ∧ (∀ t, t < r → pI X seq t = false) ∧ (∀ t, r ≤ t → t < n → pI X seq t = true) ∧ Below W.heap.size W w') := HSR
  have HW : Hid (_ = W) := hW
  have HK : Hid (W.heap.size = w.heap.size + 3 ∧ W.heap[w.heap.size + 1 + 1]? = some (.cells #[.int .i64 0] 3) ∧ Below w.heap.size w W ∧ X.length = n) := ⟨hWs, hp, hb, hn⟩
  have hnI : (n : Int) ≤ 140737488351232 := by omega
  clear HSR hW hWs hp hb hn hm hR hx hf hl h3
  go_enter_defers Try.func9, Try.ntmps9
  go_wp2_with (go_at_call 28; rw [HW.out]; refine HS.out.mono ?_; rintro e w5 ⟨r, rfl, hrn, h1, h2, hb5⟩; have H12 : Hid ((∀ t, t < r → pI X seq t = false) ∧ (∀ t, r ≤ t → t < n → pI X seq t = true)) := ⟨h1, h2⟩; clear h1 h2; have hp5 : w5.heap[w.heap.size + 1 + 1]? = some (.cells #[.int .i64 0] 3) := (hb5.block _ (by have := HK.out.1; omega)).trans HK.out.2.1; have HP5 : Hid (w5.heap[w.heap.size + 1 + 1]? = some (.cells #[.int .i64 0] 3)) := hp5; have y0 : w5.cell? ⟨w.heap.size + 1 + 1, 0, none⟩ = some (.int .i64 0) := (by rw [cell_of_row _ _ 0 _ _ _ hp5]; rfl); have y1 : w5.frozen? ⟨w.heap.size + 1 + 1, 0, none⟩ = false := frozen_of_row _ _ 0 _ _ hp5; clear hp5)
  refine leaves_cons (f := 27) (args := #[.pointer (some ⟨w.heap.size + 1 + 1, 0, none⟩)]) (by simp) (by simp [go_sem]) ?_
  refine (lastID_idle _ _).mono ?_
  rintro e u' w6 ⟨rfl, rfl, rfl⟩
  have hfin := heap_setCell_same w5 (w.heap.size + 1 + 1) 0 _ _ (.int .i64 ((r : Int) - 1)) HP5.out
  exact ⟨_, results_int rfl _ _ _ _ rfl (loadInt hfin), r, rfl, cutI_of X seq r n HK.out.2.2.2 hrn H12.out.1 H12.out.2, (HK.out.2.2.1.trans (hb5.mono (by have := HK.out.1; omega))).setCell (p := ⟨w.heap.size + 1 + 1, 0, none⟩) (by show w.heap.size ≤ w.heap.size + 1 + 1; omega) _⟩
end Go.Proofs.Ytifackbilmkjlaa
