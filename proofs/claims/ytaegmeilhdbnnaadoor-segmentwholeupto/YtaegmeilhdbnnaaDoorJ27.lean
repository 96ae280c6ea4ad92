/- Own texts, joined: Srch, MkL, MkK, Sg27. -/
import Derived.Test.YtaegmeilhdbnnaaDoorJ08
import Derived.Test.YtaegmeilhdbnnaaDoorJ09
import Derived.Defers
import Derived.Recover
import Derived.Laws.Pointers
import Derived.Deep.RegionWith
import Derived.Test.YtaegmeilhdbnnaaDoorJ11
import Derived.Test.YtaegmeilhdbnnaaDoorJ25
import Derived.Test.YtaegmeilhdbnnaaDoorJ26
namespace Go.Proofs.YtaegmeilhdbnnaaDoor
open Go.ChangeShapes Go.WideShapes Go.ChangeAt Go.RowKit
set_option linter.unusedVariables false
set_option maxRecDepth 20000 in
set_option maxHeartbeats 2000000 in
theorem srch_mark (c1 c2 : Value) (n : Nat) (p : Nat → Bool) (w : World) (hn : n ≤ 140737488351232)
    (hf : ∀ wr, Below w.heap.size w wr → ∀ i : Nat, i < n → Calls Tryd.prog 81 #[.int .i64 (i : Int), c1, c2] wr fun e w' => e = .returned (.bool (p i)) ∧ Below wr.heap.size wr w')
    (hmono : ∀ a b, a ≤ b → b < n → p a = true → p b = true) :
    Calls Tryd.prog 80 #[.int .i64 (n : Int), .func (Fn.func 81) #[] #[c1, c2]] w fun e w' => ∃ r : Nat, e = .returned (.int .i64 (r : Int)) ∧ r ≤ n ∧ (∀ t, t < r → p t = false) ∧ (∀ t, r ≤ t → t < n → p t = true) ∧ Below w.heap.size w w' := by
  have HF : Hid (∀ wr, Below w.heap.size w wr → ∀ i : Nat, i < n → Calls Tryd.prog 81 #[.int .i64 (i : Int), c1, c2] wr fun e w' => e = .returned (.bool (p i)) ∧ Below wr.heap.size wr w') := hf
  have HM : Hid (∀ a b, a ≤ b → b < n → p a = true → p b = true) := hmono
  clear hf hmono
  have hnI : (n : Int) ≤ 140737488351232 := by omega
  go_enter Tryd.func80, Tryd.ntmps80
  go_wp2
  go_loopw [5, 6] (fun vi vj wr => ∃ (lo hi : Nat), vi = .int .i64 lo ∧ vj = .int .i64 hi ∧ lo ≤ hi ∧ hi ≤ n ∧ (∀ t, t < lo → p t = false) ∧ (∀ t, hi ≤ t → t < n → p t = true) ∧ Below w.heap.size w wr) (fun vi vj _ => (intOf vj).toNat - (intOf vi).toNat)
  case atStart => exact ⟨0, n, rfl, rfl, Nat.zero_le _, Nat.le_refl _, fun t ht => absurd ht (Nat.not_lt_zero _), fun t h1 h2 => by omega, Below.refl _ _⟩
  case round =>
    obtain ⟨lo, hi, rfl, rfl, hlh, hin, h1, h2, hbe⟩ := hrel
    have H1 : Hid (∀ t, t < lo → p t = false) := h1
    have H2 : Hid (∀ t, hi ≤ t → t < n → p t = true) := h2
    clear h1 h2
    by_cases hlt : lo < hi
    · have hc := HF.out wr hbe ((lo + hi) / 2) (by omega)
      rw [show (((lo + hi) / 2 : Nat) : Int) = ((lo : Int) + (hi : Int)) / 2 by omega] at hc
      cases hp : p ((lo + hi) / 2) with
      | false =>
        rw [hp] at hc
        have HP : Hid (p ((lo + hi) / 2) = false) := hp
        clear hp
        go_wp2_with (go_at_call 81; refine hc.mono ?_; rintro e w2 ⟨rfl, hb2⟩)
        go_roundw
        case rel =>
          refine ⟨(lo + hi) / 2 + 1, hi, by rw [show ((lo : Int) + (hi : Int)) / 2 + 1 = (((lo + hi) / 2 + 1 : Nat) : Int) by omega], rfl, by omega, hin, fun t ht => ?_, H2.out, below_next hbe hb2⟩
          cases h : p t with
          | false => rfl
          | true => have h3 := HM.out t ((lo + hi) / 2) (by omega) (by omega) h; rw [HP.out] at h3; cases h3
        case measure => simp [intOf]; omega
      | true =>
        rw [hp] at hc
        have HP : Hid (p ((lo + hi) / 2) = true) := hp
        clear hp
        go_wp2_with (go_at_call 81; refine hc.mono ?_; rintro e w2 ⟨rfl, hb2⟩)
        go_roundw
        case rel => exact ⟨lo, (lo + hi) / 2, rfl, by rw [show ((lo : Int) + (hi : Int)) / 2 = (((lo + hi) / 2 : Nat) : Int) by omega], by omega, by omega, H1.out, fun t ht htn => HM.out ((lo + hi) / 2) t ht htn HP.out, below_next hbe hb2⟩
        case measure => simp [intOf]; omega
    · obtain rfl : hi = lo := by omega
      go_wp2
      go_ret
      exact ⟨hi, rfl, hin, H1.out, H2.out, hbe⟩
end Go.Proofs.YtaegmeilhdbnnaaDoor
namespace Go.Proofs.YtaegmeilhdbnnaaDoor
open Go.ChangeShapes Go.WideShapes Go.ChangeAt Go.RowKit
set_option linter.unusedVariables false
theorem MkAt.loadVar {w : World} {k : Nat} {s y : Int} (h : MkAt w k s y) : (Go.loadVar 69 ⟨k, 0, none⟩).run Tryd.prog w = .ok (.agg #[.int .i64 s, .int .i64 y]) w := by
  obtain ⟨h0, h1, _, _⟩ := mk_box h
  simp [go_sem, h0, h1]
theorem results_mk {fn : Func} {p t : Tmp} (h : fn.results = #[.cell p 69, .tmp t]) (tmps : Array Value) (w : World) (k : Nat) {s y : Int} {x : Value} (hp : tmps.getD p undef = .pointer (some ⟨k, 0, none⟩)) (hx : tmps.getD t undef = x) (hl : MkAt w k s y) :
    (results fn tmps).run Tryd.prog w = .ok (.tuple #[.agg #[.int .i64 s, .int .i64 y], x]) w := by
  simp only [Array.getD_eq_getD_getElem?] at hp hx
  simp [results, h, hp, hx, asAddr, hl.loadVar]
theorem results_int {fn : Func} {t : Tmp} (h : fn.results = #[.cell t 3]) (tmps : Array Value) (w : World) (b : Nat) (v : Value) (ht : tmps.getD t undef = .pointer (some ⟨b, 0, none⟩)) (hl : (Go.loadVar 3 ⟨b, 0, none⟩).run Tryd.prog w = .ok v w) :
    (results fn tmps).run Tryd.prog w = .ok v w := by
  simp only [Array.getD_eq_getD_getElem?] at ht
  simp [results, h, ht, asAddr, hl]
set_option maxRecDepth 20000 in
set_option maxHeartbeats 2000000 in
theorem seek1_any (x z seq : Int) (bs : Nat) (w : World) (h : w.cell? ⟨bs, 0, none⟩ = some (.int .i64 seq)) :
    Calls Tryd.prog 53 #[.agg #[.int .i64 x, .int .i64 z], .pointer (some ⟨bs, 0, none⟩)] w fun e w' => e = .returned (.bool (decide (x ≤ seq))) ∧ Below w.heap.size w w' := by
  have hlt := World.block_lt_of_cell? _ _ h
  simp only at hlt
  go_enter Tryd.func53, Tryd.ntmps53
  go_wp2
  go_ret
  exact ⟨rfl, (Below.refl _ _).alloc (Nat.le_refl _) _⟩
set_option maxRecDepth 20000 in
set_option maxHeartbeats 2000000 in
theorem last2_any (x z seq : Int) (b off n cap bs bi bx i : Nat) (w : World) (hin : i < n) (c0 : w.cell? ⟨b, off + i * 2, none⟩ = some (.int .i64 x)) (c1 : w.cell? ⟨b, off + i * 2 + 1, none⟩ = some (.int .i64 z)) (h1 : w.cell? ⟨bi, 0, none⟩ = some (.func (Fn.func 53) #[] #[.pointer (some ⟨bs, 0, none⟩)])) (h2 : w.cell? ⟨bx, 0, none⟩ = some (.slice (some ⟨b, off, none⟩) n cap)) (h3 : w.cell? ⟨bs, 0, none⟩ = some (.int .i64 seq)) :
    Calls Tryd.prog 81 #[.int .i64 (i : Int), .pointer (some ⟨bi, 0, none⟩), .pointer (some ⟨bx, 0, none⟩)] w fun e w' => e = .returned (.bool (!decide (x ≤ seq))) ∧ Below w.heap.size w w' := by
  have hinI : (i : Int) < (n : Int) := by omega
  have H3 : Hid (w.cell? ⟨bs, 0, none⟩ = some (.int .i64 seq)) := h3
  clear h3
  go_enter Tryd.func81, Tryd.ntmps81
  go_wp2
  go_region_with (go_at_call 53; refine (seek1_any x z seq bs _ (by simpa using H3.out)).mono ?_; rintro e w2 ⟨rfl, hb2⟩)
  all_goals go_wp2
  all_goals go_ret
  all_goals refine ⟨rfl, ?_⟩
  all_goals exact (Below.refl _ w).drew.trans hb2
theorem lastD_idle (p0 : Addr) (w : World) : CallsD Tryd.prog 79 #[.pointer (some p0)] .returning w fun e u' w' => e = .returned (.tuple #[]) ∧ u' = .returning ∧ w' = w := by
  refine callsD_of_wpS Tryd.func79 rfl fun c₀ cs hu => ?_
  apply wpS_seq
  apply wpS_region
  simp [wpOpsS, go_sem, recoverD, hu, Tryd.ntmps79, Exit.thenS]
  refine wpS_of_wp ?_
  simp only [Array.replicate, List.replicate]
  go_wp2
  cases c₀
  simp_all [bodyPostS, results, Tryd.results79]
/-- the three blocks that Last lays -/
theorem lay3l (w : World) (x f : Value) (T1 T2 T3 : TypeId) (y : Value) : ∃ W, ((w.alloc (.cells #[x] T1)).alloc (.cells #[f] T2)).alloc (.cells #[y] T3) = W ∧ W.heap.size = w.heap.size + 3 ∧ W.cell? ⟨w.heap.size, 0, none⟩ = some x ∧ W.cell? ⟨w.heap.size + 1, 0, none⟩ = some f ∧ W.heap[w.heap.size + 1 + 1]? = some (.cells #[y] T3) ∧ Below w.heap.size w W := by
  refine ⟨_, rfl, by simp, ?_, ?_, ?_, ((((Below.refl _ _).alloc (Nat.le_refl _) _).alloc (by simp) _).alloc (by simp; omega) _)⟩
  · have h : (((w.alloc (.cells #[x] T1)).alloc (.cells #[f] T2)).alloc (.cells #[y] T3)).heap[w.heap.size]? = some (.cells #[x] T1) := by
      simp only [World.alloc, Array.getElem?_push, Array.size_push]
      rw [if_neg (by omega), if_neg (by omega), if_pos trivial]
    rw [cell_of_row _ _ 0 _ _ _ h]; rfl
  · have h : (((w.alloc (.cells #[x] T1)).alloc (.cells #[f] T2)).alloc (.cells #[y] T3)).heap[w.heap.size + 1]? = some (.cells #[f] T2) := by
      simp only [World.alloc, Array.getElem?_push, Array.size_push]
      rw [if_neg (by omega), if_pos trivial]
    rw [cell_of_row _ _ 0 _ _ _ h]; rfl
  · simp only [World.alloc, Array.getElem?_push, Array.size_push]
    rw [if_pos trivial]
/-- the first r marks are at or below seq, the others above -/
structure Cut (L : List Mk) (seq : Int) (r : Nat) : Prop where
  le : r ≤ L.length
  low : ∀ t p, t < r → L[t]? = some p → p.1 ≤ seq
  high : ∀ t p, r ≤ t → L[t]? = some p → seq < p.1
/-- numbers never fall -/
def Rise (L : List Mk) : Prop := ∀ (i j : Nat) (p q : Mk), i ≤ j → L[i]? = some p → L[j]? = some q → p.1 ≤ q.1
def pS (L : List Mk) (seq : Int) (i : Nat) : Bool := !decide ((L.getD i (0, 0)).1 ≤ seq)
theorem getD_of {L : List Mk} {i : Nat} {p : Mk} (h : L[i]? = some p) : L.getD i (0, 0) = p := by rw [List.getD_eq_getElem?_getD, h]; rfl
theorem pS_mono (L : List Mk) (seq : Int) (h : Rise L) : ∀ a b, a ≤ b → b < L.length → pS L seq a = true → pS L seq b = true := by
  intro a b hab hb ha
  obtain ⟨q, hq⟩ := get_of_lt hb
  obtain ⟨p, hp⟩ := get_of_lt (L := L) (k := a) (by omega)
  have h1 := h a b p q hab hp hq
  unfold pS at *
  rw [getD_of hp] at ha
  rw [getD_of hq]
  simp at ha ⊢
  omega
theorem cut_of (L : List Mk) (seq : Int) (r n : Nat) (hn : L.length = n) (hr : r ≤ n) (h1 : ∀ t, t < r → pS L seq t = false) (h2 : ∀ t, r ≤ t → t < n → pS L seq t = true) : Cut L seq r := by
  refine ⟨by omega, fun t p ht hp => ?_, fun t p ht hp => ?_⟩
  · have h := h1 t ht
    unfold pS at h
    rw [getD_of hp] at h
    simpa using h
  · have h := h2 t ht (by rw [← hn]; exact lt_of_get hp)
    unfold pS at h
    rw [getD_of hp] at h
    simpa using h
theorem loadInt {w : World} {k : Nat} {v : Int} (h : w.heap[k]? = some (.cells #[.int .i64 v] 3)) : (Go.loadVar 3 ⟨k, 0, none⟩).run Tryd.prog w = .ok (.int .i64 v) w := by
  have h0 : w.cell? ⟨k, 0, none⟩ = some (.int .i64 v) := by rw [cell_of_row _ _ 0 _ _ _ h]; rfl
  simp [go_sem, h0]
set_option maxRecDepth 20000 in
set_option maxHeartbeats 2000000 in
theorem last_any (L : List Mk) (n : Nat) (a : Option Addr) (cap : Nat) (seq : Int) (bs : Nat) (w : World) (hn : L.length = n) (hm : Marks w a L) (hR : Rise L) (hl : n ≤ 140737488351232) (h3 : w.cell? ⟨bs, 0, none⟩ = some (.int .i64 seq)) :
    Calls Tryd.prog 52 #[.slice a n cap, .func (Fn.func 53) #[] #[.pointer (some ⟨bs, 0, none⟩)]] w fun e w' => ∃ r : Nat, e = .returned (.int .i64 ((r : Int) - 1)) ∧ Cut L seq r ∧ Below w.heap.size w w' := by
  have hmf : ∀ (fn : Fn) (first cap : Array Value) (w : World), (Instr.makeFunc fn first cap).run Tryd.prog w = .ok (.func fn first cap) w := fun _ _ _ _ => rfl
  obtain ⟨W, hW, hWs, hx, hf, hp, hb⟩ := lay3l w (.slice a n cap) (.func (Fn.func 53) #[] #[.pointer (some ⟨bs, 0, none⟩)]) 36 108 3 (.int .i64 0)
  have hbs : bs < w.heap.size := by simpa using World.block_lt_of_cell? _ _ h3
  have HSR := srch_mark (.pointer (some ⟨w.heap.size + 1, 0, none⟩)) (.pointer (some ⟨w.heap.size, 0, none⟩)) n (pS L seq) W hl (by
    intro wr hbe i hi
    obtain ⟨⟨x, z⟩, hpi⟩ := get_of_lt (L := L) (k := i) (by omega)
    rcases hm.keep hb with h0 | ⟨b, off, rfl, hlt, hc⟩
    · subst h0; simp at hn; omega
    obtain ⟨c0, c1⟩ := Marks.cells hc i (x, z) hpi
    simp only at c0 c1
    have := last2_any x z seq b off n cap bs (w.heap.size + 1) w.heap.size i wr hi ((hbe.cell (p := ⟨b, off + i * 2, none⟩) hlt).trans c0) ((hbe.cell (p := ⟨b, off + i * 2 + 1, none⟩) hlt).trans c1) ((hbe.cell (p := ⟨w.heap.size + 1, 0, none⟩) (by show w.heap.size + 1 < W.heap.size; omega)).trans hf) ((hbe.cell (p := ⟨w.heap.size, 0, none⟩) (by show w.heap.size < W.heap.size; omega)).trans hx) ((hbe.cell (p := ⟨bs, 0, none⟩) (by show bs < W.heap.size; omega)).trans ((hb.cell (p := ⟨bs, 0, none⟩) hbs).trans h3))
    unfold pS
    rw [getD_of hpi]
    exact this) (by rw [← hn]; exact pS_mono L seq hR)
  have HS : Hid (Calls Tryd.prog 80 #[.int .i64 (n : Int), .func (Fn.func 81) #[] #[.pointer (some ⟨w.heap.size + 1, 0, none⟩), .pointer (some ⟨w.heap.size, 0, none⟩)]] W fun e w' => ∃ r : Nat, e = .returned (.int .i64 (r : Int)) ∧ r ≤ n ∧ (∀ t, t < r → pS L seq t = false) ∧ (∀ t, r ≤ t → t < n → pS L seq t = true) ∧ Below W.heap.size W w') := HSR
  have HW : Hid (_ = W) := hW
  have HK : Hid (W.heap.size = w.heap.size + 3 ∧ W.heap[w.heap.size + 1 + 1]? = some (.cells #[.int .i64 0] 3) ∧ Below w.heap.size w W ∧ L.length = n) := ⟨hWs, hp, hb, hn⟩
  have hnI : (n : Int) ≤ 140737488351232 := by omega
  clear HSR hW hWs hp hb hn hm hR h3 hx hf hl
  go_enter_defers Tryd.func52, Tryd.ntmps52
  go_wp2_with (go_at_call 80; rw [HW.out]; refine HS.out.mono ?_; rintro e w5 ⟨r, rfl, hrn, h1, h2, hb5⟩; have H12 : Hid ((∀ t, t < r → pS L seq t = false) ∧ (∀ t, r ≤ t → t < n → pS L seq t = true)) := ⟨h1, h2⟩; clear h1 h2; have hp5 : w5.heap[w.heap.size + 1 + 1]? = some (.cells #[.int .i64 0] 3) := (hb5.block _ (by have := HK.out.1; omega)).trans HK.out.2.1; have HP5 : Hid (w5.heap[w.heap.size + 1 + 1]? = some (.cells #[.int .i64 0] 3)) := hp5; have y0 : w5.cell? ⟨w.heap.size + 1 + 1, 0, none⟩ = some (.int .i64 0) := (by rw [cell_of_row _ _ 0 _ _ _ hp5]; rfl); have y1 : w5.frozen? ⟨w.heap.size + 1 + 1, 0, none⟩ = false := frozen_of_row _ _ 0 _ _ hp5; clear hp5)
  refine leaves_cons (f := 79) (args := #[.pointer (some ⟨w.heap.size + 1 + 1, 0, none⟩)]) (by simp) (by simp [go_sem]) ?_
  refine (lastD_idle _ _).mono ?_
  rintro e u' w6 ⟨rfl, rfl, rfl⟩
  have hfin := heap_setCell_same w5 (w.heap.size + 1 + 1) 0 _ _ (.int .i64 ((r : Int) - 1)) HP5.out
  exact ⟨_, results_int rfl _ _ _ _ rfl (loadInt hfin), r, rfl, cut_of L seq r n HK.out.2.2.2 hrn H12.out.1 H12.out.2, (HK.out.2.2.1.trans (hb5.mono (by have := HK.out.1; omega))).setCell (p := ⟨w.heap.size + 1 + 1, 0, none⟩) (by show w.heap.size ≤ w.heap.size + 1 + 1; omega) _⟩
end Go.Proofs.YtaegmeilhdbnnaaDoor
namespace Go.Proofs.YtaegmeilhdbnnaaDoor
open Go.ChangeShapes Go.WideShapes Go.ChangeAt Go.RowKit
set_option linter.unusedVariables false
/-- the last mark at or below seq -/
def seekR (seq : Int) (L : List Mk) : Mk × Bool := L.foldl (fun acc p => if p.1 ≤ seq then (p, true) else acc) ((0, 0), false)
theorem seekR_snoc (seq : Int) (L : List Mk) (p : Mk) : seekR seq (L ++ [p]) = if p.1 ≤ seq then (p, true) else seekR seq L := by
  unfold seekR; rw [List.foldl_append]; rfl
theorem seekR_take (seq : Int) (L : List Mk) (k : Nat) (p : Mk) (h : L[k]? = some p) : seekR seq (L.take (k + 1)) = if p.1 ≤ seq then (p, true) else seekR seq (L.take k) := by
  rw [take_get L k p h, seekR_snoc]
theorem seekR_low (seq : Int) (L : List Mk) (r : Nat) (h : Cut L seq r) : seekR seq (L.take r) = if r = 0 then ((0, 0), false) else (L.getD (r - 1) (0, 0), true) := by
  cases r with
  | zero => rfl
  | succ k =>
    obtain ⟨p, hp⟩ := get_of_lt (L := L) (k := k) (by have := h.le; omega)
    rw [seekR_take seq L k p hp, if_pos (h.low k p (by omega) hp), if_neg (by omega), Nat.add_sub_cancel, getD_of hp]
theorem seekR_high (seq : Int) (L : List Mk) (r : Nat) (h : Cut L seq r) : ∀ d, r + d ≤ L.length → seekR seq (L.take (r + d)) = seekR seq (L.take r)
  | 0, _ => rfl
  | d + 1, hd => by
    obtain ⟨p, hp⟩ := get_of_lt (L := L) (k := r + d) (by omega)
    rw [show r + (d + 1) = (r + d) + 1 from by omega, seekR_take seq L (r + d) p hp, if_neg (by have := h.high (r + d) p (by omega) hp; omega)]
    exact seekR_high seq L r h d (by omega)
theorem seekR_cut (seq : Int) (L : List Mk) (r : Nat) (h : Cut L seq r) : seekR seq L = if r = 0 then ((0, 0), false) else (L.getD (r - 1) (0, 0), true) := by
  have h1 := seekR_high seq L r h (L.length - r) (by have := h.le; omega)
  rw [show r + (L.length - r) = L.length from by have := h.le; omega, List.take_length] at h1
  rw [h1, seekR_low seq L r h]
theorem rise_from : ∀ (L : List Mk) (s a : Int), vfrom s a L = true → (∀ p ∈ L, s < p.1) ∧ Rise L
  | [], s, a, _ => ⟨fun p hp => (by cases hp), fun i j p q _ h _ => (by simp at h)⟩
  | x :: r, s, a, h => by
    obtain ⟨g1, g2, g3, g4, g5⟩ := vfrom_head h
    obtain ⟨h1, h2⟩ := rise_from r x.1 x.2 g5
    refine ⟨fun p hp => ?_, fun i j p q hij hp hq => ?_⟩
    · rcases List.mem_cons.1 hp with rfl | hp
      · exact g1
      · have := h1 p hp; omega
    · cases i with
      | zero =>
        simp at hp
        subst hp
        cases j with
        | zero => simp at hq; subst hq; exact Int.le_refl _
        | succ j => have := h1 q (List.mem_of_getElem? (by simpa using hq)); omega
      | succ i =>
        cases j with
        | zero => omega
        | succ j => exact h2 i j p q (by omega) (by simpa using hp) (by simpa using hq)
theorem rise_valid {L : List Mk} (h : validB L = true) : Rise L := (rise_from L 0 (-1) (valid_from h)).2
/-- the two blocks that Seek lays -/
theorem lay2s (w : World) (seq : Int) : ∃ W, (w.alloc (.cells #[.int .i64 seq] 3)).alloc (.cells #[.int .i64 0, .int .i64 0] 69) = W ∧ W.heap.size = w.heap.size + 2 ∧ W.cell? ⟨w.heap.size, 0, none⟩ = some (.int .i64 seq) ∧ MkAt W (w.heap.size + 1) 0 0 ∧ Below w.heap.size w W := by
  refine ⟨_, rfl, by simp, ?_, ?_, (((Below.refl _ _).alloc (Nat.le_refl _) _).alloc (by simp) _)⟩
  · have h : ((w.alloc (.cells #[.int .i64 seq] 3)).alloc (.cells #[.int .i64 0, .int .i64 0] 69)).heap[w.heap.size]? = some (.cells #[.int .i64 seq] 3) := by
      simp only [World.alloc, Array.getElem?_push, Array.size_push]
      rw [if_neg (by omega), if_pos trivial]
    rw [cell_of_row _ _ 0 _ _ _ h]; rfl
  · unfold MkAt
    simp only [World.alloc, Array.getElem?_push, Array.size_push]
    rw [if_pos trivial]
/-- how the two answers of Seek are told -/
abbrev SkV (q : Mk × Bool) : Value := .tuple #[.agg #[.int .i64 q.1.1, .int .i64 q.1.2], .bool q.2]
set_option maxRecDepth 20000 in
set_option maxHeartbeats 2000000 in
theorem seek_any (L : List Mk) (n : Nat) (a : Option Addr) (cap : Nat) (seq : Int) (w : World) (hn : L.length = n) (hm : Marks w a L) (hR : Rise L) (hl : n ≤ 140737488351232) :
    Calls Tryd.prog 28 #[.slice a n cap, .int .i64 seq] w fun e w' => e = .returned (SkV (seekR seq L)) ∧ Below w.heap.size w w' := by
  have hmf : ∀ (fn : Fn) (first cap : Array Value) (w : World), (Instr.makeFunc fn first cap).run Tryd.prog w = .ok (.func fn first cap) w := fun _ _ _ _ => rfl
  obtain ⟨W, hW, hWs, hx, hp, hb⟩ := lay2s w seq
  have hl2 := last_any L n a cap seq w.heap.size W hn (hm.keep hb) hR hl hx
  have HW : Hid (_ = W) := hW
  have HK : Hid (W.heap.size = w.heap.size + 2 ∧ MkAt W (w.heap.size + 1) 0 0 ∧ Below w.heap.size w W ∧ L.length = n) := ⟨hWs, hp, hb, hn⟩
  have hfin : ∀ w', Below W.heap.size W w' → MkAt w' (w.heap.size + 1) 0 0 ∧ Below w.heap.size w w' := fun w' h => ⟨(h.block _ (by have := HK.out.1; omega)).trans HK.out.2.1, HK.out.2.2.1.trans (h.mono (by have := HK.out.1; omega))⟩
  have HFIN : Hid (∀ w', Below W.heap.size W w' → MkAt w' (w.heap.size + 1) 0 0 ∧ Below w.heap.size w w') := hfin
  have hnI : (n : Int) ≤ 140737488351232 := by omega
  rcases hm with rfl | ⟨b, off, rfl, hlt, hc⟩
  · have HL : Hid (Calls Tryd.prog 52 #[.slice a n cap, .func (Fn.func 53) #[] #[.pointer (some ⟨w.heap.size, 0, none⟩)]] W fun e w' => e = .returned (.int .i64 (-1)) ∧ Below W.heap.size W w') := hl2.mono (by
      rintro e w' ⟨r, rfl, h1, h2⟩
      have := h1.le
      simp at this
      subst this
      exact ⟨rfl, h2⟩)
    clear hW hWs hp hb hn hR hx hl hl2 hfin
    go_enter Tryd.func28, Tryd.ntmps28
    go_wp2_with (go_at_call 52; rw [HW.out]; refine HL.out.mono ?_; rintro e w5 ⟨rfl, hb5⟩; have HP5 : Hid (MkAt w5 (w.heap.size + 1) 0 0 ∧ Below w.heap.size w w5) := HFIN.out w5 hb5; obtain ⟨y0, y1, y2, y3⟩ := mk_box HP5.out.1; clear hb5)
    refine bodyPost_ret (results_mk rfl _ _ _ rfl rfl (mk_set HP5.out.1 0 0)) rfl ?_
    exact ⟨rfl, (HP5.out.2.setCell (p := ⟨w.heap.size + 1, 0, none⟩) (by show w.heap.size ≤ w.heap.size + 1; omega) _).setCell (p := ⟨w.heap.size + 1, 1, none⟩) (by show w.heap.size ≤ w.heap.size + 1; omega) _⟩
  · have HL : Hid (Calls Tryd.prog 52 #[.slice (some ⟨b, off, none⟩) n cap, .func (Fn.func 53) #[] #[.pointer (some ⟨w.heap.size, 0, none⟩)]] W fun e w' => (e = .returned (.int .i64 (-1)) ∧ seekR seq L = ((0, 0), false) ∧ Below W.heap.size W w') ∨ ∃ (j : Nat) (x z : Int), e = .returned (.int .i64 (j : Int)) ∧ j < n ∧ w'.cell? ⟨b, off + j * 2, none⟩ = some (.int .i64 x) ∧ w'.cell? ⟨b, off + j * 2 + 1, none⟩ = some (.int .i64 z) ∧ seekR seq L = ((x, z), true) ∧ Below W.heap.size W w') := hl2.mono (by
      rintro e w' ⟨r, rfl, h1, h2⟩
      have hsk := seekR_cut seq L r h1
      cases r with
      | zero => exact .inl ⟨rfl, hsk, h2⟩
      | succ j =>
        obtain ⟨⟨x, z⟩, hpj⟩ := get_of_lt (L := L) (k := j) (by have := h1.le; omega)
        obtain ⟨c0, c1⟩ := Marks.cells hc j (x, z) hpj
        have hbw := (hfin w' h2).2
        rw [if_neg (by omega), Nat.add_sub_cancel, getD_of hpj] at hsk
        exact .inr ⟨j, x, z, by rw [show ((j + 1 : Nat) : Int) - 1 = (j : Int) from by omega], by have := h1.le; omega, (hbw.cell (p := ⟨b, off + j * 2, none⟩) hlt).trans c0, (hbw.cell (p := ⟨b, off + j * 2 + 1, none⟩) hlt).trans c1, hsk, h2⟩)
    clear hW hWs hp hb hn hR hx hl hl2 hfin hc
    go_enter Tryd.func28, Tryd.ntmps28
    go_wp2_with (go_at_call 52; rw [HW.out]; refine HL.out.mono ?_; rintro e w5 (⟨rfl, hsk, hb5⟩ | ⟨j, x, z, rfl, hjn, c0, c1, hsk, hb5⟩) <;> (have HP5 : Hid (MkAt w5 (w.heap.size + 1) 0 0 ∧ Below w.heap.size w w5) := HFIN.out w5 hb5; obtain ⟨y0, y1, y2, y3⟩ := mk_box HP5.out.1; have HSK : Hid (seekR seq L = _) := hsk; clear hb5 hsk))
    · refine bodyPost_ret (results_mk rfl _ _ _ rfl rfl (mk_set HP5.out.1 0 0)) rfl ?_
      rw [HSK.out]
      exact ⟨rfl, (HP5.out.2.setCell (p := ⟨w.heap.size + 1, 0, none⟩) (by show w.heap.size ≤ w.heap.size + 1; omega) _).setCell (p := ⟨w.heap.size + 1, 1, none⟩) (by show w.heap.size ≤ w.heap.size + 1; omega) _⟩
    · refine bodyPost_ret (results_mk rfl _ _ _ rfl rfl (mk_set HP5.out.1 x z)) rfl ?_
      rw [HSK.out]
      exact ⟨rfl, (HP5.out.2.setCell (p := ⟨w.heap.size + 1, 0, none⟩) (by show w.heap.size ≤ w.heap.size + 1; omega) _).setCell (p := ⟨w.heap.size + 1, 1, none⟩) (by show w.heap.size ≤ w.heap.size + 1; omega) _⟩
end Go.Proofs.YtaegmeilhdbnnaaDoor
namespace Go.Proofs.YtaegmeilhdbnnaaDoor
open Go.ChangeShapes Go.WideShapes Go.ChangeAt Go.RowKit
set_option linter.unusedVariables false
theorem bw_get (s : Nat) (hs : 1 ≤ s) : ∀ (P : List Mk) (k i : Nat), (bw s k P)[i]? = P[k + i * s]?
  | [], k, i => by simp [bw]
  | p :: r, 0, i => by
    unfold bw
    cases i with
    | zero => simp
    | succ i =>
      rw [List.getElem?_cons_succ, bw_get s hs r (s - 1) i, show 0 + (i + 1) * s = (s - 1 + i * s) + 1 from by rw [Nat.succ_mul]; omega, List.getElem?_cons_succ]
  | p :: r, k + 1, i => by
    unfold bw
    rw [bw_get s hs r k i, show k + 1 + i * s = (k + i * s) + 1 from by omega, List.getElem?_cons_succ]
theorem bldL_get (s : Nat) (hs : 1 ≤ s) (P : List Mk) (i : Nat) : (bldL (s : Int) P)[i]? = P[i * s]? := by
  unfold bldL
  rw [if_neg (by omega), Int.toNat_natCast, bw_get s hs P 0 i, Nat.zero_add]
theorem bldL_full (s : Nat) (hs : 1 ≤ s) (P : List Mk) : (bldL (s : Int) P).length = (P.length + s - 1) / s := by
  have key : ∀ i, i < (bldL (s : Int) P).length ↔ i < (P.length + s - 1) / s := by
    intro i
    have h1 : i < (bldL (s : Int) P).length ↔ i * s < P.length := by
      have hg := bldL_get s hs P i
      constructor
      · intro h
        rw [List.getElem?_eq_getElem h] at hg
        exact (List.getElem?_eq_some_iff.1 hg.symm).1
      · intro h
        rw [List.getElem?_eq_getElem h] at hg
        exact (List.getElem?_eq_some_iff.1 hg).1
    have h2 : i < (P.length + s - 1) / s ↔ i * s < P.length := by
      have h3 : i < (P.length + s - 1) / s ↔ (i + 1) * s ≤ P.length + s - 1 := Nat.le_div_iff_mul_le (by omega)
      rw [h3, Nat.succ_mul]
      omega
    rw [h1, h2]
  have a := key ((bldL (s : Int) P).length)
  have b := key ((P.length + s - 1) / s)
  omega
theorem fitN_all (u st : Nat) (foot : Int) : ∀ (M : List Mk) (i : Nat), (∀ j p, M[j]? = some p → p.1 = ((u + (i + j) * st : Nat) : Int) ∧ p.2 < foot) → fitN u st foot i M = true
  | [], _, _ => rfl
  | p :: r, i, h => by
    unfold fitN
    rw [if_pos (by have := h 0 p rfl; simpa using this)]
    exact fitN_all u st foot r (i + 1) (fun j q hq => by
      have := h (j + 1) q (by simpa using hq)
      rwa [show i + (j + 1) = i + 1 + j from by omega] at this)
/-- the marks of events: the number and the place of every st-th -/
theorem marks_get {y : Nat} {E : List Fm} (h : EvOk y E) (st : Nat) (hst : 1 ≤ st) (i : Nat) (p : Mk) (hp : (bldL (st : Int) (E.map evP))[i]? = some p) : ∃ f, E[i * st]? = some f ∧ p = (((y + i * st : Nat) : Int), (f.pos : Int)) := by
  rw [bldL_get st hst, List.getElem?_map] at hp
  obtain ⟨f, hf, rfl⟩ := Option.map_eq_some_iff.1 hp
  refine ⟨f, hf, ?_⟩
  unfold evP
  rw [h.nth _ _ hf]
theorem fit_marks {y : Nat} {E : List Fm} (h : EvOk y E) (st : Nat) (hst : 1 ≤ st) (foot : Int) (hf : ∀ f ∈ E, (f.pos : Int) < foot) : fitB (bldL (st : Int) (E.map evP)) y E.length st foot = true := by
  unfold fitB
  rw [bldL_full st hst, List.length_map, if_pos rfl]
  refine fitN_all _ _ _ _ _ (fun j p hp => ?_)
  obtain ⟨f, hfe, rfl⟩ := marks_get h st hst j p hp
  exact ⟨by rw [Nat.zero_add], hf f (List.mem_of_getElem? hfe)⟩
/-- Closing of a sealed segment's footer -/
theorem closing_seal (x y : Nat) (E : List Fm) (st : Nat) (foot : Int) (hx : x ≤ 999999) (hy : y ≤ 1099511627777) (hst1 : 1 ≤ st) (hst : st ≤ 64) (h : EvOk y E) (hne : E ≠ []) (hf : ∀ f ∈ E, (f.pos : Int) < foot) :
    clR (sealL x y E st) (x : Int) (y : Int) (E.length : Int) foot = some (bldL (st : Int) (E.map evP), st) := by
  obtain ⟨ff1, ff2, _⟩ := foot_facts y E st h hy hst
  obtain ⟨a1, a2, a3, a4, a5⟩ := dec_laid 3 x (footB y E st) [] ff1 (by omega) (by omega) (by omega) (by omega)
  rw [List.append_nil] at a1 a2 a3 a4 a5
  have h2 := pn_laid 3 x (footB y E st) [] ff1 (by omega) (by omega) (by omega) (by omega)
  rw [List.append_nil] at h2
  have hk : pk (sealL x y E st) = 3 := by unfold decK at a2; rw [if_pos a1] at a2; exact a2
  have hs : ps (sealL x y E st) = x := by unfold decS at a3; rw [if_pos a1] at a3; exact a3
  have hW : whE (sealL x y E st) 3 = 0 := by
    unfold whE
    rw [if_neg (by simpa [sealL] using a1), hk, if_neg]
    rintro (h | h)
    · exact h rfl
    · apply h
      unfold sealL
      rw [h2, frameL_length]
  unfold clR
  rw [if_pos ⟨hW, by rw [hs]⟩]
  have hB : decB (sealL x y E st) = footB y E st := a5
  rw [hB, foot_nrd y E st h hy hst]
  simp only
  rw [mDec_back _ (h.marks (st : Int))]
  have hl : 1 ≤ E.length := by cases E with | nil => exact absurd rfl hne | cons a r => simp
  rw [if_pos ⟨⟨trivial, trivial, hl, hst1, hst⟩, rfl, fit_marks h st hst1 foot hf⟩]
/-- Seek over a segment's marks: the mark of an event at most a stride before -/
theorem seek_near (y : Nat) (E : List Fm) (st : Nat) (hst1 : 1 ≤ st) (h : EvOk y E) (k : Nat) (hk : k < E.length) :
    ∃ (j : Nat) (f : Fm), E[j]? = some f ∧ j ≤ k ∧ k < j + st ∧ seekR ((y : Int) + (k : Int)) (bldL (st : Int) (E.map evP)) = ((((y + j : Nat) : Int), (f.pos : Int)), true) := by
  have hd := Nat.div_add_mod k st
  have hm := Nat.mod_lt k (show 0 < st by omega)
  obtain ⟨q, hq⟩ : ∃ q, k / st = q := ⟨_, rfl⟩
  rw [hq, Nat.mul_comm] at hd
  have hq1 : q * st < E.length := by omega
  obtain ⟨f, hf⟩ : ∃ f, E[q * st]? = some f := ⟨_, List.getElem?_eq_getElem hq1⟩
  have hpq : (bldL (st : Int) (E.map evP))[q]? = some (evP f) := by rw [bldL_get st hst1, List.getElem?_map, hf]; rfl
  have hc : Cut (bldL (st : Int) (E.map evP)) ((y : Int) + (k : Int)) (q + 1) := by
    refine ⟨(List.getElem?_eq_some_iff.1 hpq).1, fun t p ht hp => ?_, fun t p ht hp => ?_⟩
    · obtain ⟨g, _, rfl⟩ := marks_get h st hst1 t p hp
      have : t * st ≤ q * st := Nat.mul_le_mul_right _ (by omega)
      show ((y + t * st : Nat) : Int) ≤ _
      omega
    · obtain ⟨g, _, rfl⟩ := marks_get h st hst1 t p hp
      have : (q + 1) * st ≤ t * st := Nat.mul_le_mul_right _ ht
      rw [Nat.succ_mul] at this
      show _ < ((y + t * st : Nat) : Int)
      omega
  refine ⟨q * st, f, hf, by omega, by omega, ?_⟩
  rw [seekR_cut _ _ _ hc, if_neg (by omega), Nat.add_sub_cancel, getD_of hpq]
  unfold evP
  rw [h.nth _ _ hf]
/-- events lie below the end of what is laid -/
theorem plF_below (s : Nat) (M : List Fi) (hok : ∀ f ∈ M, Fok f.k.toNat f.s.toNat f.body) : ∀ f ∈ plF s M, f.pos < s + (layF M).length := by
  induction M generalizing s with
  | nil => intro f hf; cases hf
  | cons g r ih =>
    intro f hf
    have hl : (layF (g :: r)).length = (frameL g.k.toNat g.s.toNat g.body).length + (layF r).length := by
      show (frameL g.k.toNat g.s.toNat g.body ++ layF r).length = _
      rw [List.length_append]
    rw [hl, frameL_length]
    rcases List.mem_cons.1 hf with rfl | hf
    · show s < _
      omega
    · have := ih (s + (g.body.length + 20)) (fun f hf => hok f (List.mem_cons_of_mem _ hf)) f hf
      omega
end Go.Proofs.YtaegmeilhdbnnaaDoor
