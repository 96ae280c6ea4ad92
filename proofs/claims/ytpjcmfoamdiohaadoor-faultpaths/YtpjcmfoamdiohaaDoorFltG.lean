/- What fault.holds answers about a chain of faults: through guard, which defers a closure that recovers. -/
import Derived.Test.YtpjcmfoamdiohaaDoorFltW
import Derived.Defers
import Derived.Recover
import Derived.Laws.Pointers
namespace Go.Proofs.YtpjcmfoamdiohaaDoor
open Go.ChangeShapes Go.WideShapes Go.ChangeAt Go.RowKit
set_option linter.unusedVariables false
theorem idle_any (w : World) : CallsD Tryd.prog 29 #[] .returning w fun e u' w' => e = .returned (.tuple #[]) ∧ u' = .returning ∧ w' = w := by
  refine callsD_of_wpS Tryd.func29 rfl fun c₀ cs hu => ?_
  apply wpS_region
  cases c₀
  simp_all [wpOpsS, go_sem, recoverD, Tryd.ntmps29, bodyPostS, results, Tryd.results29]
theorem Ch.set {w : World} {a : Addr} {p : Addr} {u : Value} (hp : ∀ b op at0 inner, FltAt w b op at0 inner → b ≠ p.block) : ∀ {ops : List ByteArray} {v : Value}, Ch w a ops v → Ch (w.setCell p u) a ops v
  | [], _, h => h
  | _ :: _, _, ⟨b, at0, inner, h1, h2, h3⟩ => ⟨b, at0, inner, h1, (heap_setCell_other w p b u (hp b _ at0 inner h2)).trans h2, Ch.set hp h3⟩
set_option maxRecDepth 100000 in
set_option maxHeartbeats 4000000 in
theorem clos_any (a t : Addr) (ops : List ByteArray) (v : Value) (p0 p1 p2 : Nat) (w : World) (hc : Ch w a ops v) (heq : (binOp .eql 30 (senV a) (senV t)).run Tryd.prog w = .ok (.bool (decide (a = t))) w)
    (h0 : w.cell? ⟨p0, 0, none⟩ = some v) (h1 : w.cell? ⟨p1, 0, none⟩ = some (senV t)) (h2 : w.cell? ⟨p2, 0, none⟩ = some (.bool false)) (hz : w.frozen? ⟨p2, 0, none⟩ = false) :
    Calls Tryd.prog 26 #[.pointer (some ⟨p0, 0, none⟩), .pointer (some ⟨p1, 0, none⟩), .pointer (some ⟨p2, 0, none⟩)] w fun r w' => r = .returned (.tuple #[]) ∧ w' = w.setCell ⟨p2, 0, none⟩ (.bool (decide (a = t))) := by
  have HC : Hid (Ch w a ops v) := hc
  have HQ : Hid (_ = _) := heq
  have hin := hc.form
  clear hc heq
  rcases hin with ⟨b2, rfl⟩ | rfl
  · go_enter Tryd.func26, Tryd.ntmps26
    go_wp2_with (go_at_call 10; refine (eis_ch a t ops _ w HC.out HQ.out).mono ?_; rintro r w1 ⟨rfl, rfl⟩)
    go_end0
    exact ⟨rfl, rfl⟩
  · go_enter Tryd.func26, Tryd.ntmps26
    go_wp2_with (go_at_call 10; refine (eis_ch a t ops _ w HC.out HQ.out).mono ?_; rintro r w1 ⟨rfl, rfl⟩)
    go_end0
    exact ⟨rfl, rfl⟩
set_option maxRecDepth 100000 in
set_option maxHeartbeats 4000000 in
theorem guard_any (a t : Addr) (ops : List ByteArray) (v : Value) (p0 p1 p2 : Nat) (w : World) (hc : Ch w a ops v) (heq : (binOp .eql 30 (senV a) (senV t)).run Tryd.prog w = .ok (.bool (decide (a = t))) w)
    (h0 : w.cell? ⟨p0, 0, none⟩ = some v) (h1 : w.cell? ⟨p1, 0, none⟩ = some (senV t)) (h2 : w.cell? ⟨p2, 0, none⟩ = some (.bool false)) (hz : w.frozen? ⟨p2, 0, none⟩ = false) :
    Calls Tryd.prog 25 #[.func (Fn.func 26) #[] #[.pointer (some ⟨p0, 0, none⟩), .pointer (some ⟨p1, 0, none⟩), .pointer (some ⟨p2, 0, none⟩)]] w fun r w' => r = .returned (.tuple #[]) ∧ w' = w.setCell ⟨p2, 0, none⟩ (.bool (decide (a = t))) := by
  have hmf : ∀ (fn : Fn) (first cap : Array Value) (w : World), (Instr.makeFunc fn first cap).run Tryd.prog w = .ok (.func fn first cap) w := fun _ _ _ _ => rfl
  have HA : Hid (_ ∧ _ ∧ _ ∧ _ ∧ _ ∧ _) := ⟨hc, heq, h0, h1, h2, hz⟩
  clear hc heq h0 h1 h2 hz
  go_enter_defers Tryd.func25, Tryd.ntmps25
  go_wp2_with (go_at_call 26; refine (clos_any a t ops v p0 p1 p2 w HA.out.1 HA.out.2.1 HA.out.2.2.1 HA.out.2.2.2.1 HA.out.2.2.2.2.1 HA.out.2.2.2.2.2).mono ?_; rintro r w1 ⟨rfl, rfl⟩)
  refine leaves_cons (f := 29) (args := #[]) (by simp) (by simp [go_sem]) ?_
  refine (idle_any _).mono ?_
  rintro e u' w'' ⟨rfl, rfl, rfl⟩
  simp [Leaves, settle, results, Tryd.results25, go_sem]
theorem results_cellG {fn : Func} {t : Tmp} {ty : TypeId} (h : fn.results = #[.cell t ty]) (tmps : Array Value) (w : World) (b : Nat) (v : Value) (ht : tmps.getD t undef = .pointer (some ⟨b, 0, none⟩)) (hl : (Go.loadVar ty ⟨b, 0, none⟩).run Tryd.prog w = .ok v w) :
    (results fn tmps).run Tryd.prog w = .ok v w := by
  simp only [Array.getD_eq_getD_getElem?] at ht
  simp [results, h, ht, asAddr, hl]
/-- the three blocks that holds lays: its captured variables -/
theorem lay3h (w : World) (v t : Value) : (((w.alloc (.cells #[v] 30)).alloc (.cells #[t] 30)).alloc (.cells #[.bool false] 4)).heap[w.heap.size]? = some (.cells #[v] 30) ∧ (((w.alloc (.cells #[v] 30)).alloc (.cells #[t] 30)).alloc (.cells #[.bool false] 4)).heap[w.heap.size + 1]? = some (.cells #[t] 30) ∧ (((w.alloc (.cells #[v] 30)).alloc (.cells #[t] 30)).alloc (.cells #[.bool false] 4)).heap[w.heap.size + 1 + 1]? = some (.cells #[.bool false] 4) := by
  refine ⟨?_, ?_, ?_⟩
  · simp only [World.alloc, Array.getElem?_push, Array.size_push]
    rw [if_neg (by omega), if_neg (by omega), if_pos trivial]
  · simp only [World.alloc, Array.getElem?_push, Array.size_push]
    rw [if_neg (by omega), if_pos trivial]
  · simp only [World.alloc, Array.getElem?_push, Array.size_push]
    rw [if_pos trivial]
theorem lay3g (w : World) (v t : Value) :
    (((w.alloc (.cells #[v] 30)).alloc (.cells #[t] 30)).alloc (.cells #[.bool false] 4)).cell? ⟨w.heap.size, 0, none⟩ = some v ∧ (((w.alloc (.cells #[v] 30)).alloc (.cells #[t] 30)).alloc (.cells #[.bool false] 4)).cell? ⟨w.heap.size + 1, 0, none⟩ = some t ∧ (((w.alloc (.cells #[v] 30)).alloc (.cells #[t] 30)).alloc (.cells #[.bool false] 4)).cell? ⟨w.heap.size + 1 + 1, 0, none⟩ = some (.bool false) ∧ (((w.alloc (.cells #[v] 30)).alloc (.cells #[t] 30)).alloc (.cells #[.bool false] 4)).frozen? ⟨w.heap.size + 1 + 1, 0, none⟩ = false ∧ Below w.heap.size w (((w.alloc (.cells #[v] 30)).alloc (.cells #[t] 30)).alloc (.cells #[.bool false] 4)) := by
  obtain ⟨e0, e1, e2⟩ := lay3h w v t
  refine ⟨?_, ?_, ?_, frozen_of_row _ _ 0 _ _ e2, (((Below.refl _ _).alloc (Nat.le_refl _) _).alloc (by simp) _).alloc (by simp; omega) _⟩
  · rw [cell_of_row _ _ 0 _ _ _ e0]; rfl
  · rw [cell_of_row _ _ 0 _ _ _ e1]; rfl
  · rw [cell_of_row _ _ 0 _ _ _ e2]; rfl
theorem lay3s (w : World) (v t : Value) (D : Bool) :
    ((((w.alloc (.cells #[v] 30)).alloc (.cells #[t] 30)).alloc (.cells #[.bool false] 4)).setCell ⟨w.heap.size + 1 + 1, 0, none⟩ (.bool D)).cell? ⟨w.heap.size + 1 + 1, 0, none⟩ = some (.bool D) ∧ ((((w.alloc (.cells #[v] 30)).alloc (.cells #[t] 30)).alloc (.cells #[.bool false] 4)).setCell ⟨w.heap.size + 1 + 1, 0, none⟩ (.bool D)).frozen? ⟨w.heap.size + 1 + 1, 0, none⟩ = false ∧ Below w.heap.size w ((((w.alloc (.cells #[v] 30)).alloc (.cells #[t] 30)).alloc (.cells #[.bool false] 4)).setCell ⟨w.heap.size + 1 + 1, 0, none⟩ (.bool D)) := by
  obtain ⟨e0, e1, e2⟩ := lay3h w v t
  have e3 := heap_setCell_same _ (w.heap.size + 1 + 1) 0 _ _ (.bool D) e2
  refine ⟨?_, frozen_of_row _ _ 0 _ _ e3, (lay3g w v t).2.2.2.2.setCell (p := ⟨w.heap.size + 1 + 1, 0, none⟩) (by show w.heap.size ≤ w.heap.size + 1 + 1; omega) _⟩
  rw [cell_of_row _ _ 0 _ _ _ e3]; rfl
set_option maxRecDepth 100000 in
set_option maxHeartbeats 4000000 in
theorem holds_any (a t : Addr) (ops : List ByteArray) (v : Value) (w : World) (hc : Ch w a ops v) (hq : ∀ w', Below w.heap.size w w' → (binOp .eql 30 (senV a) (senV t)).run Tryd.prog w' = .ok (.bool (decide (a = t))) w') :
    Calls Tryd.prog 23 #[v, senV t] w fun r w' => r = .returned (.bool (decide (a = t))) ∧ Below w.heap.size w w' := by
  have hmf : ∀ (fn : Fn) (first cap : Array Value) (w : World), (Instr.makeFunc fn first cap).run Tryd.prog w = .ok (.func fn first cap) w := fun _ _ _ _ => rfl
  have HL : Hid (_ ∧ _ ∧ _ ∧ _ ∧ _) := lay3g w v (senV t)
  have HC : Hid (Ch w a ops v) := hc
  have HQ : Hid (∀ w', Below w.heap.size w w' → (binOp .eql 30 (senV a) (senV t)).run Tryd.prog w' = .ok (.bool (decide (a = t))) w') := hq
  have hin := hc.form
  clear hc hq
  have HS : Hid (_ ∧ _ ∧ _) := lay3s w v (senV t) (decide (a = t))
  rcases hin with ⟨b2, rfl⟩ | rfl
  · go_enter Tryd.func23, Tryd.ntmps23
    go_wp2_with (go_at_call 25; refine (guard_any a t ops _ _ _ _ _ (HC.out.keep HL.out.2.2.2.2) (HQ.out _ HL.out.2.2.2.2) HL.out.1 HL.out.2.1 HL.out.2.2.1 HL.out.2.2.2.1).mono ?_; rintro r w1 ⟨rfl, hw1⟩; obtain ⟨hc1, hz1, hb1⟩ := HS.out; rw [← hw1] at hc1 hz1 hb1; have HB1 : Hid (Below w.heap.size w w1) := hb1; clear hw1 hb1)
    refine bodyPost_ret (results_cellG rfl _ _ _ _ rfl (?_ : _ = Result.ok (.bool (decide (a = t))) _)) rfl ?_
    · have h5 : (w1.setCell ⟨w.heap.size + 1 + 1, 0, none⟩ (.bool (decide (a = t)))).cell? ⟨w.heap.size + 1 + 1, 0, none⟩ = some (.bool (decide (a = t))) := by first | exact World.cell?_setCell_same _ _ hc1 | exact World.cell?_setCell_same _ hc1 | exact World.cell?_setCell_same _ _ _ hc1
      simp [go_sem, h5]
    · exact ⟨rfl, HB1.out.setCell (p := ⟨w.heap.size + 1 + 1, 0, none⟩) (by show w.heap.size ≤ w.heap.size + 1 + 1; omega) _⟩
  · go_enter Tryd.func23, Tryd.ntmps23
    go_wp2_with (go_at_call 25; refine (guard_any a t ops _ _ _ _ _ (HC.out.keep HL.out.2.2.2.2) (HQ.out _ HL.out.2.2.2.2) HL.out.1 HL.out.2.1 HL.out.2.2.1 HL.out.2.2.2.1).mono ?_; rintro r w1 ⟨rfl, hw1⟩; obtain ⟨hc1, hz1, hb1⟩ := HS.out; rw [← hw1] at hc1 hz1 hb1; have HB1 : Hid (Below w.heap.size w w1) := hb1; clear hw1 hb1)
    refine bodyPost_ret (results_cellG rfl _ _ _ _ rfl (?_ : _ = Result.ok (.bool (decide (a = t))) _)) rfl ?_
    · have h5 : (w1.setCell ⟨w.heap.size + 1 + 1, 0, none⟩ (.bool (decide (a = t)))).cell? ⟨w.heap.size + 1 + 1, 0, none⟩ = some (.bool (decide (a = t))) := by first | exact World.cell?_setCell_same _ _ hc1 | exact World.cell?_setCell_same _ hc1 | exact World.cell?_setCell_same _ _ _ hc1
      simp [go_sem, h5]
    · exact ⟨rfl, HB1.out.setCell (p := ⟨w.heap.size + 1 + 1, 0, none⟩) (by show w.heap.size ≤ w.heap.size + 1 + 1; omega) _⟩
end Go.Proofs.YtpjcmfoamdiohaaDoor
