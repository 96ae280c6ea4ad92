/- fault.nearest and fault.Path at a chain of faults around a sentinel, and at nil. -/
import Derived.Test.YtpjcmfoamdiohaaDoorFltR
import Derived.Test.YtpjcmfoamdiohaaDoorFltD
namespace Go.Proofs.YtpjcmfoamdiohaaDoor
open Go.ChangeShapes Go.WideShapes Go.ChangeAt Go.RowKit
open Go.Extern.Stop Go.Stop Go.Extern
set_option linter.unusedVariables false
/-- what nearest answers -/
def Near (v f : Value) (ok : Bool) : Prop := (∃ b, v = fltV b ∧ f = .pointer (some ⟨b, 0, none⟩) ∧ ok = true) ∨ ((v = .nilIface ∨ ∃ a, v = senV a) ∧ f = .pointer none ∧ ok = false)
theorem eas_near (v f : Value) (ok : Bool) (hv : Near v f ok) (p : Nat) (w : World) (hg : w.cell? ⟨42, 0, none⟩ = some (rty 30)) (hp : w.heap[p]? = some (.cells #[.pointer none] 49)) :
    Calls Tryd.prog 28 #[v, .iface 75 (.pointer (some ⟨p, 0, none⟩))] w fun r w' => r = .returned (.bool ok) ∧ w'.heap[p]? = some (.cells #[f] 49) ∧ Kept p p w w' := by
  have hlt : p < w.heap.size := by
    by_cases hh : p < w.heap.size
    · exact hh
    · rw [Array.getElem?_eq_none (by omega)] at hp; cases hp
  rcases hv with ⟨b, rfl, rfl, rfl⟩ | ⟨rfl | ⟨a, rfl⟩, rfl, rfl⟩
  · exact eas_flt b p none w hg hp
  · refine (eas_nil p w).mono ?_
    rintro r w1 ⟨rfl, hb⟩
    exact ⟨rfl, (hb.block p hlt).trans hp, Kept.of_below hb⟩
  · refine (eas_sen a p w hg).mono ?_
    rintro r w1 ⟨rfl, hb⟩
    exact ⟨rfl, (hb.block p hlt).trans hp, Kept.of_below hb⟩
/-- behind nearest's closure: only its two variables are written -/
structure Found (p1 p2 : Nat) (f : Value) (ok : Bool) (w w' : World) : Prop where
  f : w'.heap[p1]? = some (.cells #[f] 49)
  ok : w'.heap[p2]? = some (.cells #[.bool ok] 4)
  kept : Kept p1 p2 w w'
theorem found_of {p1 p2 : Nat} {f : Value} {ok : Bool} {w w1 : World} (hne : p1 ≠ p2) (h1 : w1.heap[p1]? = some (.cells #[f] 49)) (h2 : w.heap[p2]? = some (.cells #[.bool false] 4)) (hk : Kept p1 p1 w w1) : Found p1 p2 f ok w (w1.setCell ⟨p2, 0, none⟩ (.bool ok)) := by
  have hlt : p2 < w.heap.size := by
    by_cases hh : p2 < w.heap.size
    · exact hh
    · rw [Array.getElem?_eq_none (by omega)] at h2; cases h2
  have h3 : w1.heap[p2]? = some (.cells #[.bool false] 4) := (hk.block p2 hlt (fun h => hne h.symm) (fun h => hne h.symm)).trans h2
  refine ⟨(heap_setCell_other w1 ⟨p2, 0, none⟩ p1 _ hne).trans h1, ?_, ⟨hk.os, hk.tape, hk.output, by simp; exact hk.size, fun k hlt2 e1 e2 => (heap_setCell_other w1 ⟨p2, 0, none⟩ k _ e2).trans (hk.block k hlt2 e1 e1)⟩⟩
  rw [heap_setCell_same w1 p2 0 _ _ _ h3]; rfl
set_option maxRecDepth 100000 in
set_option maxHeartbeats 4000000 in
theorem clos_near (v f : Value) (ok : Bool) (hv : Near v f ok) (p0 p1 p2 : Nat) (w : World) (hg : w.cell? ⟨42, 0, none⟩ = some (rty 30)) (hne : p1 ≠ p2)
    (h0 : w.cell? ⟨p0, 0, none⟩ = some v) (h1 : w.heap[p1]? = some (.cells #[.pointer none] 49)) (h2 : w.heap[p2]? = some (.cells #[.bool false] 4)) :
    Calls Tryd.prog 27 #[.pointer (some ⟨p0, 0, none⟩), .pointer (some ⟨p1, 0, none⟩), .pointer (some ⟨p2, 0, none⟩)] w fun r w' => r = .returned (.tuple #[]) ∧ Found p1 p2 f ok w w' := by
  have HG : Hid (w.cell? ⟨42, 0, none⟩ = some (rty 30)) := hg
  have H1 : Hid (w.heap[p1]? = some (.cells #[.pointer none] 49)) := h1
  have H2 : Hid (w.heap[p2]? = some (.cells #[.bool false] 4)) := h2
  have HV : Hid (Near v f ok) := hv
  have hlt : p2 < w.heap.size := by
    by_cases hh : p2 < w.heap.size
    · exact hh
    · rw [Array.getElem?_eq_none (by omega)] at h2; cases h2
  have HK : Hid (∀ w1, Kept p1 p1 w w1 → w1.cell? ⟨p2, 0, none⟩ = some (.bool false) ∧ w1.frozen? ⟨p2, 0, none⟩ = false) := by
    intro w1 hk
    have h3 : w1.heap[p2]? = some (.cells #[.bool false] 4) := (hk.block p2 hlt (fun h => hne h.symm) (fun h => hne h.symm)).trans h2
    exact ⟨by rw [cell_of_row _ _ 0 _ _ _ h3]; rfl, frozen_of_row _ _ 0 _ _ h3⟩
  clear hg h1 h2 hlt
  rcases hv with ⟨b, rfl, rfl, rfl⟩ | ⟨rfl | ⟨a, rfl⟩, rfl, rfl⟩
  all_goals
    go_enter Tryd.func27, Tryd.ntmps27
    go_wp2_with (go_at_call 28; refine (eas_near _ _ _ HV.out p1 w HG.out H1.out).mono ?_; rintro r w1 ⟨rfl, hf1, hk1⟩; obtain ⟨hc1, hz1⟩ := HK.out w1 hk1; have HF1 : Hid (_ ∧ _) := ⟨hf1, hk1⟩; clear hf1 hk1)
    go_end0
    exact ⟨rfl, found_of hne HF1.out.1 H2.out HF1.out.2⟩
set_option maxRecDepth 100000 in
set_option maxHeartbeats 4000000 in
theorem guard_near (v f : Value) (ok : Bool) (hv : Near v f ok) (p0 p1 p2 : Nat) (w : World) (hg : w.cell? ⟨42, 0, none⟩ = some (rty 30)) (hne : p1 ≠ p2)
    (h0 : w.cell? ⟨p0, 0, none⟩ = some v) (h1 : w.heap[p1]? = some (.cells #[.pointer none] 49)) (h2 : w.heap[p2]? = some (.cells #[.bool false] 4)) :
    Calls Tryd.prog 25 #[.func (Fn.func 27) #[] #[.pointer (some ⟨p0, 0, none⟩), .pointer (some ⟨p1, 0, none⟩), .pointer (some ⟨p2, 0, none⟩)]] w fun r w' => r = .returned (.tuple #[]) ∧ Found p1 p2 f ok w w' := by
  have hmf : ∀ (fn : Fn) (first cap : Array Value) (w : World), (Instr.makeFunc fn first cap).run Tryd.prog w = .ok (.func fn first cap) w := fun _ _ _ _ => rfl
  have HA : Hid (_ ∧ _ ∧ _ ∧ _ ∧ _ ∧ _) := ⟨hv, hg, hne, h0, h1, h2⟩
  clear hv hg hne h0 h1 h2
  go_enter_defers Tryd.func25, Tryd.ntmps25
  go_wp2_with (go_at_call 27; refine (clos_near v f ok HA.out.1 p0 p1 p2 w HA.out.2.1 HA.out.2.2.1 HA.out.2.2.2.1 HA.out.2.2.2.2.1 HA.out.2.2.2.2.2).mono ?_; rintro r w1 ⟨rfl, hw1⟩)
  refine leaves_cons (f := 29) (args := #[]) (by simp) (by simp [go_sem]) ?_
  refine (idle_any _).mono ?_
  rintro e u' w'' ⟨rfl, rfl, rfl⟩
  simp [Leaves, settle, results, Tryd.results25, go_sem, hw1]
theorem results_cells2 {fn : Func} {t s : Tmp} {ty tz : TypeId} (h : fn.results = #[.cell t ty, .cell s tz]) (tmps : Array Value) (w : World) (b c : Nat) (v x : Value) (ht : tmps.getD t undef = .pointer (some ⟨b, 0, none⟩)) (hs : tmps.getD s undef = .pointer (some ⟨c, 0, none⟩)) (hl : (Go.loadVar ty ⟨b, 0, none⟩).run Tryd.prog w = .ok v w) (hm : (Go.loadVar tz ⟨c, 0, none⟩).run Tryd.prog w = .ok x w) :
    (results fn tmps).run Tryd.prog w = .ok (.tuple #[v, x]) w := by
  simp only [Array.getD_eq_getD_getElem?] at ht hs
  simp [results, h, ht, hs, asAddr, hl, hm]
/-- the three blocks that nearest lays -/
theorem lay3n (w : World) (v : Value) : ∃ W, ((w.alloc (.cells #[v] 30)).alloc (.cells #[.pointer none] 49)).alloc (.cells #[.bool false] 4) = W ∧ W.cell? ⟨w.heap.size, 0, none⟩ = some v ∧ W.heap[w.heap.size + 1]? = some (.cells #[.pointer none] 49) ∧ W.heap[w.heap.size + 1 + 1]? = some (.cells #[.bool false] 4) ∧ Below w.heap.size w W := by
  refine ⟨_, rfl, ?_, ?_, ?_, (((Below.refl _ _).alloc (Nat.le_refl _) _).alloc (by simp) _).alloc (by simp; omega) _⟩
  · have e0 : (((w.alloc (.cells #[v] 30)).alloc (.cells #[.pointer none] 49)).alloc (.cells #[.bool false] 4)).heap[w.heap.size]? = some (.cells #[v] 30) := by
      simp only [World.alloc, Array.getElem?_push, Array.size_push]
      rw [if_neg (by omega), if_neg (by omega), if_pos trivial]
    rw [cell_of_row _ _ 0 _ _ _ e0]; rfl
  · simp only [World.alloc, Array.getElem?_push, Array.size_push]
    rw [if_neg (by omega), if_pos trivial]
  · simp only [World.alloc, Array.getElem?_push, Array.size_push]
    rw [if_pos trivial]
theorem Found.cells {p1 p2 : Nat} {f : Value} {ok : Bool} {w w' : World} (h : Found p1 p2 f ok w w') : w'.cell? ⟨p1, 0, none⟩ = some f ∧ w'.cell? ⟨p2, 0, none⟩ = some (.bool ok) ∧ w'.frozen? ⟨p1, 0, none⟩ = false ∧ w'.frozen? ⟨p2, 0, none⟩ = false :=
  ⟨by rw [cell_of_row _ _ 0 _ _ _ h.f]; rfl, by rw [cell_of_row _ _ 0 _ _ _ h.ok]; rfl, frozen_of_row _ _ 0 _ _ h.f, frozen_of_row _ _ 0 _ _ h.ok⟩
theorem loadF {w : World} {b : Nat} {v : Value} (h : w.cell? ⟨b, 0, none⟩ = some v) : (Go.loadVar 49 ⟨b, 0, none⟩).run Tryd.prog w = .ok v w := loadP h
theorem loadB {w : World} {b : Nat} {v : Value} (h : w.cell? ⟨b, 0, none⟩ = some v) : (Go.loadVar 4 ⟨b, 0, none⟩).run Tryd.prog w = .ok v w := by
  have ha : (isAgg 4).run Tryd.prog w = .ok false w := by kernel_rfl
  simp [go_sem, h, ha]
theorem found_back {w W w1 : World} {f : Value} {ok : Bool} (h : Found (w.heap.size + 1) (w.heap.size + 1 + 1) f ok W w1) (hB : Below w.heap.size w W) :
    ((w1.setCell ⟨w.heap.size + 1, 0, none⟩ f).setCell ⟨w.heap.size + 1 + 1, 0, none⟩ (.bool ok)).drew.cell? ⟨w.heap.size + 1, 0, none⟩ = some f ∧ ((w1.setCell ⟨w.heap.size + 1, 0, none⟩ f).setCell ⟨w.heap.size + 1 + 1, 0, none⟩ (.bool ok)).drew.cell? ⟨w.heap.size + 1 + 1, 0, none⟩ = some (.bool ok) ∧ Below w.heap.size w ((w1.setCell ⟨w.heap.size + 1, 0, none⟩ f).setCell ⟨w.heap.size + 1 + 1, 0, none⟩ (.bool ok)).drew := by
  have e1 := heap_setCell_same w1 (w.heap.size + 1) 0 _ _ f h.f
  have e2 := (heap_setCell_other (w1.setCell ⟨w.heap.size + 1, 0, none⟩ f) ⟨w.heap.size + 1 + 1, 0, none⟩ (w.heap.size + 1) (.bool ok) (by show w.heap.size + 1 ≠ w.heap.size + 1 + 1; omega)).trans e1
  have e3 := (heap_setCell_other w1 ⟨w.heap.size + 1, 0, none⟩ (w.heap.size + 1 + 1) f (by show w.heap.size + 1 + 1 ≠ w.heap.size + 1; omega)).trans h.ok
  have e4 := heap_setCell_same _ (w.heap.size + 1 + 1) 0 _ _ (.bool ok) e3
  refine ⟨?_, ?_, (((h.kept.below hB (by omega) (by omega)).setCell (p := ⟨w.heap.size + 1, 0, none⟩) (by show w.heap.size ≤ w.heap.size + 1; omega) _).setCell (p := ⟨w.heap.size + 1 + 1, 0, none⟩) (by show w.heap.size ≤ w.heap.size + 1 + 1; omega) _).drew⟩
  · show ((w1.setCell ⟨w.heap.size + 1, 0, none⟩ f).setCell ⟨w.heap.size + 1 + 1, 0, none⟩ (.bool ok)).cell? ⟨w.heap.size + 1, 0, none⟩ = some f
    rw [cell_of_row _ _ 0 _ _ _ e2]; rfl
  · show ((w1.setCell ⟨w.heap.size + 1, 0, none⟩ f).setCell ⟨w.heap.size + 1 + 1, 0, none⟩ (.bool ok)).cell? ⟨w.heap.size + 1 + 1, 0, none⟩ = some (.bool ok)
    rw [cell_of_row _ _ 0 _ _ _ e4]; rfl
set_option maxRecDepth 100000 in
set_option maxHeartbeats 1000000 in
theorem near_sen (a : Addr) (w : World) (hg : w.cell? ⟨42, 0, none⟩ = some (rty 30)) :
    Calls Tryd.prog 24 #[senV a] w fun r w' => r = .returned (.tuple #[.pointer none, .bool false]) ∧ Below w.heap.size w w' := by
  have hmf : ∀ (fn : Fn) (first cap : Array Value) (w : World), (Instr.makeFunc fn first cap).run Tryd.prog w = .ok (.func fn first cap) w := fun _ _ _ _ => rfl
  obtain ⟨W, hW, k0, k1, k2, hB⟩ := lay3n w (senV a)
  have HA : Hid (W.cell? ⟨w.heap.size, 0, none⟩ = some (senV a) ∧ W.heap[w.heap.size + 1]? = some (.cells #[.pointer none] 49) ∧ W.heap[w.heap.size + 1 + 1]? = some (.cells #[.bool false] 4) ∧ Below w.heap.size w W ∧ W.cell? ⟨42, 0, none⟩ = some (rty 30)) := ⟨k0, k1, k2, hB, (hB.cell (p := ⟨42, 0, none⟩) (World.block_lt_of_cell? _ _ hg)).trans hg⟩
  have hn1 : ¬ (w.heap.size + 1 = w.heap.size + 1 + 1) := by omega
  have hn2 : ¬ (w.heap.size + 1 + 1 = w.heap.size + 1) := by omega
  clear k0 k1 k2 hB hg
  go_enter Tryd.func24, Tryd.ntmps24
  go_wp2_with (go_at_call 25; refine (guard_near (senV a) (.pointer none) false (.inr ⟨.inr ⟨a, rfl⟩, rfl, rfl⟩) _ _ _ W HA.out.2.2.2.2 (by omega) HA.out.1 HA.out.2.1 HA.out.2.2.1).mono ?_; rintro r w1 ⟨rfl, hw1⟩; have HF : Hid (Found (w.heap.size + 1) (w.heap.size + 1 + 1) (.pointer none) false W w1) := hw1; obtain ⟨c1, c2, z1, z2⟩ := hw1.cells; clear hw1 hmf)
  go_region
  all_goals
    go_wp2
    obtain ⟨g1, g2, g3⟩ := found_back HF.out HA.out.2.2.2.1
    exact bodyPost_ret (results_cells2 rfl _ _ _ _ _ _ rfl rfl (loadF g1) (loadB g2)) rfl ⟨rfl, g3⟩
set_option maxRecDepth 100000 in
set_option maxHeartbeats 1000000 in
theorem near_nil (w : World) (hg : w.cell? ⟨42, 0, none⟩ = some (rty 30)) :
    Calls Tryd.prog 24 #[.nilIface] w fun r w' => r = .returned (.tuple #[.pointer none, .bool false]) ∧ Below w.heap.size w w' := by
  have hmf : ∀ (fn : Fn) (first cap : Array Value) (w : World), (Instr.makeFunc fn first cap).run Tryd.prog w = .ok (.func fn first cap) w := fun _ _ _ _ => rfl
  obtain ⟨W, hW, k0, k1, k2, hB⟩ := lay3n w (.nilIface)
  have HA : Hid (W.cell? ⟨w.heap.size, 0, none⟩ = some (.nilIface) ∧ W.heap[w.heap.size + 1]? = some (.cells #[.pointer none] 49) ∧ W.heap[w.heap.size + 1 + 1]? = some (.cells #[.bool false] 4) ∧ Below w.heap.size w W ∧ W.cell? ⟨42, 0, none⟩ = some (rty 30)) := ⟨k0, k1, k2, hB, (hB.cell (p := ⟨42, 0, none⟩) (World.block_lt_of_cell? _ _ hg)).trans hg⟩
  have hn1 : ¬ (w.heap.size + 1 = w.heap.size + 1 + 1) := by omega
  have hn2 : ¬ (w.heap.size + 1 + 1 = w.heap.size + 1) := by omega
  clear k0 k1 k2 hB hg
  go_enter Tryd.func24, Tryd.ntmps24
  go_wp2_with (go_at_call 25; refine (guard_near (.nilIface) (.pointer none) false (.inr ⟨.inl rfl, rfl, rfl⟩) _ _ _ W HA.out.2.2.2.2 (by omega) HA.out.1 HA.out.2.1 HA.out.2.2.1).mono ?_; rintro r w1 ⟨rfl, hw1⟩; have HF : Hid (Found (w.heap.size + 1) (w.heap.size + 1 + 1) (.pointer none) false W w1) := hw1; obtain ⟨c1, c2, z1, z2⟩ := hw1.cells; clear hw1 hmf)
  go_region
  all_goals
    go_wp2
    obtain ⟨g1, g2, g3⟩ := found_back HF.out HA.out.2.2.2.1
    exact bodyPost_ret (results_cells2 rfl _ _ _ _ _ _ rfl rfl (loadF g1) (loadB g2)) rfl ⟨rfl, g3⟩
set_option maxRecDepth 100000 in
set_option maxHeartbeats 1000000 in
theorem near_flt (b : Nat) (w : World) (hg : w.cell? ⟨42, 0, none⟩ = some (rty 30)) :
    Calls Tryd.prog 24 #[fltV b] w fun r w' => r = .returned (.tuple #[.pointer (some ⟨b, 0, none⟩), .bool true]) ∧ Below w.heap.size w w' := by
  have hmf : ∀ (fn : Fn) (first cap : Array Value) (w : World), (Instr.makeFunc fn first cap).run Tryd.prog w = .ok (.func fn first cap) w := fun _ _ _ _ => rfl
  obtain ⟨W, hW, k0, k1, k2, hB⟩ := lay3n w (fltV b)
  have HA : Hid (W.cell? ⟨w.heap.size, 0, none⟩ = some (fltV b) ∧ W.heap[w.heap.size + 1]? = some (.cells #[.pointer none] 49) ∧ W.heap[w.heap.size + 1 + 1]? = some (.cells #[.bool false] 4) ∧ Below w.heap.size w W ∧ W.cell? ⟨42, 0, none⟩ = some (rty 30)) := ⟨k0, k1, k2, hB, (hB.cell (p := ⟨42, 0, none⟩) (World.block_lt_of_cell? _ _ hg)).trans hg⟩
  have hn1 : ¬ (w.heap.size + 1 = w.heap.size + 1 + 1) := by omega
  have hn2 : ¬ (w.heap.size + 1 + 1 = w.heap.size + 1) := by omega
  clear k0 k1 k2 hB hg
  go_enter Tryd.func24, Tryd.ntmps24
  go_wp2_with (go_at_call 25; refine (guard_near (fltV b) (.pointer (some ⟨b, 0, none⟩)) true (.inl ⟨b, rfl, rfl, rfl⟩) _ _ _ W HA.out.2.2.2.2 (by omega) HA.out.1 HA.out.2.1 HA.out.2.2.1).mono ?_; rintro r w1 ⟨rfl, hw1⟩; have HF : Hid (Found (w.heap.size + 1) (w.heap.size + 1 + 1) (.pointer (some ⟨b, 0, none⟩)) true W w1) := hw1; obtain ⟨c1, c2, z1, z2⟩ := hw1.cells; clear hw1 hmf)
  go_region
  all_goals
    go_wp2
    obtain ⟨g1, g2, g3⟩ := found_back HF.out HA.out.2.2.2.1
    exact bodyPost_ret (results_cells2 rfl _ _ _ _ _ _ rfl rfl (loadF g1) (loadB g2)) rfl ⟨rfl, g3⟩
theorem Tryd.infoS : (Tryd.prog.info? 9).map (fun i => (i.zero, i.size, i.bytes)) = some (some (.string ⟨#[]⟩), 1, 16) := by kernel_rfl
theorem own_below {w w' : World} {base : Nat} {e : TypeId} {size : Nat} {v : Value} {n : Nat} {xs : List Value} (h : w.ownsRow base e size v n xs) (hb : Below w.heap.size w w') : w'.ownsRow base e size v n xs := by
  refine ⟨h.1, ?_⟩
  rcases h.2 with h2 | ⟨g, cap, cur, h3, h4, h5, h6⟩
  · exact .inl h2
  · refine .inr ⟨g, cap, cur, h3, h4, ?_, h6⟩
    have hlt : g < w.heap.size := by
      by_cases hh : g < w.heap.size
      · exact hh
      · rw [Array.getElem?_eq_none (by omega)] at h5; cases h5
    rw [hb.block g hlt]; exact h5
/-- a row of strings -/
def SV (l : List ByteArray) : List Value := l.map fun s => Value.string s
theorem SV_append (l m : List ByteArray) : SV (l ++ m) = SV l ++ SV m := by simp [SV]
set_option maxRecDepth 100000 in
set_option maxHeartbeats 1000000 in
theorem path_none (v : Value) (hv : v = .nilIface ∨ ∃ a, v = senV a) (w : World) (hg : w.cell? ⟨42, 0, none⟩ = some (rty 30)) :
    Calls Tryd.prog 19 #[v] w fun r w' => r = .returned (.slice none 0 0) ∧ Below w.heap.size w w' := by
  have HG : Hid (w.cell? ⟨42, 0, none⟩ = some (rty 30)) := hg
  clear hg
  rcases hv with rfl | ⟨a, rfl⟩
  all_goals
    go_enter Tryd.func19, Tryd.ntmps19
    go_wp2
    refine wp_loop_rounds 1 ?_
    rw [rounds_succ]
    go_wp2_with (go_at_call 24; first | (refine (near_nil w HG.out).mono ?_; rintro r w1 ⟨rfl, hb⟩) | (refine (near_sen a w HG.out).mono ?_; rintro r w1 ⟨rfl, hb⟩))
    go_ret
    exact ⟨rfl, hb⟩
set_option maxRecDepth 100000 in
set_option maxHeartbeats 2000000 in
theorem path_ch (a : Addr) (ops : List ByteArray) (v : Value) (w : World) (hc : Ch w a ops v) (hg : w.cell? ⟨42, 0, none⟩ = some (rty 30)) (hl : ops.length * 16 ≤ 140737488355328) :
    Calls Tryd.prog 19 #[v] w fun r w' => ∃ v', r = .returned v' ∧ w'.ownsRow w.heap.size 9 1 v' ops.length (SV ops) ∧ Below w.heap.size w w' := by
  obtain ⟨i0, hi, hz0, hz1, hz2⟩ := info_parts Tryd.infoS
  have HG : Hid (w.cell? ⟨42, 0, none⟩ = some (rty 30)) := hg
  have HC : Hid (Ch w a ops v) := hc
  clear hg hc
  go_enter Tryd.func19, Tryd.ntmps19
  go_wp2
  go_loopg [0, 3] ops.length (fun k ve vo wr => ∃ done o2, ops = done ++ o2 ∧ o2.length = k ∧ Ch w a o2 ve ∧ wr.ownsRow w.heap.size 9 1 vo done.length (SV done) ∧ Below w.heap.size w wr)
  case atStart => exact ⟨[], ops, rfl, rfl, HC.out, by simp [SV, World.ownsRow], Below.refl _ _⟩
  case round =>
    obtain ⟨done, o2, hops, hk, hch, ho, hbe⟩ := hrel
    have HK : Hid (o2.length = gk) := hk
    have HOPS : Hid (ops = done ++ o2) := hops
    have HB : Hid (Below w.heap.size w wr) := hbe
    have HO : Hid (wr.ownsRow w.heap.size 9 1 u3 done.length (SV done)) := ho
    have HCK : Hid (wr.cell? ⟨42, 0, none⟩ = some (rty 30)) := (hbe.cell (p := ⟨42, 0, none⟩) (World.block_lt_of_cell? _ _ HG.out)).trans HG.out
    clear hk HC hops ho hbe
    cases o2 with
    | nil =>
      have hv : u0 = senV a := hch
      subst hv
      have T3 : Hid (∃ x n c, u3 = .slice x n c) := by
        rcases HO.out.2 with ⟨h, _⟩ | ⟨g, cap, cur, h, _⟩
        · exact ⟨_, _, _, h⟩
        · exact ⟨_, _, _, h⟩
      obtain ⟨x, n, c, rfl⟩ := T3.out
      go_wp2_with (go_at_call 24; refine (near_sen a _ HCK.out).mono ?_; rintro r w1 ⟨rfl, hb1⟩)
      go_ret
      refine ⟨_, rfl, ?_, below_nx HB.out hb1⟩
      rw [HOPS.out, List.append_nil]
      exact own_below HO.out hb1
    | cons op o3 =>
      obtain ⟨b, at0, inner, rfl, hf, h3⟩ := hch
      have HF : Hid (FltAt w b op at0 inner) := hf
      have H3 : Hid (Ch w a o3 inner) := h3
      have hin := h3.form
      have hlen : done.length + 1 ≤ 8796093022208 := by have h := HOPS.out; rw [h] at hl; simp only [List.length_append, List.length_cons] at hl; omega
      have HKL : Hid (o3.length + 1 = gk) := HK.out
      clear hf h3 HK hl
      rcases hin with ⟨b2, rfl⟩ | rfl
      all_goals
        go_wp2_with (first
          | (go_at_call 24; refine (near_flt b _ HCK.out).mono ?_; rintro r w1 ⟨rfl, hb1⟩; have HB1 : Hid (Below w.heap.size w w1) := below_nx HB.out hb1; have ho1 := own_below HO.out hb1; have hs1 := HB1.out.size; have hcop := (HF.out.keep HB1.out).op; have hcin := (HF.out.keep HB1.out).inner; clear hb1)
          | (at_builtin; refine wpList_append_own _ rfl _ _ 27 rfl w.heap.size 9 i0 (.string ⟨#[]⟩) 1 16 Tryd.underlying27 hi hz0 hz1 hz2 rfl (by decide) _ _ _ rfl (ho1.alloc _) ⟨w1.heap.size, 0, none⟩ 1 1 [.string op] rfl rfl (cell_new _ _ _) (fun u hu => by simp at hu; subst hu; rfl) (by unfold maxLen; omega) (by omega) (by simp; omega) ?_))
        intro v' w2 hown' hgrow _
        have hb2 := grown_row (HB1.out.alloc (by omega) _) (ho1.alloc _) (by simp; omega) hgrow
        have hfa := HF.out.keep hb2
        have hcin := hfa.inner
        clear hgrow ho1 hfa
        have HB2 : Hid (Below w.heap.size w w2) := hb2
        have HW : Hid (w2.ownsRow w.heap.size 9 1 v' (done.length + 1) (SV done ++ [.string op])) := hown'
        clear hb2 hown'
        go_wp2
        go_roundg o3.length
        case rel => exact ⟨done ++ [op], o3, by rw [HOPS.out]; simp, rfl, H3.out, by rw [SV_append, List.length_append]; exact HW.out, HB2.out⟩
        case measure => have := HKL.out; omega
end Go.Proofs.YtpjcmfoamdiohaaDoor
