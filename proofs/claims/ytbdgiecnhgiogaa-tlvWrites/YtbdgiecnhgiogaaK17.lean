/- Own texts, joined: Tll. -/
import Derived.Test.YtbdgiecnhgiogaaK14
namespace Go.Proofs.Ytbdgiecnhgiogaa
open Go.ChangeShapes Go.WideShapes Go.ChangeAt Go.RowKit
set_option linter.unusedVariables false
theorem lay3b (w : World) (x y z : Value) (X Y Z : TypeId := 26) : (((w.alloc (.cells #[x] 26)).alloc (.cells #[y] 3)).alloc (.cells #[z] 38)).cell? ⟨w.heap.size, 0, none⟩ = some x ∧ (((w.alloc (.cells #[x] 26)).alloc (.cells #[y] 3)).alloc (.cells #[z] 38)).cell? ⟨w.heap.size + 1, 0, none⟩ = some y ∧ (((w.alloc (.cells #[x] 26)).alloc (.cells #[y] 3)).alloc (.cells #[z] 38)).cell? ⟨w.heap.size + 1 + 1, 0, none⟩ = some z ∧ Below w.heap.size w (((w.alloc (.cells #[x] 26)).alloc (.cells #[y] 3)).alloc (.cells #[z] 38)) := by
  have e0 : (((w.alloc (.cells #[x] 26)).alloc (.cells #[y] 3)).alloc (.cells #[z] 38)).heap[w.heap.size]? = some (.cells #[x] 26) := by
    simp only [World.alloc, Array.getElem?_push, Array.size_push]
    rw [if_neg (by omega), if_neg (by omega), if_pos trivial]
  have e1 : (((w.alloc (.cells #[x] 26)).alloc (.cells #[y] 3)).alloc (.cells #[z] 38)).heap[w.heap.size + 1]? = some (.cells #[y] 3) := by
    simp only [World.alloc, Array.getElem?_push, Array.size_push]
    rw [if_neg (by omega), if_pos trivial]
  have e2 : (((w.alloc (.cells #[x] 26)).alloc (.cells #[y] 3)).alloc (.cells #[z] 38)).heap[w.heap.size + 1 + 1]? = some (.cells #[z] 38) := by
    simp only [World.alloc, Array.getElem?_push, Array.size_push]
    rw [if_pos trivial]
  refine ⟨?_, ?_, ?_, (((Below.refl _ _).alloc (Nat.le_refl _) _).alloc (by simp) _).alloc (by simp; try omega) _⟩
  · rw [cell_of_row _ _ 0 _ _ _ e0]; rfl
  · rw [cell_of_row _ _ 0 _ _ _ e1]; rfl
  · rw [cell_of_row _ _ 0 _ _ _ e2]; rfl
set_option maxRecDepth 20000 in
set_option maxHeartbeats 400000 in
theorem tdec_big (l : List Nat) (a : Option Addr) (n cap : Nat) (w : World) (hn : l.length = n) (hl : ¬ n ≤ 1024) (hm : n ≤ maxLen) :
    Calls Try.prog 26 #[.slice a n cap] w fun r w' => DecPost w l r w' := by
  have hmf : ∀ (fn : Fn) (first cap : Array Value) (w : World), (Instr.makeFunc fn first cap).run Try.prog w = .ok (.func fn first cap) w := fun _ _ _ _ => rfl
  have hlI : (1024 : Int) < (n : Int) := by omega
  have HR : Hid (recs l = ([], 0, 24)) := by show _ = _; unfold recs; rw [if_pos (by omega)]
  clear hn
  go_enter_defers Try.func26, Try.ntmps26
  go_wp2
  obtain ⟨s1, s2, s3, s4⟩ := lay3b w (.slice none 0 0) (.int .i64 0) (.int .i64 24)
  exact ⟨_, results_cells3 rfl _ _ _ _ _ _ _ _ rfl rfl rfl (loadFs s1) (loadI s2) (loadE s3), _, [], by rw [HR.out]; rfl, by rw [HR.out]; rfl, Rws.nil _ _, s4⟩
set_option maxRecDepth 20000 in
set_option maxHeartbeats 400000 in
theorem tdec_nil (a : Option Addr) (cap : Nat) (w : World) :
    Calls Try.prog 26 #[.slice a 0 cap] w fun r w' => DecPost w [] r w' := by
  have hmf : ∀ (fn : Fn) (first cap : Array Value) (w : World), (Instr.makeFunc fn first cap).run Try.prog w = .ok (.func fn first cap) w := fun _ _ _ _ => rfl
  obtain ⟨W, hW, hD⟩ := lay5 w a 0 cap
  have HW : Hid (_ = W) := hW
  have HD : Hid (DecB w W a 0 cap 0 0 (.slice none 0 0)) := hD
  obtain ⟨_, _, _, y1, y2, y3, y4, y5, y6⟩ := hD.cells
  have hn1 : ¬ w.heap.size = w.heap.size + 1 := by omega
  have hn2 : ¬ w.heap.size + 1 = w.heap.size := by omega
  have hn3 : ¬ w.heap.size + 1 + 1 = w.heap.size := by omega
  have hn4 : ¬ w.heap.size + 1 + 1 = w.heap.size + 1 := by omega
  have hre : recs [] = ([], 0, 0) := by rfl
  clear hW hD
  go_enter_defers Try.func26, Try.ntmps26
  go_wp2
  rw [HW.out]
  refine wp_loop_rounds 1 ?_
  rw [rounds_succ]
  go_wp2_with (go_at_call 39; refine (done_any _ _ _ cap _ _ HD.out.cur).mono ?_; rw [decide_eq_true rfl]; rintro r w1 ⟨rfl, m1, rfl⟩)
  refine leaves_cons (f := 38) (args := #[.pointer (some ⟨w.heap.size + 1 + 1 + 1 + 1, 0, none⟩), .pointer (some ⟨w.heap.size, 0, none⟩), .pointer (some ⟨w.heap.size + 1, 0, none⟩), .pointer (some ⟨w.heap.size + 1 + 1, 0, none⟩)]) (by simp) (by simp [go_sem]) ?_
  refine (dclos_idle _ _ _ _ _).mono ?_
  rintro r u' w3 ⟨rfl, rfl, rfl⟩
  have hDD := HD.out.drewN m1
  obtain ⟨W3, hW3, s1, s2, s3, s4⟩ := caught (.slice none 0 0) 0 0 hDD.fs hDD.at0 hDD.er hDD.bel 0
  have hW4 : ((((W.drewN m1).setCell ⟨w.heap.size, 0, none⟩ (.slice none 0 0)).setCell ⟨w.heap.size + 1, 0, none⟩ (.int .i64 0)).setCell ⟨w.heap.size + 1 + 1, 0, none⟩ (.int .i64 0)) = W3 := hW3
  rw [hW4]
  exact ⟨_, results_cells3 rfl _ _ _ _ _ _ _ _ rfl rfl rfl (loadFs s1) (loadI s2) (loadE s3), _, [], by rw [hre]; rfl, by rw [hre]; rfl, Rws.nil _ _, s4⟩
theorem tdec (l : List Nat) (a : Option Addr) (n cap : Nat) (w : World) (hn : l.length = n) (hb : Bytes w a l) (hcap : n ≤ cap) (hm : n ≤ maxLen) :
    Calls Try.prog 26 #[.slice a n cap] w fun r w' => DecPost w l r w' := by
  by_cases hl : n ≤ 1024
  · by_cases h0 : 0 < n
    · obtain ⟨b, off, rfl, _, _⟩ := hb.nonempty (by intro h; subst h; simp at hn; omega)
      exact tdec_any l b off n cap w hn hb hcap hl h0
    · obtain rfl : n = 0 := by omega
      obtain rfl : l = [] := List.length_eq_zero_iff.1 hn
      exact tdec_nil a cap w
  · exact tdec_big l a n cap w hn hl hm
end Go.Proofs.Ytbdgiecnhgiogaa
