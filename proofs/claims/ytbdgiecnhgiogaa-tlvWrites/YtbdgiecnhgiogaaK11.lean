/- Own texts, joined: Tli. -/
import Derived.Test.YtbdgiecnhgiogaaK10
namespace Go.Proofs.Ytbdgiecnhgiogaa
open Go.ChangeShapes Go.WideShapes Go.ChangeAt Go.RowKit
set_option linter.unusedVariables false
theorem dclos_idle (p0 p1 p2 p3 : Addr) (w : World) : CallsD Try.prog 38 #[.pointer (some p0), .pointer (some p1), .pointer (some p2), .pointer (some p3)] .returning w fun e u' w' => e = .returned (.tuple #[]) ∧ u' = .returning ∧ w' = w := by
  refine callsD_of_wpS Try.func38 rfl fun c₀ cs hu => ?_
  apply wpS_seq
  apply wpS_region
  simp [wpOpsS, go_sem, recoverD, hu, Try.ntmps38, Exit.thenS]
  refine wpS_of_wp ?_
  simp only [Array.replicate, List.replicate]
  go_wp2
  cases c₀
  simp_all [bodyPostS, results, Try.results38]
theorem dclos_catch (p0 p1 p2 p3 : Nat) (bg e : Int) (x1 : Value) (y2 y3 : Int) (older : List PanicEntry) (w : World) (h0 : w.cell? ⟨p0, 0, none⟩ = some (.int .i64 bg)) (h1 : w.cell? ⟨p1, 0, none⟩ = some x1) (h2 : w.cell? ⟨p2, 0, none⟩ = some (.int .i64 y2)) (h3 : w.cell? ⟨p3, 0, none⟩ = some (.int .i64 y3))
    (n01 : ¬ p0 = p1) (n02 : ¬ p0 = p2) (n03 : ¬ p0 = p3) (n12 : ¬ p1 = p2) (n13 : ¬ p1 = p3) (n23 : ¬ p2 = p3)
    (z1 : w.frozen? ⟨p1, 0, none⟩ = false) (z2 : w.frozen? ⟨p2, 0, none⟩ = false) (z3 : w.frozen? ⟨p3, 0, none⟩ = false) :
    CallsD Try.prog 38 #[.pointer (some ⟨p0, 0, none⟩), .pointer (some ⟨p1, 0, none⟩), .pointer (some ⟨p2, 0, none⟩), .pointer (some ⟨p3, 0, none⟩)] (.panicking ({ v := .iface 38 (.int .i64 e), recovered := false } :: older)) w fun r u' w' => r = .returned (.tuple #[]) ∧ u' = .panicking ({ v := .iface 38 (.int .i64 e), recovered := true } :: older) ∧ ∃ m, w' = (((w.setCell ⟨p1, 0, none⟩ (.slice none 0 0)).setCell ⟨p2, 0, none⟩ (.int .i64 bg)).setCell ⟨p3, 0, none⟩ (.int .i64 e)).drewN m := by
  refine callsD_of_wpS Try.func38 rfl fun c₀ cs hu => ?_
  apply wpS_seq
  apply wpS_region
  simp [wpOpsS, go_sem, recoverD, hu, Try.ntmps38, Exit.thenS]
  refine wpS_of_wp ?_
  simp only [Array.replicate, List.replicate]
  have hta : ∀ w : World, (Instr.typeAssert (.iface 38 (.int .i64 e)) 20 38 false).run Try.prog w = .ok (.int .i64 e) w := fun _ => by kernel_rfl
  have m01 : ¬ p1 = p0 := fun h => n01 h.symm
  have m02 : ¬ p2 = p0 := fun h => n02 h.symm
  have m03 : ¬ p3 = p0 := fun h => n03 h.symm
  have m12 : ¬ p2 = p1 := fun h => n12 h.symm
  have m13 : ¬ p3 = p1 := fun h => n13 h.symm
  have m23 : ¬ p3 = p2 := fun h => n23 h.symm
  go_wp2
  go_region
  all_goals go_wp2
  all_goals exact ⟨rfl, _, rfl, .tuple #[], by simp [results, Try.results38], rfl, rfl, 1, rfl⟩
end Go.Proofs.Ytbdgiecnhgiogaa
