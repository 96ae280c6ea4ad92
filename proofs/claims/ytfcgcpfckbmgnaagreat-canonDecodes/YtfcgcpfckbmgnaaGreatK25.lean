/- Own texts, joined: Ov4. -/
import Derived.Test.YtfcgcpfckbmgnaaGreatK24
namespace Go.Proofs.YtfcgcpfckbmgnaaGreat
open Go.ChangeShapes Go.WideShapes Go.ChangeAt Go.RowKit
set_option linter.unusedVariables false
def untB (s : St) : Bool := s.lines.length == 0 && (s.cur == 0 && (s.tax == 0 && (s.paid == 0 && (s.stamp == 0 && (s.who.toList == [] && s.refused == s.events)))))
theorem toList_nil {x : ByteArray} : (x.toList == []) = true ↔ x = ⟨#[]⟩ := by
  constructor
  · intro h
    have h1 : x.toList = [] := by simpa using h
    rw [ByteArray.toList_eq] at h1
    apply ByteArray.ext
    simpa using h1
  · rintro rfl
    rw [ByteArray.toList_eq]
    rfl
set_option maxRecDepth 20000 in
set_option maxHeartbeats 2000000 in
theorem untouched_any (s : St) (a : Option Addr) (n cap : Nat) (w : World) (hn : s.lines.length = n) : Calls Tryz.prog 64 #[.agg (stA s (.slice a n cap))] w fun e w' => e = .returned (.bool (untB s)) ∧ Below w.heap.size w w' := by
  have HF : Hid (untB s = (((n : Int) == 0) && (s.cur == 0 && (s.tax == 0 && (s.paid == 0 && (s.stamp == 0 && (s.who.toList == [] && s.refused == s.events))))))) := by
    show _ = _
    unfold untB
    rw [hn]
    congr 1
    cases n <;> rfl
  have HB1 : ∀ o, Hid (Below w.heap.size w (w.alloc o)) := fun o => (Below.refl _ _).alloc (Nat.le_refl _) _
  clear hn
  rw [HF.out]
  unfold stA
  cases h0 : ((n : Int) == 0) <;> cases h1 : (s.cur == 0) <;> cases h2 : (s.tax == 0) <;> cases h3 : (s.paid == 0) <;> cases h4 : (s.stamp == 0) <;> cases h5 : s.who.toList == [] <;> (
  go_enter Tryz.func64, Tryz.ntmps64
  go_wp2
  go_ret
  exact ⟨rfl, (HB1 _).out⟩)
def paidB (s : St) : Bool := decide (0 < s.paid) && s.paid == dueS s
end Go.Proofs.YtfcgcpfckbmgnaaGreat
