/- Two stretches are one; what upcast.To and upcast.Step answer, at every input. -/
import Derived.Test.YtbgdkpkeghnmmaaDoorTo
namespace Go.Proofs.YtbgdkpkeghnmmaaDoor
open Go.ChangeShapes Go.WideShapes Go.ChangeAt Go.RowKit
theorem five {v : Int} (h1 : 1 ≤ v) (h5 : v ≤ 5) : v = 1 ∨ v = 2 ∨ v = 3 ∨ v = 4 ∨ v = 5 := by omega
theorem to_two (e : Ev) (v via to : Int) (h1 : 1 ≤ v) (h2 : v ≤ via) (h3 : via ≤ to) (h4 : to ≤ 5) : toE via to (toE v via e) = toE v to e := by
  rcases five h1 (by omega) with rfl | rfl | rfl | rfl | rfl <;> rcases five (by omega) (by omega : via ≤ 5) with rfl | rfl | rfl | rfl | rfl <;> (first | omega | (rcases five (by omega) (by omega : to ≤ 5) with rfl | rfl | rfl | rfl | rfl <;> (first | omega | rfl)))
theorem to_one (e : Ev) (v : Int) (h1 : 1 ≤ v) (h4 : v ≤ 4) : toE v (v + 1) e = upE v e := by
  rcases five h1 (by omega) with rfl | rfl | rfl | rfl | rfl <;> (first | omega | rfl)
theorem to_same (e : Ev) (v : Int) (h1 : 1 ≤ v) (h4 : v ≤ 5) : toE v v e = e := by
  rcases five h1 h4 with rfl | rfl | rfl | rfl | rfl <;> rfl
theorem to_five (e : Ev) (v : Int) (h1 : 1 ≤ v) (h5 : v ≤ 5) : toE v 5 e = chainE v e := by
  rcases five h1 h5 with rfl | rfl | rfl | rfl | rfl <;> rfl
theorem run_after (f t : Int) (e : Ev) (k : Nat) (h : t ≤ (k : Int) + 1) : runE f t (k + 1) e = runE f t k e := if_neg (by omega)
theorem right_to {f t : Int} {e : Ev} (h : Right f e) (h1 : f ≤ t) (h5 : t ≤ 5) : Right t (toE f t e) := by
  have hf := h.v1
  have e5 : toE f t e = runE f t (t.toNat - 1) e := by
    rcases five (by omega) h5 with rfl | rfl | rfl | rfl | rfl
    · show runE f 1 4 e = runE f 1 0 e
      rw [run_after f 1 e 3 (by omega), run_after f 1 e 2 (by omega), run_after f 1 e 1 (by omega), run_after f 1 e 0 (by omega)]
    · show runE f 2 4 e = runE f 2 1 e
      rw [run_after f 2 e 3 (by omega), run_after f 2 e 2 (by omega), run_after f 2 e 1 (by omega)]
    · show runE f 3 4 e = runE f 3 2 e
      rw [run_after f 3 e 3 (by omega), run_after f 3 e 2 (by omega)]
    · show runE f 4 4 e = runE f 4 3 e
      rw [run_after f 4 e 3 (by omega)]
    · rfl
  have := right_run f t e h (t.toNat - 1) (by omega) (by omega) h5
  rw [e5]
  rwa [show ((t.toNat - 1 : Nat) : Int) + 1 = t from by omega] at this
theorem order_up (v : Int) (e : Ev) : (upE v e).order = e.order := by
  unfold upE
  repeat (split; · rfl)
  rfl
theorem order_to (f t : Int) (e : Ev) : (toE f t e).order = e.order := by
  have hs : ∀ k e, (stepE f t k e).order = e.order := fun k e => by
    unfold stepE
    split
    · exact order_up _ _
    · rfl
  show (stepE f t 3 (stepE f t 2 (stepE f t 1 (stepE f t 0 e)))).order = e.order
  rw [hs, hs, hs, hs]
abbrev toBad (f t : Int) : Prop := f < 1 ∨ 5 < t ∨ t < f
def toR (f t : Int) (e : Ev) : Ev := if toBad f t then zeroE else if chk f e = 0 then toE f t e else zeroE
def toC (f t : Int) (e : Ev) : Int := if toBad f t then 30 else chk f e
theorem to_any (f t : Int) (e : Ev) (w : World) (ht : Tax w) :
    Calls Tryd.prog 10 #[.int .i64 f, .int .i64 t, .agg (evA e)] w fun x w' => x = .returned (.tuple #[.agg (evA (toR f t e)), .int .i64 (toC f t e)]) ∧ Below w.heap.size w w' := by
  unfold toR toC
  by_cases hb : toBad f t
  · rw [if_pos hb, if_pos hb]
    unfold toBad at hb
    by_cases h1 : f < 1
    · exact to_lowf f t e w ht h1
    · by_cases h2 : 5 < t
      · exact to_hight f t e w ht (by omega) h2
      · exact to_turned f t e w ht (by omega) (by omega) (by omega)
  · rw [if_neg hb, if_neg hb]
    unfold toBad at hb
    by_cases hc : chk f e = 0
    · rw [if_pos hc, hc]
      exact to_good f t e w ht (by omega) (by omega) (by omega) hc
    · rw [if_neg hc]
      exact to_bad f t e w ht (by omega) (by omega) (by omega) (by simpa using hc)
theorem chain_any (v : Int) (e : Ev) (w : World) (ht : Tax w) :
    Calls Tryd.prog 11 #[.int .i64 v, .agg (evA e)] w fun x w' => x = .returned (.tuple #[.agg (evA (if chk v e = 0 then chainE v e else zeroE)), .int .i64 (chk v e)]) ∧ Below w.heap.size w w' := by
  by_cases hc : chk v e = 0
  · rw [if_pos hc, hc]
    exact chain_ok v e w ht hc
  · rw [if_neg hc]
    exact chain_no v e w ht (by simpa using hc)
end Go.Proofs.YtbgdkpkeghnmmaaDoor
