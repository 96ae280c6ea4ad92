/- num.weigh and num.Share. -/
import Derived.Test.YtblfmfanfpohbaaGreatNsh
import Derived.Test.YtblfmfanfpohbaaGreatDiv
import Derived.Deep.RegionWith
namespace Go.Proofs.YtblfmfanfpohbaaGreat
open Go.ChangeShapes Go.WideShapes Go.ChangeAt Go.RowKit Go.Sort
/-- can something be dealt out by these weights -/
def wgB (l : List Int) : Bool := decide ((∀ x ∈ l, 0 ≤ x) ∧ fitB l.sum = true ∧ 0 < l.sum)
def wgV (l : List Int) : Int := if ∀ x ∈ l, 0 ≤ x then fitV l.sum else 0
set_option maxRecDepth 20000 in
set_option maxHeartbeats 2000000 in
theorem weigh_any (l : List Int) (n : Nat) (a : Option Addr) (cap : Nat) (w : World) (hn : l.length = n) (hI : Ints w a l) (hl : n ≤ 64) :
    Calls Tryz.prog 42 #[.slice a n cap] w fun e w' => e = .returned (.tuple #[.int .i64 (wgV l), .bool (wgB l)]) ∧ Below w.heap.size w w' := by
  have HN : Hid (l.length = n) := hn
  have HI : Hid (Ints w a l) := hI
  clear hn hI
  go_enter Tryz.func42, Tryz.ntmps42
  go_wp2
  go_loopw [10] (fun vi wr => ∃ k : Nat, k ≤ n ∧ vi = .int .i64 k ∧ wr = w ∧ Hid (∀ j, j < k → 0 ≤ l.getD j 0)) (fun vi _ => n - (intOf vi).toNat)
  case atStart => exact ⟨0, Nat.zero_le _, rfl, rfl, fun j hj => by omega⟩
  case round =>
    obtain ⟨k, hk, rfl, rfl, HJ⟩ := hrel
    by_cases hkn : k < n
    · obtain ⟨b, off, ha, hx⟩ : ∃ b off, a = some ⟨b, off, none⟩ ∧ wr.cell? ⟨b, off + k, none⟩ = some (.int .i64 (l.getD k 0)) := by
        rcases HI.out.2 with h | ⟨b, off, ha, _, hc⟩
        · have := HN.out; rw [h] at this; simp at this; omega
        · exact ⟨b, off, ha, hc k (by rw [HN.out]; exact hkn)⟩
      subst ha
      obtain ⟨x, ex⟩ : ∃ x, l.getD k 0 = x := ⟨_, rfl⟩
      rw [ex] at hx
      have HX : Hid (l.getD k 0 = x) := ex
      have hkz : (k : Int) < (n : Int) := by omega
      clear ex
      by_cases hneg : x < 0
      · have HR : Hid (wgV l = 0 ∧ wgB l = false) := by
          have hmem : x ∈ l := by
            rw [← HX.out, List.getD_eq_getElem?_getD, List.getElem?_eq_getElem (by rw [HN.out]; exact hkn)]
            exact List.getElem_mem _
          have hno : ¬ ∀ y ∈ l, 0 ≤ y := fun h => by have := h x hmem; omega
          constructor
          · unfold wgV; rw [if_neg hno]
          · unfold wgB; rw [decide_eq_false_iff_not]; exact fun h => hno h.1
        go_wp2
        go_ret2
        exact ⟨ret_ib HR.out.1.symm HR.out.2.symm, Below.refl _ _⟩
      · have hpos : 0 ≤ x := by omega
        go_wp2
        go_roundw
        case rel =>
          refine ⟨k + 1, by omega, by go_num, by first | rfl | trivial, fun j hj => ?_⟩
          by_cases c : j < k
          · exact HJ.out j c
          · obtain rfl : j = k := by omega
            rw [HX.out]; exact hpos
        case measure => first | (simp [intOf]; done) | (simp [intOf]; omega)
    · obtain rfl : k = n := by omega
      have hall : ∀ y ∈ l, 0 ≤ y := by
        intro y hy
        obtain ⟨j, hj, rfl⟩ := List.getElem_of_mem hy
        have := HJ.out j (by rw [← HN.out]; exact hj)
        rw [List.getD_eq_getElem?_getD, List.getElem?_eq_getElem hj] at this
        simpa using this
      obtain ⟨s, es⟩ : ∃ s, fitV l.sum = s := ⟨_, rfl⟩
      obtain ⟨f, ef⟩ : ∃ f, fitB l.sum = f := ⟨_, rfl⟩
      have HR : Hid (wgV l = s ∧ wgB l = (f && decide (0 < s))) := by
        constructor
        · unfold wgV; rw [if_pos hall, es]
        · unfold wgB
          rw [← es, ← ef]
          cases hf : fitB l.sum with
          | false => simp
          | true =>
            have hr : fitV l.sum = l.sum := by
              unfold fitB at hf
              unfold fitV
              rw [if_pos (by simpa using hf)]
            rw [hr]
            by_cases h0 : 0 < l.sum
            · rw [decide_eq_true ⟨hall, rfl, h0⟩, decide_eq_true h0]; rfl
            · rw [decide_eq_false (fun h => h0 h.2.2), decide_eq_false h0]; rfl
      have HIw := HI.out
      clear hall HJ
      cases f with
      | false =>
        go_wp2_with (first
          | (go_at_call 80; refine (sum_any l k a cap _ HN.out HIw (by unfold maxLen; omega)).mono ?_; rw [es, ef]; rintro e w2 ⟨rfl, hb2⟩))
        go_ret2
        exact ⟨ret_ib HR.out.1.symm (by rw [HR.out.2]; rfl), hb2⟩
      | true =>
        go_wp2_with (first
          | (go_at_call 80; refine (sum_any l k a cap _ HN.out HIw (by unfold maxLen; omega)).mono ?_; rw [es, ef]; rintro e w2 ⟨rfl, hb2⟩))
        go_ret2
        exact ⟨ret_ib HR.out.1.symm (by rw [HR.out.2]; simp), hb2⟩
end Go.Proofs.YtblfmfanfpohbaaGreat
