/- Own texts, joined: Sg24. -/
import Derived.Test.YtfnkhpijcbpeoaaDoorK35
namespace Go.Proofs.YtfnkhpijcbpeoaaDoor
open Go.ChangeShapes Go.WideShapes Go.ChangeAt Go.RowKit
set_option linter.unusedVariables false
/-- what a manifest says of a segment -/
abbrev SeV (num first count foot : Int) : Value := .agg #[.int .i64 num, .int .i64 first, .int .i64 count, .int .i64 foot]
/-- the marks' numbers and places -/
def fitN (u st : Nat) (foot : Int) : Nat → List Mk → Bool
  | _, [] => true
  | i, p :: r => if p.1 = ((u + i * st : Nat) : Int) ∧ p.2 < foot then fitN u st foot (i + 1) r else false
def fitB (M : List Mk) (u v st : Nat) (foot : Int) : Bool := if M.length = (v + st - 1) / st then fitN u st foot 0 M else false
set_option maxRecDepth 20000 in
set_option maxHeartbeats 4000000 in
theorem fits_any (M : List Mk) (m : Nat) (a : Option Addr) (cap : Nat) (num foot : Int) (u v st : Nat) (w : World) (hm : M.length = m) (hM : Marks w a M) (hm5 : m ≤ 512) (hu : u ≤ 1099511627777) (hv : v ≤ 1099511627777) (hst1 : 1 ≤ st) (hst : st ≤ 64) :
    Calls Tryd.prog 19 #[.slice a m cap, SeV num (u : Int) (v : Int) foot, .int .i64 (st : Int)] w fun e w' => e = .returned (.bool (fitB M u v st foot)) ∧ Below w.heap.size w w' := by
  have HM : Hid (M.length = m ∧ Marks w a M) := ⟨hm, hM⟩
  obtain ⟨q, hq⟩ : ∃ q, (v + st - 1) / st = q := ⟨_, rfl⟩
  have hqI : ((v : Int) + (st : Int) - 1) / (st : Int) = (q : Int) := by
    rw [← hq]
    push_cast [show 1 ≤ v + st from by omega]
    rfl
  have hqT : Int.tdiv ((v : Int) + (st : Int) - 1) (st : Int) = (q : Int) := by
    rw [Int.tdiv_eq_ediv_of_nonneg (by omega)]
    exact hqI
  have hqb : (q : Int) ≤ 1099511627841 := by
    have : q ≤ v + st - 1 := by rw [← hq]; exact Nat.div_le_self _ _
    omega
  have huI : (u : Int) ≤ 1099511627777 := by omega
  have hvI : (v : Int) ≤ 1099511627777 := by omega
  have hstI : (st : Int) ≤ 64 := by omega
  have hst1I : (1 : Int) ≤ (st : Int) := by omega
  have hst0 : ¬ (st : Int) = 0 := by omega
  have hmI : (m : Int) ≤ 512 := by omega
  have HQ : Hid ((v + st - 1) / st = q) := hq
  clear hm hM hq
  by_cases hmq : m = q
  · have HF : Hid (fitB M u v st foot = fitN u st foot 0 M) := by show _ = _; unfold fitB; rw [HM.out.1, HQ.out, if_pos hmq]
    have hne : ((m : Int) != (q : Int)) = false := by simp; omega
    clear hmq
    go_enter Tryd.func19, Tryd.ntmps19
    go_wp2
    obtain ⟨W0, hW0⟩ : ∃ W0, w.alloc (.cells #[.int .i64 num, .int .i64 (u : Int), .int .i64 (v : Int), .int .i64 foot] 24) = W0 := ⟨_, rfl⟩
    have HW0 : Hid (Below w.heap.size w W0 ∧ W0.heap[w.heap.size]? = some (.cells #[.int .i64 num, .int .i64 (u : Int), .int .i64 (v : Int), .int .i64 foot] 24) ∧ w.heap.size < W0.heap.size) := by rw [← hW0]; exact ⟨(Below.refl _ _).alloc (Nat.le_refl _) _, heap_alloc_new w _, by simp⟩
    rw [hW0]
    clear hW0
    go_loopw [21] (fun vi wr => ∃ k : Nat, k ≤ m ∧ vi = .int .i64 k ∧ fitN u st foot 0 M = fitN u st foot k (M.drop k) ∧ Below W0.heap.size W0 wr) (fun vi _ => m - (intOf vi).toNat)
    case atStart => exact ⟨0, Nat.zero_le _, rfl, rfl, Below.refl _ _⟩
    case round =>
      obtain ⟨k, hk, rfl, hft, hbr⟩ := hrel
      have HFT : Hid (fitN u st foot 0 M = fitN u st foot k (M.drop k)) := hft
      have hsz := hbr.size
      have hb0 : wr.heap[w.heap.size]? = some (.cells #[.int .i64 num, .int .i64 (u : Int), .int .i64 (v : Int), .int .i64 foot] 24) := (hbr.block _ HW0.out.2.2).trans HW0.out.2.1
      have g1 : wr.cell? ⟨w.heap.size, 1, none⟩ = some (.int .i64 (u : Int)) := by rw [cell_of_row _ _ 1 _ _ _ hb0]; rfl
      have g3 : wr.cell? ⟨w.heap.size, 3, none⟩ = some (.int .i64 foot) := by rw [cell_of_row _ _ 3 _ _ _ hb0]; rfl
      have hlw : w.heap.size < wr.heap.size := Nat.lt_of_lt_of_le HW0.out.2.2 hsz
      clear hft hb0
      by_cases hkm : k < m
      · obtain ⟨⟨px, pz⟩, hp⟩ := get_of_lt (L := M) (k := k) (by rw [HM.out.1]; exact hkm)
        have hmk : Marks wr a M := (HM.out.2.keep HW0.out.1).keep hbr
        rcases hmk with h0 | ⟨b, off, hab, hlt, hcl⟩
        · rw [h0] at hp; simp at hp
        subst hab
        obtain ⟨c0, c1⟩ := Marks.cells hcl k (px, pz) hp
        simp only at c0 c1
        have hdr : M.drop k = (px, pz) :: M.drop (k + 1) := by
          rw [List.drop_eq_getElem_cons (by rw [HM.out.1]; exact hkm)]
          congr 1
          exact (List.getElem?_eq_some_iff.1 hp).2
        have HST : Hid (fitN u st foot k (M.drop k) = if px = ((u + k * st : Nat) : Int) ∧ pz < foot then fitN u st foot (k + 1) (M.drop (k + 1)) else false) := by show _ = _; rw [hdr]; rfl
        obtain ⟨S, hS⟩ : ∃ S, u + k * st = S := ⟨_, rfl⟩
        have hkst : k * st ≤ 512 * 64 := Nat.mul_le_mul (by omega) hst
        have hSI : (u : Int) + (k : Int) * (st : Int) = (S : Int) := by rw [← hS]; push_cast; rfl
        have hksI : (k : Int) * (st : Int) ≤ 32768 := by have : ((k * st : Nat) : Int) ≤ 32768 := (by omega); push_cast at this; exact this
        have hks0 : (0 : Int) ≤ (k : Int) * (st : Int) := by have : (0 : Int) ≤ ((k * st : Nat) : Int) := (by omega); push_cast at this; exact this
        have hSb : (S : Int) ≤ 1099511660545 := by omega
        rw [hS] at HST
        have hkI : (k : Int) < (m : Int) := by omega
        clear hcl hp hdr
        by_cases hx : px = (S : Int)
        · have hxb : (px != (S : Int)) = false := by simp; omega
          by_cases hz : pz < foot
          · have HT : Hid (fitN u st foot 0 M = fitN u st foot (k + 1) (M.drop (k + 1))) := by show _ = _; rw [HFT.out, HST.out, if_pos ⟨hx, hz⟩]
            have hzI : ¬ foot ≤ pz := by omega
            subst hx
            go_wp2
            go_roundw
            case rel => exact ⟨k + 1, by omega, by go_num, HT.out, hbr.alloc hsz _⟩
            case measure => simp [intOf]; omega
          · have HT : Hid (fitB M u v st foot = false) := by show _ = _; rw [HF.out, HFT.out, HST.out, if_neg (fun h => hz h.2)]
            have hzI : foot ≤ pz := by omega
            subst hx
            go_wp2
            go_ret
            exact ⟨by rw [HT.out]; rfl, (HW0.out.1.trans (hbr.mono (Nat.le_of_lt HW0.out.2.2))).alloc (Nat.le_of_lt hlw) _⟩
        · have HT : Hid (fitB M u v st foot = false) := by show _ = _; rw [HF.out, HFT.out, HST.out, if_neg (fun h => hx h.1)]
          have hxb : (px != (S : Int)) = true := by simp; omega
          go_wp2
          go_ret
          exact ⟨by rw [HT.out]; rfl, (HW0.out.1.trans (hbr.mono (Nat.le_of_lt HW0.out.2.2))).alloc (Nat.le_of_lt hlw) _⟩
      · obtain rfl : m = k := by omega
        have HT : Hid (fitB M u v st foot = true) := by show _ = _; rw [HF.out, HFT.out, List.drop_of_length_le (by rw [HM.out.1]; exact Nat.le_refl _)]; rfl
        go_wp2
        go_ret
        exact ⟨by rw [HT.out]; rfl, HW0.out.1.trans (hbr.mono (Nat.le_of_lt HW0.out.2.2))⟩
  · have HF : Hid (fitB M u v st foot = false) := by show _ = _; unfold fitB; rw [HM.out.1, HQ.out, if_neg hmq]
    have hne : ((m : Int) != (q : Int)) = true := by simp; omega
    clear hmq
    go_enter Tryd.func19, Tryd.ntmps19
    go_wp2
    go_ret
    exact ⟨by rw [HF.out]; rfl, (Below.refl _ _).alloc (Nat.le_refl _) _⟩
end Go.Proofs.YtfnkhpijcbpeoaaDoor
