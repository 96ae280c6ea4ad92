/- What crc.Closed answers. -/
import Derived.Test.YtpjikkhcimghaaaDoorFour
import Derived.Deep.QuietTactic
import Derived.BigQuiet
import Derived.Deep.RegionHeld
import Derived.Laws.Cover3
import Derived.ChangeKeysEq
namespace Go.Proofs.YtpjikkhcimghaaaDoor
open Go.ChangeShapes Go.WideShapes Go.ChangeAt Go.RowKit
def closedB (l : List Nat) : Bool := decide (4 ≤ l.length ∧ l.drop (l.length - 4) = Crcm.four (Crcm.sum (l.take (l.length - 4))))
theorem Tryd.info5q : ∃ i, Tryd.prog.info? 5 = some i := by
  obtain ⟨i0, hi, _⟩ := info_parts (show (Tryd.prog.info? 5).map (fun i => (i.zero, i.size, i.bytes)) = some (some (.int .u8 0), 1, 1) by kernel_rfl)
  exact ⟨i0, hi⟩
theorem part4_0 (W : World) (a0 a1 a2 a3 : Int) : (part 5 #[.int .u8 a0, .int .u8 a1, .int .u8 a2, .int .u8 a3] 0).run Tryd.prog W = .ok (.int .u8 a0) W := by kernel_rfl
theorem part4_1 (W : World) (a0 a1 a2 a3 : Int) : (part 5 #[.int .u8 a0, .int .u8 a1, .int .u8 a2, .int .u8 a3] 1).run Tryd.prog W = .ok (.int .u8 a1) W := by kernel_rfl
theorem part4_2 (W : World) (a0 a1 a2 a3 : Int) : (part 5 #[.int .u8 a0, .int .u8 a1, .int .u8 a2, .int .u8 a3] 2).run Tryd.prog W = .ok (.int .u8 a2) W := by kernel_rfl
theorem part4_3 (W : World) (a0 a1 a2 a3 : Int) : (part 5 #[.int .u8 a0, .int .u8 a1, .int .u8 a2, .int .u8 a3] 3).run Tryd.prog W = .ok (.int .u8 a3) W := by kernel_rfl
theorem eq4 (W : World) (a0 a1 a2 a3 b0 b1 b2 b3 : Int) :
    (Op.equalIn 10000 66 (.agg #[.int .u8 a0, .int .u8 a1, .int .u8 a2, .int .u8 a3]) (.agg #[.int .u8 b0, .int .u8 b1, .int .u8 b2, .int .u8 b3])).run Tryd.prog W = .ok ((a0 == b0) && ((a1 == b1) && ((a2 == b2) && (a3 == b3)))) W := by
  obtain ⟨i, hi⟩ := Tryd.info5q
  rw [run_equalIn_array W 9999 _ _ Tryd.underlying66 hi, show Tryd.prog.cellsOf 5 = 1 from by kernel_rfl, show List.range 4 = [0, 1, 2, 3] from rfl]
  have he := fun (w : World) (a b : Int) => run_equalIn_int w 9998 5 .u8 .u8 a b Tryd.underlying5
  simp only [Op.eqItems, Sem.run_bind, Nat.mul_one, part4_0, Result.andThen_ok, he]
  cases (a0 == b0) with
  | false => simp
  | true =>
    simp only [Bool.not_true, Bool.false_eq_true, if_false, Sem.run_bind, part4_1, Result.andThen_ok, he, Bool.true_and]
    cases (a1 == b1) with
    | false => simp
    | true =>
      simp only [Bool.not_true, Bool.false_eq_true, if_false, Sem.run_bind, part4_2, Result.andThen_ok, he, Bool.true_and]
      cases (a2 == b2) with
      | false => simp
      | true =>
        simp only [Bool.not_true, Bool.false_eq_true, if_false, Sem.run_bind, part4_3, Result.andThen_ok, he, Bool.true_and]
        cases (a3 == b3) <;> simp
theorem four_eq (x0 x1 x2 x3 s : Nat) : ((x0 : Int) == (s : Int) % 256 && ((x1 : Int) == (s : Int) / 256 % 256 && ((x2 : Int) == (s : Int) / 65536 % 256 && (x3 : Int) == (s : Int) / 16777216))) = decide ([x0, x1, x2, x3] = Crcm.four s) := by
  rw [Bool.eq_iff_iff]
  simp only [Bool.and_eq_true, beq_iff_eq, decide_eq_true_eq, Crcm.four, List.cons.injEq, and_true]
  omega
set_option maxRecDepth 20000 in
set_option maxHeartbeats 1000000 in
theorem closed_any (l : List Nat) (n : Nat) (a : Option Addr) (cap : Nat) (w : World) (hn : l.length = n) (hb : Bytes w a l) (hl : l.length ≤ maxLen) (hcap : l.length ≤ cap) (ht : Tab w) :
    Calls Tryd.prog 22 #[.slice a n cap] w fun e w' => e = .returned (.bool (closedB l)) ∧ Below w.heap.size w w' := by
  subst hn
  by_cases h4 : 4 ≤ l.length
  · obtain ⟨k, hk⟩ : ∃ k, l.length = k + 4 := ⟨l.length - 4, by omega⟩
    have hne : l ≠ [] := by intro h; subst h; simp at h4
    obtain ⟨b, off, rfl, hlt, hcell⟩ := hb.nonempty hne
    have c0 := hcell k (by omega)
    have c1 := hcell (k + 1) (by omega)
    have c2 := hcell (k + 2) (by omega)
    have c3 := hcell (k + 3) (by omega)
    obtain ⟨x0, e0⟩ : ∃ x, x = l.getD k 0 := ⟨_, rfl⟩
    obtain ⟨x1, e1⟩ : ∃ x, x = l.getD (k + 1) 0 := ⟨_, rfl⟩
    obtain ⟨x2, e2⟩ : ∃ x, x = l.getD (k + 2) 0 := ⟨_, rfl⟩
    obtain ⟨x3, e3⟩ : ∃ x, x = l.getD (k + 3) 0 := ⟨_, rfl⟩
    rw [← e0] at c0
    rw [← e1, ← Nat.add_assoc] at c1
    rw [← e2, ← Nat.add_assoc] at c2
    rw [← e3, ← Nat.add_assoc] at c3
    have hq : l.drop k = [x0, x1, x2, x3] := by
      rw [drop_at l k x0 (by omega) e0, drop_at l (k + 1) x1 (by omega) e1, drop_at l (k + 2) x2 (by omega) e2, drop_at l (k + 3) x3 (by omega) e3, List.drop_eq_nil_of_le (by omega)]
    have hp : Crcm.sum (l.take k) < 4294967296 := Crcm.sum_lt _ (fun x hx => hb.mem x (List.mem_of_mem_take hx))
    have HC : Hid (closedB l = decide ([x0, x1, x2, x3] = Crcm.four (Crcm.sum (l.take k)))) := by
      show _ = _
      unfold closedB
      rw [show l.length - 4 = k from by omega, hq]
      simp [h4]
    have HTK : Hid ((l.take k).length = k) := by show _ = _; rw [List.length_take]; omega
    have HTM : Hid ((l.take k).length ≤ maxLen) := by show _ ≤ _; rw [List.length_take]; omega
    have HB : Hid (Bytes w (some ⟨b, off, none⟩) (l.take k)) := hb.take k
    have HT : Hid (Tab w) := ht
    obtain ⟨n, hnl⟩ : ∃ n, n = l.length := ⟨_, rfl⟩
    rw [← hnl]
    have hat : (n : Int) - 4 = (k : Int) := by omega
    have hnk : n - k = 4 := by omega
    have hk1 : (k : Int) ≤ (n : Int) := by omega
    have hk2 : (n : Int) ≤ (cap : Int) := by omega
    have hk3 : k ≤ n := by omega
    have hk4 : ¬ cap = k := by omega
    have hk5 : ¬ k = cap := by omega
    have hk6 : k < cap := by omega
    have hk7 : ¬ n = k := by omega
    have hn63 : (n : Int) ≤ 9223372036854775807 := by unfold maxLen at hl; omega
    have HP : Hid (_ < _) := hp
    clear hb ht hcell e0 e1 e2 e3 hq hl hcap h4 hk hne hnl hp
    have harr := fun (W : World) => run_arrayAt (P := Tryd.prog) (w := W) 66 5 4 (some ⟨b, off + k, none⟩) 4 (cap - k) Tryd.underlying66 (Nat.le_refl _)
    have heq4 := eq4
    go_enter Tryd.func22, Tryd.ntmps22
    go_wp2
    go_region_held (fun w' => w'.cell? ⟨b, off + k, none⟩ = some (.int .u8 (x0 : Int)) ∧ w'.cell? ⟨b, off + k + 1, none⟩ = some (.int .u8 (x1 : Int)) ∧ w'.cell? ⟨b, off + k + 2, none⟩ = some (.int .u8 (x2 : Int)) ∧ w'.cell? ⟨b, off + k + 3, none⟩ = some (.int .u8 (x3 : Int))) (go_keep) (first
      | (go_at_call 29; refine (sum_any (l.take k) _ _ _ _ HTK.out (HB.out.drewN 1) HTM.out (HT.out.drewN 1)).mono ?_; rintro e w3 ⟨rfl, rfl⟩)
      | (go_at_call 28; refine (laid_any _ _ HP.out).mono ?_; rintro e w4 ⟨rfl, hb4⟩; have d0 := hb4.cell (p := ⟨b, off + k, none⟩) hlt; have d1 := hb4.cell (p := ⟨b, off + k + 1, none⟩) hlt; have d2 := hb4.cell (p := ⟨b, off + k + 2, none⟩) hlt; have d3 := hb4.cell (p := ⟨b, off + k + 3, none⟩) hlt))
    all_goals go_wp2
    all_goals go_ret
    all_goals exact ⟨ret_bool (by rw [HC.out]; exact four_eq _ _ _ _ _), (below_drewN (Below.refl _ _) 1).trans hb4⟩
  · have HC : Hid (closedB l = false) := by
      show _ = _
      unfold closedB
      simp [h4]
    obtain ⟨at0, hat⟩ : ∃ at0 : Int, (l.length : Int) - 4 = at0 := ⟨_, rfl⟩
    have hd : decide ((0 : Int) ≤ at0) = false := by simp; omega
    have hl4 : (l.length : Int) ≤ 3 := by omega
    generalize l.length = n at *
    clear h4 hb ht
    go_enter Tryd.func22, Tryd.ntmps22
    go_wp2
    go_quiet (fail)
    go_wp2
    go_ret
    exact ⟨by rw [HC.out]; rfl, below_drewN (Below.refl _ _) _⟩
end Go.Proofs.YtpjikkhcimghaaaDoor
