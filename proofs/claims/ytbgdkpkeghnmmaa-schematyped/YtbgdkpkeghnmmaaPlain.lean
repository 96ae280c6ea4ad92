/- What schema.plain and schema.within answer. -/
import Derived.Test.YtbgdkpkeghnmmaaRows
import Derived.Test.YtbgdkpkeghnmmaaAid
import Derived.Lib.ConvBytes
namespace Go.Proofs.Ytbgdkpkeghnmmaa
open Go.ChangeShapes Go.WideShapes Go.ChangeAt Go.RowKit
/-- a letter a to z, a digit or - -/
def okC (c : Int) : Bool := decide (97 ≤ c ∧ c ≤ 122) || decide (48 ≤ c ∧ c ≤ 57) || decide (c = 45)
def plainB (l : List UInt8) : Bool := l.all fun c => okC (c.toNat : Int)
theorem okC_yes {c : Int} (h : okC c = true) : (97 ≤ c ∧ c ≤ 122) ∨ (48 ≤ c ∧ c ≤ 57) ∨ c = 45 := by
  simpa [okC, or_assoc] using h
theorem okC_no {c : Int} (h : okC c = false) : ¬ (97 ≤ c ∧ c ≤ 122) ∧ ¬ (48 ≤ c ∧ c ≤ 57) ∧ c ≠ 45 := by
  simp [okC] at h
  omega
theorem plain_more (l : List UInt8) (k : Nat) (c : Int) (hk : k < l.length) (hc : c = ((l.getD k 0).toNat : Int)) (h : plainB (l.take k) = true) (ho : okC c = true) : plainB (l.take (k + 1)) = true := by
  subst hc
  rw [List.take_succ_eq_append_getElem hk]
  unfold plainB at h ⊢
  rw [List.all_append, h]
  rw [List.getD_eq_getElem?_getD, List.getElem?_eq_getElem hk] at ho
  simpa using ho
theorem plain_not (l : List UInt8) (k : Nat) (c : Int) (hk : k < l.length) (hc : c = ((l.getD k 0).toNat : Int)) (ho : okC c = false) : plainB l = false := by
  subst hc
  rw [List.getD_eq_getElem?_getD, List.getElem?_eq_getElem hk] at ho
  unfold plainB
  rw [List.all_eq_false]
  exact ⟨l[k], List.getElem_mem hk, by simpa using ho⟩
/-- the text as a row of bytes of its own -/
theorem conv_any (s : ByteArray) (w : World) :
    ∃ c wr, (convert 9 55 (.string s)).run Try.prog w = .ok (.slice (some ⟨w.heap.size, 0, none⟩) s.size c) wr ∧ (∀ j, j < s.size → wr.cell? ⟨w.heap.size, j, none⟩ = some (.int .u8 (s.data.toList.getD j 0).toNat)) ∧ Below w.heap.size w wr := by
  refine ⟨_, _, Lib.run_convert_string_bytes w 9 55 5 s Try.underlying9 Try.underlying55 Try.underlying5, fun j hj => Lib.bytesWorld_cell w 5 s j hj, ?_⟩
  exact ⟨rfl, rfl, rfl, by rw [Lib.bytesWorld_size]; omega, fun k hk => Lib.bytesWorld_at_old w 5 s k hk⟩
set_option maxRecDepth 20000 in
set_option maxHeartbeats 1000000 in
theorem plain_any (s : ByteArray) (w : World) (hs : s.size ≤ 16) :
    Calls Try.prog 20 #[.string s] w fun e w' => e = .returned (.bool (plainB s.data.toList)) ∧ Below w.heap.size w w' := by
  obtain ⟨c, wr, hrun, hcell, hb⟩ := conv_any s w
  have HB : Hid (Below w.heap.size w wr) := hb
  clear hb
  have hlen : s.data.toList.length = s.size := by simp
  have HL : Hid (s.data.toList.length = s.size) := hlen
  clear hlen
  go_enter Try.func20, Try.ntmps20
  go_wp2
  go_loop [10] (fun i => ∃ k : Nat, k ≤ s.size ∧ i = .int .i64 k ∧ Hid (plainB (s.data.toList.take k) = true)) (fun i => s.size - (intOf i).toNat)
  case atStart => exact ⟨0, Nat.zero_le _, rfl, rfl⟩
  case round =>
    obtain ⟨k, hk, rfl, HP⟩ := hrel
    by_cases hlt : k < s.size
    · have hc := hcell k hlt
      have hlt' : k < s.data.toList.length := by rw [HL.out]; exact hlt
      obtain ⟨x, hx⟩ : ∃ x : Int, x = ((s.data.toList.getD k 0).toNat : Int) := ⟨_, rfl⟩
      rw [← hx] at hc
      have hx0 : 0 ≤ x ∧ x < 256 := by have := (s.data.toList.getD k 0).toNat_lt; omega
      have HX : Hid (x = ((s.data.toList.getD k 0).toNat : Int)) := hx
      have HK : Hid (k < s.data.toList.length) := hlt'
      clear hx hlt' hcell
      cases ho : okC x with
      | true =>
        have hoc := okC_yes ho
        have HO : Hid (plainB (s.data.toList.take (k + 1)) = true) := plain_more _ k x HK.out HX.out HP.out ho
        clear ho
        go_wp2
        all_goals first
          | (exfalso; omega)
          | (go_round
             case rel => exact ⟨k + 1, by omega, by go_num, HO⟩
             case measure => simp [intOf]; omega)
      | false =>
        obtain ⟨hn1, hn2, hn3⟩ := okC_no ho
        have HO : Hid (plainB s.data.toList = false) := plain_not _ k x HK.out HX.out ho
        have hn4 : (x != 45) = true := by simpa using hn3
        have hr : x < 48 ∨ (57 < x ∧ x < 97) ∨ 122 < x := by omega
        clear ho hn3 hn1 hn2
        rcases hr with hr | ⟨hr, hr'⟩ | hr
        · go_wp2
          go_ret
          exact ⟨ret_bool HO.out.symm, HB.out⟩
        · have d1 : decide (x ≤ 57) = false := by simpa using hr
          go_wp2
          go_ret
          exact ⟨ret_bool HO.out.symm, HB.out⟩
        · have d1 : decide (x ≤ 57) = false := by simp; omega
          have d2 : decide (x ≤ 122) = false := by simpa using hr
          go_wp2
          go_ret
          exact ⟨ret_bool HO.out.symm, HB.out⟩
    · go_wp2
      go_ret
      exact ⟨ret_bool (by have := HP.out; rw [List.take_of_length_le (by rw [HL.out]; omega)] at this; exact this.symm), HB.out⟩
def wit (a x b : Int) : Bool := decide (a ≤ x) && decide (x ≤ b)
set_option maxRecDepth 20000 in
theorem within_any (a x b : Int) (w : World) :
    Calls Try.prog 19 #[.int .i64 a, .int .i64 x, .int .i64 b] w fun e w' => e = .returned (.bool (wit a x b)) ∧ w = w' := by
  by_cases h1 : a ≤ x
  · by_cases h2 : x ≤ b
    · go_enter Try.func19, Try.ntmps19
      go_wp2
      go_ret
      exact ⟨ret_bool (by simp [wit, h1, h2]), rfl⟩
    · have h3 : b < x := by omega
      go_enter Try.func19, Try.ntmps19
      go_wp2
      go_ret
      exact ⟨ret_bool (by simp [wit, h1, h3]), rfl⟩
  · have h3 : x < a := by omega
    go_enter Try.func19, Try.ntmps19
    go_wp2
    go_ret
    exact ⟨ret_bool (by simp [wit]; omega), rfl⟩
end Go.Proofs.Ytbgdkpkeghnmmaa
