/- names.numbered, Segment, Book; daybookref15.Six, Segment, Book. -/
import Derived.Test.YteamemhimkpjiaaDoorNm0
import Derived.Test.YteamemhimkpjiaaDoorShelf
import Derived.Test.YteamemhimkpjiaaDoorAid
import Derived.Test.YteamemhimkpjiaaDoorRows
import Derived.Lib.AppendIntMem
import Derived.Laws.IdiomStrings
namespace Go.Proofs.YteamemhimkpjiaaDoor
open Go.ChangeShapes Go.WideShapes Go.ChangeAt Go.RowKit
set_option linter.unusedVariables false
abbrev bs (l : List UInt8) : ByteArray := ⟨l.toArray⟩
/-- the library's table of powers of ten -/
def Pow (w : World) : Prop := Lib.TabIs Tryd.prog w "internal/strconv.uint64pow10" .u64 Lib.pow10Tab
theorem Pow.keep {w w' : World} (h : Pow w) (hb : Below w.heap.size w w') : Pow w' := Lib.tabBelow_of_tabIs h w' hb
theorem below_grow (w : World) (q : Nat) (os : Array Obj) : Below w.heap.size w (Sort.grow (w.drewN q) os) := by
  have h := below_drewN (Below.refl w.heap.size w) q
  refine ⟨h.os, h.tape, h.output, ?_, fun k hk => ?_⟩
  · show _ ≤ ((w.drewN q).heap ++ os).size
    rw [Array.size_append]
    have := h.size
    omega
  · show ((w.drewN q).heap ++ os)[k]? = _
    rw [Array.getElem?_append_left (by have := h.size; omega)]
    exact h.block k hk
theorem itoa_any (n : Int) (w : World) (h0 : -9223372036854775808 ≤ n) (h1 : n ≤ 9223372036854775807) (ht : Pow w) :
    Calls Tryd.prog 19 #[.int .i64 n] w fun e w' => e = .returned (.string (bs (Lib.itoa n))) ∧ Below w.heap.size w w' :=
  (Tryd.strconv_Itoa n h0 h1 w ht).mono fun e w' ⟨he, k, os, hw⟩ => ⟨he, by rw [hw]; exact below_grow _ _ _⟩
theorem ret_str {a b : ByteArray} (h : a = b) : Ending.returned (.string a) = .returned (.string b) := by rw [h]
theorem bs_append (a b : List UInt8) : bs a ++ bs b = bs (a ++ b) := by
  apply ByteArray.ext
  rw [ByteArray.data_append]
  simp
theorem bs_tail (h : List UInt8) (c : UInt8) (l : List UInt8) : bs h ++ (bs (c :: l)).extract 1 (l.length + 1) = bs (h ++ l) := by
  have e : (bs (c :: l)).extract 1 (l.length + 1) = bs l := by
    apply ByteArray.ext
    rw [ByteArray.data_extract]
    simp
  rw [e, bs_append]
set_option maxRecDepth 20000 in
set_option maxHeartbeats 400000 in
theorem numbered_any (h : List UInt8) (n : Int) (w : World) (hh : h.length ≤ 10) (ht : Pow w) :
    Calls Tryd.prog 15 #[.string (bs h), .int .i64 n] w fun e w' => e = .returned (.string (bs (nameL h n))) ∧ Below w.heap.size w w' := by
  have HT : Hid (Pow w) := ht
  clear ht
  by_cases h1 : n < 1
  · have HN : Hid (nameL h n = []) := name_out h n (.inl h1)
    go_enter Tryd.func15, Tryd.ntmps15
    go_wp2
    go_ret
    exact ⟨by rw [HN.out]; rfl, Below.refl _ _⟩
  by_cases h2 : 999999 < n
  · have HN : Hid (nameL h n = []) := name_out h n (.inr h2)
    go_enter Tryd.func15, Tryd.ntmps15
    go_wp2
    go_ret
    exact ⟨by rw [HN.out]; rfl, Below.refl _ _⟩
  obtain ⟨m, rfl⟩ := Int.eq_ofNat_of_zero_le (show 0 ≤ n by omega)
  have HN : Hid (nameL h (m : Int) = h ++ six m) := by show _ = _; rw [name_range h _ (by omega) (by omega), Int.toNat_natCast]
  have HI : Hid (Lib.itoa (1000000 + (m : Int)) = dg 1 :: six m) := itoa_six m (by omega)
  have hm : (m : Int) ≤ 999999 := by omega
  have hm1 : (1 : Int) ≤ (m : Int) := by omega
  have hcat : ¬ 9223372036854775807 < h.length + (six m).length := by rw [six_length]; omega
  clear h1 h2
  go_enter Tryd.func15, Tryd.ntmps15
  go_wp2_with (go_at_call 19; refine (itoa_any (1000000 + (m : Int)) _ (by omega) (by omega) HT.out).mono ?_; rw [HI.out]; rintro e w1 ⟨rfl, hb1⟩)
  go_ret
  exact ⟨ret_str (by rw [HN.out]; exact bs_tail h (dg 1) (six m)), hb1⟩
theorem six_step (n j : Nat) (hn : n ≤ 999999) (hj : j < 6) : dg (n / 10 ^ j % 10) :: (six n).drop (6 - j) = (six n).drop (6 - (j + 1)) := by
  have h : j = 0 ∨ j = 1 ∨ j = 2 ∨ j = 3 ∨ j = 4 ∨ j = 5 := by omega
  rcases h with rfl | rfl | rfl | rfl | rfl | rfl
  · rw [show (10 : Nat) ^ 0 = 1 from rfl, Nat.div_one]; rfl
  · rw [show (10 : Nat) ^ 1 = 10 from rfl]; rfl
  · rw [show (10 : Nat) ^ 2 = 100 from rfl]; rfl
  · rw [show (10 : Nat) ^ 3 = 1000 from rfl]; rfl
  · rw [show (10 : Nat) ^ 4 = 10000 from rfl]; rfl
  · rw [show (10 : Nat) ^ 5 = 100000 from rfl, Nat.mod_eq_of_lt (show n / 100000 < 10 from by omega)]; rfl
set_option maxRecDepth 20000 in
set_option maxHeartbeats 400000 in
theorem rsix_any (n : Nat) (w : World) (hn : n ≤ 999999) :
    Calls Tryd.prog 16 #[.int .i64 (n : Int)] w fun e w' => e = .returned (.string (bs (six n))) ∧ Below w.heap.size w w' := by
  have hnI : (n : Int) ≤ 999999 := by omega
  go_enter Tryd.func16, Tryd.ntmps16
  go_wp2
  go_loopw [0, 3, 4] (fun vn vs vi wr => ∃ (j m : Nat), j ≤ 6 ∧ vi = .int .i64 j ∧ vn = .int .i64 (m : Int) ∧ m = n / 10 ^ j ∧ m ≤ 999999 ∧ vs = .string (bs ((six n).drop (6 - j))) ∧ Below w.heap.size w wr) (fun _ _ vi _ => 6 - (intOf vi).toNat)
  case atStart => exact ⟨0, n, by omega, rfl, rfl, by simp, hn, rfl, Below.refl _ _⟩
  case round =>
    obtain ⟨j, m, hj, rfl, rfl, hm, hml, rfl, hbe⟩ := hrel
    have HM : Hid (m = n / 10 ^ j) := hm
    have hmI : (m : Int) ≤ 999999 := by omega
    clear hm hml
    by_cases hj6 : j < 6
    · have hdg : ((dg (m % 10)).toNat : Int) = 48 + (m : Int) % 10 := by rw [dg_toNat _ (by omega)]; omega
      have hconv : (convert 32 9 (.slice (some ⟨wr.heap.size, 0, none⟩) 1 1)).run Tryd.prog (wr.alloc (.cells #[.int .u8 (48 + (m : Int) % 10)] 5)) = .ok (.string (bs [dg (m % 10)])) (wr.alloc (.cells #[.int .u8 (48 + (m : Int) % 10)] 5)) :=
        run_convert_bytes_back (P := Tryd.prog) (wr.alloc (.cells #[.int .u8 (48 + (m : Int) % 10)] 5)) 32 9 5 ⟨wr.heap.size, 0, none⟩ 1 [dg (m % 10)] Tryd.underlying32 Tryd.underlying5 Tryd.underlying9 (fun i hi => by
          obtain rfl : i = 0 := by simpa using hi
          rw [show [dg (m % 10)][0] = dg (m % 10) from rfl, hdg]
          exact cell_new wr _ 5 0 _ rfl)
      have HST : Hid (dg (m % 10) :: (six n).drop (6 - j) = (six n).drop (6 - (j + 1))) := by show _ = _; rw [HM.out]; exact six_step n j hn hj6
      obtain ⟨T, hT⟩ : ∃ T, (six n).drop (6 - j) = T := ⟨_, rfl⟩
      have hTl : T.length ≤ 6 := by rw [← hT, List.length_drop, six_length]; omega
      rw [hT] at HST ⊢
      have hcat : ¬ 9223372036854775807 < 1 + T.length := by omega
      clear hT hdg
      go_wp2
      go_roundw
      case rel => exact ⟨j + 1, m / 10, by omega, by go_num, by go_num, by rw [HM.out, Nat.div_div_eq_div_mul, Nat.pow_succ], by omega, by rw [← HST.out]; exact congrArg Value.string (bs_append [dg (m % 10)] T), hbe.alloc hbe.size _⟩
      case measure => simp [intOf]; omega
    · obtain rfl : j = 6 := by omega
      go_wp2
      go_ret
      exact ⟨rfl, hbe⟩
set_option maxRecDepth 20000 in
theorem segment_any (n : Int) (w : World) (ht : Pow w) :
    Calls Tryd.prog 8 #[.int .i64 n] w fun e w' => e = .returned (.string (bs (nameL segH n))) ∧ Below w.heap.size w w' := by
  have HT : Hid (Pow w) := ht
  clear ht
  go_enter Tryd.func8, Tryd.ntmps8
  go_wp2_with (go_at_call 15; refine (numbered_any segH n _ (by decide) HT.out).mono ?_; rintro e w1 ⟨rfl, hb1⟩)
  go_ret
  exact ⟨rfl, hb1⟩
set_option maxRecDepth 20000 in
set_option maxHeartbeats 400000 in
theorem rsegment_any (n : Int) (w : World) :
    Calls Tryd.prog 9 #[.int .i64 n] w fun e w' => e = .returned (.string (bs (nameL segH n))) ∧ Below w.heap.size w w' := by
  by_cases h1 : n < 1
  · have HN : Hid (nameL segH n = []) := name_out segH n (.inl h1)
    go_enter Tryd.func9, Tryd.ntmps9
    go_wp2
    go_ret
    exact ⟨by rw [HN.out]; rfl, Below.refl _ _⟩
  by_cases h2 : 999999 < n
  · have HN : Hid (nameL segH n = []) := name_out segH n (.inr h2)
    go_enter Tryd.func9, Tryd.ntmps9
    go_wp2
    go_ret
    exact ⟨by rw [HN.out]; rfl, Below.refl _ _⟩
  obtain ⟨m, rfl⟩ := Int.eq_ofNat_of_zero_le (show 0 ≤ n by omega)
  have HN : Hid (nameL segH (m : Int) = segH ++ six m) := by show _ = _; rw [name_range segH _ (by omega) (by omega), Int.toNat_natCast]
  have HS : Hid (∀ w, Calls Tryd.prog 16 #[.int .i64 (m : Int)] w fun e w' => e = .returned (.string (bs (six m))) ∧ Below w.heap.size w w') := fun w => rsix_any m w (by omega)
  obtain ⟨T, hT⟩ : ∃ T, six m = T := ⟨_, rfl⟩
  have hTl : T.length = 6 := by rw [← hT]; rfl
  have HTL : Hid (T.length = 6) := hTl
  have hcat : ¬ 9223372036854775807 < 4 + T.length := by omega
  rw [hT] at HS HN
  clear hT hTl
  go_enter Tryd.func9, Tryd.ntmps9
  go_wp2_with (go_at_call 16; refine (HS.out _).mono ?_; rintro e w1 ⟨rfl, hb1⟩)
  go_ret
  exact ⟨ret_str (by rw [HN.out]; exact bs_append segH T), hb1⟩
set_option maxRecDepth 20000 in
theorem book_any (n : Int) (w : World) (ht : Pow w) :
    Calls Tryd.prog 10 #[.int .i64 n] w fun e w' => e = .returned (.string (bs (nameL bookH n))) ∧ Below w.heap.size w w' := by
  have HT : Hid (Pow w) := ht
  clear ht
  go_enter Tryd.func10, Tryd.ntmps10
  go_wp2_with (go_at_call 15; refine (numbered_any bookH n _ (by decide) HT.out).mono ?_; rintro e w1 ⟨rfl, hb1⟩)
  go_ret
  exact ⟨rfl, hb1⟩
set_option maxRecDepth 20000 in
set_option maxHeartbeats 400000 in
theorem rbook_any (n : Int) (w : World) :
    Calls Tryd.prog 11 #[.int .i64 n] w fun e w' => e = .returned (.string (bs (nameL bookH n))) ∧ Below w.heap.size w w' := by
  by_cases h1 : n < 1
  · have HN : Hid (nameL bookH n = []) := name_out bookH n (.inl h1)
    go_enter Tryd.func11, Tryd.ntmps11
    go_wp2
    go_ret
    exact ⟨by rw [HN.out]; rfl, Below.refl _ _⟩
  by_cases h2 : 999999 < n
  · have HN : Hid (nameL bookH n = []) := name_out bookH n (.inr h2)
    go_enter Tryd.func11, Tryd.ntmps11
    go_wp2
    go_ret
    exact ⟨by rw [HN.out]; rfl, Below.refl _ _⟩
  obtain ⟨m, rfl⟩ := Int.eq_ofNat_of_zero_le (show 0 ≤ n by omega)
  have HN : Hid (nameL bookH (m : Int) = bookH ++ six m) := by show _ = _; rw [name_range bookH _ (by omega) (by omega), Int.toNat_natCast]
  have HS : Hid (∀ w, Calls Tryd.prog 16 #[.int .i64 (m : Int)] w fun e w' => e = .returned (.string (bs (six m))) ∧ Below w.heap.size w w') := fun w => rsix_any m w (by omega)
  obtain ⟨T, hT⟩ : ∃ T, six m = T := ⟨_, rfl⟩
  have hTl : T.length = 6 := by rw [← hT]; rfl
  have HTL : Hid (T.length = 6) := hTl
  have hcat : ¬ 9223372036854775807 < 5 + T.length := by omega
  rw [hT] at HS HN
  clear hT hTl
  go_enter Tryd.func11, Tryd.ntmps11
  go_wp2_with (go_at_call 16; refine (HS.out _).mono ?_; rintro e w1 ⟨rfl, hb1⟩)
  go_ret
  exact ⟨ret_str (by rw [HN.out]; exact bs_append bookH T), hb1⟩
end Go.Proofs.YteamemhimkpjiaaDoor
