/- Own texts, joined: MkS, Len. -/
import Derived.Test.YtfnkhpijcbpeoaaDoorK23
import Derived.Test.YtfnkhpijcbpeoaaDoorK16
import Derived.Laws.AppendOwnNone
import Derived.Test.YtfnkhpijcbpeoaaDoorRows
import Derived.Test.YtfnkhpijcbpeoaaDoorK00
namespace Go.Proofs.YtfnkhpijcbpeoaaDoor
open Go.ChangeShapes Go.WideShapes Go.ChangeAt Go.RowKit
set_option linter.unusedVariables false
theorem below_drewN {B : Nat} {w w' : World} (h : Below B w w') (n : Nat) : Below B w (w'.drewN n) := by
  induction n with
  | zero => exact h
  | succ n ih => exact ih.drew
set_option maxRecDepth 20000 in
set_option maxHeartbeats 2000000 in
theorem msame_any (L M : List Mk) (n m : Nat) (a a' : Option Addr) (cap cap' : Nat) (w : World) (hn : L.length = n) (hm : M.length = m) (h1 : Marks w a L) (h2 : Marks w a' M) (hl : n ≤ maxLen) (hl' : m ≤ maxLen) :
    Calls Tryd.prog 9 #[.slice a n cap, .slice a' m cap'] w fun e w' => e = .returned (.bool (decide (L = M))) ∧ Below w.heap.size w w' := by
  unfold maxLen at hl hl'
  by_cases hne : n = m
  · subst hne
    have HN : Hid (L.length = n ∧ M.length = n) := ⟨hn, hm⟩
    rcases h1 with rfl | ⟨b, off, rfl, hlt1, hc1⟩
    · obtain rfl : n = 0 := by simpa using hn.symm
      have h0 : M = [] := List.length_eq_zero_iff.1 hm
      subst h0
      clear hn hm
      go_enter Tryd.func9, Tryd.ntmps9
      go_wp2
      refine wp_loop_rounds 1 ?_
      rw [rounds_succ]
      go_wp2
      go_ret
      exact ⟨rfl, Below.refl _ _⟩
    · rcases h2 with rfl | ⟨b', off', rfl, hlt2, hc2⟩
      · obtain rfl : n = 0 := by simpa using hm.symm
        have h0 : L = [] := List.length_eq_zero_iff.1 hn
        subst h0
        clear hn hm
        go_enter Tryd.func9, Tryd.ntmps9
        go_wp2
        refine wp_loop_rounds 1 ?_
        rw [rounds_succ]
        go_wp2
        go_ret
        exact ⟨rfl, Below.refl _ _⟩
      · clear hn hm
        go_enter Tryd.func9, Tryd.ntmps9
        go_wp2
        go_loopw [13] (fun i wr => ∃ k n0 : Nat, k ≤ n ∧ i = .int .i64 k ∧ wr = w.drewN n0 ∧ L.take k = M.take k) (fun i _ => n - (intOf i).toNat)
        case atStart => exact ⟨0, 0, Nat.zero_le _, rfl, rfl, rfl⟩
        case round =>
          obtain ⟨k, n0, hk, rfl, rfl, hj⟩ := hrel
          have HJ : Hid (L.take k = M.take k) := hj
          clear hj
          by_cases hkn : k < n
          · obtain ⟨⟨x, z⟩, hp⟩ := get_of_lt (L := L) (k := k) (by rw [HN.out.1]; exact hkn)
            obtain ⟨⟨x', z'⟩, hp'⟩ := get_of_lt (L := M) (k := k) (by rw [HN.out.2]; exact hkn)
            obtain ⟨c0, c1⟩ := Marks.cells hc1 k (x, z) hp
            obtain ⟨d0, d1⟩ := Marks.cells hc2 k (x', z') hp'
            simp only at c0 c1 d0 d1
            have HP : Hid (L[k]? = some (x, z) ∧ M[k]? = some (x', z')) := ⟨hp, hp'⟩
            clear hp hp' hc1 hc2
            by_cases hx : x = x'
            · by_cases hz : z = z'
              · subst hx hz
                go_wp2
                go_quiet (fail)
                go_wp2
                go_roundw
                case rel =>
                  refine ⟨k + 1, n0 + nq, by omega, by go_num, by first | rfl | exact drewN_add _ _ _, ?_⟩
                  rw [take_get _ _ _ HP.out.1, take_get _ _ _ HP.out.2, HJ.out]
                case measure => simp [intOf]; omega
              · have HF : Hid (decide (L = M) = false) := by
                  show _ = _
                  rw [decide_eq_false_iff_not]
                  rintro rfl
                  have h := HP.out.1.symm.trans HP.out.2
                  simp at h
                  omega
                subst hx
                go_wp2
                go_quiet (fail)
                go_wp2
                go_ret
                exact ⟨ret_bool (by rw [HF.out]), below_drewN (below_drewN (Below.refl _ _) _) _⟩
            · have HF : Hid (decide (L = M) = false) := by
                show _ = _
                rw [decide_eq_false_iff_not]
                rintro rfl
                have h := HP.out.1.symm.trans HP.out.2
                simp at h
                omega
              go_wp2
              go_quiet (fail)
              go_wp2
              go_ret
              exact ⟨ret_bool (by rw [HF.out]), below_drewN (below_drewN (Below.refl _ _) _) _⟩
          · have HT : Hid (decide (L = M) = true) := by
              show _ = _
              rw [decide_eq_true_iff]
              have h := HJ.out
              rwa [List.take_of_length_le (by rw [HN.out.1]; omega), List.take_of_length_le (by rw [HN.out.2]; omega)] at h
            clear hc1 hc2
            go_wp2
            go_ret
            exact ⟨ret_bool (by rw [HT.out]), below_drewN (Below.refl _ _) _⟩
  · have hnb : ((n : Int) != (m : Int)) = true := by simp; omega
    have HF : Hid (decide (L = M) = false) := by
      show _ = _
      rw [decide_eq_false_iff_not]
      rintro rfl
      omega
    clear hn hm h1 h2 hne
    go_enter Tryd.func9, Tryd.ntmps9
    go_wp2
    go_ret
    exact ⟨ret_bool (by rw [HF.out]), Below.refl _ _⟩
end Go.Proofs.YtfnkhpijcbpeoaaDoor
namespace Go.Proofs.YtfnkhpijcbpeoaaDoor
open Go.ChangeShapes Go.WideShapes Go.ChangeAt Go.RowKit
set_option maxRecDepth 20000 in
set_option maxHeartbeats 1000000 in
theorem len_any (x : Int) (w : World) (h0 : 0 ≤ x) (h1 : x ≤ 18446744073709551615) :
    Calls Tryd.prog 73 #[.int .u64 x] w fun e w' => e = .returned (.int .i64 (bitLen x.toNat)) ∧ w = w' := by
  by_cases c1 : 4294967296 ≤ x
  · have H1 : Hid (bitLen (x).toNat = 32 + bitLen (x / 4294967296).toNat) := by
      show _ = _
      rw [bitLen_shift _ 32 (by omega)]
      rw [show (x).toNat / 2 ^ 32 = (x / 4294967296).toNat from by omega]
    by_cases c2 : 65536 ≤ x / 4294967296
    · have H2 : Hid (bitLen (x / 4294967296).toNat = 16 + bitLen (x / 4294967296 / 65536).toNat) := by
        show _ = _
        rw [bitLen_shift _ 16 (by omega)]
        rw [show (x / 4294967296).toNat / 2 ^ 16 = (x / 4294967296 / 65536).toNat from by omega]
      by_cases c3 : 256 ≤ x / 4294967296 / 65536
      · have H3 : Hid (bitLen (x / 4294967296 / 65536).toNat = 8 + bitLen (x / 4294967296 / 65536 / 256).toNat) := by
          show _ = _
          rw [bitLen_shift _ 8 (by omega)]
          rw [show (x / 4294967296 / 65536).toNat / 2 ^ 8 = (x / 4294967296 / 65536 / 256).toNat from by omega]
        have HI : Hid ((x / 4294967296 / 65536 / 256).toNat < 256) := by show _ < _; omega
        have HB : Hid (bitLen x.toNat = 56 + bitLen (x / 4294967296 / 65536 / 256).toNat) := by
          show _ = _
          rw [H1.out, H2.out, H3.out]; omega
        clear H1 H2 H3
        go_enter Tryd.func73, Tryd.ntmps73
        go_wp2
        go_ret
        refine ⟨ret_int ?_, rfl⟩
        rw [len8tab_get _ _]
        exact len_close 56 x.toNat _ HB.out HI.out (by omega)
      · have d3 : x / 4294967296 / 65536 < 256 := by omega
        clear c3
        have HI : Hid ((x / 4294967296 / 65536).toNat < 256) := by show _ < _; omega
        have HB : Hid (bitLen x.toNat = 48 + bitLen (x / 4294967296 / 65536).toNat) := by
          show _ = _
          rw [H1.out, H2.out]; omega
        clear H1 H2
        go_enter Tryd.func73, Tryd.ntmps73
        go_wp2
        go_ret
        refine ⟨ret_int ?_, rfl⟩
        rw [len8tab_get _ _]
        exact len_close 48 x.toNat _ HB.out HI.out (by omega)
    · have d2 : x / 4294967296 < 65536 := by omega
      clear c2
      by_cases c3 : 256 ≤ x / 4294967296
      · have H3 : Hid (bitLen (x / 4294967296).toNat = 8 + bitLen (x / 4294967296 / 256).toNat) := by
          show _ = _
          rw [bitLen_shift _ 8 (by omega)]
          rw [show (x / 4294967296).toNat / 2 ^ 8 = (x / 4294967296 / 256).toNat from by omega]
        have HI : Hid ((x / 4294967296 / 256).toNat < 256) := by show _ < _; omega
        have HB : Hid (bitLen x.toNat = 40 + bitLen (x / 4294967296 / 256).toNat) := by
          show _ = _
          rw [H1.out, H3.out]; omega
        clear H1 H3
        go_enter Tryd.func73, Tryd.ntmps73
        go_wp2
        go_ret
        refine ⟨ret_int ?_, rfl⟩
        rw [len8tab_get _ _]
        exact len_close 40 x.toNat _ HB.out HI.out (by omega)
      · have d3 : x / 4294967296 < 256 := by omega
        clear c3
        have HI : Hid ((x / 4294967296).toNat < 256) := by show _ < _; omega
        have HB : Hid (bitLen x.toNat = 32 + bitLen (x / 4294967296).toNat) := by
          show _ = _
          rw [H1.out]
        clear H1
        go_enter Tryd.func73, Tryd.ntmps73
        go_wp2
        go_ret
        refine ⟨ret_int ?_, rfl⟩
        rw [len8tab_get _ _]
        exact len_close 32 x.toNat _ HB.out HI.out (by omega)
  · have d1 : x < 4294967296 := by omega
    clear c1
    by_cases c2 : 65536 ≤ x
    · have H2 : Hid (bitLen (x).toNat = 16 + bitLen (x / 65536).toNat) := by
        show _ = _
        rw [bitLen_shift _ 16 (by omega)]
        rw [show (x).toNat / 2 ^ 16 = (x / 65536).toNat from by omega]
      by_cases c3 : 256 ≤ x / 65536
      · have H3 : Hid (bitLen (x / 65536).toNat = 8 + bitLen (x / 65536 / 256).toNat) := by
          show _ = _
          rw [bitLen_shift _ 8 (by omega)]
          rw [show (x / 65536).toNat / 2 ^ 8 = (x / 65536 / 256).toNat from by omega]
        have HI : Hid ((x / 65536 / 256).toNat < 256) := by show _ < _; omega
        have HB : Hid (bitLen x.toNat = 24 + bitLen (x / 65536 / 256).toNat) := by
          show _ = _
          rw [H2.out, H3.out]; omega
        clear H2 H3
        go_enter Tryd.func73, Tryd.ntmps73
        go_wp2
        go_ret
        refine ⟨ret_int ?_, rfl⟩
        rw [len8tab_get _ _]
        exact len_close 24 x.toNat _ HB.out HI.out (by omega)
      · have d3 : x / 65536 < 256 := by omega
        clear c3
        have HI : Hid ((x / 65536).toNat < 256) := by show _ < _; omega
        have HB : Hid (bitLen x.toNat = 16 + bitLen (x / 65536).toNat) := by
          show _ = _
          rw [H2.out]
        clear H2
        go_enter Tryd.func73, Tryd.ntmps73
        go_wp2
        go_ret
        refine ⟨ret_int ?_, rfl⟩
        rw [len8tab_get _ _]
        exact len_close 16 x.toNat _ HB.out HI.out (by omega)
    · have d2 : x < 65536 := by omega
      clear c2
      by_cases c3 : 256 ≤ x
      · have H3 : Hid (bitLen (x).toNat = 8 + bitLen (x / 256).toNat) := by
          show _ = _
          rw [bitLen_shift _ 8 (by omega)]
          rw [show (x).toNat / 2 ^ 8 = (x / 256).toNat from by omega]
        have HI : Hid ((x / 256).toNat < 256) := by show _ < _; omega
        have HB : Hid (bitLen x.toNat = 8 + bitLen (x / 256).toNat) := by
          show _ = _
          rw [H3.out]
        clear H3
        go_enter Tryd.func73, Tryd.ntmps73
        go_wp2
        go_ret
        refine ⟨ret_int ?_, rfl⟩
        rw [len8tab_get _ _]
        exact len_close 8 x.toNat _ HB.out HI.out (by omega)
      · have d3 : x < 256 := by omega
        clear c3
        have HI : Hid ((x).toNat < 256) := by show _ < _; omega
        have HB : Hid (bitLen x.toNat = 0 + bitLen (x).toNat) := by
          show _ = _
          omega
        go_enter Tryd.func73, Tryd.ntmps73
        go_wp2
        go_ret
        refine ⟨ret_int ?_, rfl⟩
        rw [len8tab_get _ _]
        exact len_close0 x.toNat HI.out
end Go.Proofs.YtfnkhpijcbpeoaaDoor
