/- Own texts, joined: Rdec, Tlr, Tls. -/
import Derived.Test.YtfcgcpfckbmgnaaGreatRows
import Derived.Test.YtfcgcpfckbmgnaaGreatK39
import Derived.Test.YtfcgcpfckbmgnaaGreatK41
namespace Go.Proofs.YtfcgcpfckbmgnaaGreat
open Go.ChangeShapes Go.WideShapes Go.ChangeAt Go.RowKit
theorem val7_append (l : List Nat) (c : Nat) : val7 (l ++ [c]) = val7 l + c % 128 * 128 ^ l.length := by
  induction l with
  | nil => simp [val7]
  | cons x r ih =>
    simp only [List.cons_append, val7, List.length_cons]
    rw [ih, Nat.pow_succ]
    grind
theorem val7_lt (l : List Nat) : val7 l < 128 ^ l.length := by
  induction l with
  | nil => simp [val7]
  | cons x r ih =>
    simp only [val7, List.length_cons]
    rw [Nat.pow_succ]
    omega
theorem val7_drop (l : List Nat) (j : Nat) : val7 (l.drop j) ≤ val7 l := by
  induction l generalizing j with
  | nil => simp
  | cons x r ih =>
    cases j with
    | zero => simp
    | succ j =>
      have := ih j
      simp only [List.drop_succ_cons, val7]
      omega
theorem take_snoc_at (l : List Nat) (k c : Nat) (h : k < l.length) (hc : c = l.getD k 0) : l.take (k + 1) = l.take k ++ [c] := by
  subst hc
  rw [List.take_succ_eq_append_getElem h, List.getD_eq_getElem?_getD, List.getElem?_eq_getElem h]; rfl
theorem dec_stop (l : List Nat) (k : Nat) (hk : k ≤ l.length) (hk9 : k ≤ 9) (h : ∀ j, j < k → 128 ≤ l.getD j 0) : dec 0 0 l = dec k (val7 (l.take k)) (l.drop k) := by
  induction k with
  | zero => simp [val7]
  | succ k ih =>
    rw [ih (by omega) (by omega) (fun j hj => h j (by omega)), drop_at l k _ (by omega) rfl, dec_cons]
    have := h k (by omega)
    rw [if_neg (by omega), if_pos this, take_snoc_at l k _ (by omega) rfl, val7_append, List.length_take, Nat.min_eq_left (by omega)]
theorem val7_top (l : List Nat) (k c : Nat) (h : k < l.length) (hc : c = l.getD k 0) (h256 : c < 256) (hk : k ≤ 8 ∨ (k = 9 ∧ c ≤ 1)) : val7 (l.take (k + 1)) ≤ 18446744073709551615 := by
  have h1 := val7_lt (l.take k)
  rw [List.length_take, Nat.min_eq_left (by omega)] at h1
  have h2 := or_step _ c k h1 h256 hk
  rw [take_snoc_at l k c h hc, val7_append, List.length_take, Nat.min_eq_left (by omega)]
  omega
theorem drop_take_step (l : List Nat) (k j c : Nat) (h : k < l.length) (hj : j ≤ k) (hc : c = l.getD j 0) : val7 ((l.take (k + 1)).drop j) = c % 128 + 128 * val7 ((l.take (k + 1)).drop (j + 1)) := by
  have h1 : j < (l.take (k + 1)).length := by rw [List.length_take]; omega
  have h2 : c = (l.take (k + 1)).getD j 0 := by
    rw [hc, List.getD_eq_getElem?_getD, List.getD_eq_getElem?_getD, List.getElem?_take, if_pos (by omega)]
  rw [drop_at _ j c h1 h2]
  rfl
set_option maxRecDepth 20000 in
set_option maxHeartbeats 2000000 in
theorem rdec_any (l : List Nat) (a : Option Addr) (cap : Nat) (w : World) (hb : Bytes w a l) (hl : l.length ≤ maxLen) :
    Calls Tryz.prog 28 #[.slice a l.length cap] w fun e w' => e = .returned (.tuple #[.int .u64 (dec 0 0 l).1, .int .i64 (dec 0 0 l).2.1, .int .i64 (dec 0 0 l).2.2]) ∧ w = w' := by
  unfold maxLen at hl
  obtain ⟨hby, rfl | ⟨b, off, rfl, hlt, hcell⟩⟩ := hb
  · go_enter Tryz.func28, Tryz.ntmps28
    go_wp2
    refine wp_loop_rounds 1 ?_
    rw [rounds_succ]
    go_wp2
    go_ret3
    exact ⟨rfl, rfl⟩
  · go_enter Tryz.func28, Tryz.ntmps28
    go_wp2
    go_loop [5] (fun i => ∃ k : Nat, k ≤ l.length ∧ k ≤ 9 ∧ i = .int .i64 k ∧ ∀ j, j < k → 128 ≤ l.getD j 0) (fun i => l.length - (intOf i).toNat)
    case atStart => exact ⟨0, Nat.zero_le _, by omega, rfl, fun j hj => by omega⟩
    case round =>
      obtain ⟨k, hk, hk9, rfl, hj⟩ := hrel
      have HJ : Hid (∀ j, j < k → 128 ≤ l.getD j 0) := hj
      have HD : Hid (_ = _) := dec_stop l k hk hk9 hj
      clear hj
      have HCELL : Hid (∀ i, i < l.length → w.cell? ⟨b, off + i, none⟩ = some (.int .u8 (l.getD i 0 : Nat))) := hcell
      have HBY : Hid (∀ i, l.getD i 0 < 256) := hby
      by_cases hkl : k < l.length
      · have hc := hcell k hkl
        have hc256 := hby k
        obtain ⟨c, hcE⟩ : ∃ c, c = l.getD k 0 := ⟨_, rfl⟩
        rw [← hcE] at hc hc256
        have HC : Hid (c = l.getD k 0) := hcE
        clear hcE hcell hby
        have HT : Hid (c < 128 → ¬ (k = 9 ∧ 1 < c) → ¬ (c = 0 ∧ 0 < k) → dec 0 0 l = (val7 (l.take (k + 1)), k + 1, 0)) := by
          show _ → _
          intro h1 h2 h3
          rw [HD.out, drop_at l k c hkl HC.out, dec_cons, if_neg h2, if_neg (by omega), if_neg h3, take_snoc_at l k c hkl HC.out, val7_append, List.length_take, Nat.min_eq_left (by omega)]
        have HV : Hid (k ≤ 8 ∨ (k = 9 ∧ c ≤ 1) → val7 (l.take (k + 1)) ≤ 18446744073709551615) := fun h => val7_top l k c hkl HC.out hc256 h
        have HDC : Hid (dec 0 0 l = if k = 9 ∧ 1 < c then (0, 0, 12) else if 128 ≤ c then dec (k + 1) (val7 (l.take k) + c % 128 * 128 ^ k) (l.drop (k + 1)) else if c = 0 ∧ 0 < k then (0, 0, 11) else (val7 (l.take k) + c % 128 * 128 ^ k, k + 1, 0)) := by
          show _ = _
          rw [HD.out, drop_at l k c hkl HC.out, dec_cons]
        clear HD
        have hkb : k < 9 ∨ k = 9 := by omega
        rcases hkb with hk8 | rfl
        · have hkn : ((k : Int) == 9) = false := by simp; omega
          have hkl2 : ((k : Int) == (l.length : Int)) = false := by simp; omega
          by_cases hc128 : 128 ≤ c
          · go_wp2
            go_round
            case rel =>
              refine ⟨k + 1, by omega, by omega, by go_num, fun j hj => ?_⟩
              by_cases hjk : j < k
              · exact HJ.out j hjk
              · obtain rfl : j = k := by omega
                rw [← HC.out]; exact hc128
            case measure => first | (simp [intOf]; done) | (simp [intOf]; omega)
          · have hc128' : (c : Int) < 128 := by omega
            have hgeq : ¬ (128 : Int) ≤ (c : Int) := by omega
            by_cases h11 : c = 0 ∧ 0 < k
            · have HE : Hid (dec 0 0 l = (0, 0, 11)) := by
                show _ = _
                rw [HDC.out, if_neg (by omega), if_neg hc128, if_pos h11]
              have hc0 : ((c : Int) == 0) = true := by simp; omega
              have hk0 : (0 : Int) < (k : Int) := by omega
              clear HDC HT HV HJ HBY HCELL HC hc128 h11
              go_wp2
              go_ret3
              exact ⟨by rw [HE.out]; rfl, rfl⟩
            · have HE : Hid (_ = _) := HT.out (by omega) (by omega) h11
              have hval := HV.out (by omega)
              clear HDC HT HV HJ HC hc128
              by_cases hk0 : 0 < k
              · have hc0 : ((c : Int) == 0) = false := by simp; omega
                have hk0' : (0 : Int) < (k : Int) := by omega
                clear h11 hk0
                go_wp2
                go_loop [6, 7] (fun vu vi => ∃ j u : Nat, j ≤ k + 1 ∧ vu = .int .u64 u ∧ u = val7 ((l.take (k + 1)).drop j) ∧ ((j = 0 ∧ vi = .int .i64 (-1)) ∨ ∃ j' : Nat, j = j' + 1 ∧ vi = .int .i64 j')) (fun _ vi => (intOf vi + 1).toNat)
                case atStart => exact ⟨k + 1, 0, Nat.le_refl _, rfl, by rw [List.drop_eq_nil_of_le (by rw [List.length_take]; omega)]; rfl, .inr ⟨k, rfl, rfl⟩⟩
                case round =>
                  obtain ⟨j, u, hjk, rfl, hu, hvi⟩ := hrel
                  have HU : Hid (u = val7 ((l.take (k + 1)).drop j)) := hu
                  clear hu
                  rcases hvi with ⟨rfl, rfl⟩ | ⟨j', rfl, rfl⟩
                  · clear HCELL HBY
                    go_wp2
                    go_ret3
                    rw [HE.out]
                    exact ⟨ret3 (by rw [HU.out]; rfl) rfl rfl, rfl⟩
                  · have hd := HCELL.out j' (by omega)
                    have hd256 := HBY.out j'
                    obtain ⟨d, hdE⟩ : ∃ d, d = l.getD j' 0 := ⟨_, rfl⟩
                    rw [← hdE] at hd hd256
                    have HS : Hid (_ = _) := drop_take_step l k j' d hkl (by omega) hdE
                    have hB1 := val7_drop (l.take (k + 1)) j'
                    rw [HS.out, ← HU.out] at hB1
                    have hB2 : (u : Int) * 128 + (d : Int) % 128 ≤ 18446744073709551615 := by omega
                    have hB3 : (u : Int) * 128 ≤ 18446744073709551615 := by omega
                    have hjl : (j' : Int) < (l.length : Int) := by omega
                    clear hB1 hdE
                    go_wp2
                    go_round
                    case rel =>
                      refine ⟨j', u * 128 + d % 128, by omega, by go_num, by rw [HS.out, ← HU.out]; omega, ?_⟩
                      cases j' with
                      | zero => exact .inl ⟨rfl, rfl⟩
                      | succ j'' => exact .inr ⟨j'', rfl, by go_num⟩
                    case measure => first | (simp [intOf]; done) | (simp [intOf]; omega)
              · have hk0' : ¬ (0 : Int) < (k : Int) := by omega
                clear h11 hk0
                go_wp2
                go_loop [6, 7] (fun vu vi => ∃ j u : Nat, j ≤ k + 1 ∧ vu = .int .u64 u ∧ u = val7 ((l.take (k + 1)).drop j) ∧ ((j = 0 ∧ vi = .int .i64 (-1)) ∨ ∃ j' : Nat, j = j' + 1 ∧ vi = .int .i64 j')) (fun _ vi => (intOf vi + 1).toNat)
                case atStart => exact ⟨k + 1, 0, Nat.le_refl _, rfl, by rw [List.drop_eq_nil_of_le (by rw [List.length_take]; omega)]; rfl, .inr ⟨k, rfl, rfl⟩⟩
                case round =>
                  obtain ⟨j, u, hjk, rfl, hu, hvi⟩ := hrel
                  have HU : Hid (u = val7 ((l.take (k + 1)).drop j)) := hu
                  clear hu
                  rcases hvi with ⟨rfl, rfl⟩ | ⟨j', rfl, rfl⟩
                  · clear HCELL HBY
                    go_wp2
                    go_ret3
                    rw [HE.out]
                    exact ⟨ret3 (by rw [HU.out]; rfl) rfl rfl, rfl⟩
                  · have hd := HCELL.out j' (by omega)
                    have hd256 := HBY.out j'
                    obtain ⟨d, hdE⟩ : ∃ d, d = l.getD j' 0 := ⟨_, rfl⟩
                    rw [← hdE] at hd hd256
                    have HS : Hid (_ = _) := drop_take_step l k j' d hkl (by omega) hdE
                    have hB1 := val7_drop (l.take (k + 1)) j'
                    rw [HS.out, ← HU.out] at hB1
                    have hB2 : (u : Int) * 128 + (d : Int) % 128 ≤ 18446744073709551615 := by omega
                    have hB3 : (u : Int) * 128 ≤ 18446744073709551615 := by omega
                    have hjl : (j' : Int) < (l.length : Int) := by omega
                    clear hB1 hdE
                    go_wp2
                    go_round
                    case rel =>
                      refine ⟨j', u * 128 + d % 128, by omega, by go_num, by rw [HS.out, ← HU.out]; omega, ?_⟩
                      cases j' with
                      | zero => exact .inl ⟨rfl, rfl⟩
                      | succ j'' => exact .inr ⟨j'', rfl, by go_num⟩
                    case measure => first | (simp [intOf]; done) | (simp [intOf]; omega)
        · have hkl2 : ((9 : Int) == (l.length : Int)) = false := by simp; omega
          by_cases hc1 : 1 < c
          · have HE : Hid (dec 0 0 l = (0, 0, 12)) := by
              show _ = _
              rw [HDC.out, if_pos ⟨rfl, hc1⟩]
            have hc1' : (1 : Int) < (c : Int) := by omega
            clear HDC HT HV HJ HBY HCELL HC hc1
            go_wp2
            go_ret3
            exact ⟨by rw [HE.out]; rfl, rfl⟩
          · have hc1' : ¬ (1 : Int) < (c : Int) := by omega
            by_cases h11 : c = 0
            · have HE : Hid (dec 0 0 l = (0, 0, 11)) := by
                show _ = _
                rw [HDC.out, if_neg (by omega), if_neg (by omega), if_pos (by omega)]
              have hc0 : ((c : Int) == 0) = true := by simp; omega
              clear HDC HT HV HJ HBY HCELL HC hc1 h11
              go_wp2
              go_ret3
              exact ⟨by rw [HE.out]; rfl, rfl⟩
            · have HE : Hid (_ = _) := HT.out (by omega) (by omega) (by omega)
              have hval := HV.out (by omega)
              have hc0 : ((c : Int) == 0) = false := by simp; omega
              clear HDC HT HV HJ HC hc1 h11
              go_wp2
              go_loop [6, 7] (fun vu vi => ∃ j u : Nat, j ≤ 9 + 1 ∧ vu = .int .u64 u ∧ u = val7 ((l.take (9 + 1)).drop j) ∧ ((j = 0 ∧ vi = .int .i64 (-1)) ∨ ∃ j' : Nat, j = j' + 1 ∧ vi = .int .i64 j')) (fun _ vi => (intOf vi + 1).toNat)
              case atStart => exact ⟨9 + 1, 0, Nat.le_refl _, rfl, by rw [List.drop_eq_nil_of_le (by rw [List.length_take]; omega)]; rfl, .inr ⟨9, rfl, rfl⟩⟩
              case round =>
                obtain ⟨j, u, hjk, rfl, hu, hvi⟩ := hrel
                have HU : Hid (u = val7 ((l.take (9 + 1)).drop j)) := hu
                clear hu
                rcases hvi with ⟨rfl, rfl⟩ | ⟨j', rfl, rfl⟩
                · clear HCELL HBY
                  go_wp2
                  go_ret3
                  rw [HE.out]
                  exact ⟨ret3 (by rw [HU.out]; rfl) rfl rfl, rfl⟩
                · have hd := HCELL.out j' (by omega)
                  have hd256 := HBY.out j'
                  obtain ⟨d, hdE⟩ : ∃ d, d = l.getD j' 0 := ⟨_, rfl⟩
                  rw [← hdE] at hd hd256
                  have HS : Hid (_ = _) := drop_take_step l 9 j' d hkl (by omega) hdE
                  have hB1 := val7_drop (l.take (9 + 1)) j'
                  rw [HS.out, ← HU.out] at hB1
                  have hB2 : (u : Int) * 128 + (d : Int) % 128 ≤ 18446744073709551615 := by omega
                  have hB3 : (u : Int) * 128 ≤ 18446744073709551615 := by omega
                  have hjl : (j' : Int) < (l.length : Int) := by omega
                  clear hB1 hdE
                  go_wp2
                  go_round
                  case rel =>
                    refine ⟨j', u * 128 + d % 128, by omega, by go_num, by rw [HS.out, ← HU.out]; omega, ?_⟩
                    cases j' with
                    | zero => exact .inl ⟨rfl, rfl⟩
                    | succ j'' => exact .inr ⟨j'', rfl, by go_num⟩
                  case measure => first | (simp [intOf]; done) | (simp [intOf]; omega)
      · have hkl2 : ((k : Int) == (l.length : Int)) = true := by simp; omega
        have HE : Hid (dec 0 0 l = (0, 0, 10)) := by
          show _ = _
          rw [HD.out, List.drop_eq_nil_of_le (by omega)]; rfl
        clear HD HJ hcell hby HBY HCELL
        go_wp2
        go_ret3
        exact ⟨by rw [HE.out]; rfl, rfl⟩
theorem rdec_at (l : List Nat) (n u k e : Nat) (a : Option Addr) (cap : Nat) (w : World) (e1 : l.length = n) (hd : dec 0 0 l = (u, k, e)) (hb : Bytes w a l) (hl : l.length ≤ maxLen) :
    Calls Tryz.prog 28 #[.slice a n cap] w fun x w' => x = .returned (.tuple #[.int .u64 u, .int .i64 k, .int .i64 e]) ∧ w = w' := by
  subst e1
  refine (rdec_any l a cap w hb hl).mono ?_
  rw [hd]
  exact fun _ _ h => h
end Go.Proofs.YtfcgcpfckbmgnaaGreat
namespace Go.Proofs.YtfcgcpfckbmgnaaGreat
open Go.ChangeShapes Go.WideShapes Go.ChangeAt Go.RowKit
set_option linter.unusedVariables false
theorem results_fld3 {fn : Func} {p u v : Tmp} (h : fn.results = #[.cell p 48, .tmp u, .tmp v]) (tmps : Array Value) (w : World) (k : Nat) {tag : Int} {text : Bool} {num : Nat} {bv x y : Value} (hp : tmps.getD p undef = .pointer (some ⟨k, 0, none⟩)) (hx : tmps.getD u undef = x) (hy : tmps.getD v undef = y) (hl : FldAt w k tag text num bv) :
    (results fn tmps).run Tryz.prog w = .ok (.tuple #[FV tag text num bv, x, y]) w := by
  simp only [Array.getD_eq_getD_getElem?] at hp hx hy
  simp [results, h, hp, hx, hy, asAddr, hl.loadVar]
/-- what holds when Next is entered: its result and none lie in blocks of their own -/
structure Rin (w W : World) (a : Option Addr) (l : List Nat) : Prop where
  res : FldAt W w.heap.size 0 false 0 (.slice none 0 0)
  non : FldAt W (w.heap.size + 1) 0 false 0 (.slice none 0 0)
  byt : Bytes W a l
  bel : Below w.heap.size w W
theorem rin_of {w : World} {a : Option Addr} {l : List Nat} (hb : Bytes w a l) : ∃ W, (w.alloc (.cells #[.int .i64 0, .bool false, .int .u64 0, .slice none 0 0] 48)).alloc (.cells #[.int .i64 0, .bool false, .int .u64 0, .slice none 0 0] 48) = W ∧ Rin w W a l := by
  have h1 : Below w.heap.size w (w.alloc (.cells #[.int .i64 0, .bool false, .int .u64 0, .slice none 0 0] 48)) := (Below.refl _ _).alloc (Nat.le_refl _) _
  have h2 : Below (w.alloc (.cells #[.int .i64 0, .bool false, .int .u64 0, .slice none 0 0] 48)).heap.size (w.alloc (.cells #[.int .i64 0, .bool false, .int .u64 0, .slice none 0 0] 48)) ((w.alloc (.cells #[.int .i64 0, .bool false, .int .u64 0, .slice none 0 0] 48)).alloc (.cells #[.int .i64 0, .bool false, .int .u64 0, .slice none 0 0] 48)) := (Below.refl _ _).alloc (Nat.le_refl _) _
  refine ⟨_, rfl, (FldAt.new w 0 false 0 _).keep h2, ?_, (hb.keep h1).keep h2, h1.trans (h2.mono h1.size)⟩
  have h := FldAt.new (w.alloc (.cells #[.int .i64 0, .bool false, .int .u64 0, .slice none 0 0] 48)) 0 false 0 (.slice none 0 0)
  simpa using h
theorem Rin.end {w W w5 : World} {a : Option Addr} {l : List Nat} (h : Rin w W a l) (ho : w5.os = W.os ∧ w5.tape = W.tape ∧ w5.output = W.output) (hk : ∀ j, j ≠ w.heap.size → w5.heap[j]? = W.heap[j]?) (hs : w5.heap.size = W.heap.size) : Below w.heap.size w w5 :=
  ⟨ho.1.trans h.bel.os, ho.2.1.trans h.bel.tape, ho.2.2.trans h.bel.output, by rw [hs]; exact h.bel.size, fun k hk2 => (hk k (by omega)).trans (h.bel.block k hk2)⟩
set_option maxRecDepth 20000 in
set_option maxHeartbeats 1000000 in
theorem rnext_bad1 (l : List Nat) (a : Option Addr) (n cap e : Nat) (last : Int) (w : World) (hn : l.length = n) (hb : Bytes w a l) (hcap : n ≤ cap) (hl : n ≤ 1024) (he : e ≠ 0) (hd : dec 0 0 l = (0, 0, e)) :
    Calls Tryz.prog 27 #[.slice a n cap, .int .i64 last] w fun r w' => r = .returned (.tuple #[FV 0 false 0 (.slice none 0 0), .int .i64 0, .int .i64 (e : Int)]) ∧ Below w.heap.size w w' := by
  obtain ⟨W, hW, hR⟩ := rin_of hb
  have HW : Hid (_ = W) := hW
  have HR : Hid (Rin w W a l) := hR
  have HN : Hid (l.length = n) := hn
  have HD : Hid (_) := hd
  have hlm : l.length ≤ maxLen := by unfold maxLen; omega
  have T1 : Hid True := trivial
  clear hb hn hd hW hR
  have heb : ((e : Int) != 0) = true := by simp; omega
  go_enter Tryz.func27, Tryz.ntmps27
  go_wp2_with (first
    | (go_at_call 28; clear T1; rw [HW.out]; refine (rdec_at l n 0 0 e a cap W HN.out HD.out HR.out.byt hlm).mono ?_; rintro x w1 ⟨rfl, hw1⟩; subst hw1)
    | ((with_reducible refine guard_load 48 ?_); refine wpList_load_fld rfl _ rfl HR.out.non rfl ?_)
    | ((with_reducible refine guard_store 48 ?_); refine wpList_store_fld rfl _ _ rfl (k := w.heap.size) (num2 := 0) HR.out.res rfl rfl rfl ?_; intro w5 hf5 hos5 hk5 hs5))
  all_goals
    refine bodyPost_ret (results_fld3 rfl _ _ _ rfl rfl rfl hf5) rfl ?_
    exact ⟨rfl, HR.out.end hos5 hk5 hs5⟩
set_option maxRecDepth 20000 in
set_option maxHeartbeats 1000000 in
theorem rnext_tagA (l : List Nat) (b off : Nat) (n cap k n1 : Nat) (last : Int) (w : World) (hn : l.length = n) (hb : Bytes w (some ⟨b, off, none⟩) l) (hcap : n ≤ cap) (hl : n ≤ 1024) (hd : dec 0 0 l = (k, n1, 0)) (hk : k < 2) :
    Calls Tryz.prog 27 #[.slice (some ⟨b, off, none⟩) n cap, .int .i64 last] w fun r w' => r = .returned (.tuple #[FV 0 false 0 (.slice none 0 0), .int .i64 0, .int .i64 20]) ∧ Below w.heap.size w w' := by
  obtain ⟨W, hW, hR⟩ := rin_of hb
  have HW : Hid (_ = W) := hW
  have HR : Hid (Rin w W (some ⟨b, off, none⟩) l) := hR
  have HN : Hid (l.length = n) := hn
  have HD : Hid (_) := hd
  have hlm : l.length ≤ maxLen := by unfold maxLen; omega
  have T1 : Hid True := trivial
  clear hb hn hd hW hR
  go_enter Tryz.func27, Tryz.ntmps27
  go_wp2_with (first
    | (go_at_call 28; clear T1; rw [HW.out]; refine (rdec_at l n k n1 0 (some ⟨b, off, none⟩) cap W HN.out HD.out HR.out.byt hlm).mono ?_; rintro x w1 ⟨rfl, hw1⟩; subst hw1)
    | ((with_reducible refine guard_load 48 ?_); refine wpList_load_fld rfl _ rfl HR.out.non rfl ?_)
    | ((with_reducible refine guard_store 48 ?_); refine wpList_store_fld rfl _ _ rfl (k := w.heap.size) (num2 := 0) HR.out.res rfl rfl rfl ?_; intro w5 hf5 hos5 hk5 hs5))
  all_goals
    refine bodyPost_ret (results_fld3 rfl _ _ _ rfl rfl rfl hf5) rfl ?_
    exact ⟨rfl, HR.out.end hos5 hk5 hs5⟩
set_option maxRecDepth 20000 in
set_option maxHeartbeats 1000000 in
theorem rnext_tagB (l : List Nat) (b off : Nat) (n cap k n1 : Nat) (last : Int) (w : World) (hn : l.length = n) (hb : Bytes w (some ⟨b, off, none⟩) l) (hcap : n ≤ cap) (hl : n ≤ 1024) (hd : dec 0 0 l = (k, n1, 0)) (hk : 63 < k) (hk2 : k ≤ 18446744073709551615) :
    Calls Tryz.prog 27 #[.slice (some ⟨b, off, none⟩) n cap, .int .i64 last] w fun r w' => r = .returned (.tuple #[FV 0 false 0 (.slice none 0 0), .int .i64 0, .int .i64 20]) ∧ Below w.heap.size w w' := by
  obtain ⟨W, hW, hR⟩ := rin_of hb
  have HW : Hid (_ = W) := hW
  have HR : Hid (Rin w W (some ⟨b, off, none⟩) l) := hR
  have HN : Hid (l.length = n) := hn
  have HD : Hid (_) := hd
  have hlm : l.length ≤ maxLen := by unfold maxLen; omega
  have T1 : Hid True := trivial
  clear hb hn hd hW hR
  go_enter Tryz.func27, Tryz.ntmps27
  go_wp2_with (first
    | (go_at_call 28; clear T1; rw [HW.out]; refine (rdec_at l n k n1 0 (some ⟨b, off, none⟩) cap W HN.out HD.out HR.out.byt hlm).mono ?_; rintro x w1 ⟨rfl, hw1⟩; subst hw1)
    | ((with_reducible refine guard_load 48 ?_); refine wpList_load_fld rfl _ rfl HR.out.non rfl ?_)
    | ((with_reducible refine guard_store 48 ?_); refine wpList_store_fld rfl _ _ rfl (k := w.heap.size) (num2 := 0) HR.out.res rfl rfl rfl ?_; intro w5 hf5 hos5 hk5 hs5))
  all_goals
    refine bodyPost_ret (results_fld3 rfl _ _ _ rfl rfl rfl hf5) rfl ?_
    exact ⟨rfl, HR.out.end hos5 hk5 hs5⟩
set_option maxRecDepth 20000 in
set_option maxHeartbeats 1000000 in
theorem rnext_ord (l : List Nat) (b off : Nat) (n cap k n1 T : Nat) (last : Int) (w : World) (hn : l.length = n) (hb : Bytes w (some ⟨b, off, none⟩) l) (hcap : n ≤ cap) (hl : n ≤ 1024) (hd : dec 0 0 l = (k, n1, 0)) (hk : 2 ≤ k) (hk2 : k ≤ 63) (hTk : (k : Int) / 2 = (T : Int)) (ho : (T : Int) ≤ last) :
    Calls Tryz.prog 27 #[.slice (some ⟨b, off, none⟩) n cap, .int .i64 last] w fun r w' => r = .returned (.tuple #[FV 0 false 0 (.slice none 0 0), .int .i64 0, .int .i64 21]) ∧ Below w.heap.size w w' := by
  obtain ⟨W, hW, hR⟩ := rin_of hb
  have HW : Hid (_ = W) := hW
  have HR : Hid (Rin w W (some ⟨b, off, none⟩) l) := hR
  have HN : Hid (l.length = n) := hn
  have HD : Hid (_) := hd
  have hlm : l.length ≤ maxLen := by unfold maxLen; omega
  have T1 : Hid True := trivial
  clear hb hn hd hW hR
  go_enter Tryz.func27, Tryz.ntmps27
  go_wp2_with (first
    | (go_at_call 28; clear T1; rw [HW.out]; refine (rdec_at l n k n1 0 (some ⟨b, off, none⟩) cap W HN.out HD.out HR.out.byt hlm).mono ?_; rintro x w1 ⟨rfl, hw1⟩; subst hw1)
    | ((with_reducible refine guard_load 48 ?_); refine wpList_load_fld rfl _ rfl HR.out.non rfl ?_)
    | ((with_reducible refine guard_store 48 ?_); refine wpList_store_fld rfl _ _ rfl (k := w.heap.size) (num2 := 0) HR.out.res rfl rfl rfl ?_; intro w5 hf5 hos5 hk5 hs5))
  all_goals
    refine bodyPost_ret (results_fld3 rfl _ _ _ rfl rfl rfl hf5) rfl ?_
    exact ⟨rfl, HR.out.end hos5 hk5 hs5⟩
set_option maxRecDepth 20000 in
set_option maxHeartbeats 1000000 in
theorem rnext_bad2 (l : List Nat) (b off : Nat) (n cap k n1 T e : Nat) (last : Int) (w : World) (hn : l.length = n) (hb : Bytes w (some ⟨b, off, none⟩) l) (hcap : n ≤ cap) (hl : n ≤ 1024) (hd : dec 0 0 l = (k, n1, 0)) (hk : 2 ≤ k) (hk2 : k ≤ 63) (hTk : (k : Int) / 2 = (T : Int)) (hna : ¬ (T : Int) ≤ last) (hlt : n1 < n) (he : e ≠ 0) (hd2 : dec 0 0 (l.drop n1) = (0, 0, e)) :
    Calls Tryz.prog 27 #[.slice (some ⟨b, off, none⟩) n cap, .int .i64 last] w fun r w' => r = .returned (.tuple #[FV 0 false 0 (.slice none 0 0), .int .i64 0, .int .i64 (e : Int)]) ∧ Below w.heap.size w w' := by
  obtain ⟨W, hW, hR⟩ := rin_of hb
  have HW : Hid (_ = W) := hW
  have HR : Hid (Rin w W (some ⟨b, off, none⟩) l) := hR
  have HN : Hid (l.length = n) := hn
  have HD : Hid (_) := hd
  have hlm : l.length ≤ maxLen := by unfold maxLen; omega
  have T1 : Hid True := trivial
  clear hb hn hd hW hR
  have HD2 : Hid (_) := hd2
  have hn1I : (n1 : Int) ≤ (n : Int) := by omega
  have hn1c : (n1 : Int) ≤ (cap : Int) := by omega
  have hn0 : (0 : Int) ≤ (n1 : Int) := by omega
  have hnI : (n : Int) ≤ 1024 := by omega
  have HL2 : Hid ((l.drop n1).length = n - n1) := by show _ = _; rw [List.length_drop, HN.out]
  have HM2 : Hid ((l.drop n1).length ≤ maxLen) := by show _ ≤ _; rw [HL2.out]; unfold maxLen; omega
  have HB2 : Hid (Bytes W (some ⟨b, off + n1, none⟩) (l.drop n1)) := HR.out.byt.drop n1
  clear hd2
  have hcn : ¬ cap = n1 := by omega
  have heb : ((e : Int) != 0) = true := by simp; omega
  go_enter Tryz.func27, Tryz.ntmps27
  go_wp2_with (first
    | (go_at_call 28; clear T1; rw [HW.out]; refine (rdec_at l n k n1 0 (some ⟨b, off, none⟩) cap W HN.out HD.out HR.out.byt hlm).mono ?_; rintro x w1 ⟨rfl, hw1⟩; subst hw1)
    | (go_at_call 28; refine (rdec_at (l.drop n1) _ 0 0 e _ _ W HL2.out HD2.out HB2.out HM2.out).mono ?_; rintro x w2 ⟨rfl, hw2⟩; subst hw2)
    | ((with_reducible refine guard_load 48 ?_); refine wpList_load_fld rfl _ rfl HR.out.non rfl ?_)
    | ((with_reducible refine guard_store 48 ?_); refine wpList_store_fld rfl _ _ rfl (k := w.heap.size) (num2 := 0) HR.out.res rfl rfl rfl ?_; intro w5 hf5 hos5 hk5 hs5))
  all_goals
    refine bodyPost_ret (results_fld3 rfl _ _ _ rfl rfl rfl hf5) rfl ?_
    exact ⟨rfl, HR.out.end hos5 hk5 hs5⟩
set_option maxRecDepth 20000 in
set_option maxHeartbeats 1000000 in
theorem rnext_bad2e (l : List Nat) (b off : Nat) (n cap k T : Nat) (last : Int) (w : World) (hn : l.length = n) (hb : Bytes w (some ⟨b, off, none⟩) l) (hcap : n ≤ cap) (hl : n ≤ 1024) (hd : dec 0 0 l = (k, n, 0)) (hk : 2 ≤ k) (hk2 : k ≤ 63) (hTk : (k : Int) / 2 = (T : Int)) (hna : ¬ (T : Int) ≤ last) :
    Calls Tryz.prog 27 #[.slice (some ⟨b, off, none⟩) n cap, .int .i64 last] w fun r w' => r = .returned (.tuple #[FV 0 false 0 (.slice none 0 0), .int .i64 0, .int .i64 10]) ∧ Below w.heap.size w w' := by
  obtain ⟨W, hW, hR⟩ := rin_of hb
  have HW : Hid (_ = W) := hW
  have HR : Hid (Rin w W (some ⟨b, off, none⟩) l) := hR
  have HN : Hid (l.length = n) := hn
  have HD : Hid (_) := hd
  have hlm : l.length ≤ maxLen := by unfold maxLen; omega
  have T1 : Hid True := trivial
  clear hb hn hd hW hR
  have hn1c : (n : Int) ≤ (cap : Int) := by omega
  have hnI : (n : Int) ≤ 1024 := by omega
  go_enter Tryz.func27, Tryz.ntmps27
  go_wp2_with (first
    | (go_at_call 28; clear T1; rw [HW.out]; refine (rdec_at l n k n 0 (some ⟨b, off, none⟩) cap W HN.out HD.out HR.out.byt hlm).mono ?_; rintro x w1 ⟨rfl, hw1⟩; subst hw1)
    | (go_at_call 28; refine (rdec_at [] _ 0 0 10 _ _ W (by simp; try omega) rfl (Bytes.none _ _) (by simp)).mono ?_; rintro x w2 ⟨rfl, hw2⟩; subst hw2)
    | ((with_reducible refine guard_load 48 ?_); refine wpList_load_fld rfl _ rfl HR.out.non rfl ?_)
    | ((with_reducible refine guard_store 48 ?_); refine wpList_store_fld rfl _ _ rfl (k := w.heap.size) (num2 := 0) HR.out.res rfl rfl rfl ?_; intro w5 hf5 hos5 hk5 hs5))
  all_goals
    refine bodyPost_ret (results_fld3 rfl _ _ _ rfl rfl rfl hf5) rfl ?_
    exact ⟨rfl, HR.out.end hos5 hk5 hs5⟩
set_option maxRecDepth 20000 in
set_option maxHeartbeats 1000000 in
theorem rnext_zero (l : List Nat) (b off : Nat) (n cap k n1 T m : Nat) (last : Int) (w : World) (hn : l.length = n) (hb : Bytes w (some ⟨b, off, none⟩) l) (hcap : n ≤ cap) (hl : n ≤ 1024) (hd : dec 0 0 l = (k, n1, 0)) (hk : 2 ≤ k) (hk2 : k ≤ 63) (hTk : (k : Int) / 2 = (T : Int)) (hna : ¬ (T : Int) ≤ last) (hlt : n1 < n) (hd2 : dec 0 0 (l.drop n1) = (0, m, 0)) :
    Calls Tryz.prog 27 #[.slice (some ⟨b, off, none⟩) n cap, .int .i64 last] w fun r w' => r = .returned (.tuple #[FV 0 false 0 (.slice none 0 0), .int .i64 0, .int .i64 22]) ∧ Below w.heap.size w w' := by
  obtain ⟨W, hW, hR⟩ := rin_of hb
  have HW : Hid (_ = W) := hW
  have HR : Hid (Rin w W (some ⟨b, off, none⟩) l) := hR
  have HN : Hid (l.length = n) := hn
  have HD : Hid (_) := hd
  have hlm : l.length ≤ maxLen := by unfold maxLen; omega
  have T1 : Hid True := trivial
  clear hb hn hd hW hR
  have HD2 : Hid (_) := hd2
  have hn1I : (n1 : Int) ≤ (n : Int) := by omega
  have hn1c : (n1 : Int) ≤ (cap : Int) := by omega
  have hn0 : (0 : Int) ≤ (n1 : Int) := by omega
  have hnI : (n : Int) ≤ 1024 := by omega
  have HL2 : Hid ((l.drop n1).length = n - n1) := by show _ = _; rw [List.length_drop, HN.out]
  have HM2 : Hid ((l.drop n1).length ≤ maxLen) := by show _ ≤ _; rw [HL2.out]; unfold maxLen; omega
  have HB2 : Hid (Bytes W (some ⟨b, off + n1, none⟩) (l.drop n1)) := HR.out.byt.drop n1
  clear hd2
  have hcn : ¬ cap = n1 := by omega
  go_enter Tryz.func27, Tryz.ntmps27
  go_wp2_with (first
    | (go_at_call 28; clear T1; rw [HW.out]; refine (rdec_at l n k n1 0 (some ⟨b, off, none⟩) cap W HN.out HD.out HR.out.byt hlm).mono ?_; rintro x w1 ⟨rfl, hw1⟩; subst hw1)
    | (go_at_call 28; refine (rdec_at (l.drop n1) _ 0 m 0 _ _ W HL2.out HD2.out HB2.out HM2.out).mono ?_; rintro x w2 ⟨rfl, hw2⟩; subst hw2)
    | ((with_reducible refine guard_load 48 ?_); refine wpList_load_fld rfl _ rfl HR.out.non rfl ?_)
    | ((with_reducible refine guard_store 48 ?_); refine wpList_store_fld rfl _ _ rfl (k := w.heap.size) (num2 := 0) HR.out.res rfl rfl rfl ?_; intro w5 hf5 hos5 hk5 hs5))
  all_goals
    refine bodyPost_ret (results_fld3 rfl _ _ _ rfl rfl rfl hf5) rfl ?_
    exact ⟨rfl, HR.out.end hos5 hk5 hs5⟩
set_option maxRecDepth 20000 in
set_option maxHeartbeats 1000000 in
theorem rnext_num (l : List Nat) (b off : Nat) (n cap k n1 T u m : Nat) (last : Int) (w : World) (hn : l.length = n) (hb : Bytes w (some ⟨b, off, none⟩) l) (hcap : n ≤ cap) (hl : n ≤ 1024) (hd : dec 0 0 l = (k, n1, 0)) (hk : 2 ≤ k) (hk2 : k ≤ 63) (hTk : (k : Int) / 2 = (T : Int)) (hna : ¬ (T : Int) ≤ last) (hlt : n1 < n) (hd2 : dec 0 0 (l.drop n1) = (u, m, 0)) (hu : u ≠ 0) (hu2 : u ≤ 18446744073709551615) (hm : n1 + m ≤ n) (hp : ((k : Int) % 2 == 0) = true) :
    Calls Tryz.prog 27 #[.slice (some ⟨b, off, none⟩) n cap, .int .i64 last] w fun r w' => r = .returned (.tuple #[FV T false u (.slice none 0 0), .int .i64 ((n1 + m : Nat) : Int), .int .i64 0]) ∧ Below w.heap.size w w' := by
  obtain ⟨W, hW, hR⟩ := rin_of hb
  have HW : Hid (_ = W) := hW
  have HR : Hid (Rin w W (some ⟨b, off, none⟩) l) := hR
  have HN : Hid (l.length = n) := hn
  have HD : Hid (_) := hd
  have hlm : l.length ≤ maxLen := by unfold maxLen; omega
  have T1 : Hid True := trivial
  clear hb hn hd hW hR
  have HD2 : Hid (_) := hd2
  have hn1I : (n1 : Int) ≤ (n : Int) := by omega
  have hn1c : (n1 : Int) ≤ (cap : Int) := by omega
  have hn0 : (0 : Int) ≤ (n1 : Int) := by omega
  have hnI : (n : Int) ≤ 1024 := by omega
  have HL2 : Hid ((l.drop n1).length = n - n1) := by show _ = _; rw [List.length_drop, HN.out]
  have HM2 : Hid ((l.drop n1).length ≤ maxLen) := by show _ ≤ _; rw [HL2.out]; unfold maxLen; omega
  have HB2 : Hid (Bytes W (some ⟨b, off + n1, none⟩) (l.drop n1)) := HR.out.byt.drop n1
  clear hd2
  have hcn : ¬ cap = n1 := by omega
  have hub : ((u : Int) == 0) = false := by simp; omega
  have hmI : (n1 : Int) + (m : Int) ≤ (n : Int) := by omega
  go_enter Tryz.func27, Tryz.ntmps27
  go_wp2_with (first
    | (go_at_call 28; clear T1; rw [HW.out]; refine (rdec_at l n k n1 0 (some ⟨b, off, none⟩) cap W HN.out HD.out HR.out.byt hlm).mono ?_; rintro x w1 ⟨rfl, hw1⟩; subst hw1)
    | (go_at_call 28; refine (rdec_at (l.drop n1) _ u m 0 _ _ W HL2.out HD2.out HB2.out HM2.out).mono ?_; rintro x w2 ⟨rfl, hw2⟩; subst hw2)
    | ((with_reducible refine guard_store 48 ?_); refine wpList_store_fld rfl _ _ rfl (k := w.heap.size) (num2 := u) HR.out.res rfl rfl rfl ?_; intro w5 hf5 hos5 hk5 hs5))
  exact bodyPost_ret (results_fld3 rfl _ _ _ rfl rfl rfl hf5) rfl ⟨rfl, HR.out.end hos5 hk5 hs5⟩
set_option maxRecDepth 20000 in
set_option maxHeartbeats 1000000 in
theorem rnext_long (l : List Nat) (b off : Nat) (n cap k n1 T u m : Nat) (last : Int) (w : World) (hn : l.length = n) (hb : Bytes w (some ⟨b, off, none⟩) l) (hcap : n ≤ cap) (hl : n ≤ 1024) (hd : dec 0 0 l = (k, n1, 0)) (hk : 2 ≤ k) (hk2 : k ≤ 63) (hTk : (k : Int) / 2 = (T : Int)) (hna : ¬ (T : Int) ≤ last) (hlt : n1 < n) (hd2 : dec 0 0 (l.drop n1) = (u, m, 0)) (hu : u ≠ 0) (hu2 : u ≤ 18446744073709551615) (hm : n1 + m ≤ n) (hp : ((k : Int) % 2 == 0) = false) (h200 : 200 < u) :
    Calls Tryz.prog 27 #[.slice (some ⟨b, off, none⟩) n cap, .int .i64 last] w fun r w' => r = .returned (.tuple #[FV 0 false 0 (.slice none 0 0), .int .i64 0, .int .i64 23]) ∧ Below w.heap.size w w' := by
  obtain ⟨W, hW, hR⟩ := rin_of hb
  have HW : Hid (_ = W) := hW
  have HR : Hid (Rin w W (some ⟨b, off, none⟩) l) := hR
  have HN : Hid (l.length = n) := hn
  have HD : Hid (_) := hd
  have hlm : l.length ≤ maxLen := by unfold maxLen; omega
  have T1 : Hid True := trivial
  clear hb hn hd hW hR
  have HD2 : Hid (_) := hd2
  have hn1I : (n1 : Int) ≤ (n : Int) := by omega
  have hn1c : (n1 : Int) ≤ (cap : Int) := by omega
  have hn0 : (0 : Int) ≤ (n1 : Int) := by omega
  have hnI : (n : Int) ≤ 1024 := by omega
  have HL2 : Hid ((l.drop n1).length = n - n1) := by show _ = _; rw [List.length_drop, HN.out]
  have HM2 : Hid ((l.drop n1).length ≤ maxLen) := by show _ ≤ _; rw [HL2.out]; unfold maxLen; omega
  have HB2 : Hid (Bytes W (some ⟨b, off + n1, none⟩) (l.drop n1)) := HR.out.byt.drop n1
  clear hd2
  have hcn : ¬ cap = n1 := by omega
  have hub : ((u : Int) == 0) = false := by simp; omega
  have hmI : (n1 : Int) + (m : Int) ≤ (n : Int) := by omega
  go_enter Tryz.func27, Tryz.ntmps27
  go_wp2_with (first
    | (go_at_call 28; clear T1; rw [HW.out]; refine (rdec_at l n k n1 0 (some ⟨b, off, none⟩) cap W HN.out HD.out HR.out.byt hlm).mono ?_; rintro x w1 ⟨rfl, hw1⟩; subst hw1)
    | (go_at_call 28; refine (rdec_at (l.drop n1) _ u m 0 _ _ W HL2.out HD2.out HB2.out HM2.out).mono ?_; rintro x w2 ⟨rfl, hw2⟩; subst hw2)
    | ((with_reducible refine guard_load 48 ?_); refine wpList_load_fld rfl _ rfl HR.out.non rfl ?_)
    | ((with_reducible refine guard_store 48 ?_); refine wpList_store_fld rfl _ _ rfl (k := w.heap.size) (num2 := 0) HR.out.res rfl rfl rfl ?_; intro w5 hf5 hos5 hk5 hs5))
  all_goals
    refine bodyPost_ret (results_fld3 rfl _ _ _ rfl rfl rfl hf5) rfl ?_
    exact ⟨rfl, HR.out.end hos5 hk5 hs5⟩
set_option maxRecDepth 20000 in
set_option maxHeartbeats 1000000 in
theorem rnext_short (l : List Nat) (b off : Nat) (n cap k n1 T u m : Nat) (last : Int) (w : World) (hn : l.length = n) (hb : Bytes w (some ⟨b, off, none⟩) l) (hcap : n ≤ cap) (hl : n ≤ 1024) (hd : dec 0 0 l = (k, n1, 0)) (hk : 2 ≤ k) (hk2 : k ≤ 63) (hTk : (k : Int) / 2 = (T : Int)) (hna : ¬ (T : Int) ≤ last) (hlt : n1 < n) (hd2 : dec 0 0 (l.drop n1) = (u, m, 0)) (hu : u ≠ 0) (hu2 : u ≤ 18446744073709551615) (hm : n1 + m ≤ n) (hp : ((k : Int) % 2 == 0) = false) (h200 : ¬ 200 < u) (hsh : n < n1 + m + u) :
    Calls Tryz.prog 27 #[.slice (some ⟨b, off, none⟩) n cap, .int .i64 last] w fun r w' => r = .returned (.tuple #[FV 0 false 0 (.slice none 0 0), .int .i64 0, .int .i64 10]) ∧ Below w.heap.size w w' := by
  obtain ⟨W, hW, hR⟩ := rin_of hb
  have HW : Hid (_ = W) := hW
  have HR : Hid (Rin w W (some ⟨b, off, none⟩) l) := hR
  have HN : Hid (l.length = n) := hn
  have HD : Hid (_) := hd
  have hlm : l.length ≤ maxLen := by unfold maxLen; omega
  have T1 : Hid True := trivial
  clear hb hn hd hW hR
  have HD2 : Hid (_) := hd2
  have hn1I : (n1 : Int) ≤ (n : Int) := by omega
  have hn1c : (n1 : Int) ≤ (cap : Int) := by omega
  have hn0 : (0 : Int) ≤ (n1 : Int) := by omega
  have hnI : (n : Int) ≤ 1024 := by omega
  have HL2 : Hid ((l.drop n1).length = n - n1) := by show _ = _; rw [List.length_drop, HN.out]
  have HM2 : Hid ((l.drop n1).length ≤ maxLen) := by show _ ≤ _; rw [HL2.out]; unfold maxLen; omega
  have HB2 : Hid (Bytes W (some ⟨b, off + n1, none⟩) (l.drop n1)) := HR.out.byt.drop n1
  clear hd2
  have hcn : ¬ cap = n1 := by omega
  have hub : ((u : Int) == 0) = false := by simp; omega
  have hmI : (n1 : Int) + (m : Int) ≤ (n : Int) := by omega
  have hshI : (n : Int) - (n1 : Int) - (m : Int) < (u : Int) := by omega
  go_enter Tryz.func27, Tryz.ntmps27
  go_wp2_with (first
    | (go_at_call 28; clear T1; rw [HW.out]; refine (rdec_at l n k n1 0 (some ⟨b, off, none⟩) cap W HN.out HD.out HR.out.byt hlm).mono ?_; rintro x w1 ⟨rfl, hw1⟩; subst hw1)
    | (go_at_call 28; refine (rdec_at (l.drop n1) _ u m 0 _ _ W HL2.out HD2.out HB2.out HM2.out).mono ?_; rintro x w2 ⟨rfl, hw2⟩; subst hw2)
    | ((with_reducible refine guard_load 48 ?_); refine wpList_load_fld rfl _ rfl HR.out.non rfl ?_)
    | ((with_reducible refine guard_store 48 ?_); refine wpList_store_fld rfl _ _ rfl (k := w.heap.size) (num2 := 0) HR.out.res rfl rfl rfl ?_; intro w5 hf5 hos5 hk5 hs5))
  all_goals
    refine bodyPost_ret (results_fld3 rfl _ _ _ rfl rfl rfl hf5) rfl ?_
    exact ⟨rfl, HR.out.end hos5 hk5 hs5⟩
set_option maxRecDepth 20000 in
set_option maxHeartbeats 1000000 in
theorem rnext_text (l : List Nat) (b off : Nat) (n cap k n1 T u m : Nat) (last : Int) (w : World) (hn : l.length = n) (hb : Bytes w (some ⟨b, off, none⟩) l) (hcap : n ≤ cap) (hl : n ≤ 1024) (hd : dec 0 0 l = (k, n1, 0)) (hk : 2 ≤ k) (hk2 : k ≤ 63) (hTk : (k : Int) / 2 = (T : Int)) (hna : ¬ (T : Int) ≤ last) (hlt : n1 < n) (hd2 : dec 0 0 (l.drop n1) = (u, m, 0)) (hu : u ≠ 0) (hu2 : u ≤ 18446744073709551615) (hm : n1 + m ≤ n) (hp : ((k : Int) % 2 == 0) = false) (h200 : ¬ 200 < u) (hsh : n1 + m + u ≤ n) :
    Calls Tryz.prog 27 #[.slice (some ⟨b, off, none⟩) n cap, .int .i64 last] w fun r w' => ∃ bv, r = .returned (.tuple #[FV T true 0 bv, .int .i64 ((n1 + m + u : Nat) : Int), .int .i64 0]) ∧ Own w' w.heap.size bv ((l.drop (n1 + m)).take u) ∧ Below w.heap.size w w' := by
  obtain ⟨W, hW, hR⟩ := rin_of hb
  have HW : Hid (_ = W) := hW
  have HR : Hid (Rin w W (some ⟨b, off, none⟩) l) := hR
  have HN : Hid (l.length = n) := hn
  have HD : Hid (_) := hd
  have hlm : l.length ≤ maxLen := by unfold maxLen; omega
  have T1 : Hid True := trivial
  clear hb hn hd hW hR
  have HD2 : Hid (_) := hd2
  have hn1I : (n1 : Int) ≤ (n : Int) := by omega
  have hn1c : (n1 : Int) ≤ (cap : Int) := by omega
  have hn0 : (0 : Int) ≤ (n1 : Int) := by omega
  have hnI : (n : Int) ≤ 1024 := by omega
  have HL2 : Hid ((l.drop n1).length = n - n1) := by show _ = _; rw [List.length_drop, HN.out]
  have HM2 : Hid ((l.drop n1).length ≤ maxLen) := by show _ ≤ _; rw [HL2.out]; unfold maxLen; omega
  have HB2 : Hid (Bytes W (some ⟨b, off + n1, none⟩) (l.drop n1)) := HR.out.byt.drop n1
  clear hd2
  have hcn : ¬ cap = n1 := by omega
  have hub : ((u : Int) == 0) = false := by simp; omega
  have hmI : (n1 : Int) + (m : Int) ≤ (n : Int) := by omega
  have hshI : (u : Int) ≤ (n : Int) - (n1 : Int) - (m : Int) := by omega
  have HLU : Hid (((l.drop (n1 + m)).take u).length = u) := by show _ = _; rw [List.length_take, List.length_drop, HN.out]; omega
  go_enter Tryz.func27, Tryz.ntmps27
  go_wp2_with (first
    | (go_at_call 28; clear T1; rw [HW.out]; refine (rdec_at l n k n1 0 (some ⟨b, off, none⟩) cap W HN.out HD.out HR.out.byt hlm).mono ?_; rintro x w1 ⟨rfl, hw1⟩; subst hw1)
    | (go_at_call 28; refine (rdec_at (l.drop n1) _ u m 0 _ _ W HL2.out HD2.out HB2.out HM2.out).mono ?_; rintro x w2 ⟨rfl, hw2⟩; subst hw2)
    | (go_at_call 5; have hcp := copy_any ((l.drop (n1 + m)).take u) (some ⟨b, off + (n1 + m), none⟩) (cap - (n1 + m)) W ((HR.out.byt.drop (n1 + m)).take u) (by rw [HLU.out]; omega); rw [HLU.out] at hcp; refine hcp.mono ?_; rintro r w3 ⟨v3, rfl, ho3, hb3⟩; obtain ⟨a3, cap3, hv3, _, _, _, _⟩ := ho3.shape; rw [HLU.out] at hv3; subst hv3; have HR3 : Hid (FldAt w3 w.heap.size 0 false 0 (.slice none 0 0)) := HR.out.res.keep hb3; have HB3 : Hid (Below w.heap.size w w3) := HR.out.bel.trans (hb3.mono HR.out.bel.size); have HO3 : Hid (Own w3 W.heap.size (.slice a3 u cap3) ((l.drop (n1 + m)).take u)) := ho3; clear ho3 hb3 hcp)
    | ((with_reducible refine guard_store 48 ?_); refine wpList_store_fld rfl _ _ rfl (k := w.heap.size) (num2 := 0) HR3.out rfl rfl rfl ?_; intro w5 hf5 hos5 hk5 hs5))
  refine bodyPost_ret (results_fld3 rfl _ _ _ rfl rfl rfl hf5) rfl ?_
  have hsz : w.heap.size + 1 < W.heap.size := lt_of_heap HR.out.non
  refine ⟨_, rfl, ⟨HO3.out.1, ?_⟩, ⟨hos5.1.trans HB3.out.os, hos5.2.1.trans HB3.out.tape, hos5.2.2.trans HB3.out.output, by rw [hs5]; exact HB3.out.size, fun k hk2 => (hk5 k (by omega)).trans (HB3.out.block k hk2)⟩⟩
  exact World.ownsRow.mono (base' := w.heap.size) (own_same (w' := w5) HO3.out.2 (fun k (hk : W.heap.size ≤ k) => hk5 k (by omega))) (by omega)
end Go.Proofs.YtfcgcpfckbmgnaaGreat
namespace Go.Proofs.YtfcgcpfckbmgnaaGreat
open Go.ChangeShapes Go.WideShapes Go.ChangeAt Go.RowKit
set_option linter.unusedVariables false
theorem rnext_any (l : List Nat) (b off n cap : Nat) (last : Int) (w : World) (hn : l.length = n) (hb : Bytes w (some ⟨b, off, none⟩) l) (hcap : n ≤ cap) (hl : n ≤ 1024) :
    Calls Tryz.prog 27 #[.slice (some ⟨b, off, none⟩) n cap, .int .i64 last] w fun r w' =>
      ((∃ F sz bv, next l last = (F, sz, 0) ∧ r = .returned (.tuple #[FV F.tag F.text F.num bv, .int .i64 (sz : Int), .int .i64 0]) ∧ Own w' w.heap.size bv F.bytes) ∨ (∃ e : Nat, e ≠ 0 ∧ (next l last).2.2 = e ∧ r = .returned (.tuple #[FV 0 false 0 (.slice none 0 0), .int .i64 0, .int .i64 (e : Int)]))) ∧ Below w.heap.size w w' := by
  have hmem : ∀ j, ∀ x ∈ l.drop j, x < 256 := fun j x hx => hb.mem x (List.mem_of_mem_drop hx)
  rcases hd : dec 0 0 l with ⟨k, n1, e1⟩
  by_cases he1 : e1 = 0
  · subst he1
    have d1 := vdec_form l hb.mem (by rw [hd])
    rw [hd] at d1
    simp only [hn] at d1
    obtain ⟨a1, a2, a3, a4, a5⟩ := d1
    rcases hd2 : dec 0 0 (l.drop n1) with ⟨u, m, e2⟩
    have hx := next_two l last k n1 u m e2 hd hd2
    unfold nextR at hx
    by_cases c1 : k < 2 ∨ 63 < k
    · rw [if_pos c1] at hx
      have he : (next l last).2.2 = 20 := by rw [hx]; rfl
      rcases c1 with c1 | c1
      · exact (rnext_tagA l b off n cap k n1 last w hn hb hcap hl hd c1).mono fun _ _ ⟨h1, h2⟩ => ⟨.inr ⟨20, by omega, he, h1⟩, h2⟩
      · exact (rnext_tagB l b off n cap k n1 last w hn hb hcap hl hd c1 a4).mono fun _ _ ⟨h1, h2⟩ => ⟨.inr ⟨20, by omega, he, h1⟩, h2⟩
    rw [if_neg c1] at hx
    obtain ⟨T, hT⟩ : ∃ T, k / 2 = T := ⟨_, rfl⟩
    have hTk : (k : Int) / 2 = (T : Int) := by omega
    rw [hT] at hx
    by_cases c2 : (T : Int) ≤ last
    · rw [if_pos c2] at hx
      have he : (next l last).2.2 = 21 := by rw [hx]; rfl
      exact (rnext_ord l b off n cap k n1 T last w hn hb hcap hl hd (by omega) (by omega) hTk c2).mono fun _ _ ⟨h1, h2⟩ => ⟨.inr ⟨21, by omega, he, h1⟩, h2⟩
    rw [if_neg c2] at hx
    by_cases c3 : e2 = 0
    · subst c3
      rw [if_neg (by simp)] at hx
      have d2 := vdec_form (l.drop n1) (hmem _) (by rw [hd2])
      rw [hd2] at d2
      simp only [List.length_drop, hn] at d2
      obtain ⟨b1, b2, b3, b4, b5⟩ := d2
      by_cases c4 : u = 0
      · subst c4
        rw [if_pos rfl] at hx
        have he : (next l last).2.2 = 22 := by rw [hx]; rfl
        exact (rnext_zero l b off n cap k n1 T m last w hn hb hcap hl hd (by omega) (by omega) hTk c2 (by omega) hd2).mono fun _ _ ⟨h1, h2⟩ => ⟨.inr ⟨22, by omega, he, h1⟩, h2⟩
      rw [if_neg c4] at hx
      by_cases c5 : k % 2 = 0
      · rw [if_pos c5] at hx
        refine (rnext_num l b off n cap k n1 T u m last w hn hb hcap hl hd (by omega) (by omega) hTk c2 (by omega) hd2 c4 b4 (by omega) (by simp; omega)).mono ?_
        rintro r w' ⟨h1, h2⟩
        exact ⟨.inl ⟨_, _, _, hx, h1, own_nil _ _⟩, h2⟩
      rw [if_neg c5] at hx
      have hp : ((k : Int) % 2 == 0) = false := by simp; omega
      by_cases c6 : 200 < u
      · rw [if_pos c6] at hx
        have he : (next l last).2.2 = 23 := by rw [hx]; rfl
        exact (rnext_long l b off n cap k n1 T u m last w hn hb hcap hl hd (by omega) (by omega) hTk c2 (by omega) hd2 c4 b4 (by omega) hp c6).mono fun _ _ ⟨h1, h2⟩ => ⟨.inr ⟨23, by omega, he, h1⟩, h2⟩
      rw [if_neg c6] at hx
      by_cases c7 : l.length < n1 + m + u
      · rw [if_pos c7] at hx
        have he : (next l last).2.2 = 10 := by rw [hx]; rfl
        rw [hn] at c7
        exact (rnext_short l b off n cap k n1 T u m last w hn hb hcap hl hd (by omega) (by omega) hTk c2 (by omega) hd2 c4 b4 (by omega) hp c6 (by omega)).mono fun _ _ ⟨h1, h2⟩ => ⟨.inr ⟨10, by omega, he, h1⟩, h2⟩
      rw [if_neg c7] at hx
      rw [hn] at c7
      refine (rnext_text l b off n cap k n1 T u m last w hn hb hcap hl hd (by omega) (by omega) hTk c2 (by omega) hd2 c4 b4 (by omega) hp c6 (by omega)).mono ?_
      rintro r w' ⟨bv, h1, h2, h3⟩
      exact ⟨.inl ⟨_, _, bv, hx, h1, h2⟩, h3⟩
    · rw [if_pos c3] at hx
      have hz := dec_zero 0 0 (l.drop n1) (by rw [hd2]; exact c3)
      rw [hd2] at hz
      simp only at hz
      obtain ⟨rfl, rfl⟩ := hz
      have he : (next l last).2.2 = e2 := by rw [hx]; rfl
      by_cases hlt : n1 < n
      · exact (rnext_bad2 l b off n cap k n1 T e2 last w hn hb hcap hl hd (by omega) (by omega) hTk c2 hlt c3 hd2).mono fun _ _ ⟨h1, h2⟩ => ⟨.inr ⟨e2, c3, he, h1⟩, h2⟩
      · obtain rfl : n1 = n := by omega
        rw [List.drop_eq_nil_of_le (by omega)] at hd2
        have : e2 = 10 := by have h := congrArg (fun x => x.2.2) hd2; exact h.symm
        subst this
        exact (rnext_bad2e l b off n1 cap k T last w hn hb hcap hl hd (by omega) (by omega) hTk c2).mono fun _ _ ⟨h1, h2⟩ => ⟨.inr ⟨10, c3, he, h1⟩, h2⟩
  · have hz := dec_zero 0 0 l (by rw [hd]; exact he1)
    rw [hd] at hz
    simp only at hz
    obtain ⟨rfl, rfl⟩ := hz
    have he : (next l last).2.2 = e1 := by rw [next_bad _ _ _ _ _ hd he1]; rfl
    exact (rnext_bad1 l (some ⟨b, off, none⟩) n cap e1 last w hn hb hcap hl he1 hd).mono fun _ _ ⟨h1, h2⟩ => ⟨.inr ⟨e1, he1, he, h1⟩, h2⟩
set_option maxRecDepth 20000 in
set_option maxHeartbeats 1000000 in
theorem rtdec_any (l : List Nat) (b off n cap : Nat) (w : World) (hn : l.length = n) (hb : Bytes w (some ⟨b, off, none⟩) l) (hcap : n ≤ cap) (hl : n ≤ 1024) (h0 : 0 < n) :
    Calls Tryz.prog 12 #[.slice (some ⟨b, off, none⟩) n cap] w fun r w' => DecPost w l r w' := by
  obtain ⟨i0, hi, hz0, hz1, hz2⟩ := info_parts Tryz.infoFd
  have HB : Hid (∀ w', Below w.heap.size w w' → Bytes w' (some ⟨b, off, none⟩) l) := fun w' h => hb.keep h
  have HMEM : Hid (∀ j, ∀ x ∈ l.drop j, x < 256) := fun j x hx => hb.mem x (List.mem_of_mem_drop hx)
  have HN : Hid (l.length = n) := hn
  have HR0 : Hid (recs l = decs (n + 1) l 0 0 []) := by show _ = _; unfold recs; rw [if_neg (by omega), hn]
  have HE0 : Hid (Rws (w.alloc (.cells #[] 48)) w.heap.size (.slice (some ⟨w.heap.size, 0, none⟩) 0 0) []) := ⟨⟨by simp [flat], .inr ⟨w.heap.size, 0, #[], rfl, Nat.le_refl _, heap_alloc_new w _, by simp, by simp, by simp, by simp [flat]⟩⟩, fun p hp => by cases hp⟩
  clear hb hn
  go_enter Tryz.func12, Tryz.ntmps12
  go_wp2
  go_loopw [5, 6, 7] (fun vf va vi wr => ∃ (fuel i : Nat) (A : Int) (L : List (Fld × Value)), va = .int .i64 A ∧ vi = .int .i64 (i : Int) ∧ i ≤ n ∧ Hid (recs l = decs (fuel + 1) l A i (L.map Prod.fst) ∧ n - i ≤ fuel ∧ L.length ≤ i ∧ Below w.heap.size w wr ∧ Rws wr w.heap.size vf L)) (fun _ _ vi _ => n - (intOf vi).toNat)
  case atStart => exact ⟨n, 0, 0, [], rfl, rfl, Nat.zero_le _, HR0.out, by omega, by simp, (Below.refl _ _).alloc (Nat.le_refl _) _, HE0.out⟩
  case round =>
    obtain ⟨fuel, i, A, L, rfl, rfl, hin, HI⟩ := hrel
    clear HR0 HE0
    have hnI : (n : Int) ≤ 1024 := by omega
    have hiI : (i : Int) ≤ (n : Int) := by omega
    have hic : (i : Int) ≤ (cap : Int) := by omega
    have hi0 : (0 : Int) ≤ (i : Int) := by omega
    by_cases hlt : i < n
    · have hci : ¬ cap = i := by omega
      have hltI : (i : Int) < (n : Int) := by omega
      have HL2 : Hid ((l.drop i).length = n - i) := by show _ = _; rw [List.length_drop, HN.out]
      go_wp2_with (first
        | (go_at_call 27; refine (rnext_any (l.drop i) b (off + i) _ _ A wr HL2.out ((HB.out wr HI.out.2.2.2.1).drop i) (by omega) (by omega)).mono ?_; rintro r w2 ⟨hr, hb2⟩; rcases hr with ⟨F, sz, bv, hnx, rfl, hob⟩ | ⟨e, he, hnx, rfl⟩; (obtain ⟨a5, cap5, rfl, _, _, _, _⟩ := hob.shape; obtain ⟨_, _, _, hsz1, hsz2, _, _, _, _, _, _⟩ := next_right (l.drop i) (HMEM.out i) A F sz hnx; rw [List.length_drop, HN.out] at hsz1; have HB2 : Hid (Below w.heap.size w w2) := HI.out.2.2.2.1.trans (hb2.mono HI.out.2.2.2.1.size); have HR2 : Hid (Rws w2 w.heap.size u5 L) := HI.out.2.2.2.2.same (fun k _ hlt => hb2.block k hlt); have HOB : Hid (Own w2 w.heap.size (.slice a5 F.bytes.length cap5) F.bytes) := ⟨hob.1, hob.2.mono HI.out.2.2.2.1.size⟩; have HNX : Hid (next (l.drop i) A = (F, sz, 0)) := hnx; have hs2 := HB2.out.size; have hsI : (i : Int) + (sz : Int) ≤ 1024 := (by omega); clear hob hnx hb2))
        | ((with_reducible refine guard_load 48 ?_); refine wpList_load_fld rfl _ rfl (FldAt.new w2 F.tag F.text F.num _) rfl ?_)
        | (at_builtin; have hR3 : Rws ((w2.alloc (.cells #[.int .i64 F.tag, .bool F.text, .int .u64 (F.num : Int), .slice a5 F.bytes.length cap5] 48)).alloc (.cells #[.int .i64 F.tag, .bool F.text, .int .u64 (F.num : Int), .slice a5 F.bytes.length cap5] 48)) w.heap.size u5 L := (HR2.out.alloc _).alloc _; refine wpList_append_own _ rfl _ _ 42 rfl w.heap.size 48 i0 _ 4 48 Tryz.underlying42 hi hz0 hz1 hz2 rfl (by decide) _ _ _ rfl hR3.own ⟨w2.heap.size + 1, 0, none⟩ 1 1 [.int .i64 F.tag, .bool F.text, .int .u64 (F.num : Int), .slice a5 F.bytes.length cap5] rfl rfl (by have h := news4 (w2.alloc (.cells #[.int .i64 F.tag, .bool F.text, .int .u64 (F.num : Int), .slice a5 F.bytes.length cap5] 48)) F (.slice a5 F.bytes.length cap5) 48; simpa using h) (one4 _ _ rfl) (by have := HI.out.2.2.1; unfold maxLen; omega) (by have := HI.out.2.2.1; omega) (by simp; omega) ?_; intro v4 w4 ho4 hg4 _; have HR3 : Hid (Rws ((w2.alloc (.cells #[.int .i64 F.tag, .bool F.text, .int .u64 (F.num : Int), .slice a5 F.bytes.length cap5] 48)).alloc (.cells #[.int .i64 F.tag, .bool F.text, .int .u64 (F.num : Int), .slice a5 F.bytes.length cap5] 48)) w.heap.size u5 L) := hR3; have HG4 : Hid (((w2.alloc (.cells #[.int .i64 F.tag, .bool F.text, .int .u64 (F.num : Int), .slice a5 F.bytes.length cap5] 48)).alloc (.cells #[.int .i64 F.tag, .bool F.text, .int .u64 (F.num : Int), .slice a5 F.bytes.length cap5] 48)).grownBy w4 u5.ownBlock) := hg4; have HO4 : Hid (w4.ownsRow w.heap.size 48 4 v4 (L.length + 1) (flat L ++ [.int .i64 F.tag, .bool F.text, .int .u64 (F.num : Int), .slice a5 F.bytes.length cap5])) := ho4; have HB4 : Hid (Below w.heap.size w w4) := ((HB2.out.alloc hs2 (.cells #[.int .i64 F.tag, .bool F.text, .int .u64 (F.num : Int), .slice a5 F.bytes.length cap5] 48)).alloc (by simp; omega) (.cells #[.int .i64 F.tag, .bool F.text, .int .u64 (F.num : Int), .slice a5 F.bytes.length cap5] 48)).grown hg4 (by simp; omega) (fun k hk => (hR3.own.lt k hk).1); have htg := tag_kept HR2.out.own hg4; clear ho4 hg4 hR3))
      · go_roundw
        case rel =>
          obtain ⟨f', rfl⟩ : ∃ f', fuel = f' + 1 := ⟨fuel - 1, by have := HI.out.2.1; omega⟩
          refine ⟨f', i + sz, F.tag, L ++ [(F, .slice a5 F.bytes.length cap5)], rfl, by go_num, by omega, ?_, by have := HI.out.2.1; omega, by have := HI.out.2.2.1; simp; omega, HB4.out, ?_, ?_⟩
          · rw [HI.out.1, decs_succ, if_neg (by rw [HN.out]; omega), (next_parts HNX.out).1, (next_parts HNX.out).2.1, (next_parts HNX.out).2.2, if_neg (by simp), List.map_append]; rfl
          · rw [List.length_append, flat_append]
            exact HO4.out
          · intro p hp
            rcases List.mem_append.1 hp with hp | hp
            · exact own_grown HR3.out.own HG4.out (HR3.out.byt p hp)
            · obtain rfl := List.mem_singleton.1 hp
              exact own_grown HR3.out.own HG4.out ⟨HOB.out.1, (HOB.out.2.alloc _).alloc _⟩
        case measure => simp [intOf]; omega
      · have hre : recs l = ([], i, e) := by rw [HI.out.1, decs_succ, if_neg (by rw [HN.out]; omega), hnx, if_pos he]
        have hbb := HI.out.2.2.2.1.trans (hb2.mono HI.out.2.2.2.1.size)
        go_ret3
        exact ⟨_, [], by rw [hre]; rfl, by rw [hre]; rfl, Rws.nil _ _, hbb.alloc hbb.size _⟩
    · obtain rfl : i = n := by omega
      have hre : recs l = (L.map Prod.fst, 0, 0) := by rw [HI.out.1, decs_succ, if_pos (by rw [HN.out]; exact Nat.le_refl _)]
      have HRE : Hid (recs l = (L.map Prod.fst, 0, 0)) := hre
      clear hre
      go_wp2
      go_ret3
      exact ⟨_, L, by rw [HRE.out]; rfl, by rw [HRE.out], HI.out.2.2.2.2, HI.out.2.2.2.1⟩
set_option maxRecDepth 20000 in
set_option maxHeartbeats 400000 in
theorem rtdec_nil (a : Option Addr) (cap : Nat) (w : World) :
    Calls Tryz.prog 12 #[.slice a 0 cap] w fun r w' => DecPost w [] r w' := by
  have hre : recs [] = ([], 0, 0) := by rfl
  have HE0 : Hid (Rws (w.alloc (.cells #[] 48)) w.heap.size (.slice (some ⟨w.heap.size, 0, none⟩) 0 0) []) := ⟨⟨by simp [flat], .inr ⟨w.heap.size, 0, #[], rfl, Nat.le_refl _, heap_alloc_new w _, by simp, by simp, by simp, by simp [flat]⟩⟩, fun p hp => by cases hp⟩
  go_enter Tryz.func12, Tryz.ntmps12
  go_wp2
  refine wp_loop_rounds 1 ?_
  rw [rounds_succ]
  go_wp2
  go_ret3
  exact ⟨_, [], by rw [hre]; rfl, by rw [hre]; rfl, HE0.out, (Below.refl _ _).alloc (Nat.le_refl _) _⟩
set_option maxRecDepth 20000 in
set_option maxHeartbeats 400000 in
theorem rtdec_big (l : List Nat) (a : Option Addr) (n cap : Nat) (w : World) (hn : l.length = n) (hl : ¬ n ≤ 1024) (hm : n ≤ maxLen) :
    Calls Tryz.prog 12 #[.slice a n cap] w fun r w' => DecPost w l r w' := by
  have hlI : (1024 : Int) < (n : Int) := by omega
  have HR : Hid (recs l = ([], 0, 24)) := by show _ = _; unfold recs; rw [if_pos (by omega)]
  clear hn
  go_enter Tryz.func12, Tryz.ntmps12
  go_wp2
  go_ret3
  exact ⟨_, [], by rw [HR.out]; rfl, by rw [HR.out]; rfl, Rws.nil _ _, Below.refl _ _⟩
theorem rtdec (l : List Nat) (a : Option Addr) (n cap : Nat) (w : World) (hn : l.length = n) (hb : Bytes w a l) (hcap : n ≤ cap) (hm : n ≤ maxLen) :
    Calls Tryz.prog 12 #[.slice a n cap] w fun r w' => DecPost w l r w' := by
  by_cases hl : n ≤ 1024
  · by_cases h0 : 0 < n
    · obtain ⟨b, off, rfl, _, _⟩ := hb.nonempty (by intro h; subst h; simp at hn; omega)
      exact rtdec_any l b off n cap w hn hb hcap hl h0
    · obtain rfl : n = 0 := by omega
      obtain rfl : l = [] := List.length_eq_zero_iff.1 hn
      exact rtdec_nil a cap w
  · exact rtdec_big l a n cap w hn hl hm
end Go.Proofs.YtfcgcpfckbmgnaaGreat
