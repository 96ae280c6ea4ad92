/- dump.Hex. -/
import Derived.Test.YtomgnbhajhkhfaaDoorDm0
import Derived.Test.YtomgnbhajhkhfaaDoorNm2
import Derived.Test.YtomgnbhajhkhfaaDoorCpn
import Derived.Test.YtomgnbhajhkhfaaDoorStr8
import Derived.Deep.AppendLies
import Derived.Deep.RegionHeld3
namespace Go.Proofs.YtomgnbhajhkhfaaDoor
open Go.ChangeShapes Go.WideShapes Go.ChangeAt Go.RowKit
set_option linter.unusedVariables false
set_option linter.unusedSimpArgs false
theorem Tryd.info5h : (Tryd.prog.info? 5).map (fun i => (i.zero, i.size, i.bytes)) = some (some (.int .u8 0), 1, 1) := by kernel_rfl
theorem dig_at : ∀ (q : Nat) (h : q < 16), ({ data := #[48, 49, 50, 51, 52, 53, 54, 55, 56, 57, 97, 98, 99, 100, 101, 102] } : ByteArray)[q].toNat = (hx q).toNat := by decide
/-- bytes as numbers -/
def n8 (l : List UInt8) : List Nat := l.map UInt8.toNat
set_option maxRecDepth 20000 in
set_option maxHeartbeats 4000000 in
theorem hex_any (l : List Nat) (n : Nat) (a : Option Addr) (cap : Nat) (w : World) (hn : l.length = n) (hm : Bytes w a l) (hl : n ≤ 1048576) :
    Calls Tryd.prog 4 #[.slice a n cap] w fun e w' => e = .returned (.string (bs (hexL l))) ∧ Below w.heap.size w w' := by
  have HM : Hid (Bytes w a l) := hm
  have HN : Hid (l.length = n) := hn
  obtain ⟨i0, hi, hz0, hz1, hz2⟩ := info_parts Tryd.info5h
  have hnI : (n : Int) ≤ 1048576 := by omega
  clear hm hn
  go_enter Tryd.func4, Tryd.ntmps4
  go_wp2_with (at_make; refine wpList_make_own _ rfl _ _ 22 rfl w.heap.size 5 i0 (.int .u8 0) 1 Tryd.underlying22 hi hz0 hz1 _ _ _ (2 * n) rfl rfl (by omega) (by rw [hz2]; omega) (by unfold maxLen; omega) (Nat.le_refl _) ?_)
  intro w2 ho hg
  have hb2 : Below w.heap.size w w2 := (Below.refl _ _).grown hg (Nat.le_refl _) (fun k hk => by cases hk)
  have hs2 := hb2.size
  have hOW : Own w2 w.heap.size (.slice (some ⟨w.heap.size, 0, none⟩) 0 (2 * n)) [] := ⟨by simp, ho⟩
  have HOW : Hid (Own w2 w.heap.size (.slice (some ⟨w.heap.size, 0, none⟩) 0 (2 * n)) []) := hOW
  clear ho hOW hg
  go_wp2
  go_loopw [3, 12] (fun vt vi wr => ∃ (v0 : Value) (k : Nat), v0 = vt ∧ k ≤ n ∧ vi = .int .i64 k ∧ Own wr w.heap.size v0 (n8 (hexL (l.take k))) ∧ Below w.heap.size w wr) (fun _ vi _ => n - (intOf vi).toNat)
  case atStart => exact ⟨_, 0, rfl, Nat.zero_le _, rfl, HOW.out, hb2⟩
  case round =>
    obtain ⟨v0, k, rfl, hk, rfl, hU, hbe⟩ := hrel
    have HU : Hid (Own wr w.heap.size v0 (n8 (hexL (l.take k)))) := hU
    by_cases hkn : k < n
    · obtain ⟨b, off, rfl, hlt, hc⟩ := HM.out.nonempty (fun h0 => by have := HN.out; rw [h0] at this; simp at this; omega)
      obtain ⟨c, hcd⟩ : ∃ c, l.getD k 0 = c := ⟨_, rfl⟩
      have q0 := hc k (by rw [HN.out]; exact hkn)
      rw [← hbe.cell (p := ⟨b, off + k, none⟩) hlt, hcd] at q0
      have hc256 : c < 256 := by rw [← hcd]; exact HM.out.1 k
      have hcI : (c : Int) < 256 := by omega
      obtain ⟨r, hr⟩ : ∃ r : Nat, c % 16 = r := ⟨_, rfl⟩
      obtain ⟨q, hq⟩ : ∃ q : Nat, c / 16 = q := ⟨_, rfl⟩
      have e1 : bits BinOp.and IntKind.u8 (c : Int) 15 = (r : Int) := by
        have := u8_and_nat c 15 hc256 (by omega)
        rw [show ((15 : Nat) : Int) = 15 from rfl] at this
        rw [this, ← hr, show (15 : Nat) = 2 ^ 4 - 1 from rfl, Nat.and_two_pow_sub_one_eq_mod]
      have e2 : (c : Int) / 16 = (q : Int) := by omega
      have hr16 : r < 16 := by omega
      have hq16 : q < 16 := by omega
      have hr16I : (r : Int) < 16 := by omega
      have hq16I : (q : Int) < 16 := by omega
      obtain ⟨X, hX⟩ : ∃ X, (hx q).toNat = X := ⟨_, rfl⟩
      obtain ⟨Y, hY⟩ : ∃ Y, (hx r).toNat = Y := ⟨_, rfl⟩
      have d1 := dig_at q hq16
      have d2 := dig_at r hr16
      rw [hX] at d1
      rw [hY] at d2
      have hX256 : X < 256 := by rw [← hX]; exact (hx q).toNat_lt
      have hY256 : Y < 256 := by rw [← hY]; exact (hx r).toNat_lt
      have hlk : (n8 (hexL (l.take k))).length = 2 * k := by rw [n8, List.length_map, hexL_length, List.length_take, HN.out, Nat.min_eq_left (by omega)]
      have HO5 : Hid ((wr.drew.alloc (.cells #[.int .u8 (X : Int), .int .u8 (Y : Int)] 5)).ownsRow w.heap.size 5 1 v0 (2 * k) (B8 (n8 (hexL (l.take k))))) := by
        have h := World.ownsRow.alloc (World.ownsRow.drew HU.out.2) (.cells #[.int .u8 (X : Int), .int .u8 (Y : Int)] 5)
        rw [hlk] at h
        exact h
      have HBY : Hid (Bytes (wr.drew.alloc (.cells #[.int .u8 (X : Int), .int .u8 (Y : Int)] 5)) (some ⟨wr.heap.size, 0, none⟩) [X, Y]) := bytes_lit wr.drew [X, Y] (getD_lt (by intro x hx; simp at hx; omega))
      have HB5 : Hid (Below w.heap.size w (wr.drew.alloc (.cells #[.int .u8 (X : Int), .int .u8 (Y : Int)] 5))) := hbe.drew.alloc hbe.size _
      have hbs := hbe.size
      have HST : Hid (n8 (hexL (l.take (k + 1))) = n8 (hexL (l.take k)) ++ [X, Y]) := by
        show _ = _
        rw [List.take_succ_eq_append_getElem (by rw [HN.out]; exact hkn), hexL_append, n8, List.map_append]
        have hg : l[k]'(by rw [HN.out]; exact hkn) = c := by rw [← hcd, List.getD_eq_getElem?_getD, List.getElem?_eq_getElem (by rw [HN.out]; exact hkn)]; rfl
        rw [hg]
        show _ ++ [(hx (c / 16)).toNat, (hx (c % 16)).toNat] = _
        rw [hq, hr, hX, hY]
        rfl
      clear hc hU hX hY hr hq hcd hlk
      go_wp2
      go_region_law ((refine step_append_lies _ (by rfl) _ _ 22 (by rfl) w.heap.size 5 i0 (.int .u8 0) 1 1 Tryd.underlying22 hi hz0 hz1 hz2 rfl (by decide) v0 (2 * k) (B8 (n8 (hexL (l.take k)))) (by rfl) HO5.out ⟨wr.heap.size, 0, none⟩ 2 2 (B8 [X, Y]) (by rfl) (by rfl) (bytes_cells HBY.out) (B8_one _) (by omega) (by unfold maxLen; omega) (by omega) (by simp; omega) (wr.heap.size + 1) (by simp) ?_; intro g4 cap4 w4 ho4 hg4 hat4 hlt4))
      all_goals
        have HO6 : Hid (Own w4 w.heap.size (.slice (some ⟨g4, 0, none⟩) (2 * k + 2) cap4) (n8 (hexL (l.take (k + 1))))) := by
          rw [HST.out]
          exact Own.append HU.out.1 HBY.out.1 (by rw [show (n8 (hexL (l.take k))).length + [X, Y].length = 2 * k + 2 from by rw [n8, List.length_map, hexL_length, List.length_take, HN.out, Nat.min_eq_left (by omega)]; rfl]; exact ho4)
        have hb6 : Below w.heap.size w w4 := grown_row HB5.out HO5.out (by simp; omega) hg4
        clear ho4 hg4 hat4 hlt4
        try go_wp2
        exact ⟨⟨_, k + 1, rfl, by omega, by go_num, HO6.out, hb6⟩, by simp [intOf]; omega⟩
    · have hcv := conv_own HU.out
      rw [List.take_of_length_le (by rw [HN.out]; omega), show str8 (n8 (hexL l)) = bs (hexL l) from str8_nums8 (bs (hexL l))] at hcv
      go_wp2
      go_ret
      exact ⟨rfl, hbe⟩
end Go.Proofs.YtomgnbhajhkhfaaDoor
