/- What varint.Decode answers. -/
import Derived.Test.YtoneaannbmkeiaaDoorRows
import Derived.Test.YtoneaannbmkeiaaDoorAid
namespace Go.Proofs.YtoneaannbmkeiaaDoor
open Go.ChangeShapes Go.WideShapes Go.ChangeAt Go.RowKit
set_option maxRecDepth 100000 in
set_option maxHeartbeats 400000 in
theorem dec_any (l : List Nat) (a : Option Addr) (cap : Nat) (w : World) (hb : Bytes w a l) (hl : l.length ≤ maxLen) :
    Calls Tryd.prog 55 #[.slice a l.length cap] w fun e w' => e = .returned (.tuple #[.int .u64 (dec 0 0 l).1, .int .i64 (dec 0 0 l).2.1, .int .i64 (dec 0 0 l).2.2]) ∧ w = w' := by
  unfold maxLen at hl
  obtain ⟨hby, rfl | ⟨b, off, rfl, hlt, hcell⟩⟩ := hb
  · go_enter Tryd.func55, Tryd.ntmps55
    go_wp2
    refine wp_loop_rounds 1 ?_
    rw [rounds_succ]
    go_wp2
    go_ret3
    exact ⟨rfl, rfl⟩
  · go_enter Tryd.func55, Tryd.ntmps55
    go_wp2
    go_loop [5, 10] (fun u i => ∃ k u0 : Nat, k ≤ l.length ∧ k ≤ 9 ∧ i = .int .i64 k ∧ u = .int .u64 u0 ∧ u0 < 128 ^ k ∧ dec 0 0 l = dec k u0 (l.drop k)) (fun _ i => l.length - (intOf i).toNat)
    case atStart => exact ⟨0, 0, Nat.zero_le _, by omega, rfl, rfl, by simp, rfl⟩
    case round =>
      obtain ⟨k, u0, hk, hk9, rfl, rfl, hu, hd⟩ := hrel
      have HU : Hid (u0 < 128 ^ k) := hu
      have HD : Hid (_ = _) := hd
      clear hu hd
      by_cases hlt : k < l.length
      · have hc := hcell k hlt
        have hc256 := hby k
        obtain ⟨c, hcE⟩ : ∃ c, c = l.getD k 0 := ⟨_, rfl⟩
        rw [← hcE] at hc hc256
        have HC : Hid (c = l.getD k 0) := hcE
        clear hcE hcell hby
        by_cases hA : k = 9 ∧ 1 < c
        · obtain ⟨rfl, h1c⟩ := hA
          have HE : Hid (dec 0 0 l = (0, 0, 12)) := by
            show _ = _
            rw [HD.out, drop_at l _ c hlt HC.out, dec_cons, if_pos ⟨rfl, h1c⟩]
          clear HD HU HC
          go_wp2
          go_ret3
          exact ⟨by rw [HE.out]; rfl, rfl⟩
        · have hA' : k ≤ 8 ∨ (k = 9 ∧ c ≤ 1) := by omega
          by_cases hB : 128 ≤ c
          · have hk8 : k ≤ 8 := by omega
            have hkb : ((k : Int) == 9) = false := by simp; omega
            have HE : Hid (dec 0 0 l = dec (k + 1) (u0 + c % 128 * 128 ^ k) (l.drop (k + 1))) := by
              show _ = _
              rw [HD.out, drop_at l _ c hlt HC.out, dec_cons, if_neg hA, if_pos hB]
            have HO : Hid (_ ∧ _) := or_step u0 c k HU.out hc256 hA'
            clear hA' hk9 HD HU HC hA
            go_wp2
            go_round
            case rel => exact ⟨k + 1, _, by omega, by omega, by go_num, congrArg (Value.int IntKind.u64) HO.out.1, HO.out.2.1, HE.out⟩
            case measure => simp [intOf]; omega
          · by_cases hC : c = 0 ∧ 0 < k
            · obtain ⟨rfl, hk0⟩ := hC
              have HE : Hid (dec 0 0 l = (0, 0, 11)) := by
                show _ = _
                rw [HD.out, drop_at l _ _ hlt HC.out, dec_cons, if_neg hA, if_neg hB, if_pos ⟨rfl, hk0⟩]
              clear HD HU HC hA hA' hB
              by_cases hk9' : k = 9
              · subst hk9'
                go_wp2
                go_ret3
                exact ⟨by rw [HE.out]; rfl, rfl⟩
              · have hkb : ((k : Int) == 9) = false := by simp; omega
                clear hk9'
                go_wp2
                go_ret3
                exact ⟨by rw [HE.out]; rfl, rfl⟩
            · have HE : Hid (dec 0 0 l = (u0 + c % 128 * 128 ^ k, k + 1, 0)) := by
                show _ = _
                rw [HD.out, drop_at l _ _ hlt HC.out, dec_cons, if_neg hA, if_neg hB, if_neg hC]
              have HO : Hid (_ ∧ _) := or_step u0 c k HU.out hc256 hA'
              have hC' : c ≠ 0 ∨ k = 0 := by omega
              clear HD HU HC hA hC
              by_cases hk9' : k = 9
              · subst hk9'
                have hc0 : ((c : Int) == 0) = false := by simp; omega
                have hc1 : c ≤ 1 := by omega
                clear hC' hA'
                go_wp2
                go_ret3
                rw [HE.out]
                exact ⟨ret3 HO.out.1 rfl rfl, rfl⟩
              · have hkb : ((k : Int) == 9) = false := by simp; omega
                clear hk9' hA'
                by_cases hc0' : c = 0
                · have hk0 : ¬ (0 : Int) < (k : Int) := by omega
                  have hc0 : ((c : Int) == 0) = true := by simp; omega
                  clear hC' hc0'
                  go_wp2
                  go_ret3
                  rw [HE.out]
                  exact ⟨ret3 HO.out.1 rfl rfl, rfl⟩
                · have hc0 : ((c : Int) == 0) = false := by simp; omega
                  clear hC' hc0'
                  go_wp2
                  go_ret3
                  rw [HE.out]
                  exact ⟨ret3 HO.out.1 rfl rfl, rfl⟩
      · have HE : Hid (dec 0 0 l = (0, 0, 10)) := by
          show _ = _
          rw [HD.out, List.drop_eq_nil_of_le (by omega)]; rfl
        clear HD HU hcell hby
        go_wp2
        go_ret3
        exact ⟨by rw [HE.out]; rfl, rfl⟩
theorem dec_at (l : List Nat) (n u k e : Nat) (a : Option Addr) (cap : Nat) (w : World) (e1 : l.length = n) (hd : dec 0 0 l = (u, k, e)) (hb : Bytes w a l) (hl : l.length ≤ maxLen) :
    Calls Tryd.prog 55 #[.slice a n cap] w fun x w' => x = .returned (.tuple #[.int .u64 u, .int .i64 k, .int .i64 e]) ∧ w = w' := by
  subst e1
  refine (dec_any l a cap w hb hl).mono ?_
  rw [hd]
  exact fun _ _ h => h
end Go.Proofs.YtoneaannbmkeiaaDoor
