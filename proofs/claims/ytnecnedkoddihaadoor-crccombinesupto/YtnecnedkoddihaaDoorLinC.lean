/- What crc.oneNought, of and twice answer. -/
import Derived.Test.YtnecnedkoddihaaDoorLin
namespace Go.Proofs.YtnecnedkoddihaaDoor
open Go.ChangeShapes Go.WideShapes Go.ChangeAt Go.RowKit
set_option maxRecDepth 100000 in
set_option maxHeartbeats 2000000 in
theorem of_lin (d : Nat → Nat) (r : Nat) (w : World) (hd : ∀ i, d i < 4294967296) (hr : r < 4294967296) :
    Calls Tryd.prog 20 #[.agg (LN d), .int .u32 r] w fun e w' => e = .returned (.int .u32 (ofN d r 32 : Nat)) ∧ Below w.heap.size w w' := by
  obtain ⟨X, hX⟩ : ∃ X, LN d = X := ⟨_, rfl⟩
  have hsx : X.size = 32 := by rw [← hX]; rfl
  have HX : Hid (X = LN d) := hX.symm
  rw [hX]
  clear hX
  go_enter Tryd.func20, Tryd.ntmps20
  go_wp2
  have HL0 : Hid (LinAt (w.alloc (.cells X 40)) w.heap.size d) := LinAt.new w d X HX.out
  have HB0 : Hid (Below w.heap.size w (w.alloc (.cells X 40))) := (Below.refl _ _).alloc (Nat.le_refl _) _
  have HD : Hid (∀ i, d i < 4294967296) := hd
  have HR : Hid (r < 4294967296) := hr
  obtain ⟨wr, hwr⟩ : ∃ wr, w.alloc (.cells X 40) = wr := ⟨_, rfl⟩
  rw [hwr] at HL0 HB0 ⊢
  clear hwr hd hr
  go_loop [5, 6, 7] (fun vm _ vi => ∃ k : Nat, k ≤ 32 ∧ vi = .int .i64 k ∧ vm = .int .u32 (ofN d r k : Nat)) (fun _ _ vi => 32 - (intOf vi).toNat)
  case atStart => exact ⟨0, Nat.zero_le _, rfl, rfl⟩
  case round =>
    obtain ⟨k, hk, rfl, rfl⟩ := hrel
    by_cases hkl : k < 32
    · have hbit : bits .and .u32 ((r : Int) / 2 ^ k) 1 = ((r / 2 ^ k % 2 : Nat) : Int) := by
        have h := u32_and_nat (r / 2 ^ k) 1 (Nat.lt_of_le_of_lt (Nat.div_le_self _ _) HR.out) (by omega)
        rw [nat_mask1] at h
        rw [show ((r / 2 ^ k : Nat) : Int) = (r : Int) / 2 ^ k from by simp] at h
        exact h
      obtain ⟨bt, hbt2⟩ : ∃ bt, bt = r / 2 ^ k % 2 := ⟨_, rfl⟩
      rw [← hbt2] at hbit
      have HBT : Hid (bt = r / 2 ^ k % 2) := hbt2
      have HNX : Hid (ofN d r (k + 1) = if bt = 1 then ofN d r k ^^^ d k else ofN d r k) := by show _ = _; rw [ofN, ← hbt2]
      obtain ⟨y, hy⟩ : ∃ y, ofN d r k = y := ⟨_, rfl⟩
      have hc := HL0.out.bit k hkl
      have HY : Hid (y < 4294967296) := by show y < 4294967296; rw [← hy]; exact ofN_lt d r k HD.out
      obtain ⟨z, hz⟩ : ∃ z, d k = z := ⟨_, rfl⟩
      have HZ : Hid (z < 4294967296) := by show z < 4294967296; rw [← hz]; exact HD.out k
      rw [hy, hz] at HNX
      rw [hz] at hc
      rw [hy]
      have e1 : bits .xor .u32 (y : Int) (z : Int) = ((y ^^^ z : Nat) : Int) := u32_xor_nat y z HY.out HZ.out
      clear hbt2 hz hy
      by_cases hon : bt = 1
      · subst hon
        go_wp2
        go_round
        case rel => exact ⟨k + 1, by omega, by go_num, by rw [HNX.out, if_pos rfl]⟩
        case measure => simp [intOf]; omega
      · have h0 : bt = 0 := by have := HBT.out; omega
        subst h0
        go_wp2
        go_round
        case rel => exact ⟨k + 1, by omega, by go_num, by rw [HNX.out, if_neg (by omega)]⟩
        case measure => simp [intOf]; omega
    · have hk2 : k = 32 := by omega
      subst hk2
      go_wp2
      go_ret
      exact ⟨rfl, HB0.out⟩
theorem pow_emod (k : Nat) (h : k < 32) : (2 : Int) ^ k % 4294967296 = ((2 ^ k : Nat) : Int) := by
  have h1 : 2 ^ k < 4294967296 := Nat.lt_of_lt_of_le (pow32 k h) (by decide)
  have e : ((2 ^ k : Nat) : Int) = (2 : Int) ^ k := by simp
  rw [← e]
  generalize 2 ^ k = P at h1 ⊢
  omega
/-- two maps of noughts -/
theorem lay2 (w : World) : LinAt ((w.alloc (.cells #[.int .u32 0, .int .u32 0, .int .u32 0, .int .u32 0, .int .u32 0, .int .u32 0, .int .u32 0, .int .u32 0, .int .u32 0, .int .u32 0, .int .u32 0, .int .u32 0, .int .u32 0, .int .u32 0, .int .u32 0, .int .u32 0, .int .u32 0, .int .u32 0, .int .u32 0, .int .u32 0, .int .u32 0, .int .u32 0, .int .u32 0, .int .u32 0, .int .u32 0, .int .u32 0, .int .u32 0, .int .u32 0, .int .u32 0, .int .u32 0, .int .u32 0, .int .u32 0] 40)).alloc (.cells #[.int .u32 0, .int .u32 0, .int .u32 0, .int .u32 0, .int .u32 0, .int .u32 0, .int .u32 0, .int .u32 0, .int .u32 0, .int .u32 0, .int .u32 0, .int .u32 0, .int .u32 0, .int .u32 0, .int .u32 0, .int .u32 0, .int .u32 0, .int .u32 0, .int .u32 0, .int .u32 0, .int .u32 0, .int .u32 0, .int .u32 0, .int .u32 0, .int .u32 0, .int .u32 0, .int .u32 0, .int .u32 0, .int .u32 0, .int .u32 0, .int .u32 0, .int .u32 0] 40)) w.heap.size (fun _ => 0) ∧ LinAt ((w.alloc (.cells #[.int .u32 0, .int .u32 0, .int .u32 0, .int .u32 0, .int .u32 0, .int .u32 0, .int .u32 0, .int .u32 0, .int .u32 0, .int .u32 0, .int .u32 0, .int .u32 0, .int .u32 0, .int .u32 0, .int .u32 0, .int .u32 0, .int .u32 0, .int .u32 0, .int .u32 0, .int .u32 0, .int .u32 0, .int .u32 0, .int .u32 0, .int .u32 0, .int .u32 0, .int .u32 0, .int .u32 0, .int .u32 0, .int .u32 0, .int .u32 0, .int .u32 0, .int .u32 0] 40)).alloc (.cells #[.int .u32 0, .int .u32 0, .int .u32 0, .int .u32 0, .int .u32 0, .int .u32 0, .int .u32 0, .int .u32 0, .int .u32 0, .int .u32 0, .int .u32 0, .int .u32 0, .int .u32 0, .int .u32 0, .int .u32 0, .int .u32 0, .int .u32 0, .int .u32 0, .int .u32 0, .int .u32 0, .int .u32 0, .int .u32 0, .int .u32 0, .int .u32 0, .int .u32 0, .int .u32 0, .int .u32 0, .int .u32 0, .int .u32 0, .int .u32 0, .int .u32 0, .int .u32 0] 40)) (w.heap.size + 1) (fun _ => 0) ∧ Below w.heap.size w ((w.alloc (.cells #[.int .u32 0, .int .u32 0, .int .u32 0, .int .u32 0, .int .u32 0, .int .u32 0, .int .u32 0, .int .u32 0, .int .u32 0, .int .u32 0, .int .u32 0, .int .u32 0, .int .u32 0, .int .u32 0, .int .u32 0, .int .u32 0, .int .u32 0, .int .u32 0, .int .u32 0, .int .u32 0, .int .u32 0, .int .u32 0, .int .u32 0, .int .u32 0, .int .u32 0, .int .u32 0, .int .u32 0, .int .u32 0, .int .u32 0, .int .u32 0, .int .u32 0, .int .u32 0] 40)).alloc (.cells #[.int .u32 0, .int .u32 0, .int .u32 0, .int .u32 0, .int .u32 0, .int .u32 0, .int .u32 0, .int .u32 0, .int .u32 0, .int .u32 0, .int .u32 0, .int .u32 0, .int .u32 0, .int .u32 0, .int .u32 0, .int .u32 0, .int .u32 0, .int .u32 0, .int .u32 0, .int .u32 0, .int .u32 0, .int .u32 0, .int .u32 0, .int .u32 0, .int .u32 0, .int .u32 0, .int .u32 0, .int .u32 0, .int .u32 0, .int .u32 0, .int .u32 0, .int .u32 0] 40)) := by
  have h := LinAt.new (w.alloc (.cells #[.int .u32 0, .int .u32 0, .int .u32 0, .int .u32 0, .int .u32 0, .int .u32 0, .int .u32 0, .int .u32 0, .int .u32 0, .int .u32 0, .int .u32 0, .int .u32 0, .int .u32 0, .int .u32 0, .int .u32 0, .int .u32 0, .int .u32 0, .int .u32 0, .int .u32 0, .int .u32 0, .int .u32 0, .int .u32 0, .int .u32 0, .int .u32 0, .int .u32 0, .int .u32 0, .int .u32 0, .int .u32 0, .int .u32 0, .int .u32 0, .int .u32 0, .int .u32 0] 40)) (fun _ => 0) #[.int .u32 0, .int .u32 0, .int .u32 0, .int .u32 0, .int .u32 0, .int .u32 0, .int .u32 0, .int .u32 0, .int .u32 0, .int .u32 0, .int .u32 0, .int .u32 0, .int .u32 0, .int .u32 0, .int .u32 0, .int .u32 0, .int .u32 0, .int .u32 0, .int .u32 0, .int .u32 0, .int .u32 0, .int .u32 0, .int .u32 0, .int .u32 0, .int .u32 0, .int .u32 0, .int .u32 0, .int .u32 0, .int .u32 0, .int .u32 0, .int .u32 0, .int .u32 0] rfl
  rw [World.size_alloc] at h
  exact ⟨(LinAt.new w (fun _ => 0) _ rfl).alloc _, h, ((Below.refl _ _).alloc (Nat.le_refl _) _).alloc (by simp) _⟩
set_option maxRecDepth 100000 in
set_option maxHeartbeats 2000000 in
theorem one_lin (w : World) (ht : Tab w) :
    Calls Tryd.prog 19 #[] w fun e w' => ∃ d, e = .returned (.agg (LN d)) ∧ IsSh d 8 ∧ (∀ i, d i < 4294967296) ∧ Below w.heap.size w w' := by
  have HL0 : Hid (_ ∧ _ ∧ _) := lay2 w
  have HT : Hid (Tab w) := ht
  clear ht
  go_enter Tryd.func19, Tryd.ntmps19
  go_wp2
  obtain ⟨wz, hwz⟩ : ∃ wz, (w.alloc (.cells #[.int .u32 0, .int .u32 0, .int .u32 0, .int .u32 0, .int .u32 0, .int .u32 0, .int .u32 0, .int .u32 0, .int .u32 0, .int .u32 0, .int .u32 0, .int .u32 0, .int .u32 0, .int .u32 0, .int .u32 0, .int .u32 0, .int .u32 0, .int .u32 0, .int .u32 0, .int .u32 0, .int .u32 0, .int .u32 0, .int .u32 0, .int .u32 0, .int .u32 0, .int .u32 0, .int .u32 0, .int .u32 0, .int .u32 0, .int .u32 0, .int .u32 0, .int .u32 0] 40)).alloc (.cells #[.int .u32 0, .int .u32 0, .int .u32 0, .int .u32 0, .int .u32 0, .int .u32 0, .int .u32 0, .int .u32 0, .int .u32 0, .int .u32 0, .int .u32 0, .int .u32 0, .int .u32 0, .int .u32 0, .int .u32 0, .int .u32 0, .int .u32 0, .int .u32 0, .int .u32 0, .int .u32 0, .int .u32 0, .int .u32 0, .int .u32 0, .int .u32 0, .int .u32 0, .int .u32 0, .int .u32 0, .int .u32 0, .int .u32 0, .int .u32 0, .int .u32 0, .int .u32 0] 40) = wz := ⟨_, rfl⟩
  rw [hwz] at HL0 ⊢
  clear hwz
  go_loopw [2, 3] (fun _ vi wr => ∃ (k : Nat) (d : Nat → Nat), k ≤ 32 ∧ vi = .int .i64 k ∧ Hid ((∀ i, i < k → d i = Crcm.shN 8 (2 ^ i)) ∧ (∀ i, d i < 4294967296) ∧ LinAt wr w.heap.size (fun _ => 0) ∧ LinAt wr (w.heap.size + 1) d ∧ Below w.heap.size w wr)) (fun _ vi _ => 32 - (intOf vi).toNat)
  case atStart => exact ⟨0, fun _ => 0, Nat.zero_le _, rfl, ⟨fun i hi => by omega, fun _ => by simp, HL0.out⟩⟩
  case round =>
    obtain ⟨k, d, hk, rfl, HI⟩ := hrel
    clear HL0
    by_cases hkl : k < 32
    · have hc := HI.out.2.2.2.1.bit k hkl
      have hf := HI.out.2.2.2.1.free k
      have HP : Hid ((2 : Int) ^ k % 4294967296 = ((2 ^ k : Nat) : Int)) := pow_emod k hkl
      obtain ⟨v, hv⟩ : ∃ v, Crcm.take (2 ^ k) 0 = v := ⟨_, rfl⟩
      have HV : Hid (Crcm.take (2 ^ k) 0 = v) := hv
      have HVL : Hid (v < 4294967296) := by show v < 4294967296; rw [← hv]; exact Crcm.take_lt _ _ (pow32 k hkl) (by omega)
      have HVS : Hid (v = Crcm.shN 8 (2 ^ k)) := by show _ = _; rw [← hv, Crcm.take, Nat.xor_zero]
      have HS : Hid ((∀ i, i < k + 1 → updL d k v i = Crcm.shN 8 (2 ^ i)) ∧ (∀ i, updL d k v i < 4294967296) ∧ LinAt (wr.setCell ⟨w.heap.size + 1, k, none⟩ (.int .u32 (v : Int))) w.heap.size (fun _ => 0) ∧ LinAt (wr.setCell ⟨w.heap.size + 1, k, none⟩ (.int .u32 (v : Int))) (w.heap.size + 1) (updL d k v) ∧ Below w.heap.size w (wr.setCell ⟨w.heap.size + 1, k, none⟩ (.int .u32 (v : Int)))) := by
        obtain ⟨h1, h2, h3, h4, h5⟩ := HI.out
        refine ⟨fun i hi => ?_, fun i => ?_, h3.other _ _ (by show w.heap.size ≠ w.heap.size + 1; omega), h4.put k v hkl, h5.setCell (p := ⟨w.heap.size + 1, k, none⟩) (by show w.heap.size ≤ w.heap.size + 1; omega) _⟩
        · unfold updL; split
          · rename_i e; rw [e, HVS.out]
          · exact h1 i (by omega)
        · unfold updL; split
          · exact HVL.out
          · exact h2 i
      have HT2 : Hid (Tab wr) := HT.out.keep HI.out.2.2.2.2
      clear hv
      go_wp2_with (go_at_call 25; rw [HP.out]; refine (take_any (2 ^ k) 0 _ (pow32 k hkl) (by omega) HT2.out).mono ?_; rw [HV.out]; rintro e w1 ⟨rfl, rfl⟩)
      go_roundw
      case rel => exact ⟨k + 1, updL d k v, by omega, by go_num, HS⟩
      case measure => simp [intOf]; omega
    · have hk2 : k = 32 := by omega
      subst hk2
      go_wp2_with (first
        | ((with_reducible refine guard_loadL 40 ?_); refine wpList_load_lin rfl _ rfl HI.out.2.2.2.1 rfl ?_)
        | ((with_reducible refine guard_storeL 40 ?_); refine wpList_store_lin rfl _ _ rfl rfl HI.out.2.2.1 rfl rfl ?_; intro w2 hL2 hB2))
      refine bodyPost_ret (results_lin rfl _ _ _ _ rfl hL2.loadVar) rfl ?_
      exact ⟨d, rfl, HI.out.1, HI.out.2.1, hB2 _ _ HI.out.2.2.2.2 (by omega)⟩
end Go.Proofs.YtnecnedkoddihaaDoor
