/- What crc.Combine answers. -/
import Derived.Test.YtnecnedkoddihaaDoorLinT
namespace Go.Proofs.YtnecnedkoddihaaDoor
open Go.ChangeShapes Go.WideShapes Go.ChangeAt Go.RowKit
theorem i64_and_raw (a b : Int) : bits .and .i64 a b = IntKind.i64.wrap (((a % 18446744073709551616).toNat &&& (b % 18446744073709551616).toNat : Nat) : Int) := by
  show IntKind.i64.wrap ((BitVec.ofInt 64 a &&& BitVec.ofInt 64 b).toNat : Int) = _
  rw [BitVec.toNat_and, BitVec.toNat_ofInt, BitVec.toNat_ofInt]
  rfl
theorem i64_and1 (N : Nat) (h : N ≤ 9223372036854775807) : bits .and .i64 (N : Int) 1 = ((N % 2 : Nat) : Int) := by
  rw [i64_and_raw, show ((N : Int) % 18446744073709551616).toNat = N from by omega, show ((1 : Int) % 18446744073709551616).toNat = 1 from rfl, nat_mask1, wrap_i64]
  omega
/-- what Combine's loop keeps -/
def Cb (T A p bm N : Nat) (d : Nat → Nat) (w wr : World) : Prop := A < 4294967296 ∧ IsSh d (8 * p) ∧ (∀ i, d i < 4294967296) ∧ LinAt wr bm d ∧ w.heap.size ≤ bm ∧ Below w.heap.size w wr ∧ Crcm.shN (8 * (p * N)) A = T
theorem IsSh.twice {d e : Nat → Nat} {p : Nat} (h : IsSh d (8 * p)) (hd : ∀ i, d i < 4294967296) (he : ∀ i, i < 32 → e i = ofN d (d i) 32) : IsSh e (8 * (2 * p)) := by
  intro i hi
  rw [he i hi, h.of _ (hd i), h i hi, ← Crcm.shN_add]
  congr 1
  omega
theorem cb_even {T A p N : Nat} (h : Crcm.shN (8 * (p * N)) A = T) (hN : N % 2 = 0) : Crcm.shN (8 * (2 * p * (N / 2))) A = T := by
  rw [← h]
  congr 2
  rw [Nat.mul_comm 2 p, Nat.mul_assoc]
  congr 1
  omega
theorem cb_odd {T A p N : Nat} (h : Crcm.shN (8 * (p * N)) A = T) (hN : N % 2 = 1) : Crcm.shN (8 * (2 * p * (N / 2))) (Crcm.shN (8 * p) A) = T := by
  rw [← h, ← Crcm.shN_add]
  congr 1
  have e : p * N = p + 2 * p * (N / 2) := by
    rw [Nat.mul_comm 2 p, Nat.mul_assoc]
    conv => lhs; rw [show N = 1 + 2 * (N / 2) from by omega]
    rw [Nat.mul_add, Nat.mul_one]
  omega
theorem below_after {w a b : World} (h : Below w.heap.size w a) (k : Below a.heap.size a b) : Below w.heap.size w b := h.trans (k.mono h.size)
set_option maxRecDepth 100000 in
set_option maxHeartbeats 2000000 in
theorem comb_nat (a b n : Nat) (w : World) (ha : a < 4294967296) (hb : b < 4294967296) (hn : n ≤ 9223372036854775807) (ht : Tab w) :
    Calls Tryd.prog 7 #[.int .u32 a, .int .u32 b, .int .i64 n] w fun e w' => e = .returned (.int .u32 (Crcm.shN (8 * n) a ^^^ b : Nat)) ∧ Below w.heap.size w w' := by
  have HT : Hid (Tab w) := ht
  have HA : Hid (a < 4294967296) := ha
  have HB : Hid (b < 4294967296) := hb
  have HN : Hid (n ≤ 9223372036854775807) := hn
  obtain ⟨T, hT⟩ : ∃ T, Crcm.shN (8 * n) a = T := ⟨_, rfl⟩
  have HTT : Hid (Crcm.shN (8 * n) a = T) := hT
  have HTL : Hid (T < 4294967296) := by show T < 4294967296; rw [← hT]; exact Crcm.shN_lt _ _ ha
  have hx : bits .xor .u32 (T : Int) (b : Int) = ((T ^^^ b : Nat) : Int) := u32_xor_nat T b HTL.out hb
  rw [hT]
  clear ht ha hb hT hn
  go_enter Tryd.func7, Tryd.ntmps7
  go_wp2_with (first
    | (go_at_call 19; refine (one_lin w HT.out).mono ?_; rintro e w1 ⟨d0, rfl, hs0, hl0, hb0⟩; have HS0 : Hid (IsSh d0 8 ∧ (∀ i, d0 i < 4294967296) ∧ Below w.heap.size w w1) := ⟨hs0, hl0, hb0⟩; clear hs0 hl0 hb0)
    | ((with_reducible refine guard_storeL 40 ?_); refine wpList_store_lin rfl _ _ rfl rfl (LinAt.new w1 (fun _ => 0) _ rfl) rfl rfl ?_; intro w2 hL2 hB2; have HL2 : Hid (LinAt w2 w1.heap.size d0) := hL2; have HB2 : Hid (∀ B a, Below B a (w1.alloc _) → B ≤ w1.heap.size → Below B a w2) := hB2; clear hL2 hB2))
  have HI0 : Hid (Cb T a 1 w1.heap.size n d0 w w2) := ⟨HA.out, HS0.out.1, HS0.out.2.1, HL2.out, HS0.out.2.2.size, HB2.out _ _ (HS0.out.2.2.alloc HS0.out.2.2.size _) HS0.out.2.2.size, by rw [Nat.one_mul]; exact HTT.out⟩
  go_loopw [0, 2, 7] (fun va vn vm wr => ∃ (A N p bm : Nat) (d : Nat → Nat), va = .int .u32 A ∧ vn = .int .i64 N ∧ vm = .pointer (some ⟨bm, 0, none⟩) ∧ Hid (N ≤ 9223372036854775807) ∧ Hid (Cb T A p bm N d w wr)) (fun _ vn _ _ => (intOf vn).toNat)
  case atStart => exact ⟨a, n, 1, w1.heap.size, d0, rfl, rfl, rfl, HN, HI0⟩
  case round =>
    obtain ⟨A, N, p, bm, d, rfl, rfl, rfl, HNB, HI⟩ := hrel
    clear HI0 HS0 HL2 HB2
    have T1 : Hid True := trivial
    have T2 : Hid True := trivial
    have T3 : Hid True := trivial
    by_cases hN : 0 < N
    · have hbit := i64_and1 N HNB.out
      have hNI : (0 : Int) < (N : Int) := by omega
      obtain ⟨bt, hbt⟩ : ∃ bt, N % 2 = bt := ⟨_, rfl⟩
      have HBTE : Hid (N % 2 = bt) := hbt
      rw [hbt] at hbit
      clear hbt
      by_cases hodd : bt = 1
      · subst hodd
        obtain ⟨A2, hA2⟩ : ∃ A2, ofN d A 32 = A2 := ⟨_, rfl⟩
        have HAE : Hid (ofN d A 32 = A2) := hA2
        clear hA2
        go_wp2_with (first
          | ((with_reducible refine guard_loadL 40 ?_); clear T1; refine wpList_load_lin rfl _ rfl HI.out.2.2.2.1 rfl ?_)
          | (go_at_call 20; refine (of_lin d A _ HI.out.2.2.1 HI.out.1).mono ?_; rw [HAE.out]; rintro e wo ⟨rfl, hbo⟩; have HBO : Hid (Below wr.heap.size wr wo) := hbo; clear hbo)
          | ((with_reducible refine guard_loadL 40 ?_); clear T2; refine wpList_load_lin rfl _ rfl (HI.out.2.2.2.1.keep HBO.out HI.out.2.2.2.1.lt) rfl ?_)
          | (go_at_call 21; refine (twice_lin d _ HI.out.2.2.1).mono ?_; rintro e wt ⟨e2, rfl, he2, hl2, hbt⟩; have HBT : Hid (Below wo.heap.size wo wt) := hbt; have HE2 : Hid ((∀ i, i < 32 → e2 i = ofN d (d i) 32) ∧ ∀ i, e2 i < 4294967296) := ⟨he2, hl2⟩; clear he2 hl2 hbt)
          | ((with_reducible refine guard_storeL 40 ?_); clear T3; refine wpList_store_lin rfl _ _ rfl rfl ((HI.out.2.2.2.1.keep HBO.out HI.out.2.2.2.1.lt).keep HBT.out (HI.out.2.2.2.1.keep HBO.out HI.out.2.2.2.1.lt).lt) rfl rfl ?_; intro ws hLs hBs; have HLs : Hid (LinAt ws bm e2) := hLs; have HBs : Hid (∀ B a, Below B a wt → B ≤ bm → Below B a ws) := hBs; clear hLs hBs)
          | ((with_reducible refine guard_loadL 40 ?_); refine wpList_load_lin rfl _ rfl HLs.out rfl ?_)
          | ((with_reducible refine guard_storeL 40 ?_); refine wpList_store_lin rfl _ _ rfl rfl (LinAt.new ws (fun _ => 0) _ rfl) rfl rfl ?_; intro wu hLu hBu; have HLu : Hid (LinAt wu ws.heap.size e2) := hLu; have HBu : Hid (∀ B a, Below B a (ws.alloc _) → B ≤ ws.heap.size → Below B a wu) := hBu; clear hLu hBu))
        go_roundw
        case rel =>
          refine ⟨A2, N / 2, 2 * p, ws.heap.size, e2, rfl, by go_num, rfl, by show N / 2 ≤ 9223372036854775807; have := HNB.out; omega, ?_⟩
          have hA3 : A2 = Crcm.shN (8 * p) A := by rw [← HAE.out]; exact HI.out.2.1.of A HI.out.1
          have b1 := below_after (below_after HI.out.2.2.2.2.2.1 HBO.out) HBT.out
          have b2 := HBs.out _ _ b1 HI.out.2.2.2.2.1
          refine ⟨by rw [hA3]; exact Crcm.shN_lt _ _ HI.out.1, HI.out.2.1.twice HI.out.2.2.1 HE2.out.1, HE2.out.2, HLu.out, b2.size, HBu.out _ _ (b2.alloc b2.size _) b2.size, ?_⟩
          rw [hA3]; exact cb_odd HI.out.2.2.2.2.2.2 HBTE.out
        case measure => simp [intOf]; omega
      · have h0 : bt = 0 := by have := HBTE.out; omega
        subst h0
        go_wp2_with (first
          | ((with_reducible refine guard_loadL 40 ?_); clear T2; refine wpList_load_lin rfl _ rfl HI.out.2.2.2.1 rfl ?_)
          | (go_at_call 21; refine (twice_lin d _ HI.out.2.2.1).mono ?_; rintro e wt ⟨e2, rfl, he2, hl2, hbt⟩; have HBT : Hid (Below wr.heap.size wr wt) := hbt; have HE2 : Hid ((∀ i, i < 32 → e2 i = ofN d (d i) 32) ∧ ∀ i, e2 i < 4294967296) := ⟨he2, hl2⟩; clear he2 hl2 hbt)
          | ((with_reducible refine guard_storeL 40 ?_); clear T3; refine wpList_store_lin rfl _ _ rfl rfl (HI.out.2.2.2.1.keep HBT.out HI.out.2.2.2.1.lt) rfl rfl ?_; intro ws hLs hBs; have HLs : Hid (LinAt ws bm e2) := hLs; have HBs : Hid (∀ B a, Below B a wt → B ≤ bm → Below B a ws) := hBs; clear hLs hBs)
          | ((with_reducible refine guard_loadL 40 ?_); refine wpList_load_lin rfl _ rfl HLs.out rfl ?_)
          | ((with_reducible refine guard_storeL 40 ?_); refine wpList_store_lin rfl _ _ rfl rfl (LinAt.new ws (fun _ => 0) _ rfl) rfl rfl ?_; intro wu hLu hBu; have HLu : Hid (LinAt wu ws.heap.size e2) := hLu; have HBu : Hid (∀ B a, Below B a (ws.alloc _) → B ≤ ws.heap.size → Below B a wu) := hBu; clear hLu hBu))
        go_roundw
        case rel =>
          refine ⟨A, N / 2, 2 * p, ws.heap.size, e2, rfl, by go_num, rfl, by show N / 2 ≤ 9223372036854775807; have := HNB.out; omega, ?_⟩
          have b1 := below_after HI.out.2.2.2.2.2.1 HBT.out
          have b2 := HBs.out _ _ b1 HI.out.2.2.2.2.1
          exact ⟨HI.out.1, HI.out.2.1.twice HI.out.2.2.1 HE2.out.1, HE2.out.2, HLu.out, b2.size, HBu.out _ _ (b2.alloc b2.size _) b2.size, cb_even HI.out.2.2.2.2.2.2 HBTE.out⟩
        case measure => simp [intOf]; omega
    · have hN0 : N = 0 := by omega
      subst hN0
      have hAT : A = T := by have h := HI.out.2.2.2.2.2.2; rw [Nat.mul_zero, Nat.mul_zero] at h; exact h
      subst hAT
      go_wp2
      go_ret
      exact ⟨rfl, HI.out.2.2.2.2.2.1⟩
set_option maxRecDepth 100000 in
set_option maxHeartbeats 2000000 in
theorem comb_neg (a b : Nat) (n : Int) (w : World) (ha : a < 4294967296) (hb : b < 4294967296) (hn : n < 0) (ht : Tab w) :
    Calls Tryd.prog 7 #[.int .u32 a, .int .u32 b, .int .i64 n] w fun e w' => e = .returned (.int .u32 (a ^^^ b : Nat)) ∧ Below w.heap.size w w' := by
  have HT : Hid (Tab w) := ht
  have hx : bits .xor .u32 (a : Int) (b : Int) = ((a ^^^ b : Nat) : Int) := u32_xor_nat a b ha hb
  clear ht ha hb
  go_enter Tryd.func7, Tryd.ntmps7
  go_wp2_with (first
    | (go_at_call 19; refine (one_lin w HT.out).mono ?_; rintro e w1 ⟨d0, rfl, hs0, hl0, hb0⟩; have HS0 : Hid (IsSh d0 8 ∧ (∀ i, d0 i < 4294967296) ∧ Below w.heap.size w w1) := ⟨hs0, hl0, hb0⟩; clear hs0 hl0 hb0)
    | ((with_reducible refine guard_storeL 40 ?_); refine wpList_store_lin rfl _ _ rfl rfl (LinAt.new w1 (fun _ => 0) _ rfl) rfl rfl ?_; intro w2 hL2 hB2; have HL2 : Hid (LinAt w2 w1.heap.size d0) := hL2; have HB2 : Hid (∀ B a, Below B a (w1.alloc _) → B ≤ w1.heap.size → Below B a w2) := hB2; clear hL2 hB2))
  refine wp_loop_rounds 1 ?_
  rw [rounds_succ]
  go_wp2
  go_ret
  exact ⟨rfl, HB2.out _ _ (HS0.out.2.2.alloc HS0.out.2.2.size _) HS0.out.2.2.size⟩
end Go.Proofs.YtnecnedkoddihaaDoor
