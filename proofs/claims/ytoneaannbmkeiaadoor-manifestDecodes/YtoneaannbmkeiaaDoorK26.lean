/- Own texts, joined: Rm5. -/
import Derived.Test.YtoneaannbmkeiaaDoorK25
import Derived.Test.YtoneaannbmkeiaaDoorK20
namespace Go.Proofs.YtoneaannbmkeiaaDoor
open Go.ChangeShapes Go.WideShapes Go.ChangeAt Go.RowKit
set_option linter.unusedVariables false
theorem smsOf_get : ∀ (q : List Nat) (k : Nat), 4 * k + 3 < q.length → (smsOf q)[k]? = some ⟨toI (q.getD (4 * k) 0), toI (q.getD (4 * k + 1) 0), toI (q.getD (4 * k + 2) 0), toI (q.getD (4 * k + 3) 0)⟩
  | [], k, h => by simp at h
  | [_], k, h => by simp only [List.length_cons, List.length_nil] at h; omega
  | [_, _], k, h => by simp only [List.length_cons, List.length_nil] at h; omega
  | [_, _, _], k, h => by simp only [List.length_cons, List.length_nil] at h; omega
  | a :: b :: c :: d :: r, 0, h => by simp [smsOf]
  | a :: b :: c :: d :: r, k + 1, h => by
    have ih := smsOf_get r k (by simp only [List.length_cons] at h; omega)
    rw [show 4 * (k + 1) = 4 * k + 4 from by omega]
    simp only [smsOf, List.getElem?_cons_succ]
    rw [ih]
    simp
theorem smsOf_len : ∀ (q : List Nat), (smsOf q).length = q.length / 4
  | [] => by simp [smsOf]
  | [_] => by simp [smsOf]
  | [_, _] => by simp [smsOf]
  | [_, _, _] => by simp [smsOf]
  | a :: b :: c :: d :: r => by
    have := smsOf_len r
    simp only [smsOf, List.length_cons]
    omega
theorem nums_some {w : World} {a : Option Addr} {l : List Nat} (h : Nums w a l) (hl : l ≠ []) : ∃ b off, a = some ⟨b, off, none⟩ ∧ b < w.heap.size ∧ ∀ i, i < l.length → w.cell? ⟨b, off + i, none⟩ = some (.int .u64 (l.getD i 0 : Nat)) := by
  rcases h.2 with h | h
  · exact absurd h hl
  · exact h
set_option maxRecDepth 20000 in
set_option maxHeartbeats 4000000 in
theorem rmd_bad5 (l : List Nat) (n : Nat) (a : Option Addr) (cap : Nat) (w : World) (hn : l.length = n) (hb : Bytes w a l) (hcap : n ≤ cap) (hl : n ≤ 140737488351232) (h0 : decE l = 0) (h1 : decN l = l.length) (h2 : (decAll (decB l) 1028).2.2 = 0) (h3 : 4 ≤ (decAll (decB l) 1028).1.length) (h : ¬ ∀ u ∈ (decAll (decB l) 1028).1, u ≤ 2199023255552) :
    Calls Tryd.prog 15 #[.slice a n cap] w fun e w' => e = .returned (.tuple #[MfV zeroM (.slice none 0 0), .int .i64 80]) ∧ Below w.heap.size w w' := by
  have HX : Hid (l.length = n ∧ Bytes w a l ∧ l.length ≤ cap ∧ l.length ≤ 281474976710656) := ⟨hn, hb, by omega, by omega⟩
  have HM0 : Hid (MfAt (w.alloc (.cells (mfA zeroM (.slice none 0 0)) 24)) w.heap.size zeroM (.slice none 0 0)) := MfAt.new w zeroM _
  have HB0 : Hid (Below w.heap.size w (w.alloc (.cells (mfA zeroM (.slice none 0 0)) 24))) := (Below.refl _ _).alloc (Nat.le_refl _) _
  obtain ⟨K, hK⟩ : ∃ K, decK l = K := ⟨_, rfl⟩
  obtain ⟨S, hS⟩ : ∃ S, decS l = S := ⟨_, rfl⟩
  obtain ⟨N, hN⟩ : ∃ N, decN l = N := ⟨_, rfl⟩
  obtain ⟨E, hE⟩ : ∃ E, decE l = E := ⟨_, rfl⟩
  obtain ⟨B, hB⟩ : ∃ B, (decB l).length = B := ⟨_, rfl⟩
  have HV : Hid (∀ v, DV l v = .tuple #[FrV (K : Int) (S : Int) v, .int .i64 (N : Int), .int .i64 (E : Int)]) := fun v => by rw [← hK, ← hS, ← hN, ← hE]
  have hBl : B ≤ n := by rw [← hB, ← hn]; unfold decB; split <;> simp <;> omega
  have HBL : Hid ((decB l).length = B ∧ B ≤ 140737488351232) := ⟨hB, by omega⟩
  have T1 : Hid True := trivial
  obtain ⟨U, p, e, hd⟩ : ∃ U p e, decAll (decB l) 1028 = (U, p, e) := ⟨_, _, _, rfl⟩
  obtain ⟨u, hu⟩ : ∃ u, U.length = u := ⟨_, rfl⟩
  have HD : Hid (decAll (decB l) 1028 = (U, p, e)) := hd
  have HUL : Hid (U.length = u) := hu
  have hq : ((E : Int) != 0) = false := by rw [← hE, h0]; rfl
  have hq2 : ((N : Int) != (n : Int)) = false := by rw [← hN, ← hn, h1]; simp
  rw [hd] at h h2 h3
  simp only at h h2 h3
  have hu8 : u ≤ 1028 := by rw [← hu]; exact decAll_lenM (p := p) (by rw [hd, h2])
  have hq3 : ((e : Int) != 0) = false := by rw [h2]; rfl
  have hq4 : decide ((u : Int) < 4) = false := by rw [hu] at h3; simp; omega
  have HNE : Hid (U ≠ []) := by show _ ≠ _; intro hh; rw [hh] at h3; simp at h3
  have HALL : Hid (¬ ∀ i, i < u → U.getD i 0 ≤ 2199023255552) := by
    show ¬ _
    intro hh
    refine h (fun x hx => ?_)
    obtain ⟨i, hi, rfl⟩ := List.mem_iff_getElem.1 hx
    have := hh i (by rw [← hu]; exact hi)
    rw [List.getD_eq_getElem?_getD, List.getElem?_eq_getElem hi] at this
    exact this
  have huI : (u : Int) ≤ 1028 := by omega
  clear hn hb hcap hl hK hS hN hE hB hBl h h0 h1 h2 h3 hd hu
  go_enter Tryd.func15, Tryd.ntmps15
  go_wp2_with (first
    | (go_at_call 25; refine (rfdec_any l n a cap _ HX.out.1 (HX.out.2.1.keep HB0.out) HX.out.2.2.2 HX.out.2.2.1).mono ?_; rintro _ w1 ⟨v1, rfl, ho1, hb1⟩; rw [HV.out v1]; obtain ⟨a1, c1, hv1, hc1, _, hy1, _⟩ := ho1.shape; rw [HBL.out.1] at hv1 hc1; subst hv1; have HY1 : Hid (Bytes w1 a1 (decB l) ∧ B ≤ c1) := ⟨hy1, hc1⟩; have HM1 : Hid (MfAt w1 w.heap.size zeroM (.slice none 0 0)) := HM0.out.after hb1; have HB1 : Hid (Below w.heap.size w w1) := below_next HB0.out hb1; have HL1 : Hid (w.heap.size < w1.heap.size) := HM1.out.lt; clear ho1 hb1 hy1 hc1)
    | ((with_reducible refine frm_store 52 ?_); clear T1; refine wpList_store_frm rfl _ _ rfl rfl (FrmAt.new w1 0 0 (.slice none 0 0)) rfl rfl rfl ?_; intro w2 hf2 ho2 hh2 hs2; have HB2 : Hid (Below w.heap.size w w2) := below_one (HB1.out.alloc HB1.out.size _) ho2 hh2 hs2 HB1.out.size; have HM2 : Hid (MfAt w2 w.heap.size zeroM (.slice none 0 0)) := (hh2 _ (by have := HL1.out; omega)).trans (HM1.out.after ((Below.refl _ _).alloc (Nat.le_refl _) _)); have HY2 : Hid (Bytes w2 a1 (decB l)) := HY1.out.1.keep (below_one ((Below.refl _ _).alloc (Nat.le_refl _) _) ho2 hh2 hs2 (Nat.le_refl _)); obtain ⟨x0, x1, x2⟩ := hf2.cells; have hl2 : w1.heap.size < w2.heap.size := lt_of_heap hf2; clear hf2 ho2 hh2 hs2)
    | (go_at_call 26; refine (rdecAll_any (decB l) 1028 B a1 c1 _ HBL.out.1 HY2.out HY1.out.2 HBL.out.2 (by omega) (by omega) (by omega)).mono ?_; rw [HD.out]; rintro _ w3 ⟨v3, rfl, ho3, hb3⟩; obtain ⟨a3, c3, hv3, hn3⟩ := ho3.slice; obtain ⟨b3, o3, rfl, hl3, hc3⟩ := nums_some hn3 HNE.out; have HC3 : Hid (∀ i, i < U.length → w3.cell? ⟨b3, o3 + i, none⟩ = some (.int .u64 (U.getD i 0 : Nat))) := hc3; rw [HUL.out] at hv3; subst hv3; have HM3 : Hid (MfAt w3 w.heap.size zeroM (.slice none 0 0)) := HM2.out.after hb3; have HB3 : Hid (Below w.heap.size w w3) := below_next HB2.out hb3; clear ho3 hb3 hn3 hc3))
  clear hq hq2 hq3 hq4
  go_loopw [45] (fun vi wr => ∃ k : Nat, k ≤ u ∧ vi = .int .i64 k ∧ Hid (∀ i, i < k → U.getD i 0 ≤ 2199023255552) ∧ Below w3.heap.size w3 wr) (fun vi _ => u - (intOf vi).toNat)
  case atStart => exact ⟨0, Nat.zero_le _, rfl, fun i hi => by omega, Below.refl _ _⟩
  case round =>
    obtain ⟨k, hk, rfl, HPK, hbr⟩ := hrel
    have hsz := hbr.size
    by_cases hku : k < u
    · obtain ⟨X, hX⟩ : ∃ X, U.getD k 0 = X := ⟨_, rfl⟩
      have ck : wr.cell? ⟨b3, o3 + k, none⟩ = some (.int .u64 (X : Int)) := by
        have h1 := HC3.out k (by rw [HUL.out]; exact hku)
        rw [hX] at h1
        exact (hbr.cell (p := ⟨b3, o3 + k, none⟩) hl3).trans h1
      have hlr : b3 < wr.heap.size := Nat.lt_of_lt_of_le hl3 hsz
      have hkI : (k : Int) < (u : Int) := by omega
      have HXK : Hid (U.getD k 0 = X) := hX
      clear hX
      by_cases hXb : X ≤ 2199023255552
      · have HP2 : Hid (∀ i, i < k + 1 → U.getD i 0 ≤ 2199023255552) := fun i hi => by
          by_cases h : i = k
          · rw [h, HXK.out]; exact hXb
          · exact HPK.out i (by omega)
        have dX : decide ((2199023255552 : Int) < (X : Int)) = false := by simp; omega
        clear hXb
        go_wp2
        go_roundw
        case rel => exact ⟨k + 1, by omega, by go_num, HP2, hbr⟩
        case measure => simp [intOf]; omega
      · have dX : decide ((2199023255552 : Int) < (X : Int)) = true := by simp; omega
        have HMR : Hid (MfAt wr w.heap.size zeroM (.slice none 0 0)) := HM3.out.after hbr
        have HBR : Hid (Below w.heap.size w wr) := below_next HB3.out hbr
        clear hXb
        go_wp2_with ((with_reducible refine frm_store 24 ?_); refine wpList_store_mf rfl _ _ rfl rfl HMR.out rfl (m2 := zeroM) (a2 := none) (n2 := 0) (c2 := 0) rfl ?_; intro w4 hf ho hh hs; have HM4 : Hid (MfAt w4 w.heap.size zeroM (.slice none 0 0)) := hf; have HB4 : Hid (Below w.heap.size w w4) := ho _ _ HBR.out (Nat.le_refl _); clear hf ho hh hs)
        (try simp only [Exit.inBlock, Exit.then])
        exact bodyPost_ret (results_mf2 rfl _ _ w.heap.size _ rfl rfl HM4.out) rfl ⟨rfl, HB4.out⟩
    · exact absurd (fun i hi => HPK.out i (by omega)) HALL.out
end Go.Proofs.YtoneaannbmkeiaaDoor
