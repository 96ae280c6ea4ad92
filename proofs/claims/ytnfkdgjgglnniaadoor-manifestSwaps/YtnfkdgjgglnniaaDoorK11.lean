/- Own texts, joined: EncS, EncAl. -/
import Derived.Test.YtnfkdgjgglnniaaDoorK10
namespace Go.Proofs.YtnfkdgjgglnniaaDoor
open Go.ChangeShapes Go.WideShapes Go.ChangeAt Go.RowKit
theorem size_any (u : Nat) (w : World) (hu : u ≤ 18446744073709551615) :
    Calls Tryd.prog 51 #[.int .u64 u] w fun e w' => e = .returned (.int .i64 (enc u).length) ∧ w = w' := by
  have ho : bits .or .u64 (u : Int) 1 = ((u ||| 1 : Nat) : Int) := u64_or_nat u 1 (by omega) (by omega)
  have hb : bitLen (u ||| 1) ≤ 64 := bitLen_lt _ 64 (by rw [or_one]; omega)
  have ho2 : u ||| 1 ≤ 18446744073709551615 := by rw [or_one]; omega
  have HL : Hid (_ = _) := enc_length u hu
  generalize hx : u ||| 1 = x at *
  clear hx
  go_enter Tryd.func51, Tryd.ntmps51
  go_wp2_with (go_at_call 62; refine (len_any (x : Int) _ (by omega) (by omega)).mono ?_; rintro e w' ⟨rfl, rfl⟩; rw [Int.toNat_natCast])
  go_ret
  refine ⟨ret_int ?_, rfl⟩
  rw [HL.out]
  omega
theorem size_int (x : Int) (w : World) (h0 : 0 ≤ x) (h1 : x ≤ 18446744073709551615) :
    Calls Tryd.prog 51 #[.int .u64 x] w fun e w' => e = .returned (.int .i64 (enc x.toNat).length) ∧ w = w' := by
  obtain ⟨u, rfl⟩ := Int.eq_ofNat_of_zero_le h0
  rw [Int.toNat_natCast]
  exact size_any u w (by omega)
end Go.Proofs.YtnfkdgjgglnniaaDoor
namespace Go.Proofs.YtnfkdgjgglnniaaDoor
open Go.ChangeShapes Go.WideShapes Go.ChangeAt Go.RowKit
def flat : List Nat → List Nat
  | [] => []
  | u :: r => enc u ++ flat r
def encAll (l : List Nat) : List Nat := enc l.length ++ flat l
theorem flat_snoc (l : List Nat) (u : Nat) : flat (l ++ [u]) = flat l ++ enc u := by
  induction l with
  | nil => simp [flat]
  | cons x r ih => simp only [List.cons_append, flat, ih, List.append_assoc]
theorem flat_length (l : List Nat) (h : ∀ x ∈ l, x ≤ 18446744073709551615) : (flat l).length ≤ 10 * l.length := by
  induction l with
  | nil => simp [flat]
  | cons x r ih =>
    have h1 := (enc_length_le x (h x (by simp))).2
    have h2 := ih (fun y hy => h y (by simp [hy]))
    simp only [flat, List.length_append, List.length_cons]
    omega
theorem flat_lt (l : List Nat) (h : ∀ x ∈ l, x ≤ 18446744073709551615) : ∀ x ∈ flat l, x < 256 := by
  induction l with
  | nil => intro x hx; simp [flat] at hx
  | cons u r ih =>
    intro x hx
    simp only [flat, List.mem_append] at hx
    rcases hx with hx | hx
    · exact enc_lt 9 u (lt_pow10 u (h u (by simp))) x hx
    · exact ih (fun y hy => h y (by simp [hy])) x hx
theorem encAll_lt (l : List Nat) (hn : l.length ≤ 18446744073709551615) (h : ∀ x ∈ l, x ≤ 18446744073709551615) : ∀ x ∈ encAll l, x < 256 := by
  intro x hx
  rcases List.mem_append.1 hx with hx | hx
  · exact enc_lt 9 _ (lt_pow10 _ hn) x hx
  · exact flat_lt l h x hx
theorem take_snocN (l : List Nat) (k c : Nat) (h : k < l.length) (hc : c = l.getD k 0) : l.take (k + 1) = l.take k ++ [c] := by
  subst hc
  rw [List.take_succ_eq_append_getElem h, List.getD_eq_getElem?_getD, List.getElem?_eq_getElem h]; rfl
theorem own_row_keep {w w' : World} {base e size n : Nat} {v : Value} {xs : List Value} (h : w.ownsRow base e size v n xs) (hb : Below w.heap.size w w') : w'.ownsRow base e size v n xs := by
  obtain ⟨h1, h2⟩ := h
  refine ⟨h1, ?_⟩
  rcases h2 with h2 | ⟨g, cap, cur, h3, h4, h5, h6, h7, h8, h9⟩
  · exact .inl h2
  · refine .inr ⟨g, cap, cur, h3, h4, ?_, h6, h7, h8, h9⟩
    have hlt : g < w.heap.size := by
      by_cases hh : g < w.heap.size
      · exact hh
      · rw [Array.getElem?_eq_none (by omega)] at h5; cases h5
    rw [hb.block g hlt]; exact h5
theorem nums_mem {w : World} {a : Option Addr} {l : List Nat} (h : Nums w a l) : ∀ x ∈ l, x ≤ 18446744073709551615 := by
  intro x hx
  obtain ⟨i, hi, rfl⟩ := List.mem_iff_getElem.1 hx
  have := h.1 i
  rw [List.getD_eq_getElem?_getD, List.getElem?_eq_getElem hi] at this
  simp at this
  omega
set_option maxRecDepth 20000 in
set_option maxHeartbeats 2000000 in
theorem encAll_any (l : List Nat) (n : Nat) (a : Option Addr) (cap : Nat) (w : World) (hn : l.length = n) (hb : Nums w a l) (hl : n ≤ 1048576) :
    Calls Tryd.prog 33 #[.slice a n cap] w fun e w' => ∃ v, e = .returned v ∧ Own w' w.heap.size v (encAll l) ∧ Below w.heap.size w w' := by
  obtain ⟨i0, hi, hz0, hz1, hz2⟩ := info_parts Tryd.info5
  have hmem := nums_mem hb
  have HMEM : Hid (∀ x ∈ l, x ≤ 18446744073709551615) := hmem
  have hE := enc_length_le n (by omega)
  obtain ⟨hE1, hE2⟩ := hE
  have HLN : Hid (l.length = n) := hn
  have HFL : Hid (∀ k, (flat (l.take k)).length ≤ 10 * k) := by
    intro k
    have h1 := flat_length (l.take k) (fun x hx => hmem x (List.mem_of_mem_take hx))
    have h2 := List.length_take_le k l
    omega
  have HALL : Hid (encAll l = enc n ++ flat l) := by show _ = _; unfold encAll; rw [hn]
  have HLT : Hid (∀ x ∈ encAll l, x < 256) := encAll_lt l (by omega) hmem
  clear hn hmem
  have ha : (l = []) ∨ ∃ b off, a = some ⟨b, off, none⟩ ∧ b < w.heap.size ∧ ∀ i, i < l.length → w.cell? ⟨b, off + i, none⟩ = some (.int .u64 (l.getD i 0 : Nat)) := hb.2
  clear hb
  rcases ha with hnil | ⟨b, off, rfl, hlt, hcell⟩
  · have hn0 : n = 0 := by rw [← HLN.out, hnil]; rfl
    subst hn0
    have HF0 : Hid (encAll l = enc 0) := by show _ = _; rw [HALL.out, hnil]; simp [flat]
    clear hE1 hE2 HFL HALL HMEM hnil
    have e0 : (enc 0).length = 1 := by decide
    go_enter Tryd.func33, Tryd.ntmps33
    go_wp2_with (go_at_call 51; refine (size_any 0 _ (by omega)).mono ?_; rw [e0]; rintro e w1 ⟨rfl, rfl⟩)
    refine wp_loop_rounds 1 ?_
    rw [rounds_succ]
    go_wp2_with (at_make; refine wpList_make_own _ rfl _ _ 40 rfl w.heap.size 5 i0 (.int .u8 0) 1 Tryd.underlying40 hi hz0 hz1 _ _ _ 1 rfl rfl rfl (by rw [hz2]; omega) (by simp [maxLen]) (Nat.le_refl _) ?_)
    intro w1 ho hg
    have hb1 : Below w.heap.size w w1 := (Below.refl _ _).grown hg (Nat.le_refl _) (fun k hk => by cases hk)
    have hs1 := hb1.size
    clear hg
    go_wp2_with (go_at_call 52; refine (put_any 0 w.heap.size _ _ _ _ (by omega) ho hs1 (by omega)).mono ?_; rw [Nat.zero_add, List.nil_append]; rintro e w2 ⟨v, rfl, ho2, hb2⟩)
    refine wp_loop_rounds 1 ?_
    rw [rounds_succ]
    go_wp2
    go_ret
    exact ⟨v, rfl, ⟨by rw [HF0.out]; exact enc_byte 0 (by omega), by rw [HF0.out]; exact ho2⟩, hb1.trans hb2⟩
  · have HCELL : Hid (∀ i, i < l.length → w.cell? ⟨b, off + i, none⟩ = some (.int .u64 (l.getD i 0 : Nat))) := hcell
    clear hcell
    go_enter Tryd.func33, Tryd.ntmps33
    go_wp2_with (go_at_call 51; refine (size_any n _ (by omega)).mono ?_; rintro e w1 ⟨rfl, rfl⟩)
    go_loop [3, 5, 15] (fun vs vu vi => ∃ k s : Nat, k ≤ n ∧ vi = .int .i64 k ∧ vs = .int .i64 s ∧ s = (enc n).length + (flat (l.take k)).length) (fun _ _ vi => n - (intOf vi).toNat)
    case atStart => exact ⟨0, _, Nat.zero_le _, rfl, rfl, by simp [flat]⟩
    case round =>
      obtain ⟨k, s, hk, rfl, rfl, hs⟩ := hrel
      have HS : Hid (s = (enc n).length + (flat (l.take k)).length) := hs
      have hsb : s ≤ 10 + 10 * k := by have := HFL.out k; omega
      clear hs
      by_cases hkl : k < n
      · have hc := HCELL.out k (by rw [HLN.out]; exact hkl)
        obtain ⟨u, hu2⟩ : ∃ u, u = l.getD k 0 := ⟨_, rfl⟩
        rw [← hu2] at hc
        have hsn := take_snocN l k u (by rw [HLN.out]; exact hkl) hu2
        have hu : u ≤ 18446744073709551615 := HMEM.out u (by have h := hsn ▸ (List.mem_append_right (l.take k) (List.mem_singleton_self u)); exact List.mem_of_mem_take h)
        have hue := (enc_length_le u hu).2
        have HNX : Hid (s + (enc u).length = (enc n).length + (flat (l.take (k + 1))).length) := by
          show _ = _
          rw [hsn, flat_snoc, List.length_append, HS.out]; omega
        clear hu2 hsn HCELL HFL HALL HLT
        go_wp2_with (go_at_call 51; refine (size_any u _ hu).mono ?_; rintro e w1 ⟨rfl, rfl⟩)
        go_round
        case rel => exact ⟨k + 1, s + (enc u).length, by omega, by go_num, by go_num, HNX.out⟩
        case measure => simp [intOf]; omega
      · have hkn : k = n := by omega
        subst hkn
        go_wp2_with (at_make; refine wpList_make_own _ rfl _ _ 40 rfl w.heap.size 5 i0 (.int .u8 0) 1 Tryd.underlying40 hi hz0 hz1 _ _ _ s rfl rfl rfl (by rw [hz2]; omega) (by unfold maxLen; omega) (Nat.le_refl _) ?_)
        intro w1 ho hg
        have hb1 : Below w.heap.size w w1 := (Below.refl _ _).grown hg (Nat.le_refl _) (fun k hk => by cases hk)
        have hs1 := hb1.size
        clear hg
        go_wp2_with (go_at_call 52; refine (put_any k w.heap.size _ _ _ _ (by omega) ho hs1 (by omega)).mono ?_; rw [Nat.zero_add, List.nil_append]; rintro e w2 ⟨v, rfl, ho2, hb2⟩)
        go_loopw [6, 8, 32] (fun vb vu vi wr => ∃ j : Nat, j ≤ k ∧ vi = .int .i64 j ∧ wr.ownsRow w.heap.size 5 1 vb ((enc k).length + (flat (l.take j)).length) (B8 (enc k) ++ B8 (flat (l.take j))) ∧ Below w.heap.size w wr) (fun _ _ vi _ => k - (intOf vi).toNat)
        case atStart => exact ⟨0, Nat.zero_le _, rfl, by simpa [flat, B8] using ho2, hb1.trans hb2⟩
        case round =>
          obtain ⟨j, hj, rfl, hoj, hbj⟩ := hrel
          clear ho2 ho hb1 hb2
          by_cases hjk : j < k
          · have hc := HCELL.out j (by rw [HLN.out]; exact hjk)
            rw [← hbj.cell (p := ⟨b, off + j, none⟩) hlt] at hc
            obtain ⟨u, hu2⟩ : ∃ u, u = l.getD j 0 := ⟨_, rfl⟩
            rw [← hu2] at hc
            have hsn := take_snocN l j u (by rw [HLN.out]; exact hjk) hu2
            have hu : u ≤ 18446744073709551615 := HMEM.out u (by have h := hsn ▸ (List.mem_append_right (l.take j) (List.mem_singleton_self u)); exact List.mem_of_mem_take h)
            have hfj := HFL.out j
            have HNX : Hid (flat (l.take (j + 1)) = flat (l.take j) ++ enc u) := by show _ = _; rw [hsn, flat_snoc]
            clear hu2 hsn HCELL HFL HALL HLT HS
            go_wp2_with (go_at_call 52; refine (put_any u w.heap.size _ _ _ _ hu hoj hbj.size (by omega)).mono ?_; rintro e w3 ⟨v3, rfl, ho3, hb3⟩)
            go_roundw
            case rel =>
              refine ⟨j + 1, by omega, by go_num, ?_, hbj.trans hb3⟩
              rw [HNX.out, B8_append, List.length_append, ← List.append_assoc, ← Nat.add_assoc]
              exact ho3
            case measure => simp [intOf]; omega
          · have hjk2 : j = k := by omega
            subst hjk2
            have hoj2 := hoj
            rw [List.take_of_length_le (by rw [HLN.out]; exact Nat.le_refl _), ← List.length_append, ← B8_append, ← HALL.out] at hoj2
            have HO : Hid (_) := hoj2
            clear hoj2
            clear hoj HCELL HFL HALL HS
            go_wp2
            go_ret
            exact ⟨_, rfl, ⟨getD_lt HLT.out, HO.out⟩, hbj⟩
end Go.Proofs.YtnfkdgjgglnniaaDoor
