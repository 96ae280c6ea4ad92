/- Own texts, joined: Renc, REncAl. -/
import Derived.Test.YtoneaannbmkeiaaDoorRows
import Derived.Test.YtoneaannbmkeiaaDoorK00
import Derived.Test.YtoneaannbmkeiaaDoorK11
namespace Go.Proofs.YtoneaannbmkeiaaDoor
open Go.ChangeShapes Go.WideShapes Go.ChangeAt Go.RowKit
theorem Tryd.info5r : (Tryd.prog.info? 5).map (fun i => (i.zero, i.size, i.bytes)) = some (some (.int .u8 0), 1, 1) := by kernel_rfl
theorem encF_succ (f u : Nat) : encF (f + 1) u = if u < 128 then [u] else (128 + u % 128) :: encF f (u / 128) := rfl
theorem own_one (w : World) (c : Nat) (h : c < 256) : Own (w.alloc (.cells #[.int .u8 (c : Int)] 5)) w.heap.size (.slice (some ⟨w.heap.size, 0, none⟩) 1 1) [c] := by
  refine ⟨getD_lt (by simpa using h), ?_⟩
  exact World.ownsRow_lit w #[.int .u8 (c : Int)] 1 (Nat.le_refl _) (by unfold maxLen; omega) rfl
theorem own_keep {w w' : World} {o : Obj} {v : Value} {l : List Nat} (h : Own (w.alloc o) w.heap.size v l) (hb : Below (w.heap.size + 1) (w.alloc o) w') : w'.ownsRow w.heap.size 5 1 v l.length (B8 l) := by
  obtain ⟨_, h1, h2⟩ := h
  refine ⟨h1, ?_⟩
  rcases h2 with h2 | ⟨g, cap, cur, h3, h4, h5, h6, h7, h8, h9⟩
  · exact .inl h2
  · refine .inr ⟨g, cap, cur, h3, h4, ?_, h6, h7, h8, h9⟩
    have hlt : g < w.heap.size + 1 := by
      by_cases hh : g < (w.alloc o).heap.size
      · rw [World.size_alloc] at hh; exact hh
      · rw [Array.getElem?_eq_none (by omega)] at h5; cases h5
    rw [hb.block g hlt]; exact h5
set_option maxRecDepth 20000 in
set_option maxHeartbeats 1000000 in
theorem renc_any (f u : Nat) (w : World) (h64 : u ≤ 18446744073709551615) (hp : u < 128 ^ (f + 1)) :
    Calls Tryd.prog 33 #[.int .u64 u] w fun e w' => ∃ v, e = .returned v ∧ Own w' w.heap.size v (encF (f + 1) u) ∧ Below w.heap.size w w' := by
  obtain ⟨i0, hi, hz0, hz1, hz2⟩ := info_parts Tryd.info5r
  induction f generalizing u w with
  | zero =>
    have hlt : u < 128 := by simpa using hp
    have HE : Hid (encF 1 u = [u]) := by show _ = _; unfold encF; rw [if_pos hlt]
    have HO : Hid (_) := own_one w u (by omega)
    have hu8 : (u : Int) ≤ 255 := by omega
    clear hp
    go_enter Tryd.func33, Tryd.ntmps33
    go_wp2
    go_ret
    exact ⟨_, rfl, by rw [HE.out]; exact HO.out, (Below.refl _ _).alloc (Nat.le_refl _) _⟩
  | succ f ih =>
    by_cases hlt : u < 128
    · have HE : Hid (encF (f + 1 + 1) u = [u]) := by show _ = _; unfold encF; rw [if_pos hlt]
      have HO : Hid (_) := own_one w u (by omega)
      have hu8 : (u : Int) ≤ 255 := by omega
      clear hp ih
      go_enter Tryd.func33, Tryd.ntmps33
      go_wp2
      go_ret
      exact ⟨_, rfl, by rw [HE.out]; exact HO.out, (Below.refl _ _).alloc (Nat.le_refl _) _⟩
    · have HE : Hid (encF (f + 1 + 1) u = [128 + u % 128] ++ encF (f + 1) (u / 128)) := by
        show _ = _
        rw [encF_succ, if_neg hlt]
        rfl
      have HO : Hid (Own (w.alloc (.cells #[.int .u8 (128 + (u : Int) % 128)] 5)) w.heap.size (.slice (some ⟨w.heap.size, 0, none⟩) 1 1) [128 + u % 128]) := by
        have h := own_one w (128 + u % 128) (by omega)
        rw [show ((128 + u % 128 : Nat) : Int) = 128 + (u : Int) % 128 from by omega] at h
        exact h
      have hp2 : u / 128 < 128 ^ (f + 1) := by rw [Nat.pow_succ] at hp; exact Nat.div_lt_of_lt_mul (by rw [Nat.mul_comm]; exact hp)
      have IH : Hid (Calls Tryd.prog 33 #[.int .u64 ((u : Int) / 128)] (w.alloc (.cells #[.int .u8 (128 + (u : Int) % 128)] 5)) fun e w' => ∃ v, e = .returned v ∧ Own w' (w.heap.size + 1) v (encF (f + 1) (u / 128)) ∧ Below (w.heap.size + 1) (w.alloc (.cells #[.int .u8 (128 + (u : Int) % 128)] 5)) w') := by
        have h := ih (u / 128) (w.alloc (.cells #[.int .u8 (128 + (u : Int) % 128)] 5)) (by omega) hp2
        rw [show ((u / 128 : Nat) : Int) = (u : Int) / 128 from by omega, World.size_alloc] at h
        exact h
      have hlen : (encF (f + 1) (u / 128)).length ≤ 10 := by
        rw [encF_length f _ hp2]
        have h2 : bitLen (u / 128 ||| 1) ≤ 64 := bitLen_lt _ 64 (by rw [or_one]; omega)
        omega
      have HNE : Hid (encF (f + 1) (u / 128) ≠ []) := by
        show _ ≠ _
        unfold encF
        split <;> simp
      have hge : ¬ (u : Int) < 128 := by omega
      clear hp ih hp2 hlt
      generalize hL : encF (f + 1) (u / 128) = L at *
      clear hL
      go_enter Tryd.func33, Tryd.ntmps33
      go_wp2_with (first
        | (go_at_call 33; refine (IH.out).mono ?_; rintro e w2 ⟨v, rfl, ho, hb⟩; have HBY : Hid (∀ i, L.getD i 0 < 256) := ho.1; obtain ⟨g, cap, rfl, hcap, hby⟩ := ho.row HNE.out; clear ho; have HO2 : Hid (w2.ownsRow w.heap.size 5 1 (.slice (some ⟨w.heap.size, 0, none⟩) 1 1) 1 (B8 [128 + u % 128])) := own_keep HO.out hb; have hs2 : w.heap.size ≤ w2.heap.size := by have := hb.size; rw [World.size_alloc] at this; omega)
        | (at_builtin; refine wpList_append_own _ rfl _ _ 27 rfl w.heap.size 5 i0 (.int .u8 0) 1 1 Tryd.underlying27 hi hz0 hz1 hz2 rfl (by decide) _ _ _ rfl HO2.out ⟨g, 0, none⟩ L.length cap (B8 L) rfl (B8_length L) (bytes_cells hby) (B8_one L) (by unfold maxLen; omega) (by omega) hs2 ?_; intro v4 w4 ho4 hg4 _))
      have hb4 := grown_row (Below.refl w.heap.size w2) HO2.out hs2 hg4
      clear hg4
      go_wp2
      go_ret
      refine ⟨v4, rfl, ?_, ((Below.refl _ _).alloc (Nat.le_refl _) _).trans ((hb.mono (by omega)).trans hb4)⟩
      rw [HE.out]
      refine Own.append (getD_lt (by intro x hx; simp at hx; omega)) HBY.out ?_
      exact ho4
end Go.Proofs.YtoneaannbmkeiaaDoor
namespace Go.Proofs.YtoneaannbmkeiaaDoor
open Go.ChangeShapes Go.WideShapes Go.ChangeAt Go.RowKit
set_option linter.unusedVariables false
set_option maxRecDepth 20000 in
set_option maxHeartbeats 2000000 in
theorem rencAll_any (l : List Nat) (n : Nat) (a : Option Addr) (cap : Nat) (w : World) (hn : l.length = n) (hb : Nums w a l) (hl : n ≤ 1048576) :
    Calls Tryd.prog 20 #[.slice a n cap] w fun e w' => ∃ v, e = .returned v ∧ Own w' w.heap.size v (encAll l) ∧ Below w.heap.size w w' := by
  obtain ⟨i0, hi, hz0, hz1, hz2⟩ := info_parts Tryd.info5
  have hmem := nums_mem hb
  have HMEM : Hid (∀ x ∈ l, x ≤ 18446744073709551615) := hmem
  have hE := enc_length_le n (by omega)
  obtain ⟨hE1, hE2⟩ := hE
  have HLN : Hid (l.length = n) := hn
  have HFL : Hid (∀ k, (flat (l.take k)).length ≤ 10 * k) := by
    intro k
    have h1 := flat_length (l.take k) (fun x hx => hmem x (List.mem_of_mem_take hx))
    have h2 := List.length_take_le k l
    omega
  have HALL : Hid (encAll l = enc n ++ flat l) := by show _ = _; unfold encAll; rw [hn]
  have HLT : Hid (∀ x ∈ encAll l, x < 256) := encAll_lt l (by omega) hmem
  have hnI : (n : Int) ≤ 1048576 := by omega
  clear hn hmem
  have ha : (l = []) ∨ ∃ b off, a = some ⟨b, off, none⟩ ∧ b < w.heap.size ∧ ∀ i, i < l.length → w.cell? ⟨b, off + i, none⟩ = some (.int .u64 (l.getD i 0 : Nat)) := hb.2
  clear hb
  rcases ha with hnil | ⟨b, off, rfl, hlt, hcell⟩
  · have hn0 : n = 0 := by rw [← HLN.out, hnil]; rfl
    subst hn0
    have HF0 : Hid (encAll l = enc 0) := by show _ = _; rw [HALL.out, hnil]; simp [flat]
    clear hE1 hE2 HFL HALL HMEM hnil
    go_enter Tryd.func20, Tryd.ntmps20
    go_wp2_with (go_at_call 33; refine (renc_any 9 0 _ (by omega) (by decide)).mono ?_; rintro e w1 ⟨v, rfl, ho, hb1⟩)
    refine wp_loop_rounds 1 ?_
    rw [rounds_succ]
    go_wp2
    go_ret
    exact ⟨v, rfl, by rw [HF0.out]; exact ho, hb1⟩
  · have HCELL : Hid (∀ i, i < l.length → w.cell? ⟨b, off + i, none⟩ = some (.int .u64 (l.getD i 0 : Nat))) := hcell
    clear hcell
    go_enter Tryd.func20, Tryd.ntmps20
    go_wp2_with (go_at_call 33; refine (renc_any 9 n _ (by omega) (lt_pow10 n (by omega))).mono ?_; rintro e w1 ⟨v, rfl, ho, hb1⟩)
    go_loopw [3, 4] (fun vb vi wr => ∃ j : Nat, j ≤ n ∧ vi = .int .i64 j ∧ wr.ownsRow w.heap.size 5 1 vb ((enc n).length + (flat (l.take j)).length) (B8 (enc n) ++ B8 (flat (l.take j))) ∧ Below w.heap.size w wr) (fun _ vi _ => n - (intOf vi).toNat)
    case atStart => exact ⟨0, Nat.zero_le _, rfl, by simpa [flat, B8, enc] using ho.2, hb1⟩
    case round =>
      obtain ⟨j, hj, rfl, hoj, hbj⟩ := hrel
      clear ho hb1
      by_cases hjk : j < n
      · have hc := HCELL.out j (by rw [HLN.out]; exact hjk)
        rw [← hbj.cell (p := ⟨b, off + j, none⟩) hlt] at hc
        obtain ⟨u, hu2⟩ : ∃ u, u = l.getD j 0 := ⟨_, rfl⟩
        rw [← hu2] at hc
        have hsn := take_snocN l j u (by rw [HLN.out]; exact hjk) hu2
        have hu : u ≤ 18446744073709551615 := HMEM.out u (by have h := hsn ▸ (List.mem_append_right (l.take j) (List.mem_singleton_self u)); exact List.mem_of_mem_take h)
        have hfj := HFL.out j
        have hue := enc_length_le u hu
        obtain ⟨hue1, hue2⟩ := hue
        have HUNE : Hid (enc u ≠ []) := by intro h; rw [h] at hue1; simp at hue1
        have HNX : Hid (flat (l.take (j + 1)) = flat (l.take j) ++ enc u) := by show _ = _; rw [hsn, flat_snoc]
        have HUE : Hid (encF (9 + 1) u = enc u) := rfl
        clear hu2 hsn HCELL HFL HALL HLT
        go_wp2_with (first
          | (go_at_call 33; refine (renc_any 9 u _ hu (lt_pow10 u hu)).mono ?_; rw [HUE.out]; rintro e w3 ⟨v3, rfl, ho3, hb3⟩; obtain ⟨g3, cap3, rfl, hcap3, hby3⟩ := ho3.row HUNE.out; clear ho3; have HOJ : Hid (_) := own_row_keep hoj hb3; have hs3 : w.heap.size ≤ w3.heap.size := Nat.le_trans hbj.size hb3.size)
          | (at_builtin; refine wpList_append_own _ rfl _ _ 27 rfl w.heap.size 5 i0 (.int .u8 0) 1 1 Tryd.underlying27 hi hz0 hz1 hz2 rfl (by decide) _ _ _ rfl HOJ.out ⟨g3, 0, none⟩ (enc u).length cap3 (B8 (enc u)) rfl (B8_length _) (bytes_cells hby3) (B8_one _) (by unfold maxLen; omega) (by omega) hs3 ?_; intro v4 w4 ho4 hg4 _; have hb4 := grown_row (Below.refl w.heap.size w3) HOJ.out hs3 hg4; clear hg4))
        go_roundw
        case rel =>
          refine ⟨j + 1, by omega, by go_num, ?_, hbj.trans ((hb3.mono hbj.size).trans hb4)⟩
          rw [HNX.out, B8_append, List.length_append, ← List.append_assoc, ← Nat.add_assoc]
          first | exact ho4 | simpa [List.append_assoc] using ho4
        case measure => simp [intOf]; omega
      · have hjk2 : j = n := by omega
        subst hjk2
        have hoj2 := hoj
        rw [List.take_of_length_le (by rw [HLN.out]; exact Nat.le_refl _), ← List.length_append, ← B8_append, ← HALL.out] at hoj2
        have HO : Hid (_) := hoj2
        clear hoj2 hoj HCELL HFL HALL
        go_wp2
        go_ret
        exact ⟨_, rfl, ⟨getD_lt HLT.out, HO.out⟩, hbj⟩
end Go.Proofs.YtoneaannbmkeiaaDoor
