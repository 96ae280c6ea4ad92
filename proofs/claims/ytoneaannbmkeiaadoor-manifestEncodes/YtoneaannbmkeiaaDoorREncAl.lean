/- What the reference's EncodeAll answers. -/
import Derived.Test.YtoneaannbmkeiaaDoorEncAl
import Derived.Test.YtoneaannbmkeiaaDoorRenc
namespace Go.Proofs.YtoneaannbmkeiaaDoor
open Go.ChangeShapes Go.WideShapes Go.ChangeAt Go.RowKit
set_option linter.unusedVariables false
set_option maxRecDepth 20000 in
set_option maxHeartbeats 2000000 in
theorem rencAll_any (l : List Nat) (n : Nat) (a : Option Addr) (cap : Nat) (w : World) (hn : l.length = n) (hb : Nums w a l) (hl : n ≤ 1048576) :
    Calls Tryd.prog 20 #[.slice a n cap] w fun e w' => ∃ v, e = .returned v ∧ Own w' w.heap.size v (encAll l) ∧ Below w.heap.size w w' := by
  obtain ⟨i0, hi, hz0, hz1, hz2⟩ := info_parts Tryd.info5
  have hmem := nums_mem hb
  have HMEM : Hid (∀ x ∈ l, x ≤ 18446744073709551615) := hmem
  have hE := enc_length_le n (by omega)
  obtain ⟨hE1, hE2⟩ := hE
  have HLN : Hid (l.length = n) := hn
  have HFL : Hid (∀ k, (flat (l.take k)).length ≤ 10 * k) := by
    intro k
    have h1 := flat_length (l.take k) (fun x hx => hmem x (List.mem_of_mem_take hx))
    have h2 := List.length_take_le k l
    omega
  have HALL : Hid (encAll l = enc n ++ flat l) := by show _ = _; unfold encAll; rw [hn]
  have HLT : Hid (∀ x ∈ encAll l, x < 256) := encAll_lt l (by omega) hmem
  have hnI : (n : Int) ≤ 1048576 := by omega
  clear hn hmem
  have ha : (l = []) ∨ ∃ b off, a = some ⟨b, off, none⟩ ∧ b < w.heap.size ∧ ∀ i, i < l.length → w.cell? ⟨b, off + i, none⟩ = some (.int .u64 (l.getD i 0 : Nat)) := hb.2
  clear hb
  rcases ha with hnil | ⟨b, off, rfl, hlt, hcell⟩
  · have hn0 : n = 0 := by rw [← HLN.out, hnil]; rfl
    subst hn0
    have HF0 : Hid (encAll l = enc 0) := by show _ = _; rw [HALL.out, hnil]; simp [flat]
    clear hE1 hE2 HFL HALL HMEM hnil
    go_enter Tryd.func20, Tryd.ntmps20
    go_wp2_with (go_at_call 33; refine (renc_any 9 0 _ (by omega) (by decide)).mono ?_; rintro e w1 ⟨v, rfl, ho, hb1⟩)
    refine wp_loop_rounds 1 ?_
    rw [rounds_succ]
    go_wp2
    go_ret
    exact ⟨v, rfl, by rw [HF0.out]; exact ho, hb1⟩
  · have HCELL : Hid (∀ i, i < l.length → w.cell? ⟨b, off + i, none⟩ = some (.int .u64 (l.getD i 0 : Nat))) := hcell
    clear hcell
    go_enter Tryd.func20, Tryd.ntmps20
    go_wp2_with (go_at_call 33; refine (renc_any 9 n _ (by omega) (lt_pow10 n (by omega))).mono ?_; rintro e w1 ⟨v, rfl, ho, hb1⟩)
    go_loopw [3, 4] (fun vb vi wr => ∃ j : Nat, j ≤ n ∧ vi = .int .i64 j ∧ wr.ownsRow w.heap.size 5 1 vb ((enc n).length + (flat (l.take j)).length) (B8 (enc n) ++ B8 (flat (l.take j))) ∧ Below w.heap.size w wr) (fun _ vi _ => n - (intOf vi).toNat)
    case atStart => exact ⟨0, Nat.zero_le _, rfl, by simpa [flat, B8, enc] using ho.2, hb1⟩
    case round =>
      obtain ⟨j, hj, rfl, hoj, hbj⟩ := hrel
      clear ho hb1
      by_cases hjk : j < n
      · have hc := HCELL.out j (by rw [HLN.out]; exact hjk)
        rw [← hbj.cell (p := ⟨b, off + j, none⟩) hlt] at hc
        obtain ⟨u, hu2⟩ : ∃ u, u = l.getD j 0 := ⟨_, rfl⟩
        rw [← hu2] at hc
        have hsn := take_snocN l j u (by rw [HLN.out]; exact hjk) hu2
        have hu : u ≤ 18446744073709551615 := HMEM.out u (by have h := hsn ▸ (List.mem_append_right (l.take j) (List.mem_singleton_self u)); exact List.mem_of_mem_take h)
        have hfj := HFL.out j
        have hue := enc_length_le u hu
        obtain ⟨hue1, hue2⟩ := hue
        have HUNE : Hid (enc u ≠ []) := by intro h; rw [h] at hue1; simp at hue1
        have HNX : Hid (flat (l.take (j + 1)) = flat (l.take j) ++ enc u) := by show _ = _; rw [hsn, flat_snoc]
        have HUE : Hid (encF (9 + 1) u = enc u) := rfl
        clear hu2 hsn HCELL HFL HALL HLT
        go_wp2_with (first
          | (go_at_call 33; refine (renc_any 9 u _ hu (lt_pow10 u hu)).mono ?_; rw [HUE.out]; rintro e w3 ⟨v3, rfl, ho3, hb3⟩; obtain ⟨g3, cap3, rfl, hcap3, hby3⟩ := ho3.row HUNE.out; clear ho3; have HOJ : Hid (_) := own_row_keep hoj hb3; have hs3 : w.heap.size ≤ w3.heap.size := Nat.le_trans hbj.size hb3.size)
          | (at_builtin; refine wpList_append_own _ rfl _ _ 27 rfl w.heap.size 5 i0 (.int .u8 0) 1 1 Tryd.underlying27 hi hz0 hz1 hz2 rfl (by decide) _ _ _ rfl HOJ.out ⟨g3, 0, none⟩ (enc u).length cap3 (B8 (enc u)) rfl (B8_length _) (bytes_cells hby3) (B8_one _) (by unfold maxLen; omega) (by omega) hs3 ?_; intro v4 w4 ho4 hg4 _; have hb4 := grown_row (Below.refl w.heap.size w3) HOJ.out hs3 hg4; clear hg4))
        go_roundw
        case rel =>
          refine ⟨j + 1, by omega, by go_num, ?_, hbj.trans ((hb3.mono hbj.size).trans hb4)⟩
          rw [HNX.out, B8_append, List.length_append, ← List.append_assoc, ← Nat.add_assoc]
          first | exact ho4 | simpa [List.append_assoc] using ho4
        case measure => simp [intOf]; omega
      · have hjk2 : j = n := by omega
        subst hjk2
        have hoj2 := hoj
        rw [List.take_of_length_le (by rw [HLN.out]; exact Nat.le_refl _), ← List.length_append, ← B8_append, ← HALL.out] at hoj2
        have HO : Hid (_) := hoj2
        clear hoj2 hoj HCELL HFL HALL
        go_wp2
        go_ret
        exact ⟨_, rfl, ⟨getD_lt HLT.out, HO.out⟩, hbj⟩
end Go.Proofs.YtoneaannbmkeiaaDoor
