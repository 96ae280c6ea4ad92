/- Own texts, joined: Renc, Tlen. -/
import Derived.Test.YtbdgiecnhgiogaaRows
import Derived.Test.YtbdgiecnhgiogaaK00
import Derived.Test.YtbdgiecnhgiogaaK16
namespace Go.Proofs.Ytbdgiecnhgiogaa
open Go.ChangeShapes Go.WideShapes Go.ChangeAt Go.RowKit
theorem Try.info5r : (Try.prog.info? 5).map (fun i => (i.zero, i.size, i.bytes)) = some (some (.int .u8 0), 1, 1) := by kernel_rfl
theorem encF_succ (f u : Nat) : encF (f + 1) u = if u < 128 then [u] else (128 + u % 128) :: encF f (u / 128) := rfl
theorem own_one (w : World) (c : Nat) (h : c < 256) : Own (w.alloc (.cells #[.int .u8 (c : Int)] 5)) w.heap.size (.slice (some ⟨w.heap.size, 0, none⟩) 1 1) [c] := by
  refine ⟨getD_lt (by simpa using h), ?_⟩
  exact World.ownsRow_lit w #[.int .u8 (c : Int)] 1 (Nat.le_refl _) (by unfold maxLen; omega) rfl
theorem own_keep {w w' : World} {o : Obj} {v : Value} {l : List Nat} (h : Own (w.alloc o) w.heap.size v l) (hb : Below (w.heap.size + 1) (w.alloc o) w') : w'.ownsRow w.heap.size 5 1 v l.length (B8 l) := by
  obtain ⟨_, h1, h2⟩ := h
  refine ⟨h1, ?_⟩
  rcases h2 with h2 | ⟨g, cap, cur, h3, h4, h5, h6, h7, h8, h9⟩
  · exact .inl h2
  · refine .inr ⟨g, cap, cur, h3, h4, ?_, h6, h7, h8, h9⟩
    have hlt : g < w.heap.size + 1 := by
      by_cases hh : g < (w.alloc o).heap.size
      · rw [World.size_alloc] at hh; exact hh
      · rw [Array.getElem?_eq_none (by omega)] at h5; cases h5
    rw [hb.block g hlt]; exact h5
set_option maxRecDepth 20000 in
set_option maxHeartbeats 1000000 in
theorem renc_any (f u : Nat) (w : World) (h64 : u ≤ 18446744073709551615) (hp : u < 128 ^ (f + 1)) :
    Calls Try.prog 44 #[.int .u64 u] w fun e w' => ∃ v, e = .returned v ∧ Own w' w.heap.size v (encF (f + 1) u) ∧ Below w.heap.size w w' := by
  obtain ⟨i0, hi, hz0, hz1, hz2⟩ := info_parts Try.info5r
  induction f generalizing u w with
  | zero =>
    have hlt : u < 128 := by simpa using hp
    have HE : Hid (encF 1 u = [u]) := by show _ = _; unfold encF; rw [if_pos hlt]
    have HO : Hid (_) := own_one w u (by omega)
    have hu8 : (u : Int) ≤ 255 := by omega
    clear hp
    go_enter Try.func44, Try.ntmps44
    go_wp2
    go_ret
    exact ⟨_, rfl, by rw [HE.out]; exact HO.out, (Below.refl _ _).alloc (Nat.le_refl _) _⟩
  | succ f ih =>
    by_cases hlt : u < 128
    · have HE : Hid (encF (f + 1 + 1) u = [u]) := by show _ = _; unfold encF; rw [if_pos hlt]
      have HO : Hid (_) := own_one w u (by omega)
      have hu8 : (u : Int) ≤ 255 := by omega
      clear hp ih
      go_enter Try.func44, Try.ntmps44
      go_wp2
      go_ret
      exact ⟨_, rfl, by rw [HE.out]; exact HO.out, (Below.refl _ _).alloc (Nat.le_refl _) _⟩
    · have HE : Hid (encF (f + 1 + 1) u = [128 + u % 128] ++ encF (f + 1) (u / 128)) := by
        show _ = _
        rw [encF_succ, if_neg hlt]
        rfl
      have HO : Hid (Own (w.alloc (.cells #[.int .u8 (128 + (u : Int) % 128)] 5)) w.heap.size (.slice (some ⟨w.heap.size, 0, none⟩) 1 1) [128 + u % 128]) := by
        have h := own_one w (128 + u % 128) (by omega)
        rw [show ((128 + u % 128 : Nat) : Int) = 128 + (u : Int) % 128 from by omega] at h
        exact h
      have hp2 : u / 128 < 128 ^ (f + 1) := by rw [Nat.pow_succ] at hp; exact Nat.div_lt_of_lt_mul (by rw [Nat.mul_comm]; exact hp)
      have IH : Hid (Calls Try.prog 44 #[.int .u64 ((u : Int) / 128)] (w.alloc (.cells #[.int .u8 (128 + (u : Int) % 128)] 5)) fun e w' => ∃ v, e = .returned v ∧ Own w' (w.heap.size + 1) v (encF (f + 1) (u / 128)) ∧ Below (w.heap.size + 1) (w.alloc (.cells #[.int .u8 (128 + (u : Int) % 128)] 5)) w') := by
        have h := ih (u / 128) (w.alloc (.cells #[.int .u8 (128 + (u : Int) % 128)] 5)) (by omega) hp2
        rw [show ((u / 128 : Nat) : Int) = (u : Int) / 128 from by omega, World.size_alloc] at h
        exact h
      have hlen : (encF (f + 1) (u / 128)).length ≤ 10 := by
        rw [encF_length f _ hp2]
        have h2 : bitLen (u / 128 ||| 1) ≤ 64 := bitLen_lt _ 64 (by rw [or_one]; omega)
        omega
      have HNE : Hid (encF (f + 1) (u / 128) ≠ []) := by
        show _ ≠ _
        unfold encF
        split <;> simp
      have hge : ¬ (u : Int) < 128 := by omega
      clear hp ih hp2 hlt
      generalize hL : encF (f + 1) (u / 128) = L at *
      clear hL
      go_enter Try.func44, Try.ntmps44
      go_wp2_with (first
        | (go_at_call 44; refine (IH.out).mono ?_; rintro e w2 ⟨v, rfl, ho, hb⟩; have HBY : Hid (∀ i, L.getD i 0 < 256) := ho.1; obtain ⟨g, cap, rfl, hcap, hby⟩ := ho.row HNE.out; clear ho; have HO2 : Hid (w2.ownsRow w.heap.size 5 1 (.slice (some ⟨w.heap.size, 0, none⟩) 1 1) 1 (B8 [128 + u % 128])) := own_keep HO.out hb; have hs2 : w.heap.size ≤ w2.heap.size := by have := hb.size; rw [World.size_alloc] at this; omega)
        | (at_builtin; refine wpList_append_own _ rfl _ _ 27 rfl w.heap.size 5 i0 (.int .u8 0) 1 1 Try.underlying27 hi hz0 hz1 hz2 rfl (by decide) _ _ _ rfl HO2.out ⟨g, 0, none⟩ L.length cap (B8 L) rfl (B8_length L) (bytes_cells hby) (B8_one L) (by unfold maxLen; omega) (by omega) hs2 ?_; intro v4 w4 ho4 hg4 _))
      have hb4 := grown_row (Below.refl w.heap.size w2) HO2.out hs2 hg4
      clear hg4
      go_wp2
      go_ret
      refine ⟨v4, rfl, ?_, ((Below.refl _ _).alloc (Nat.le_refl _) _).trans ((hb.mono (by omega)).trans hb4)⟩
      rw [HE.out]
      refine Own.append (getD_lt (by intro x hx; simp at hx; omega)) HBY.out ?_
      exact ho4
end Go.Proofs.Ytbdgiecnhgiogaa
namespace Go.Proofs.Ytbdgiecnhgiogaa
open Go.ChangeShapes Go.WideShapes Go.ChangeAt Go.RowKit
set_option linter.unusedVariables false
set_option maxRecDepth 20000 in
set_option maxHeartbeats 1000000 in
theorem rfault_any (f : Fld) (last : Int) (a : Option Addr) (cap : Nat) (w : World) (hn : f.num ≤ 18446744073709551615) :
    Calls Try.prog 16 #[FV f.tag f.text f.num (.slice a f.bytes.length cap), .int .i64 last] w fun r w' => r = .returned (.int .i64 (flt f last : Int)) ∧ Below w.heap.size w w' := by
  obtain ⟨tag, text, num, bytes⟩ := f
  simp only at hn ⊢
  obtain ⟨L, hL⟩ : ∃ L, bytes.length = L := ⟨_, rfl⟩
  rw [hL]
  by_cases c1 : tag < 1
  · have HF : Hid (flt ⟨tag, text, num, bytes⟩ last = 20) := by show _ = _; unfold flt; rw [if_pos (.inl c1)]
    go_enter Try.func16, Try.ntmps16
    go_wp2
    go_ret
    exact ⟨by rw [HF.out]; rfl, (Below.refl _ _).alloc (Nat.le_refl _) _⟩
  by_cases c2 : 31 < tag
  · have HF : Hid (flt ⟨tag, text, num, bytes⟩ last = 20) := by show _ = _; unfold flt; rw [if_pos (.inr c2)]
    go_enter Try.func16, Try.ntmps16
    go_wp2
    go_ret
    exact ⟨by rw [HF.out]; rfl, (Below.refl _ _).alloc (Nat.le_refl _) _⟩
  have c12 : ¬ (tag < 1 ∨ 31 < tag) := by omega
  by_cases c3 : tag ≤ last
  · have HF : Hid (flt ⟨tag, text, num, bytes⟩ last = 21) := by show _ = _; unfold flt; rw [if_neg c12, if_pos c3]
    go_enter Try.func16, Try.ntmps16
    go_wp2
    go_ret
    exact ⟨by rw [HF.out]; rfl, (Below.refl _ _).alloc (Nat.le_refl _) _⟩
  cases text with
  | true =>
    by_cases c4 : L = 0
    · have HF : Hid (flt ⟨tag, true, num, bytes⟩ last = 22) := by show _ = _; unfold flt; rw [if_neg c12, if_neg c3, if_pos rfl, if_pos (List.length_eq_zero_iff.1 (hL.trans c4))]
      subst c4
      clear hL
      go_enter Try.func16, Try.ntmps16
      go_wp2
      go_ret
      exact ⟨by rw [HF.out]; rfl, (Below.refl _ _).alloc (Nat.le_refl _) _⟩
    have c4' : bytes ≠ [] := by intro h; subst h; simp at hL; omega
    by_cases c5 : 200 < L
    · have HF : Hid (flt ⟨tag, true, num, bytes⟩ last = 23) := by show _ = _; unfold flt; rw [if_neg c12, if_neg c3, if_pos rfl, if_neg c4', if_pos (by rw [hL]; exact c5)]
      clear hL
      go_enter Try.func16, Try.ntmps16
      go_wp2
      go_ret
      exact ⟨by rw [HF.out]; rfl, (Below.refl _ _).alloc (Nat.le_refl _) _⟩
    · have HF : Hid (flt ⟨tag, true, num, bytes⟩ last = 0) := by show _ = _; unfold flt; rw [if_neg c12, if_neg c3, if_pos rfl, if_neg c4', if_neg (by rw [hL]; exact c5)]
      clear hL
      go_enter Try.func16, Try.ntmps16
      go_wp2
      go_ret
      exact ⟨by rw [HF.out]; rfl, (Below.refl _ _).alloc (Nat.le_refl _) _⟩
  | false =>
    by_cases c4 : num = 0
    · have HF : Hid (flt ⟨tag, false, num, bytes⟩ last = 22) := by show _ = _; unfold flt; rw [if_neg c12, if_neg c3, if_neg (by simp), if_pos c4]
      subst c4
      clear hL
      go_enter Try.func16, Try.ntmps16
      go_wp2
      go_ret
      exact ⟨by rw [HF.out]; rfl, (Below.refl _ _).alloc (Nat.le_refl _) _⟩
    · have HF : Hid (flt ⟨tag, false, num, bytes⟩ last = 0) := by show _ = _; unfold flt; rw [if_neg c12, if_neg c3, if_neg (by simp), if_neg c4]
      clear hL
      go_enter Try.func16, Try.ntmps16
      go_wp2
      go_ret
      exact ⟨by rw [HF.out]; rfl, (Below.refl _ _).alloc (Nat.le_refl _) _⟩
theorem rencode_at (x : Int) (u : Nat) (hx : x = u) (w : World) (hu : u ≤ 18446744073709551615) :
    Calls Try.prog 44 #[.int .u64 x] w fun e w' => ∃ v, e = .returned v ∧ Own w' w.heap.size v (enc u) ∧ Below w.heap.size w w' := by
  subst hx
  exact renc_any 9 u w hu (lt_pow10 u hu)
end Go.Proofs.Ytbdgiecnhgiogaa
