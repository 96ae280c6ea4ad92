/- A frame in which one run of up to 32 bits is turned is never read. -/
import Derived.Test.YtfclpkfbfdeegaaDoorFrm
import Derived.Test.YtfclpkfbfdeegaaDoorTurn
namespace Go.Proofs.YtfclpkfbfdeegaaDoor
set_option linter.unusedVariables false
theorem closed_reg (l : List Nat) (hl : ∀ x ∈ l, x < 256) (h4 : 4 ≤ l.length) : closedB l = decide (Crcm.upd Crcm.ones l = Crcm.shN 32 Crcm.ones) := by
  unfold closedB
  have h := Crcm.closed_iff (l.take (l.length - 4)) (l.drop (l.length - 4)) (fun x hx => hl x (List.mem_of_mem_take hx)) (fun x hx => hl x (List.mem_of_mem_drop hx)) (by rw [List.length_drop]; omega)
  rw [List.take_append_drop] at h
  rw [decide_eq_decide]
  exact ⟨fun hh => h.1 hh.2, fun hh => ⟨h4, h.2 hh⟩⟩
theorem told (l t : List Nat) (at0 P : Nat) (hl : ∀ x ∈ l, x < 256) (ht : ∀ x ∈ t, x < 256) (hn : t.length = l.length) (h4 : 4 ≤ l.length) (hP : P < 2 ^ 32) (hat : at0 < 8 * l.length) (hc : closedB l = true)
    (hv : Crcm.val t = Crcm.val l ^^^ turned at0 P (8 * l.length - at0) 32) : closedB t = decide (t = l) := by
  rw [closed_reg l hl h4] at hc
  rw [closed_reg t ht (by omega), decide_eq_decide]
  have hcl : Crcm.upd Crcm.ones l = Crcm.shN 32 Crcm.ones := of_decide_eq_true hc
  have hE : turned at0 P (8 * l.length - at0) 32 = 2 ^ at0 * (P % 2 ^ (8 * l.length - at0)) := by
    unfold turned
    by_cases hm : 8 * l.length - at0 ≤ 32
    · rw [Nat.min_eq_right hm]
    · rw [Nat.min_eq_left (by omega), Nat.mod_eq_of_lt hP, Nat.mod_eq_of_lt (Nat.lt_of_lt_of_le hP (Nat.pow_le_pow_right (by omega) (by omega)))]
  constructor
  · intro h
    rw [← hcl, Crcm.upd_val _ t ht, Crcm.upd_val _ l hl, hn, hv, hE] at h
    have h0 := Crcm.burst l.length at0 P hP hat Crcm.ones (Crcm.val l) h
    rw [hE, h0, Nat.mul_zero, Nat.xor_zero] at hv
    exact Crcm.val_inj t l ht hl hn hv
  · intro h
    rw [h]
    exact hcl
theorem val_low (l m : List Nat) (hl : ∀ x ∈ l, x < 256) : Crcm.val (l ++ m) % 2 ^ (8 * l.length) = Crcm.val l := by
  rw [Crcm.val_append, Nat.add_mul_mod_self_left, Nat.mod_eq_of_lt (Crcm.val_lt l hl)]
theorem val_high (l m : List Nat) (hl : ∀ x ∈ l, x < 256) : Crcm.val (l ++ m) / 2 ^ (8 * l.length) = Crcm.val m := by
  rw [Crcm.val_append, Nat.add_mul_div_left _ _ (Nat.two_pow_pos _), Nat.div_eq_of_lt (Crcm.val_lt l hl), Nat.zero_add]
theorem pow_split (a b c : Nat) (h : a = b + c) : 2 ^ a = 2 ^ b * 2 ^ c := by rw [h, Nat.pow_add]
theorem pow_part (a n m P : Nat) (h : a ≤ n) : 2 ^ a * (P % 2 ^ m) % 2 ^ n = 2 ^ a * (P % 2 ^ (min m (n - a))) := by
  rw [show 2 ^ n = 2 ^ a * 2 ^ (n - a) from pow_split _ _ _ (by omega), Nat.mul_mod_mul_left]
  refine congrArg (fun z => 2 ^ a * z) ?_
  by_cases hm : m ≤ n - a
  · rw [Nat.min_eq_left hm, Nat.mod_eq_of_lt (Nat.lt_of_lt_of_le (Nat.mod_lt _ (Nat.two_pow_pos _)) (Nat.pow_le_pow_right (by omega) hm))]
  · rw [Nat.min_eq_right (by omega), Nat.mod_mod_of_dvd _ (Nat.pow_dvd_pow 2 (by omega))]
theorem burst_frame (k s : Nat) (body t : List Nat) (at0 P : Nat) (hb : ∀ y ∈ body, y < 256) (hk1 : 1 ≤ k) (hk7 : k ≤ 7) (hn : body.length ≤ 16384) (hs : s ≤ 1099511627776) (ht : ∀ x ∈ t, x < 256) (htl : t.length = (frameL k s body).length)
    (hP : P < 4294967296) (hat : at0 < 8 * (frameL k s body).length) (hv : Crcm.val t = Crcm.val (frameL k s body) ^^^ turned at0 P (8 * (frameL k s body).length - at0) 32) (hne : t ≠ frameL k s body) : decE t = 61 ∨ decE t = 62 := by
  have hL := frameL_length k s body
  have hH := headL_length k body.length s
  have hHl := headL_lt k body.length s (by omega)
  have hBl := foot_lt body hb
  have hBn : (body ++ Crcm.four (Crcm.sum body)).length = body.length + 4 := by rw [List.length_append, four_length]
  have hP2 : P < 2 ^ 32 := hP
  obtain ⟨t1, h1⟩ : ∃ t1, t1 = t.take 16 := ⟨_, rfl⟩
  obtain ⟨t2, h2⟩ : ∃ t2, t2 = t.drop 16 := ⟨_, rfl⟩
  have hT : t = t1 ++ t2 := by rw [h1, h2, List.take_append_drop]
  have h1n : t1.length = 16 := by rw [h1, List.length_take]; omega
  have h2n : t2.length = body.length + 4 := by rw [h2, List.length_drop]; omega
  have h1l : ∀ x ∈ t1, x < 256 := fun x hx => ht x (by rw [hT]; exact List.mem_append_left _ hx)
  have h2l : ∀ x ∈ t2, x < 256 := fun x hx => ht x (by rw [hT]; exact List.mem_append_right _ hx)
  have v1 := val_low t1 t2 h1l
  have v2 := val_high t1 t2 h1l
  have u1 := val_low (headL k body.length s) (body ++ Crcm.four (Crcm.sum body)) hHl
  have u2 := val_high (headL k body.length s) (body ++ Crcm.four (Crcm.sum body)) hHl
  rw [← hT, h1n] at v1 v2
  rw [hH] at u1 u2
  have hF : headL k body.length s ++ (body ++ Crcm.four (Crcm.sum body)) = frameL k s body := rfl
  rw [hF] at u1 u2
  have hcH : closedB (headL k body.length s) = true := closed_whole _ (head12_lt k body.length s (by omega))
  have hcB : closedB (body ++ Crcm.four (Crcm.sum body)) = true := closed_whole _ hb
  rw [hL] at hat hv
  have e1 : Crcm.val t1 = Crcm.val (headL k body.length s) ^^^ (turned at0 P (8 * (body.length + 20) - at0) 32 % 2 ^ (8 * 16)) := by rw [← v1, hv, Nat.xor_mod_two_pow, u1]
  have e2 : Crcm.val t2 = Crcm.val (body ++ Crcm.four (Crcm.sum body)) ^^^ (turned at0 P (8 * (body.length + 20) - at0) 32 / 2 ^ (8 * 16)) := by rw [← v2, hv, Nat.xor_div_two_pow, u2]
  by_cases hh : t1 = headL k body.length s
  · have hB : t2 ≠ body ++ Crcm.four (Crcm.sum body) := by
      intro hx
      apply hne
      rw [hT, hh, hx]
      rfl
    have hz : turned at0 P (8 * (body.length + 20) - at0) 32 % 2 ^ (8 * 16) = 0 := by
      rw [hh] at e1
      exact (Crcm.xor_inj (Crcm.val (headL k body.length s)) 0 (turned at0 P (8 * (body.length + 20) - at0) 32 % 2 ^ (8 * 16)) ((Nat.xor_zero _).trans e1)).symm
    have hcl : closedB t2 = decide (t2 = body ++ Crcm.four (Crcm.sum body)) := by
      by_cases ha : 128 ≤ at0
      · refine told _ t2 (at0 - 128) P hBl h2l (by rw [h2n, hBn]) (by rw [hBn]; omega) hP2 (by rw [hBn]; omega) hcB ?_
        rw [e2, hBn]
        refine congrArg (fun z => Crcm.val (body ++ Crcm.four (Crcm.sum body)) ^^^ z) ?_
        unfold turned
        rw [show 2 ^ at0 = 2 ^ (8 * 16) * 2 ^ (at0 - 128) from pow_split _ _ _ (by omega), Nat.mul_assoc, Nat.mul_div_cancel_left _ (Nat.two_pow_pos _), show 8 * (body.length + 4) - (at0 - 128) = 8 * (body.length + 20) - at0 from by omega]
      · have hd : turned at0 P (8 * (body.length + 20) - at0) 32 = 2 ^ (8 * 16) * (turned at0 P (8 * (body.length + 20) - at0) 32 / 2 ^ (8 * 16)) := by
          have := Nat.div_add_mod (turned at0 P (8 * (body.length + 20) - at0) 32) (2 ^ (8 * 16))
          rw [hz, Nat.add_zero] at this
          exact this.symm
        obtain ⟨Q, hQ⟩ : ∃ Q, turned at0 P (8 * (body.length + 20) - at0) 32 / 2 ^ (8 * 16) = Q := ⟨_, rfl⟩
        rw [hQ] at hd e2
        have hq1 : P % 2 ^ (min 32 (8 * (body.length + 20) - at0)) = 2 ^ (128 - at0) * Q := by
          unfold turned at hd
          rw [show 2 ^ (8 * 16) = 2 ^ at0 * 2 ^ (128 - at0) from pow_split _ _ _ (by omega), Nat.mul_assoc] at hd
          exact Nat.eq_of_mul_eq_mul_left (Nat.two_pow_pos _) hd
        have hq2 : Q < 2 ^ 32 := by
          have hp1 : P % 2 ^ (min 32 (8 * (body.length + 20) - at0)) ≤ P := Nat.mod_le _ _
          have hp2 : Q ≤ 2 ^ (128 - at0) * Q := Nat.le_mul_of_pos_left _ (Nat.two_pow_pos _)
          rw [hq1] at hp1
          exact Nat.lt_of_le_of_lt (Nat.le_trans hp2 hp1) hP2
        refine told _ t2 0 Q hBl h2l (by rw [h2n, hBn]) (by rw [hBn]; omega) hq2 (by rw [hBn]; omega) hcB ?_
        rw [e2, hBn]
        refine congrArg (fun z => Crcm.val (body ++ Crcm.four (Crcm.sum body)) ^^^ z) ?_
        unfold turned
        rw [Nat.min_eq_left (by omega), Nat.pow_zero, Nat.one_mul, Nat.mod_eq_of_lt hq2]
    have hf2 : closedB t2 = false := by rw [hcl]; simpa using hB
    right
    have hT2 : t = headL k body.length s ++ t2 := by rw [hT, hh]
    obtain ⟨p1, p2, p3, p4, p5⟩ := head_parts k body.length s t2 (by omega) (by omega)
    have p0 := peek_laid k body.length s t2 hk1 hk7 hn hs
    rw [← hT2] at p0 p2
    unfold decE
    rw [p0, p2, if_neg (by omega), if_neg (by omega), if_pos]
    rw [List.take_of_length_le (by omega), ← h2]
    exact hf2
  · have ha : at0 < 128 := by
      apply Decidable.byContradiction
      intro ha
      apply hh
      have hz : turned at0 P (8 * (body.length + 20) - at0) 32 % 2 ^ (8 * 16) = 0 := by
        unfold turned
        rw [show 2 ^ at0 = 2 ^ (8 * 16) * 2 ^ (at0 - 128) from pow_split _ _ _ (by omega), Nat.mul_assoc, Nat.mul_mod_right]
      rw [hz, Nat.xor_zero] at e1
      exact Crcm.val_inj t1 _ h1l hHl (by rw [h1n, hH]) e1
    have hcl : closedB t1 = decide (t1 = headL k body.length s) := by
      refine told _ t1 at0 P hHl h1l (by rw [h1n, hH]) (by rw [hH]; omega) hP2 (by rw [hH]; omega) hcH ?_
      rw [e1, hH]
      refine congrArg (fun z => Crcm.val (headL k body.length s) ^^^ z) ?_
      unfold turned
      rw [pow_part at0 (8 * 16) _ P (by omega), Nat.min_assoc, Nat.min_eq_right (show 8 * 16 - at0 ≤ 8 * (body.length + 20) - at0 from by omega)]
    have hf1 : closedB (t.take 16) = false := by rw [← h1, hcl]; simpa using hh
    have h16 : ¬ t.length < 16 := by omega
    have hp : peekE t = 61 ∨ peekE t = 62 := by
      unfold peekE
      rw [if_neg h16]
      by_cases hm : t.getD 0 0 ≠ 165
      · rw [if_pos hm]; exact .inl rfl
      · rw [if_neg hm, if_pos hf1]; exact .inr rfl
    unfold decE
    rcases hp with h | h
    · left; rw [h, if_pos (by omega)]
    · right; rw [h, if_pos (by omega)]
end Go.Proofs.YtfclpkfbfdeegaaDoor
