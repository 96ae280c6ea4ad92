/- For every kind, number, body and length: frame.Encode answers the document's bytes and error, leaves the body as it was and answers in new memory; frame.Size answers as the document says. No condition. -/
import Derived.Test.YtogklgpghecclaaDoorCrcTie
import Derived.Test.YtogklgpghecclaaDoorFr5
import Derived.Test.YtogklgpghecclaaDoorFr7
import Derived.Test.YtogklgpghecclaaDoorCopy
import Derived.Test.YtogklgpghecclaaDoorSame
import Derived.Test.YtogklgpghecclaaDoorTwo
import Derived.Test.YtogklgpghecclaaDoorTurn
import Derived.SizedLaws
import Derived.ChangeOld
namespace Go.Proofs.YtogklgpghecclaaDoor.frameEncodes
open Go.ChangeShapes Go.WideShapes Go.ChangeAt Go.RowKit
set_option linter.unusedVariables false
theorem place {w : World} {base : Nat} {v : Value} {l : List Nat} (h : Own w base v l) (hl : l ≠ []) : ∃ g cap, v = .slice (some ⟨g, 0, none⟩) l.length cap ∧ l.length ≤ cap ∧ Bytes w (some ⟨g, 0, none⟩) l ∧ base ≤ g ∧ g < w.heap.size := by
  obtain ⟨a, cap, h1, h2, _, h3, h4⟩ := h.shape
  rcases h4 with ⟨_, h5, _⟩ | ⟨g, rfl, h5, h6⟩
  · exact absurd h5 hl
  · exact ⟨g, cap, h1, h2, h3, h5, h6⟩
theorem heap_drewN (w : World) (n : Nat) : (w.drewN n).heap = w.heap := by
  induction n with
  | zero => rfl
  | succ n ih => exact ih
theorem own_heapeq {w w' : World} {base n : Nat} {v : Value} {xs : List Value} (h : w.ownsRow base 5 1 v n xs) (hh : w'.heap = w.heap) : w'.ownsRow base 5 1 v n xs := by
  refine ⟨h.1, ?_⟩
  rw [hh]
  exact h.2
theorem xor255 (x : Nat) (h : x < 256) : bits .xor .u8 (x : Int) 255 = ((x ^^^ 255 : Nat) : Int) ∧ x ^^^ 255 < 256 := by
  refine ⟨?_, ?_⟩
  · have := u8_xor_nat x 255 h (by omega)
    exact this
  · exact Nat.xor_lt_two_pow (n := 8) h (by omega)
set_option maxRecDepth 20000 in
set_option maxHeartbeats 2000000 in
theorem walk (kind seq : Int) (l : List Nat) (a : Option Addr) (cap : Nat) (a3 : Int) (w : World) (w0 : (Lit.int .i64 kind).wf = true) (w1 : (Lit.int .i64 seq).wf = true) (hb : Bytes w a l) (hc : Came w a l.length cap 1) (w3 : (Lit.int .i64 a3).wf = true) (ht : Tab w) :
    Calls Tryd.prog 3 #[.int .i64 kind, .int .i64 seq, .slice a l.length cap, .int .i64 a3] w fun e w' => e = .returned (.bool true) ∧ Below w.heap.size w w' := by
  obtain ⟨hf, hr, hn⟩ := hc
  have hl : l.length ≤ 140737488351232 := by omega
  have HB : Hid (Bytes w a l) := hb
  have HT : Hid (Tab w) := ht
  have HNC : Hid (a = none → cap = 0) := hn
  obtain ⟨n, hN⟩ : ∃ n, l.length = n := ⟨_, rfl⟩
  have HN : Hid (l.length = n) := hN
  rw [hN] at hl hf ⊢
  have HCP : Hid (∀ w1, Below w.heap.size w w1 → Calls Tryd.prog 11 #[.slice a n cap] w1 fun e w' => ∃ v, e = .returned v ∧ Own w' w1.heap.size v l ∧ Below w1.heap.size w1 w') := fun w1 hb1 => by
    have := copy_any l a cap w1 (hb.keep hb1) (by rw [hN]; omega)
    rw [hN] at this
    exact this
  have HRE : Hid (∀ w1, Below w.heap.size w w1 → Calls Tryd.prog 12 #[FrV kind seq (.slice a n cap)] w1 fun r w' => ∃ v, r = .returned (.tuple #[v, .int .i64 (encE kind seq n : Nat)]) ∧ Own w' w1.heap.size v (encL kind seq l) ∧ Below w1.heap.size w1 w') := fun w1 hb1 => rfenc_any kind seq l n a cap w1 hN (hb.keep hb1) hn (by omega)
  have HEN : Hid (∀ w1 a1 c1, Below w.heap.size w w1 → Bytes w1 a1 l → ((a1 = none ∧ l = [] ∧ c1 = 0) ∨ ∃ g, a1 = some ⟨g, 0, none⟩) → Calls Tryd.prog 13 #[FrV kind seq (.slice a1 n c1)] w1 fun r w' => ∃ v, r = .returned (.tuple #[v, .int .i64 (encE kind seq n : Nat)]) ∧ Own w' w1.heap.size v (encL kind seq l) ∧ Below w1.heap.size w1 w') := fun w1 a1 c1 hb1 hy1 hs1 => fenc_any kind seq l n a1 c1 w1 hN hy1 (fun h => by rcases hs1 with h2 | ⟨g, h2⟩; exact h2.2.2; rw [h] at h2; cases h2) (by omega) (fun x h => by rcases hs1 with h2 | ⟨g, h2⟩; rw [h2.1] at h; cases h; rw [h2] at h; cases h; exact ⟨g, 0, rfl⟩) (ht.keep hb1)
  have b3 : -9223372036854775808 ≤ a3 ∧ a3 ≤ 9223372036854775807 := by simpa [Lit.wf, IntKind.min, IntKind.max, IntKind.signed, IntKind.bits] using w3
  clear hb ht hN w0 w1 w3 hn
  have T1 : Hid True := trivial
  have T2 : Hid True := trivial
  have T3 : Hid True := trivial
  have hz20 : fsz 0 = 20 := by unfold fsz; decide
  have HZ20 : Hid (fsz 0 = 20) := hz20
  clear hz20
  by_cases hE : encE kind seq n = 0
  · obtain ⟨k, s, rfl, rfl, hk1, hk7, hs1, hn4⟩ := encE_ok hE
    have HE : Hid (encE (k : Int) (s : Int) n = 0) := hE
    have HEL : Hid (encL (k : Int) (s : Int) l = frameL k s l) := by show _ = _; unfold encL; rw [HN.out, hE, if_pos rfl]; rfl
    obtain ⟨L, hL⟩ : ∃ L, n + 20 = L := ⟨_, rfl⟩
    have HFL : Hid ((frameL k s l).length = L) := by show _ = _; rw [frameL_length, HN.out, hL]
    have hL1 : L ≤ 16404 := by omega
    have hL0 : 20 ≤ L := by omega
    have HFN : Hid (frameL k s l ≠ []) := by intro h; have := HFL.out; rw [h] at this; simp at this; omega
    have HFB : Hid (∀ x ∈ frameL k s l, x < 256) := frameL_lt k s l (by omega) HB.out.mem
    have hLI : (L : Int) ≤ 16404 := by omega
    clear hE hL hn4
    go_enter Tryd.func3, Tryd.ntmps3
    go_wp2_with (first
      | (go_at_call 9; refine (head11_any w HT.out).mono ?_; rintro e w1 ⟨rfl, hb1⟩; have HB1 : Hid (Below w.heap.size w w1) := hb1; clear hb1)
      | (go_at_call 10; clear T3; refine (fsize_any 0 _).mono ?_; rw [HZ20.out]; rintro e w1' ⟨rfl, rfl⟩)
      | (go_at_call 11; refine (HCP.out _ HB1.out).mono ?_; rintro e w2 ⟨v2, rfl, ho2, hb2⟩; obtain ⟨a2, c2, hv2, hc2, _, hy2, hs2⟩ := ho2.shape; rw [HN.out] at hv2 hc2; subst hv2; have HB2 : Hid (Below w.heap.size w w2) := below_next HB1.out hb2; have HY2 : Hid (Bytes w2 a2 l) := hy2; have HS2 : Hid ((a2 = none ∧ l = [] ∧ c2 = 0) ∨ ∃ g, a2 = some ⟨g, 0, none⟩) := hs2.elim .inl (fun ⟨g, h, _⟩ => .inr ⟨g, h⟩); clear ho2 hb2 hy2 hs2)
      | (go_at_call 12; refine (HRE.out _ HB2.out).mono ?_; rw [HE.out]; rintro r w3 ⟨v3, rfl, ho3, hb3⟩; rw [HEL.out] at ho3; obtain ⟨g3, c3, hv3, hc3, hy3, hg3, hx3⟩ := place ho3 HFN.out; rw [HFL.out] at hv3 hc3; subst hv3; have HY33 : Hid (Bytes w3 (some ⟨g3, 0, none⟩) (frameL k s l)) := hy3; have HO3 : Hid (Own w3 w2.heap.size (.slice (some ⟨g3, 0, none⟩) L c3) (frameL k s l)) := ho3; have HB3 : Hid (Below w.heap.size w w3) := below_next HB2.out hb3; have hsz3 : w2.heap.size ≤ w3.heap.size := hb3.size; have HYM3 : Hid (Bytes w3 a2 l) := HY2.out.keep hb3; clear ho3 hb3 hy3)
      | (go_at_call 13; clear T1; refine (HEN.out _ _ _ HB3.out HYM3.out HS2.out).mono ?_; rw [HE.out]; rintro r w4 ⟨v4, rfl, ho4, hb4⟩; rw [HEL.out] at ho4; obtain ⟨g4, c4, hv4, hc4, hy4, hg4, hx4⟩ := place ho4 HFN.out; rw [HFL.out] at hv4 hc4; subst hv4; have HY44 : Hid (Bytes w4 (some ⟨g4, 0, none⟩) (frameL k s l)) := hy4; have HO4 : Hid (Own w4 w3.heap.size (.slice (some ⟨g4, 0, none⟩) L c4) (frameL k s l)) := ho4; have HB4 : Hid (Below w.heap.size w w4) := below_next HB3.out hb4; have hsz4 : w3.heap.size ≤ w4.heap.size := hb4.size; have HYM4 : Hid (Bytes w4 a2 l) := HYM3.out.keep hb4; have HY34 : Hid (Bytes w4 (some ⟨g3, 0, none⟩) (frameL k s l)) := HY33.out.keep hb4; clear ho4 hb4 hy4)
      | (go_at_call 13; clear T2; refine (HEN.out _ _ _ HB4.out HYM4.out HS2.out).mono ?_; rw [HE.out]; rintro r w5 ⟨v5, rfl, ho5, hb5⟩; rw [HEL.out] at ho5; obtain ⟨g5, c5, hv5, hc5, hy5, hg5, hx5⟩ := place ho5 HFN.out; rw [HFL.out] at hv5 hc5; subst hv5; have HY55 : Hid (Bytes w5 (some ⟨g5, 0, none⟩) (frameL k s l)) := hy5; have HO5 : Hid (Own w5 w4.heap.size (.slice (some ⟨g5, 0, none⟩) L c5) (frameL k s l)) := ho5; have HB5 : Hid (Below w.heap.size w w5) := below_next HB4.out hb5; have hsz5 : w4.heap.size ≤ w5.heap.size := hb5.size; have HYM5 : Hid (Bytes w5 a2 l) := HYM4.out.keep hb5; have HY35 : Hid (Bytes w5 (some ⟨g3, 0, none⟩) (frameL k s l)) := HY34.out.keep hb5; have HY45 : Hid (Bytes w5 (some ⟨g4, 0, none⟩) (frameL k s l)) := HY44.out.keep hb5; have HO45 : Hid (Own w5 w3.heap.size (.slice (some ⟨g4, 0, none⟩) L c4) (frameL k s l)) := ⟨HO4.out.1, own_below HO4.out.2 hb5⟩; clear ho5 hb5 hy5)
      | (go_at_call_of 14 (g4); refine (same_at (frameL k s l) (frameL k s l) _ _ _ _ _ _ _ HFL.out HFL.out HY45.out HY35.out (by rw [HFL.out]; unfold maxLen; omega) (by rw [HFL.out]; unfold maxLen; omega)).mono ?_; simp only [decide_true]; rintro r w6 ⟨rfl, q6, rfl⟩)
      | (go_at_call 14; refine (same_at l l _ _ _ _ _ _ _ HN.out HN.out (HYM5.out.drewN _) ((HB.out.keep HB5.out).drewN _) (by rw [HN.out]; unfold maxLen; omega) (by rw [HN.out]; unfold maxLen; omega)).mono ?_; simp only [decide_true]; rintro r w7 ⟨rfl, q7, rfl⟩))
    have hgg : g3 < g4 ∧ g4 < g5 ∧ g4 < w5.heap.size := by omega
    obtain ⟨W0, hW0⟩ : ∃ W0, w5.drewN (q6 + q7) = W0 := ⟨_, rfl⟩
    rw [hW0]
    have hhp : W0.heap = w5.heap := by rw [← hW0]; exact heap_drewN _ _
    have HBW : Hid (Below w.heap.size w W0) := by rw [← hW0]; exact below_drewN HB5.out _
    have HO : Hid (W0.ownsRow w3.heap.size 5 1 (.slice (some ⟨g4, 0, none⟩) L c4) L (B8 (frameL k s l))) := by
      have h := HO45.out.2
      rw [HFL.out] at h
      exact own_heapeq h hhp
    have HC5 : Hid (Bytes W0 (some ⟨g5, 0, none⟩) (frameL k s l)) := by rw [← hW0]; exact HY55.out.drewN _
    have HC3 : Hid (Bytes W0 (some ⟨g3, 0, none⟩) (frameL k s l)) := by rw [← hW0]; exact HY35.out.drewN _
    have hw3 : w.heap.size ≤ w3.heap.size := HB3.out.size
    have hwg : w.heap.size ≤ g4 := by omega
    clear hW0 hhp HO45 HO3 HO4 HO5 HY33 HY44 HY34 HY45 HY55 HY35 HYM3 HYM4 HYM5 HB1 HB2 HB3 HB4 HB5 HRE HEN HCP HY2 HS2
    go_loopw [66] (fun vi wr => ∃ (j : Nat) (t : List Nat), j ≤ L ∧ vi = .int .i64 j ∧ t.length = L ∧ (∀ x ∈ t, x < 256) ∧ wr.ownsRow w3.heap.size 5 1 (.slice (some ⟨g4, 0, none⟩) L c4) L (B8 t) ∧ Kept g4 g4 W0 wr) (fun vi _ => L - (intOf vi).toNat)
    case atStart => exact ⟨0, frameL k s l, Nat.zero_le _, rfl, HFL.out, HFB.out, HO.out, Kept.refl _ _ _⟩
    case round =>
      obtain ⟨j, t, hj, rfl, htl, htb, ho, hkp⟩ := hrel
      have HKP : Hid (Kept g4 g4 W0 wr) := hkp
      have HTB : Hid (∀ x ∈ t, x < 256) := htb
      have HTL : Hid (t.length = L) := htl
      clear hkp htb HO
      by_cases hjl : j < L
      · obtain ⟨x, hx⟩ : ∃ x, x = t.getD j 0 := ⟨_, rfl⟩
        have hx256 : x < 256 := by rw [hx]; exact getD_lt HTB.out j
        obtain ⟨e9, hlt9⟩ := xor255 x hx256
        have e2 := ho.cellAt j (by omega)
        rw [B8_get t j (by omega), ← hx] at e2
        have e3 := ho.frozenAt j
        have hst := ho.stored j (.int .u8 ((x ^^^ 255 : Nat) : Int))
        rw [← B8_set] at hst
        have HS : Hid (_ ∧ _) := ⟨hst.1, HKP.out.grown hst.2 (fun k hk => by cases hk; exact .inl rfl)⟩
        have HTB2 : Hid (∀ y ∈ t.set j (x ^^^ 255), y < 256) := by
          intro y hy
          rcases List.mem_or_eq_of_mem_set hy with h | h
          · exact HTB.out y h
          · rw [h]; exact hlt9
        generalize x ^^^ 255 = z at *
        clear hst ho hx htl hlt9
        go_wp2
        go_roundw
        case rel => exact ⟨j + 1, t.set j z, by omega, by go_num, by rw [List.length_set]; exact HTL.out, HTB2.out, HS.out.1, HS.out.2⟩
        case measure => simp [intOf]; omega
      · have HW9 : Hid (Below w.heap.size w wr) := HKP.out.below HBW.out hwg hwg
        have HD5 : Hid (Bytes wr (some ⟨g5, 0, none⟩) (frameL k s l)) := HKP.out.bytes HC5.out (by omega) (by omega)
        have HD3 : Hid (Bytes wr (some ⟨g3, 0, none⟩) (frameL k s l)) := HKP.out.bytes HC3.out (by omega) (by omega)
        clear ho htl
        by_cases hn1 : a3 < 0
        · have HFZ : Hid (fsz a3 = 0) := by show _ = _; unfold fsz; rw [if_pos (.inl hn1)]
          go_wp2_with (first | (go_at_call 14; refine (same_at (frameL k s l) (frameL k s l) _ _ _ _ _ _ _ HFL.out HFL.out HD5.out HD3.out (by rw [HFL.out]; unfold maxLen; omega) (by rw [HFL.out]; unfold maxLen; omega)).mono ?_; simp only [decide_true]; rintro r w8 ⟨rfl, q8, rfl⟩) | (go_at_call 10; refine (fsize_any a3 _).mono ?_; rw [HFZ.out]; rintro r w9 ⟨rfl, rfl⟩))
          go_ret
          exact ⟨rfl, below_drewN HW9.out q8⟩
        by_cases hn2 : 16384 < a3
        · have HFZ : Hid (fsz a3 = 0) := by show _ = _; unfold fsz; rw [if_pos (.inr hn2)]
          go_wp2_with (first | (go_at_call 14; refine (same_at (frameL k s l) (frameL k s l) _ _ _ _ _ _ _ HFL.out HFL.out HD5.out HD3.out (by rw [HFL.out]; unfold maxLen; omega) (by rw [HFL.out]; unfold maxLen; omega)).mono ?_; simp only [decide_true]; rintro r w8 ⟨rfl, q8, rfl⟩) | (go_at_call 10; refine (fsize_any a3 _).mono ?_; rw [HFZ.out]; rintro r w9 ⟨rfl, rfl⟩))
          go_ret
          exact ⟨rfl, below_drewN HW9.out q8⟩
        have hp1 : 0 ≤ a3 := by omega
        have hp2 : a3 ≤ 16384 := by omega
        clear hn1 hn2 b3
        have HFZ : Hid (fsz a3 = a3 + 20) := by show _ = _; unfold fsz; rw [if_neg (by omega)]
        go_wp2_with (first | (go_at_call 14; refine (same_at (frameL k s l) (frameL k s l) _ _ _ _ _ _ _ HFL.out HFL.out HD5.out HD3.out (by rw [HFL.out]; unfold maxLen; omega) (by rw [HFL.out]; unfold maxLen; omega)).mono ?_; simp only [decide_true]; rintro r w8 ⟨rfl, q8, rfl⟩) | (go_at_call 10; refine (fsize_any a3 _).mono ?_; rw [HFZ.out]; rintro r w9 ⟨rfl, rfl⟩))
        go_ret
        exact ⟨rfl, below_drewN HW9.out q8⟩
  · obtain ⟨e0, he⟩ : ∃ e, encE kind seq n = e := ⟨_, rfl⟩
    have HE : Hid (encE kind seq n = e0) := he
    have HEL : Hid (encL kind seq l = []) := by show _ = _; unfold encL; rw [HN.out, if_neg hE]
    have hee : ((e0 : Int) != (e0 : Int)) = false := by simp
    have HNIL : Hid (∀ (w : World) (a b : Option Addr) (c1 c2 : Nat), Calls Tryd.prog 14 #[.slice a 0 c1, .slice b 0 c2] w fun e w' => e = .returned (.bool true) ∧ ∃ n, w' = w.drewN n) := fun w a b c1 c2 => same_at [] [] 0 0 a b c1 c2 w rfl rfl (Bytes.none _ _) (Bytes.none _ _) (Nat.zero_le _) (Nat.zero_le _)
    clear hE he
    go_enter Tryd.func3, Tryd.ntmps3
    go_wp2_with (first
      | (go_at_call 9; refine (head11_any w HT.out).mono ?_; rintro e w1 ⟨rfl, hb1⟩; have HB1 : Hid (Below w.heap.size w w1) := hb1; clear hb1)
      | (go_at_call 10; clear T3; refine (fsize_any 0 _).mono ?_; rw [HZ20.out]; rintro e w1' ⟨rfl, rfl⟩)
      | (go_at_call 11; refine (HCP.out _ HB1.out).mono ?_; rintro e w2 ⟨v2, rfl, ho2, hb2⟩; obtain ⟨a2, c2, hv2, hc2, _, hy2, hs2⟩ := ho2.shape; rw [HN.out] at hv2 hc2; subst hv2; have HB2 : Hid (Below w.heap.size w w2) := below_next HB1.out hb2; have HY2 : Hid (Bytes w2 a2 l) := hy2; have HS2 : Hid ((a2 = none ∧ l = [] ∧ c2 = 0) ∨ ∃ g, a2 = some ⟨g, 0, none⟩) := hs2.elim .inl (fun ⟨g, h, _⟩ => .inr ⟨g, h⟩); clear ho2 hb2 hy2 hs2)
      | (go_at_call 12; refine (HRE.out _ HB2.out).mono ?_; rw [HE.out]; rintro r w3 ⟨v3, rfl, ho3, hb3⟩; rw [HEL.out] at ho3; obtain ⟨a3', c3, hv3, _⟩ := ho3.shape; rw [List.length_nil] at hv3; subst hv3; have HB3 : Hid (Below w.heap.size w w3) := below_next HB2.out hb3; have hsz3 : w2.heap.size ≤ w3.heap.size := hb3.size; have HYM3 : Hid (Bytes w3 a2 l) := HY2.out.keep hb3; clear ho3 hb3)
      | (go_at_call 13; clear T1; refine (HEN.out _ _ _ HB3.out HYM3.out HS2.out).mono ?_; rw [HE.out]; rintro r w4 ⟨v4, rfl, ho4, hb4⟩; rw [HEL.out] at ho4; obtain ⟨a4, c4, hv4, _⟩ := ho4.shape; rw [List.length_nil] at hv4; subst hv4; have HB4 : Hid (Below w.heap.size w w4) := below_next HB3.out hb4; have hsz4 : w3.heap.size ≤ w4.heap.size := hb4.size; have HYM4 : Hid (Bytes w4 a2 l) := HYM3.out.keep hb4; clear ho4 hb4)
      | (go_at_call 13; clear T2; refine (HEN.out _ _ _ HB4.out HYM4.out HS2.out).mono ?_; rw [HE.out]; rintro r w5 ⟨v5, rfl, ho5, hb5⟩; rw [HEL.out] at ho5; obtain ⟨a5, c5, hv5, _⟩ := ho5.shape; rw [List.length_nil] at hv5; subst hv5; have HB5 : Hid (Below w.heap.size w w5) := below_next HB4.out hb5; have hsz5 : w4.heap.size ≤ w5.heap.size := hb5.size; have HYM5 : Hid (Bytes w5 a2 l) := HYM4.out.keep hb5; clear ho5 hb5)
      | (go_at_call_of 14 (a4); refine (HNIL.out _ a4 a3' c4 c3).mono ?_; rintro r w6 ⟨rfl, q6, rfl⟩)
      | (go_at_call_of 14 (a2); refine (same_at l l _ _ _ _ _ _ _ HN.out HN.out (HYM5.out.drewN _) ((HB.out.keep HB5.out).drewN _) (by rw [HN.out]; unfold maxLen; omega) (by rw [HN.out]; unfold maxLen; omega)).mono ?_; simp only [decide_true]; rintro r w7 ⟨rfl, q7, rfl⟩))
    refine wp_loop_rounds 1 ?_
    rw [rounds_succ]
    have HB9 : Hid (Below w.heap.size w (w5.drewN (q6 + q7))) := below_drewN HB5.out _
    by_cases hn1 : a3 < 0
    · have HFZ : Hid (fsz a3 = 0) := by show _ = _; unfold fsz; rw [if_pos (.inl hn1)]
      go_wp2_with (first | (go_at_call 14; refine (HNIL.out _ a5 a3' c5 c3).mono ?_; rintro r w8 ⟨rfl, q8, rfl⟩) | (go_at_call 10; refine (fsize_any a3 _).mono ?_; rw [HFZ.out]; rintro r w9 ⟨rfl, rfl⟩))
      go_ret
      exact ⟨rfl, below_drewN HB5.out _⟩
    by_cases hn2 : 16384 < a3
    · have HFZ : Hid (fsz a3 = 0) := by show _ = _; unfold fsz; rw [if_pos (.inr hn2)]
      go_wp2_with (first | (go_at_call 14; refine (HNIL.out _ a5 a3' c5 c3).mono ?_; rintro r w8 ⟨rfl, q8, rfl⟩) | (go_at_call 10; refine (fsize_any a3 _).mono ?_; rw [HFZ.out]; rintro r w9 ⟨rfl, rfl⟩))
      go_ret
      exact ⟨rfl, below_drewN HB5.out _⟩
    have hp1 : 0 ≤ a3 := by omega
    have hp2 : a3 ≤ 16384 := by omega
    clear hn1 hn2 b3
    have HFZ : Hid (fsz a3 = a3 + 20) := by show _ = _; unfold fsz; rw [if_neg (by omega)]
    go_wp2_with (first | (go_at_call 14; refine (HNIL.out _ a5 a3' c5 c3).mono ?_; rintro r w8 ⟨rfl, q8, rfl⟩) | (go_at_call 10; refine (fsize_any a3 _).mono ?_; rw [HFZ.out]; rintro r w9 ⟨rfl, rfl⟩))
    go_ret
    exact ⟨rfl, below_drewN HB5.out _⟩
theorem own : ownKnob Tryd.prog.godebug = none := by kernel_rfl
theorem laidOut : laidOutB Tryd.prog = true := by kernel_rfl
set_option maxRecDepth 100000 in
theorem contract (H : Type) (enc : TypeId × Value → H) (W : World) (base : Nat) (args : Array Value) (ds gs : List (DataW H)) (before : List MemPlace)
    (hval : ∀ (j : Nat) t v, Tryd.f3.params[j]? = some t → args[j]? = some v → Value.okWide Tryd.prog W .any base t v)
    (hW : DataW.Whole enc Tryd.prog Tryd.f3.params.toList Rows.frameEncodesSpec.vars false W args.toList ds gs before)
    (hsz : (DataW.weightsEach Tryd.prog (Tryd.f3.params.toList ++ Rows.frameEncodesSpec.plain.varTypes Tryd.prog) (ds ++ gs)).all (· ≤ reachBytes) = true) (hL : laidMetH Tryd.prog ([("daybook/crc.halves", Rows.laid_daybook_crc_halves)]) W) :
    Calls Tryd.prog 3 args W fun e W' => ∃ v, e = .returned v ∧ Rows.frameEncodesSpec.post enc Tryd.prog Tryd.f3 false true false false W args v W' := by
  have hW' := hW
  obtain ⟨p, q, hA0, hV, rfl, hfz, hnd⟩ := hW
  have hA : DataW.TrodAll enc Tryd.prog W 0 (fun _ => true) true Tryd.f3.params.toList args.toList ds p := hA0
  rw [Tryd.params3] at hA hval hsz
  obtain ⟨v0, vs0, d0, ds0, p0, q0, hargs, rfl, rfl, h0, r0⟩ := trodAll_cons hA
  obtain ⟨v1, vs1, d1, ds1, p1, q1, rfl, rfl, rfl, h1, r1⟩ := trodAll_cons r0
  obtain ⟨v2, vs2, d2, ds2, p2, q2, rfl, rfl, rfl, h2, r2⟩ := trodAll_cons r1
  obtain ⟨v3, vs3, d3, ds3, p3, q3, rfl, rfl, rfl, h3, r3⟩ := trodAll_cons r2
  obtain ⟨rfl, rfl, rfl⟩ := trodAll_nil r3
  obtain rfl : args = #[v0, v1, v2, v3] := by cases args; simp_all
  obtain ⟨rfl, rfl⟩ := trodVars_none hV
  obtain ⟨a0, rfl, rfl, rfl, w0⟩ := open_int Tryd.underlying3 (hval 0 3 v0 rfl rfl) h0
  obtain ⟨a1, rfl, rfl, rfl, w1⟩ := open_int Tryd.underlying3 (hval 1 3 v1 rfl rfl) h1
  obtain ⟨a2, len2, cap2, rfl⟩ := okWide_slice Tryd.underlying22 (hval 2 22 v2 rfl rfl)
  have k2 := h2
  have lt2 : ∀ x ∈ p2, x.block < W.heap.size := by obtain ⟨m, hm⟩ := k2; exact DataW.trod_lt m _ _ _ hm
  obtain ⟨l2, hlen2, w2, c2⟩ : ∃ l : List Nat, l.length = len2 ∧ Bytes W a2 l ∧ Came W a2 len2 cap2 1 := by
    obtain ⟨fuel, hf⟩ := h2
    rcases open_ints Tryd.underlying22 Tryd.underlying5 (by kernel_rfl) hf with ⟨hcs, hx⟩ | ⟨x, l, c, zs, hcs, _, hl, hm, hz, hx, hcell, hwz⟩
    · simp [Value.cells] at hcs
      obtain ⟨rfl, rfl, rfl⟩ := hcs
      exact ⟨[], rfl, ⟨by simp, .inl rfl⟩, ⟨Nat.le_refl _, by simp, fun _ => rfl⟩⟩
    · simp [Value.cells] at hcs
      obtain ⟨rfl, rfl, rfl⟩ := hcs
      have hz2 : zs.length = cap2 := by simpa using hz
      obtain ⟨ll, e1, e2, e3⟩ := row_nats .u8 256 (by decide) wf_u8 W x zs len2 (by omega) hcell hwz
      have hd : d2 = .slice (lits .u8 (zs.take len2)) (lits .u8 (zs.drop len2)) := (Prod.mk.inj hx).1
      have hreach : cap2 * 1 ≤ 140737488351232 := by
        have := sized_slice hsz (j := 2) (t := 22) (e := 5) rfl (by rw [hd]; rfl) Tryd.underlying22
        rw [show Tryd.prog.bytesOf 5 = 1 from by kernel_rfl] at this
        simp only [lits, List.length_map, List.length_take, List.length_drop, reachBytes] at this
        have hmin : min len2 zs.length = len2 := Nat.min_eq_left (by omega)
        rw [hmin] at this
        have hcap : len2 + (zs.length - len2) = cap2 := by omega
        rw [hcap] at this
        exact this
      exact ⟨ll, e1, ⟨e2, e3⟩, ⟨hl, hreach, fun h => by cases h⟩⟩
  subst hlen2
  obtain ⟨a3, rfl, rfl, rfl, w3⟩ := open_int Tryd.underlying3 (hval 3 3 v3 rfl rfl) h3
  clear hA0
  refine (walk a0 a1 l2 a2 cap2 a3 W w0 w1 w2 c2 w3 (tab_of hL)).mono fun e W' ⟨he, bel⟩ => ?_
  subst he
  exact ⟨_, rfl, _, _, _, [], _, [], hW', trodAll_mk1 (shut_bool Tryd.underlying4 _), (trodAll_cons_mk (shut_int Tryd.underlying3 w0) (trodAll_cons_mk (shut_int Tryd.underlying3 w1) (trodAll_cons_mk (Below.trod laidOut (by kernel_rfl) (of_decide_eq_true (by kernel_rfl)) k2 bel lt2) (trodAll_cons_mk (shut_int Tryd.underlying3 w3) trodAll_mk0)))), rfl, bel.frame _, fun h => by cases h⟩
set_option maxRecDepth 100000 in
theorem start (os : Os) : ∃ w0 : World, w0.os = os ∧ (w0.forCall (fun _ _ => 0) ⟨#[], #[.int .i64 0, .int .i64 0, .slice none 0 0, .int .i64 0], []⟩).variablesB Tryd.prog = true ∧
    ((w0.forCall (fun _ _ => 0) ⟨#[], #[.int .i64 0, .int .i64 0, .slice none 0 0, .int .i64 0], []⟩).heap.toList.drop Tryd.prog.globals.size).take ((begin Tryd.prog (fun _ _ => 0) default).world.heap.size - Tryd.prog.globals.size) = (begin Tryd.prog (fun _ _ => 0) default).world.heap.toList.drop Tryd.prog.globals.size ∧
    Input.okWideB Tryd.prog (w0.forCall (fun _ _ => 0) ⟨#[], #[.int .i64 0, .int .i64 0, .slice none 0 0, .int .i64 0], []⟩) 3 ⟨#[], #[.int .i64 0, .int .i64 0, .slice none 0 0, .int .i64 0], []⟩ = true ∧
    laidMet Tryd.prog Rows.frameEncodesRow.laid (w0.forCall (fun _ _ => 0) ⟨#[], #[.int .i64 0, .int .i64 0, .slice none 0 0, .int .i64 0], []⟩).memory ∧
    ∀ (H : Type) (enc : TypeId × Value → H), DataW.whole enc Tryd.prog (w0.forCall (fun _ _ => 0) ⟨#[], #[.int .i64 0, .int .i64 0, .slice none 0 0, .int .i64 0], []⟩).memory Tryd.f3.params.toList Rows.frameEncodesSpec.vars false (#[.int .i64 0, .int .i64 0, .slice none 0 0, .int .i64 0] : Array Value).toList 8 = some ([.lit (.int .i64 0), .lit (.int .i64 0), .nil, .lit (.int .i64 0)], [], []) :=
  ⟨{ World.holding Tryd.prog os ⟨#[], #[], []⟩ with heap := (World.holding Tryd.prog os ⟨#[], #[], []⟩).heap.modify 0 fun
      | .cells _ t frozen => .cells #[.int .u32 0, .int .u32 498536548, .int .u32 997073096, .int .u32 651767980, .int .u32 1994146192, .int .u32 1802195444, .int .u32 1303535960, .int .u32 1342533948, .int .u32 3988292384, .int .u32 4027552580, .int .u32 3604390888, .int .u32 3412177804, .int .u32 2607071920, .int .u32 2262029012, .int .u32 2685067896, .int .u32 3183342108] t frozen
      | o => o }, rfl, by kernel_rfl, by kernel_rfl, by kernel_rfl, laidMet_of_run' 8 (by kernel_rfl) (by kernel_rfl), fun _ _ => by kernel_rfl⟩
set_option maxRecDepth 100000 in
theorem lifted (os : Os) (started : os.Started) (H : Type) (enc : TypeId × Value → H) (F : Stop.Interp) :
    ReturnsInHanded {} Tryd.checked os 3 .any ((OpenSpec.ofChange Rows.frameEncodesSpec).preRow enc Tryd.prog Tryd.f3 Rows.frameEncodesRow.domain false Rows.frameEncodesRow.laid) (((OpenSpec.ofChange Rows.frameEncodesSpec).at F).post enc Tryd.prog Tryd.f3 false true false false) := by
  obtain ⟨w0, h1, h2, h3, h4, h5, h6⟩ := start os
  refine returnsInHanded_of_row (C := Tryd.checked) (s := OpenSpec.ofChange Rows.frameEncodesSpec) own started (by kernel_rfl) Tryd.func3
    (witness_row_at (enc := enc) (C := Tryd.checked) false w0 #[.int .i64 0, .int .i64 0, .slice none 0 0, .int .i64 0] h1 h2 h3 h4
      (OpenSpec.preRow_of_cond 8 (h6 H enc) (by kernel_rfl) (fun k hk => by cases hk) (by kernel_rfl) h5)) ?_
  intro W base args ds gs before hval hW _ hcond hsz hL _ _
  exact contract H enc W base args ds gs before hval hW hsz hL
theorem said : Rows.FrameEncodesSaid :=
  OpenClaim.holds_of_cond 3 Tryd.f3 rfl rfl rfl rfl rfl rfl rfl ⟨rfl, rfl, rfl, rfl, rfl⟩ rfl rfl rfl rfl rfl (by kernel_rfl) Tryd.func3 (by kernel_rfl)
    (of_decide_eq_true (by kernel_rfl)) (by unfold Func.isWrapper; first | (rw [if_pos (by decide +kernel)]; kernel_rfl) | (rw [if_neg (by decide +kernel)]; exact ⟨rfl, rfl⟩))
    (fun os started H enc _ F => by rw [OpenClaim.pre_eq_preRow]; exact lifted os started H enc F)
theorem plain (f : FuncId) (fn : Func) (hf : Tryd.pinned.checked.prog.funcNamed "daybook/daybooklaw11.FrameEncodes" = some f) (hfn : Tryd.pinned.checked.prog.funcs[f]? = some fn) :
    false = Tryd.pinned.checked.prog.looks [] ∧ ∀ (j : Nat) t, fn.params[j]? = some t → Tryd.pinned.checked.prog.wantsStandIn t = false := by
  obtain rfl : f = 3 := Option.some.inj ((show Tryd.prog.funcNamed "daybook/daybooklaw11.FrameEncodes" = some 3 by kernel_rfl).symm.trans hf) |>.symm
  obtain rfl : fn = Tryd.f3 := (Option.some.inj (Tryd.func3.symm.trans hfn)).symm
  refine ⟨by kernel_rfl, fun j t ht => ?_⟩
  rw [Tryd.params3] at ht
  have hm := Array.mem_of_getElem? ht
  have hall : ∀ t ∈ (#[3, 3, 22, 3] : Array TypeId), Tryd.prog.wantsStandIn t = false := by
    intro t ht
    simp only [List.mem_toArray, List.mem_cons, List.not_mem_nil, or_false] at ht
    rcases ht with rfl | rfl | rfl | rfl <;> kernel_rfl
  exact hall t hm
theorem card : Rows.FrameEncodesCardSaid :=
  Claim7.holds_tied_plain_at .later [] _ _ _ _ said (fun _ h => by cases h) (by kernel_rfl) (fun _ h => by cases h) frameEncodes_row_tie rfl ⟨rfl, rfl⟩ (by kernel_rfl) rfl plain (by kernel_rfl)
end Go.Proofs.YtogklgpghecclaaDoor.frameEncodes
