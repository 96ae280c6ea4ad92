/- For every text, whatever is appended behind it and whatever the losses of power keep: what was synced is there. No condition. -/
import Derived.Test.YtlnhhgmdajbepaaFsv
namespace Go.Proofs.Ytlnhhgmdajbepaa.simfsSafe
open Go.ChangeShapes Go.WideShapes Go.ChangeAt Go.RowKit
set_option linter.unusedVariables false
theorem own_by {x : World} {b0 : Nat} {A : Option Addr} {n c : Nat} {l : List Nat} (h : Own x b0 (.slice A n c) l) : Bytes x A l := by
  obtain ⟨A2, C2, e, h2, _⟩ := h.ready
  injection e with e1
  rw [e1]; exact h2
theorem ok1 : AkOk ⟨67108864, 0, false, 1, 0, [⟨nL, [], 0⟩]⟩ := by have h := createA_ok (newA_ok 67108864) nL; rw [cr_l] at h; exact h
theorem ok2 : AkOk ⟨67108864, 0, false, 2, 0, [⟨nL, [7], 0⟩]⟩ := by have h := appendA_ok ok1 nL [7]; rw [ap_7] at h; exact h
set_option maxRecDepth 100000 in
set_option maxHeartbeats 8000000 in
theorem big (l : List Nat) (a : Option Addr) (cap : Nat) (n1 : Nat) (a1 : Option Addr) (cap1 : Nat) (A1 : Nat → Option Addr) (L1 : Nat → List Nat) (C1 : Nat → Nat) (n2 : Nat) (a2 : Option Addr) (cap2 : Nat) (A2 : Nat → Option Addr) (L2 : Nat → List Int) (C2 : Nat → Nat) (w : World) (hb : Bytes w a l) (hc : Came w a l.length cap 1) (p1 : PzB w a1 n1 A1 L1 C1) (c1 : n1 * 24 ≤ 140737488351232) (p2 : PzI w a2 n2 A2 L2 C2) (c2 : n2 * 24 ≤ 140737488351232) (hbig : 67108863 < l.length) :
    Calls Try.prog 6 #[.slice a l.length cap, .slice a1 n1 cap1, .slice a2 n2 cap2] w fun e w' => e = .returned (.bool true) ∧ Below w.heap.size w w' := by
  have T1 : Hid True := trivial
  have T2 : Hid True := trivial
  have h1 := hc.fits
  have h2 := hc.room
  have hl0 : (l.length : Int) ≤ 140737488351232 := by omega
  have HXl : Hid (Bytes w a l) := hb
  have HAF : Hid (appendA ⟨67108864, 0, false, 2, 0, [⟨nL, [7], 0⟩]⟩ nL l = (⟨67108864, 0, false, 2, 0, [⟨nL, [7], 0⟩]⟩, 54)) := ap_full l hbig
  have hbI : (67108863 : Int) < (l.length : Int) := by omega
  clear h1 h2 hb hc p1 c1 p2 c2 hbig
  go_enter Try.func6, Try.ntmps6
  go_wp2_with (first
    | (go_at_call 14; refine (new_A 67108864 w (by decide) (by decide)).mono ?_; rintro _ x1 ⟨q, b, rfl, hd1, hb1⟩; have HD1 : Hid (DA x1 w.heap.size q b (newD 67108864).ab) := hd1; have HB1 : Hid (Below w.heap.size w x1) := hb1; clear hd1 hb1)
    | (go_at_call 26; refine (create_A HD1.out (newA_ok 67108864) nL (by decide)).mono ?_; rw [cr_l]; rintro _ x2 ⟨rfl, hd2, hb2⟩; have HD2 : Hid (DA (x2.alloc (.cells #[.int .u8 7] 5)) w.heap.size q b ⟨67108864, 0, false, 1, 0, [⟨nL, [], 0⟩]⟩) := hd2.keep ((Below.refl _ _).alloc (Nat.le_refl _) _); have HB2 : Hid (Below w.heap.size w (x2.alloc (.cells #[.int .u8 7] 5))) := (HB1.out.trans hb2).alloc (HB1.out.trans hb2).size _; clear hd2 hb2)
    | (go_at_call 28; clear T1; refine (append_A HD2.out ok1 nL (by decide) (some ⟨x2.heap.size, 0, none⟩) 1 1 [7] rfl (bytes_lit1 x2) (Nat.le_refl _) (fun e => by cases e) (by decide)).mono ?_; rw [ap_7]; rintro _ x3 ⟨rfl, hd3, hb3⟩; have HD3 : Hid (DA x3 w.heap.size q b ⟨67108864, 0, false, 2, 0, [⟨nL, [7], 0⟩]⟩) := hd3; have HB3 : Hid (Below w.heap.size w x3) := HB2.out.trans hb3; clear hd3 hb3)
    | (go_at_call 29; clear T2; refine (copy_any l a cap x3 (HXl.out.keep HB3.out) (by omega)).mono ?_; rintro _ x4 ⟨v4, rfl, ho4, hb4⟩; obtain ⟨P4, C4, rfl, hy4, hf4, hz4⟩ := ho4.ready; have HY4 : Hid (Bytes x4 P4 l ∧ l.length ≤ C4 ∧ (P4 = none → C4 = 0)) := ⟨hy4, hf4, hz4⟩; have HD4 : Hid (DA x4 w.heap.size q b ⟨67108864, 0, false, 2, 0, [⟨nL, [7], 0⟩]⟩) := HD3.out.keep hb4; have HB4 : Hid (Below w.heap.size w x4) := HB3.out.trans (hb4.mono HB3.out.size); clear ho4 hb4 hy4 hf4 hz4)
    | (go_at_call 28; refine (append_A HD4.out ok2 nL (by decide) P4 l.length C4 l rfl HY4.out.1 HY4.out.2.1 HY4.out.2.2 (by omega)).mono ?_; rw [HAF.out]; rintro _ x5 ⟨rfl, hd5, hb5⟩; have HD5 : Hid (DA x5 w.heap.size q b ⟨67108864, 0, false, 2, 0, [⟨nL, [7], 0⟩]⟩) := hd5; have HB5 : Hid (Below w.heap.size w x5) := HB4.out.trans hb5; clear hd5 hb5)
    | (go_at_call 31; refine (free_A HD5.out ok2).mono ?_; rw [show ((⟨67108864, 0, false, 2, 0, [⟨nL, [7], 0⟩]⟩ : Ak).room - (usedA (⟨67108864, 0, false, 2, 0, [⟨nL, [7], 0⟩]⟩ : Ak).fs : Nat) : Int) = 67108863 from rfl]; rintro _ x6 ⟨rfl, hb6⟩; have HB6 : Hid (Below w.heap.size w x6) := HB5.out.trans (hb6.mono HB5.out.size); clear hb6)
    | go_in)
  go_ret
  exact ⟨rfl, HB6.out⟩
set_option maxRecDepth 100000 in
set_option maxHeartbeats 8000000 in
theorem small (l : List Nat) (a : Option Addr) (cap : Nat) (n1 : Nat) (a1 : Option Addr) (cap1 : Nat) (A1 : Nat → Option Addr) (L1 : Nat → List Nat) (C1 : Nat → Nat) (n2 : Nat) (a2 : Option Addr) (cap2 : Nat) (A2 : Nat → Option Addr) (L2 : Nat → List Int) (C2 : Nat → Nat) (w : World) (hb : Bytes w a l) (hc : Came w a l.length cap 1) (p1 : PzB w a1 n1 A1 L1 C1) (c1 : n1 * 24 ≤ 140737488351232) (p2 : PzI w a2 n2 A2 L2 C2) (c2 : n2 * 24 ≤ 140737488351232) (hle : l.length ≤ 67108863) :
    Calls Try.prog 6 #[.slice a l.length cap, .slice a1 n1 cap1, .slice a2 n2 cap2] w fun e w' => e = .returned (.bool true) ∧ Below w.heap.size w w' := by
  have T1 : Hid True := trivial
  have T2 : Hid True := trivial
  have h1 := hc.fits
  have h2 := hc.room
  have hl0 : (l.length : Int) ≤ 140737488351232 := by omega
  have HXl : Hid (Bytes w a l) := hb
  have HAF : Hid (appendA ⟨67108864, 0, false, 2, 0, [⟨nL, [7], 0⟩]⟩ nL l = (⟨67108864, 0, false, 3, 0, [⟨nL, 7 :: l, 0⟩]⟩, 0)) := ap_fit l hle
  have HSY : Hid (syncA ⟨67108864, 0, false, 3, 0, [⟨nL, 7 :: l, 0⟩]⟩ nL = (⟨67108864, 0, false, 4, 0, [⟨nL, 7 :: l, (7 :: l).length⟩]⟩, 0)) := sy_l (7 :: l)
  have ok3 : AkOk ⟨67108864, 0, false, 3, 0, [⟨nL, 7 :: l, 0⟩]⟩ := by have h := appendA_ok ok2 nL l; rw [HAF.out] at h; exact h
  have ok4 : AkOk ⟨67108864, 0, false, 4, 0, [⟨nL, 7 :: l, (7 :: l).length⟩]⟩ := by have h := syncA_ok ok3 nL; rw [HSY.out] at h; exact h
  have HOK : Hid (AkOk ⟨67108864, 0, false, 3, 0, [⟨nL, 7 :: l, 0⟩]⟩ ∧ AkOk ⟨67108864, 0, false, 4, 0, [⟨nL, 7 :: l, (7 :: l).length⟩]⟩) := ⟨ok3, ok4⟩
  have HP1 : Hid (PzB w a1 n1 A1 L1 C1) := p1
  have HP2 : Hid (PzI w a2 n2 A2 L2 C2) := p2
  have hn1 : (n1 : Int) ≤ 140737488351232 := by omega
  have hn2 : (n2 : Int) ≤ 140737488351232 := by omega
  have hn10 : (0 : Int) ≤ (n1 : Int) := by omega
  have hn20 : (0 : Int) ≤ (n2 : Int) := by omega
  have hcl : cap = 0 ∨ a ≠ none := by
    cases ha : a with
    | none => exact .inl (hc.none ha)
    | some x => exact .inr (by simp)
  have HCN : Hid (a = none → cap = 0) := hc.none
  obtain ⟨i0, hi, hz0, hz1, hz2⟩ := info8
  have hleI : (l.length : Int) ≤ 67108863 := by omega
  obtain ⟨W, hW⟩ : ∃ W, 7 :: l = W := ⟨_, rfl⟩
  have HW : Hid (7 :: l = W) := hW
  obtain ⟨z, hz⟩ : ∃ z, W.length = z := ⟨_, rfl⟩
  have HZ : Hid (W.length = z ∧ z = 1 + l.length) := ⟨hz, by rw [← hz, ← hW, List.length_cons]; omega⟩
  have hz1I : (z : Int) ≤ 67108864 := by have := HZ.out.2; omega
  have hz0I : (0 : Int) ≤ (z : Int) := by omega
  clear h1 h2 hb hc p1 c1 p2 c2 hle ok3 ok4 hcl hW hz
  go_enter Try.func6, Try.ntmps6
  go_wp2_with (first
    | (go_at_call 14; refine (new_A 67108864 w (by decide) (by decide)).mono ?_; rintro _ x1 ⟨q, b, rfl, hd1, hb1⟩; have HD1 : Hid (DA x1 w.heap.size q b (newD 67108864).ab) := hd1; have HB1 : Hid (Below w.heap.size w x1) := hb1; clear hd1 hb1)
    | (go_at_call 26; refine (create_A HD1.out (newA_ok 67108864) nL (by decide)).mono ?_; rw [cr_l]; rintro _ x2 ⟨rfl, hd2, hb2⟩; have HD2 : Hid (DA (x2.alloc (.cells #[.int .u8 7] 5)) w.heap.size q b ⟨67108864, 0, false, 1, 0, [⟨nL, [], 0⟩]⟩) := hd2.keep ((Below.refl _ _).alloc (Nat.le_refl _) _); have HB2 : Hid (Below w.heap.size w (x2.alloc (.cells #[.int .u8 7] 5))) := (HB1.out.trans hb2).alloc (HB1.out.trans hb2).size _; clear hd2 hb2)
    | (go_at_call 28; clear T1; refine (append_A HD2.out ok1 nL (by decide) (some ⟨x2.heap.size, 0, none⟩) 1 1 [7] rfl (bytes_lit1 x2) (Nat.le_refl _) (fun e => by cases e) (by decide)).mono ?_; rw [ap_7]; rintro _ x3 ⟨rfl, hd3, hb3⟩; have HD3 : Hid (DA x3 w.heap.size q b ⟨67108864, 0, false, 2, 0, [⟨nL, [7], 0⟩]⟩) := hd3; have HB3 : Hid (Below w.heap.size w x3) := HB2.out.trans hb3; clear hd3 hb3)
    | (go_at_call 29; clear T2; refine (copy_any l a cap x3 (HXl.out.keep HB3.out) (by omega)).mono ?_; rintro _ x4 ⟨v4, rfl, ho4, hb4⟩; obtain ⟨P4, C4, rfl, hy4, hf4, hz4⟩ := ho4.ready; have HY4 : Hid (Bytes x4 P4 l ∧ l.length ≤ C4 ∧ (P4 = none → C4 = 0)) := ⟨hy4, hf4, hz4⟩; have HD4 : Hid (DA x4 w.heap.size q b ⟨67108864, 0, false, 2, 0, [⟨nL, [7], 0⟩]⟩) := HD3.out.keep hb4; have HB4 : Hid (Below w.heap.size w x4) := HB3.out.trans (hb4.mono HB3.out.size); clear ho4 hb4 hy4 hf4 hz4)
    | (go_at_call 28; refine (append_A HD4.out ok2 nL (by decide) P4 l.length C4 l rfl HY4.out.1 HY4.out.2.1 HY4.out.2.2 (by omega)).mono ?_; rw [HAF.out]; rintro _ x5 ⟨rfl, hd5, hb5⟩; have HD5 : Hid (DA x5 w.heap.size q b ⟨67108864, 0, false, 3, 0, [⟨nL, 7 :: l, 0⟩]⟩) := hd5; have HB5 : Hid (Below w.heap.size w x5) := HB4.out.trans hb5; clear hd5 hb5)
    | (go_at_call 30; refine (sync_A HD5.out HOK.out.1 nL (by decide)).mono ?_; rw [HSY.out]; rintro _ x6 ⟨rfl, hd6, hb6⟩; have HD6 : Hid (DA x6 w.heap.size q b ⟨67108864, 0, false, 4, 0, [⟨nL, 7 :: l, (7 :: l).length⟩]⟩) := hd6; have HB6 : Hid (Below w.heap.size w x6) := HB5.out.trans hb6; clear hd6 hb6)
    | (at_builtin; refine wpList_append_any _ rfl _ _ _ rfl x6.heap.size i0 Try.underlying31 hi hz0 hz1 hz2 (.slice (some ⟨x6.heap.size, 0, none⟩) 1 1) 1 (B8 [7]) rfl (own_lit1 x6) (by decide) a l.length cap l rfl rfl ((HXl.out.keep HB6.out).keep ((Below.refl _ _).alloc (Nat.le_refl _) _)) HCN.out (by omega) (by simp) ?_; intro gw cw x7 ho7 hg7; have HD7 : Hid (DF x7 w.heap.size q b ⟨67108864, 0, false, 4, 0, [⟨nL, 7 :: l, (7 :: l).length⟩]⟩ (fun k => False ∨ (x6.heap.size ≤ k ∧ k < x7.heap.size))) := HD6.out.df.more (((Below.refl x6.heap.size x6).alloc (Nat.le_refl _) _).grown hg7 (by simp) (fun k hk => by cases hk; exact Nat.le_refl _)); have HB7 : Hid (Below w.heap.size w x7) := HB6.out.trans ((((Below.refl x6.heap.size x6).alloc (Nat.le_refl _) _).grown hg7 (by simp) (fun k hk => by cases hk; exact Nat.le_refl _)).mono HB6.out.size); have HW7 : Hid (Own x7 x6.heap.size (.slice (some ⟨gw, 0, none⟩) z cw) W) := (by have h := Own.append (bytes_lit1 x6).1 HXl.out.1 (show x7.ownsRow x6.heap.size 5 1 (.slice (some ⟨gw, 0, none⟩) (1 + l.length) cw) ([7].length + l.length) (B8 [7] ++ B8 l) from ho7); rw [show [7] ++ l = W from HW.out, ← HZ.out.2] at h; exact h); rw [← HZ.out.2]; have HF7 : Hid (x6.heap.size ≤ gw ∧ gw < x7.heap.size) := HW7.out.2.lt gw rfl; clear ho7 hg7)
    | go_in)
  obtain ⟨F, hF⟩ : ∃ F : Nat → Prop, (fun k => k = gw) = F := ⟨_, rfl⟩
  have HFG : Hid (F gw) := by show F gw; rw [← hF]
  have HD0 : Hid (DF x7 w.heap.size q b ⟨67108864, 0, false, 4, 0, [⟨nL, 7 :: l, (7 :: l).length⟩]⟩ F) := HD7.out.sub (fun k hk => by rw [← hF] at hk; have hk2 : k = gw := hk; rw [hk2]; exact .inr HF7.out)
  have HSF : Hid (Sf ⟨67108864, 0, false, 4, 0, [⟨nL, 7 :: l, (7 :: l).length⟩]⟩ W) := ⟨rfl, rfl, [], W.length, by rw [HW.out, List.append_nil], Nat.le_refl _⟩
  clear hF
  go_loopw [47] (fun v47 wr => ∃ (k : Nat) (A : Ak), v47 = .int .i64 (k : Int) ∧ k ≤ n1 ∧ Hid (DF wr w.heap.size q b A F ∧ AkOk A ∧ Sf A W ∧ Own wr x6.heap.size (.slice (some ⟨gw, 0, none⟩) z cw) W ∧ Below w.heap.size w wr)) (fun v47 _ => n1 - (intOf v47).toNat)
  case atStart => exact ⟨0, _, rfl, Nat.zero_le _, HD0.out, HOK.out.2, HSF.out, HW7.out, HB7.out⟩
  case round =>
    obtain ⟨k, A, rfl, hk, HRR⟩ := hrel
    by_cases hkn : k < n1
    · have hp1 := HP1.out.keep HRR.out.2.2.2.2
      obtain ⟨b1, o1, rfl, hlt1, hc1⟩ : ∃ b1 o1, a1 = some ⟨b1, o1, none⟩ ∧ b1 < wr.heap.size ∧ ∀ r, r < n1 → wr.cell? ⟨b1, o1 + r, none⟩ = some (.slice (A1 r) (L1 r).length (C1 r)) := by
        rcases hp1.1 with h | h
        · omega
        · exact h
      obtain ⟨hy1, hf1, hz1', hs1⟩ := hp1.2 k hkn
      have e1 := hc1 k hkn
      obtain ⟨M, hM⟩ : ∃ M, L1 k = M := ⟨_, rfl⟩
      obtain ⟨AM, hAM⟩ : ∃ x, A1 k = x := ⟨_, rfl⟩
      obtain ⟨CM, hCM⟩ : ∃ x, C1 k = x := ⟨_, rfl⟩
      rw [hM] at hy1 hf1 hs1 e1
      rw [hAM] at hy1 e1
      rw [hCM] at e1
      have HYM : Hid (Bytes wr AM M) := hy1
      have hsM : (M.length : Int) ≤ 140737488351232 := by omega
      have HOKA : Hid (AkOk (appendA A nL M).1 ∧ Sf (appendA A nL M).1 W) := ⟨appendA_ok HRR.out.2.1 nL M, HRR.out.2.2.1.app M⟩
      obtain ⟨R, hR⟩ : ∃ R, appendA A nL M = R := ⟨_, rfl⟩
      rw [hR] at HOKA
      obtain ⟨AA, EA⟩ := R
      have HRA : Hid (appendA A nL M = (AA, EA)) := hR
      have hkI : (k : Int) < (n1 : Int) := by omega
      have hk0 : (0 : Int) ≤ (k : Int) := by omega
      have T3 : Hid True := trivial
      clear hp1 hc1 hy1 hf1 hz1' hs1 hM hAM hCM hR
      by_cases hk2 : k < n2
      · have hk2I : (k : Int) < (n2 : Int) := by omega
        have hp2 := HP2.out.keep HRR.out.2.2.2.2
        obtain ⟨b2, o2, rfl, hlt2, hc2⟩ : ∃ b2 o2, a2 = some ⟨b2, o2, none⟩ ∧ b2 < wr.heap.size ∧ ∀ r, r < n2 → wr.cell? ⟨b2, o2 + r, none⟩ = some (.slice (A2 r) (L2 r).length (C2 r)) := by
          rcases hp2.1 with h | h
          · omega
          · exact h
        obtain ⟨hy2, hf2, hz2', hs2⟩ := hp2.2 k hk2
        have e2 := hc2 k hk2
        obtain ⟨ks, hks⟩ : ∃ M, L2 k = M := ⟨_, rfl⟩
        obtain ⟨AK, hAK⟩ : ∃ x, A2 k = x := ⟨_, rfl⟩
        obtain ⟨CK, hCK⟩ : ∃ x, C2 k = x := ⟨_, rfl⟩
        rw [hks] at hy2 hf2 hs2 e2
        rw [hAK] at hy2 e2 hz2'
        rw [hCK] at e2 hf2 hz2'
        have HKS : Hid (Ints wr AK ks ∧ ks.length ≤ CK ∧ (AK = none → CK = 0) ∧ ks.length * 8 ≤ 140737488355328) := ⟨hy2, hf2, hz2', by omega⟩
        have HLTB : Hid (b2 < wr.heap.size ∧ wr.cell? ⟨b2, o2 + k, none⟩ = some (.slice AK ks.length CK)) := ⟨hlt2, e2⟩
        have HC2X : Hid (∀ y : World, Below w.heap.size w y → y.cell? ⟨b2, o2 + k, none⟩ = some (.slice AK ks.length CK)) := fun y hy => by
          rcases HP2.out.1 with h | ⟨b3, o3, h3, h4, h5⟩
          · omega
          · cases h3
            rw [← hks, ← hAK, ← hCK]
            exact (hy.cell (p := ⟨b2, o2 + k, none⟩) h4).trans (h5 k hk2)
        have HKX0 : Hid (∀ y : World, Below w.heap.size w y → Ints y AK ks) := fun y hy => by rw [← hks, ← hAK]; exact (HP2.out.2 k hk2).1.keep hy
        have HOKR : Hid (AkOk (restartA AA ks) ∧ Sf (restartA AA ks) W) := ⟨restartA_ok HOKA.out.1 ks, HOKA.out.2.rest ks⟩
        obtain ⟨AR, hAR⟩ : ∃ AR, restartA AA ks = AR := ⟨_, rfl⟩
        have HAR : Hid (restartA AA ks = AR) := hAR
        rw [hAR] at HOKR
        clear hp2 hc2 hy2 hf2 hz2' hs2 hks hAK hCK hAR e2
        go_wp2_with (first
          | (go_at_call 29; clear T3; refine (copy_any M AM CM wr HYM.out (by omega)).mono ?_; rintro _ x8 ⟨v8, rfl, ho8, hb8⟩; obtain ⟨P8, C8, rfl, hy8, hf8, hz8⟩ := ho8.ready; have HY8 : Hid (Bytes x8 P8 M ∧ M.length ≤ C8 ∧ (P8 = none → C8 = 0)) := ⟨hy8, hf8, hz8⟩; have HD8 : Hid (DF x8 w.heap.size q b A F) := HRR.out.1.keep hb8; have HB8 : Hid (Below wr.heap.size wr x8) := hb8; clear ho8 hb8 hy8 hf8 hz8)
          | (go_at_call 28; refine (append_F HD8.out HRR.out.2.1 nL (by decide) P8 M.length C8 M rfl HY8.out.1 HY8.out.2.1 HY8.out.2.2 (by omega)).mono ?_; rw [HRA.out]; rintro _ x9 ⟨rfl, hd9, hk9, hb9⟩; have HD9 : Hid (DF x9 w.heap.size q b AA F) := hd9; have HW9 : Hid (Own x9 x6.heap.size (.slice (some ⟨gw, 0, none⟩) z cw) W) := own_kept (HRR.out.2.2.2.1.keep' HB8.out) (fun g hg => by cases hg; exact hk9 gw HFG.out); have HB9 : Hid (Below w.heap.size w x9) := (HRR.out.2.2.2.2.trans (HB8.out.mono HRR.out.2.2.2.2.size)).trans hb9; have e9 := (HC2X.out (x9.alloc (.cells #[] 3)) (HB9.out.alloc HB9.out.size _)); have HKX : Hid (Ints x9 AK ks) := HKX0.out x9 HB9.out; clear hd9 hk9 hb9)
          | (at_builtin; refine wpList_append_ks x9 rfl _ _ rfl ks AK ks.length CK rfl rfl rfl HKX.out HKS.out.2.2.1 HKS.out.2.1 HKS.out.2.2.2 ?_; intro K10 C10 x10 hi10 ht10 hb10; have HI10 : Hid (Ints x10 K10 ks ∧ (∀ g off, K10 = some ⟨g, off, none⟩ → ks ≠ [] → ∃ c m, x10.heap[g]? = some (.cells c 3 m))) := ⟨hi10, ht10⟩; have HD10 : Hid (DF x10 w.heap.size q b AA F) := HD9.out.keep hb10; have HW10 : Hid (Own x10 x6.heap.size (.slice (some ⟨gw, 0, none⟩) z cw) W) := HW9.out.keep' hb10; have HB10 : Hid (Below w.heap.size w x10) := HB9.out.trans (hb10.mono HB9.out.size); clear hi10 ht10 hb10)
          | (go_at_call 32; refine (restart_F HD10.out HOKA.out.1 K10 ks.length C10 ks rfl HI10.out.1 HI10.out.2 (by have := HKS.out.2.2.2; omega)).mono ?_; rw [HAR.out]; rintro _ x11 ⟨rfl, hd11, hk11, hb11⟩; have HD11 : Hid (DF x11 w.heap.size q b AR F) := hd11; have HW11 : Hid (Own x11 x6.heap.size (.slice (some ⟨gw, 0, none⟩) z cw) W) := own_kept HW10.out (fun g hg => by cases hg; exact hk11 gw HFG.out); have HB11 : Hid (Below w.heap.size w x11) := HB10.out.trans hb11; clear hd11 hk11 hb11)
          | (go_at_call 33; refine (read_F HD11.out HOKR.out.1 nL (by decide) 0 (z : Int) (by decide) (by decide) (by omega) (by omega)).mono ?_; rw [← HZ.out.1, HOKR.out.2.read.1, HZ.out.1]; rintro _ x12 ⟨v12, rfl, ho12, hd12, hk12, hb12⟩; obtain ⟨P12, C12, rfl, hy12, _, _⟩ := ho12.ready; have HY12 : Hid (Bytes x12 P12 W) := hy12; have HW12 : Hid (Own x12 x6.heap.size (.slice (some ⟨gw, 0, none⟩) z cw) W) := own_kept HW11.out (fun g hg => by cases hg; exact hk12 gw HFG.out); have HB12 : Hid (Below w.heap.size w x12) := HB11.out.trans hb12; have HN12 : Hid (DF x12 w.heap.size q b { AR with read := wrap64 (AR.read + z) } F ∧ AkOk { AR with read := wrap64 (AR.read + z) } ∧ Sf { AR with read := wrap64 (AR.read + z) } W) := ⟨hd12, ⟨HOKR.out.1.room, HOKR.out.1.used, HOKR.out.1.fuse, HOKR.out.1.steps, wrap_rg _, HOKR.out.1.few, HOKR.out.1.name, HOKR.out.1.safe, HOKR.out.1.sort⟩, ⟨HOKR.out.2.off, HOKR.out.2.fuse, HOKR.out.2.fs⟩⟩; rw [HZ.out.1]; clear ho12 hd12 hk12 hb12 hy12)
          | (go_at_call 19; refine (same_at W W z z P12 (some ⟨gw, 0, none⟩) C12 cw x12 HZ.out.1 HZ.out.1 HY12.out (own_by HW12.out) (by have := HZ.out; unfold maxLen; omega) (by have := HZ.out; unfold maxLen; omega)).mono ?_; rw [decide_eq_true (rfl : W = W)]; rintro _ x13 ⟨rfl, n13, hx13⟩; subst hx13; have HFIN : Hid (DF (x12.drewN n13) w.heap.size q b _ F ∧ AkOk _ ∧ Sf _ W ∧ Own (x12.drewN n13) x6.heap.size (.slice (some ⟨gw, 0, none⟩) z cw) W ∧ Below w.heap.size w (x12.drewN n13)) := ⟨HN12.out.1.keep (below_dn (Below.refl _ _) n13), HN12.out.2.1, HN12.out.2.2, HW12.out.keep' (below_dn (Below.refl _ _) n13), below_dn HB12.out n13⟩)
          | go_in)
        go_roundw
        case rel => exact ⟨k + 1, _, by go_num, by omega, HFIN.out⟩
        case measure => simp [intOf]; omega
      · have hk2I : ¬ (k : Int) < (n2 : Int) := by omega
        go_wp2_with (first
          | (go_at_call 29; clear T3; refine (copy_any M AM CM wr HYM.out (by omega)).mono ?_; rintro _ x8 ⟨v8, rfl, ho8, hb8⟩; obtain ⟨P8, C8, rfl, hy8, hf8, hz8⟩ := ho8.ready; have HY8 : Hid (Bytes x8 P8 M ∧ M.length ≤ C8 ∧ (P8 = none → C8 = 0)) := ⟨hy8, hf8, hz8⟩; have HD8 : Hid (DF x8 w.heap.size q b A F) := HRR.out.1.keep hb8; have HB8 : Hid (Below wr.heap.size wr x8) := hb8; clear ho8 hb8 hy8 hf8 hz8)
          | (go_at_call 28; refine (append_F HD8.out HRR.out.2.1 nL (by decide) P8 M.length C8 M rfl HY8.out.1 HY8.out.2.1 HY8.out.2.2 (by omega)).mono ?_; rw [HRA.out]; rintro _ x9 ⟨rfl, hd9, hk9, hb9⟩; have HD9 : Hid (DF x9 w.heap.size q b AA F) := hd9; have HW9 : Hid (Own x9 x6.heap.size (.slice (some ⟨gw, 0, none⟩) z cw) W) := own_kept (HRR.out.2.2.2.1.keep' HB8.out) (fun g hg => by cases hg; exact hk9 gw HFG.out); have HB9 : Hid (Below w.heap.size w x9) := (HRR.out.2.2.2.2.trans (HB8.out.mono HRR.out.2.2.2.2.size)).trans hb9; clear hd9 hk9 hb9)
          | (go_at_call 33; refine (read_F HD9.out HOKA.out.1 nL (by decide) 0 (z : Int) (by decide) (by decide) (by omega) (by omega)).mono ?_; rw [← HZ.out.1, HOKA.out.2.read.1, HZ.out.1]; rintro _ x12 ⟨v12, rfl, ho12, hd12, hk12, hb12⟩; obtain ⟨P12, C12, rfl, hy12, _, _⟩ := ho12.ready; have HY12 : Hid (Bytes x12 P12 W) := hy12; have HW12 : Hid (Own x12 x6.heap.size (.slice (some ⟨gw, 0, none⟩) z cw) W) := own_kept HW9.out (fun g hg => by cases hg; exact hk12 gw HFG.out); have HB12 : Hid (Below w.heap.size w x12) := HB9.out.trans hb12; have HN12 : Hid (DF x12 w.heap.size q b { AA with read := wrap64 (AA.read + z) } F ∧ AkOk { AA with read := wrap64 (AA.read + z) } ∧ Sf { AA with read := wrap64 (AA.read + z) } W) := ⟨hd12, ⟨HOKA.out.1.room, HOKA.out.1.used, HOKA.out.1.fuse, HOKA.out.1.steps, wrap_rg _, HOKA.out.1.few, HOKA.out.1.name, HOKA.out.1.safe, HOKA.out.1.sort⟩, ⟨HOKA.out.2.off, HOKA.out.2.fuse, HOKA.out.2.fs⟩⟩; rw [HZ.out.1]; clear ho12 hd12 hk12 hb12 hy12)
          | (go_at_call 19; refine (same_at W W z z P12 (some ⟨gw, 0, none⟩) C12 cw x12 HZ.out.1 HZ.out.1 HY12.out (own_by HW12.out) (by have := HZ.out; unfold maxLen; omega) (by have := HZ.out; unfold maxLen; omega)).mono ?_; rw [decide_eq_true (rfl : W = W)]; rintro _ x13 ⟨rfl, n13, hx13⟩; subst hx13; have HFIN : Hid (DF (x12.drewN n13) w.heap.size q b _ F ∧ AkOk _ ∧ Sf _ W ∧ Own (x12.drewN n13) x6.heap.size (.slice (some ⟨gw, 0, none⟩) z cw) W ∧ Below w.heap.size w (x12.drewN n13)) := ⟨HN12.out.1.keep (below_dn (Below.refl _ _) n13), HN12.out.2.1, HN12.out.2.2, HW12.out.keep' (below_dn (Below.refl _ _) n13), below_dn HB12.out n13⟩)
          | go_in)
        go_roundw
        case rel => exact ⟨k + 1, _, by go_num, by omega, HFIN.out⟩
        case measure => simp [intOf]; omega
    · obtain rfl : k = n1 := by omega
      clear hkn hk
      go_wp2
      go_ret
      exact ⟨rfl, HRR.out.2.2.2.2⟩
theorem walk (l : List Nat) (a : Option Addr) (cap : Nat) (n1 : Nat) (a1 : Option Addr) (cap1 : Nat) (A1 : Nat → Option Addr) (L1 : Nat → List Nat) (C1 : Nat → Nat) (n2 : Nat) (a2 : Option Addr) (cap2 : Nat) (A2 : Nat → Option Addr) (L2 : Nat → List Int) (C2 : Nat → Nat) (w : World) (hb : Bytes w a l) (hc : Came w a l.length cap 1) (p1 : PzB w a1 n1 A1 L1 C1) (c1 : n1 * 24 ≤ 140737488351232) (p2 : PzI w a2 n2 A2 L2 C2) (c2 : n2 * 24 ≤ 140737488351232) :
    Calls Try.prog 6 #[.slice a l.length cap, .slice a1 n1 cap1, .slice a2 n2 cap2] w fun e w' => e = .returned (.bool true) ∧ Below w.heap.size w w' := by
  by_cases hle : l.length ≤ 67108863
  · exact small l a cap n1 a1 cap1 A1 L1 C1 n2 a2 cap2 A2 L2 C2 w hb hc p1 c1 p2 c2 hle
  · exact big l a cap n1 a1 cap1 A1 L1 C1 n2 a2 cap2 A2 L2 C2 w hb hc p1 c1 p2 c2 (by omega)
theorem own : ownKnob Try.prog.godebug = none := by kernel_rfl
theorem laidOut : laidOutB Try.prog = true := by kernel_rfl
set_option maxRecDepth 100000 in
theorem contract (H : Type) (enc : TypeId × Value → H) (W : World) (base : Nat) (args : Array Value) (ds gs : List (DataW H)) (before : List MemPlace)
    (hval : ∀ (j : Nat) t v, Try.f6.params[j]? = some t → args[j]? = some v → Value.okWide Try.prog W .any base t v)
    (hW : DataW.Whole enc Try.prog Try.f6.params.toList Rows.simfsSafeSpec.vars false W args.toList ds gs before)
    (hsz : (DataW.weightsEach Try.prog (Try.f6.params.toList ++ Rows.simfsSafeSpec.plain.varTypes Try.prog) (ds ++ gs)).all (· ≤ reachBytes) = true) :
    Calls Try.prog 6 args W fun e W' => ∃ v, e = .returned v ∧ Rows.simfsSafeSpec.post enc Try.prog Try.f6 false true false false W args v W' := by
  have hW' := hW
  obtain ⟨p, q, hA0, hV, rfl, hfz, hnd⟩ := hW
  have hA : DataW.TrodAll enc Try.prog W 0 (fun _ => true) true Try.f6.params.toList args.toList ds p := hA0
  rw [Try.params6] at hA hval hsz
  obtain ⟨v0, vs0, d0, ds0, p0, q0, hargs, rfl, rfl, h0, r0⟩ := trodAll_cons hA
  obtain ⟨v1, vs1, d1, ds1, p1, q1, rfl, rfl, rfl, h1, r1⟩ := trodAll_cons r0
  obtain ⟨v2, vs2, d2, ds2, p2, q2, rfl, rfl, rfl, h2, r2⟩ := trodAll_cons r1
  obtain ⟨rfl, rfl, rfl⟩ := trodAll_nil r2
  obtain rfl : args = #[v0, v1, v2] := by cases args; simp_all
  obtain ⟨rfl, rfl⟩ := trodVars_none hV
  obtain ⟨a0, len0, cap0, rfl⟩ := okWide_slice Try.underlying31 (hval 0 31 v0 rfl rfl)
  have k0 := h0
  have lt0 : ∀ x ∈ p0, x.block < W.heap.size := by obtain ⟨m, hm⟩ := k0; exact DataW.trod_lt m _ _ _ hm
  obtain ⟨l0, hlen0, w0, c0⟩ : ∃ l : List Nat, l.length = len0 ∧ Bytes W a0 l ∧ Came W a0 len0 cap0 1 := by
    obtain ⟨fuel, hf⟩ := h0
    rcases open_ints Try.underlying31 Try.underlying5 (by kernel_rfl) hf with ⟨hcs, hx⟩ | ⟨x, l, c, zs, hcs, _, hl, hm, hz, hx, hcell, hwz⟩
    · simp [Value.cells] at hcs
      obtain ⟨rfl, rfl, rfl⟩ := hcs
      exact ⟨[], rfl, ⟨by simp, .inl rfl⟩, ⟨Nat.le_refl _, by simp, fun _ => rfl⟩⟩
    · simp [Value.cells] at hcs
      obtain ⟨rfl, rfl, rfl⟩ := hcs
      have hz2 : zs.length = cap0 := by simpa using hz
      obtain ⟨ll, e1, e2, e3⟩ := row_nats .u8 256 (by decide) wf_u8 W x zs len0 (by omega) hcell hwz
      have hd : d0 = .slice (lits .u8 (zs.take len0)) (lits .u8 (zs.drop len0)) := (Prod.mk.inj hx).1
      have hreach : cap0 * 1 ≤ 140737488351232 := by
        have := sized_slice hsz (j := 0) (t := 31) (e := 5) rfl (by rw [hd]; rfl) Try.underlying31
        rw [show Try.prog.bytesOf 5 = 1 from by kernel_rfl] at this
        simp only [lits, List.length_map, List.length_take, List.length_drop, reachBytes] at this
        have hmin : min len0 zs.length = len0 := Nat.min_eq_left (by omega)
        rw [hmin] at this
        have hcap : len0 + (zs.length - len0) = cap0 := by omega
        rw [hcap] at this
        exact this
      exact ⟨ll, e1, ⟨e2, e3⟩, ⟨hl, hreach, fun h => by cases h⟩⟩
  subst hlen0
  obtain ⟨a1, len1, cap1, rfl⟩ := okWide_slice Try.underlying54 (hval 1 54 v1 rfl rfl)
  have k1 := h1
  have lt1 : ∀ x ∈ p1, x.block < W.heap.size := by obtain ⟨m, hm⟩ := k1; exact DataW.trod_lt m _ _ _ hm
  obtain ⟨A1, L1, C1, w1, c1⟩ : ∃ (A : Nat → Option Addr) (L : Nat → List Nat) (C : Nat → Nat), PzB W a1 len1 A L C ∧ len1 * 24 ≤ 140737488351232 := by
    obtain ⟨fuel, hf⟩ := h1
    rcases Go.Deep.open_int_rows Try.underlying54 Try.underlying31 Try.underlying5 (by kernel_rfl) (by kernel_rfl) hf with ⟨hcs, hx⟩ | ⟨x, l, c, A, L, C, Z, hcs, _, hl, hm, hx, hr⟩
    · simp [Value.cells] at hcs
      obtain ⟨rfl, rfl, rfl⟩ := hcs
      exact ⟨fun _ => none, fun _ => [], fun _ => 0, ⟨.inl rfl, fun r hr => by omega⟩, by omega⟩
    · simp [Value.cells] at hcs
      obtain ⟨rfl, rfl, rfl⟩ := hcs
      have hd : d1 = _ := (Prod.mk.inj hx).1
      have hsr := sized_rows hsz (j := 1) (T := 54) rfl (by rw [hd]; rfl) Try.underlying54 Try.underlying31 (fun r hrl => ⟨(hr r (by omega)).2.2.2.1, (hr r (by omega)).2.2.2.2.2.1, (hr r (by omega)).2.1⟩)
      rw [show Try.prog.bytesOf 5 = 1 from by kernel_rfl] at hsr
      obtain ⟨ll, h2⟩ := pzb_of x len1 cap1 A L C Z hl hsr hr
      refine ⟨A, ll, C, h2, ?_⟩
      have hso := sized_slice hsz (j := 1) (t := 54) (e := 31) rfl (by rw [hd]; rfl) Try.underlying54
      rw [show Try.prog.bytesOf 31 = 24 from by kernel_rfl] at hso
      simp only [List.length_map, List.length_range, reachBytes] at hso
      omega
  obtain ⟨a2, len2, cap2, rfl⟩ := okWide_slice Try.underlying55 (hval 2 55 v2 rfl rfl)
  have k2 := h2
  have lt2 : ∀ x ∈ p2, x.block < W.heap.size := by obtain ⟨m, hm⟩ := k2; exact DataW.trod_lt m _ _ _ hm
  obtain ⟨A2, L2, C2, w2, c2⟩ : ∃ (A : Nat → Option Addr) (L : Nat → List Int) (C : Nat → Nat), PzI W a2 len2 A L C ∧ len2 * 24 ≤ 140737488351232 := by
    obtain ⟨fuel, hf⟩ := h2
    rcases Go.Deep.open_int_rows Try.underlying55 Try.underlying32 Try.underlying3 (by kernel_rfl) (by kernel_rfl) hf with ⟨hcs, hx⟩ | ⟨x, l, c, A, L, C, Z, hcs, _, hl, hm, hx, hr⟩
    · simp [Value.cells] at hcs
      obtain ⟨rfl, rfl, rfl⟩ := hcs
      exact ⟨fun _ => none, fun _ => [], fun _ => 0, ⟨.inl rfl, fun r hr => by omega⟩, by omega⟩
    · simp [Value.cells] at hcs
      obtain ⟨rfl, rfl, rfl⟩ := hcs
      have hd : d2 = _ := (Prod.mk.inj hx).1
      have hsr := sized_rows hsz (j := 2) (T := 55) rfl (by rw [hd]; rfl) Try.underlying55 Try.underlying32 (fun r hrl => ⟨(hr r (by omega)).2.2.2.1, (hr r (by omega)).2.2.2.2.2.1, (hr r (by omega)).2.1⟩)
      rw [show Try.prog.bytesOf 3 = 8 from by kernel_rfl] at hsr
      obtain ⟨ll, h2⟩ := pzi_of x len2 cap2 A L C Z hl hsr hr
      refine ⟨A, ll, C, h2, ?_⟩
      have hso := sized_slice hsz (j := 2) (t := 55) (e := 32) rfl (by rw [hd]; rfl) Try.underlying55
      rw [show Try.prog.bytesOf 32 = 24 from by kernel_rfl] at hso
      simp only [List.length_map, List.length_range, reachBytes] at hso
      omega
  clear hA0
  refine (walk l0 a0 cap0 len1 a1 cap1 A1 L1 C1 len2 a2 cap2 A2 L2 C2 W w0 c0 w1 c1 w2 c2).mono fun e W' ⟨he, bel⟩ => ?_
  subst he
  exact ⟨_, rfl, _, _, _, [], _, [], hW', trodAll_mk1 (shut_bool Try.underlying4 _), (trodAll_cons_mk (Below.trod laidOut (by kernel_rfl) (of_decide_eq_true (by kernel_rfl)) k0 bel lt0) (trodAll_cons_mk (Below.trod laidOut (by kernel_rfl) (of_decide_eq_true (by kernel_rfl)) k1 bel lt1) (trodAll_cons_mk (Below.trod laidOut (by kernel_rfl) (of_decide_eq_true (by kernel_rfl)) k2 bel lt2) trodAll_mk0))), rfl, bel.frame _, fun h => by cases h⟩
set_option maxRecDepth 100000 in
theorem lifted (os : Os) (started : os.Started) (H : Type) (enc : TypeId × Value → H) :
    ReturnsInHanded {} Try.checked os 6 .any (Rows.simfsSafeSpec.pre6 enc Try.prog Try.f6 Rows.simfsSafeRow.domain false) (Rows.simfsSafeSpec.post enc Try.prog Try.f6 false true false false) := by
  refine returnsInHanded_of_change_sized (C := Try.checked) own started (by kernel_rfl) Try.func6
    (ChangeSpec.witness6 (enc := enc) (C := Try.checked) false ⟨#[], #[.slice none 0 0, .slice none 0 0, .slice none 0 0], []⟩ 8 (by kernel_rfl) (by kernel_rfl) (by kernel_rfl) (by kernel_rfl)) ?_
  intro W base args ds gs before hval hW _ hsz _
  exact contract H enc W base args ds gs before hval hW hsz
theorem over : Rows.simfsSafeRow.holds Try.pinned (OpenSpec.ofChange Rows.simfsSafeSpec) :=
  OpenClaim.holds_of_wide 6 Try.f6 rfl rfl rfl rfl rfl rfl rfl ⟨rfl, rfl, rfl, rfl, rfl⟩ rfl rfl rfl rfl rfl (by kernel_rfl) Try.func6 (by kernel_rfl)
    (of_decide_eq_true (by kernel_rfl)) (by unfold Func.isWrapper; first | (rw [if_pos (by decide +kernel)]; kernel_rfl) | (rw [if_neg (by decide +kernel)]; exact ⟨rfl, rfl⟩))
    (fun os started H enc _ => lifted os started H enc)
theorem proved : Rows.SimfsSafeSaid := over
end Go.Proofs.Ytlnhhgmdajbepaa.simfsSafe
