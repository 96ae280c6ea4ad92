/- frame: Peek. -/
import Derived.Test.YtpjikkhcimghaaaDoorFr2
namespace Go.Proofs.YtpjikkhcimghaaaDoor
open Go.ChangeShapes Go.WideShapes Go.ChangeAt Go.RowKit
set_option linter.unusedVariables false
theorem low_q (l : List Nat) (n : Nat) (b off cap : Nat) (w : World) (hn : l.length = n) (h8 : n ≤ 8) (hb : Bytes w (some ⟨b, off, none⟩) l) :
    Calls Tryd.prog 26 #[.slice (some ⟨b, off, none⟩) n cap] w fun e w' => e = .returned (.int .i64 (wrap64 (Crcm.val l))) ∧ w' = w :=
  (low_any l n b off cap w hn h8 hb).mono fun _ _ ⟨h1, h2⟩ => ⟨h1, h2.symm⟩
theorem fsize_q (n : Int) (w : World) : Calls Tryd.prog 24 #[.int .i64 n] w fun e w' => e = .returned (.int .i64 (fsz n)) ∧ w' = w :=
  (fsize_any n w).mono fun _ _ ⟨h1, h2⟩ => ⟨h1, h2.symm⟩
theorem val2 (l : List Nat) (h : 4 ≤ l.length) : Crcm.val ((l.drop 2).take 2) = pn l := by
  rw [drop_at l 2 _ (by omega) rfl, drop_at l 3 _ (by omega) rfl]
  rfl
theorem bytes_sub {w : World} {b off : Nat} {l : List Nat} (h : Bytes w (some ⟨b, off, none⟩) l) (i n : Nat) : Bytes w (some ⟨b, off + i, none⟩) ((l.drop i).take n) := (h.drop i).take n
theorem peekE_60 {l : List Nat} (h : l.length < 16) : peekE l = 60 := by unfold peekE; rw [if_pos h]
theorem peekE_61 {l : List Nat} (h : ¬ l.length < 16) (h2 : l.getD 0 0 ≠ 165) : peekE l = 61 := by unfold peekE; rw [if_neg h, if_pos h2]
theorem peekE_62 {l : List Nat} (h : ¬ l.length < 16) (h2 : ¬ l.getD 0 0 ≠ 165) (h3 : closedB (l.take 16) = false) : peekE l = 62 := by unfold peekE; rw [if_neg h, if_neg h2, if_pos h3]
theorem peekE_63 {l : List Nat} (h : ¬ l.length < 16) (h2 : ¬ l.getD 0 0 ≠ 165) (h3 : ¬ closedB (l.take 16) = false) (h4 : ¬ (pn l ≤ 16384 ∧ 1 ≤ pk l ∧ pk l ≤ 7 ∧ ps l ≤ 1099511627776)) : peekE l = 63 := by unfold peekE; rw [if_neg h, if_neg h2, if_neg h3, if_neg h4]
theorem peekE_0 {l : List Nat} (h : ¬ l.length < 16) (h2 : ¬ l.getD 0 0 ≠ 165) (h3 : ¬ closedB (l.take 16) = false) (h4 : pn l ≤ 16384 ∧ 1 ≤ pk l ∧ pk l ≤ 7 ∧ ps l ≤ 1099511627776) : peekE l = 0 := by unfold peekE; rw [if_neg h, if_neg h2, if_neg h3, if_pos h4]
/-- the answer of Peek -/
abbrev PV (l : List Nat) : Value := .tuple #[.int .i64 (peekK l : Nat), .int .i64 (peekS l : Nat), .int .i64 (peekN l : Nat), .int .i64 (peekE l : Nat)]
theorem pv_bad (l : List Nat) (e : Nat) (h : peekE l = e) (he : e ≠ 0) : PV l = .tuple #[.int .i64 0, .int .i64 0, .int .i64 0, .int .i64 (e : Int)] := by
  have h1 : peekE l ≠ 0 := by rw [h]; exact he
  show Value.tuple #[.int .i64 (peekK l : Nat), .int .i64 (peekS l : Nat), .int .i64 (peekN l : Nat), .int .i64 (peekE l : Nat)] = _
  rw [show peekK l = 0 from if_neg h1, show peekS l = 0 from if_neg h1, show peekN l = 0 from if_neg h1, h]
  rfl
theorem pv_good (l : List Nat) (h : peekE l = 0) : PV l = .tuple #[.int .i64 (pk l : Int), .int .i64 (ps l : Int), .int .i64 ((pn l : Int) + 20), .int .i64 0] := by
  show Value.tuple #[.int .i64 (peekK l : Nat), .int .i64 (peekS l : Nat), .int .i64 (peekN l : Nat), .int .i64 (peekE l : Nat)] = _
  rw [show peekK l = pk l from if_pos h, show peekS l = ps l from if_pos h, show peekN l = pn l + 20 from if_pos h, h]
  rfl
theorem wrap64_small (n : Nat) (h : n ≤ 9223372036854775807) : wrap64 (n : Int) = n := by unfold wrap64; omega
theorem inB_ps (k s : Nat) (hs : s < 18446744073709551616) : inB (k : Int) (wrap64 (s : Int)) = decide (1 ≤ k ∧ k ≤ 7 ∧ s ≤ 1099511627776) := by
  unfold inB
  rw [decide_eq_decide]
  unfold wrap64
  omega
set_option maxRecDepth 20000 in
set_option maxHeartbeats 1000000 in
theorem peek_any (l : List Nat) (n : Nat) (a : Option Addr) (cap : Nat) (w : World) (hn : l.length = n) (hb : Bytes w a l) (hl : l.length ≤ 281474976710656) (hcap : l.length ≤ cap) (ht : Tab w) :
    Calls Tryd.prog 21 #[.slice a n cap] w fun e w' => e = .returned (PV l) ∧ Below w.heap.size w w' := by
  subst hn
  by_cases h16 : l.length < 16
  · have HP : Hid (PV l = _) := pv_bad l 60 (peekE_60 h16) (by decide)
    obtain ⟨n, hN⟩ : ∃ n, l.length = n := ⟨_, rfl⟩
    rw [hN] at h16 ⊢
    have h16I : (n : Int) < 16 := by omega
    clear hN hb ht hl hcap h16
    go_enter Tryd.func21, Tryd.ntmps21
    go_wp2
    exact bodyPost_ret (v := .tuple #[.int .i64 0, .int .i64 0, .int .i64 0, .int .i64 60]) (by simp [results, Tryd.results21, go_sem]) rfl ⟨by rw [HP.out]; rfl, Below.refl _ _⟩
  · have hne : l ≠ [] := by intro h; subst h; simp at h16
    obtain ⟨b, off, rfl, hlt, hcell⟩ := hb.nonempty hne
    have c0 := hcell 0 (by omega)
    have c1 := hcell 1 (by omega)
    rw [Nat.add_zero] at c0
    obtain ⟨x0, e0⟩ : ∃ x, x = l.getD 0 0 := ⟨_, rfl⟩
    obtain ⟨x1, e1⟩ : ∃ x, x = l.getD 1 0 := ⟨_, rfl⟩
    rw [← e0] at c0
    rw [← e1] at c1
    have HC1 : Hid (∀ w', Below w.heap.size w w' → w'.cell? ⟨b, off + 1, none⟩ = some (.int .u8 (x1 : Int))) := fun w' hw' => (hw'.cell (p := ⟨b, off + 1, none⟩) hlt).trans c1
    obtain ⟨n, hN⟩ : ∃ n, l.length = n := ⟨_, rfl⟩
    have hx0 : x0 < 256 := by rw [e0]; exact hb.1 0
    have hx1 : x1 < 256 := by rw [e1]; exact hb.1 1
    by_cases hm : l.getD 0 0 ≠ 165
    · have HP : Hid (PV l = _) := pv_bad l 61 (peekE_61 h16 hm) (by decide)
      rw [hN] at h16 hl hcap ⊢
      have hx : ((x0 : Int) != 165) = true := by simp; omega
      have h16I : ¬ (n : Int) < 16 := by omega
      clear hb ht hcell HC1 e0 e1 hne hm hN c1
      go_enter Tryd.func21, Tryd.ntmps21
      go_wp2
      exact bodyPost_ret (v := .tuple #[.int .i64 0, .int .i64 0, .int .i64 0, .int .i64 61]) (by simp [results, Tryd.results21, go_sem]) rfl ⟨by rw [HP.out]; rfl, Below.refl _ _⟩
    · have hx : ((x0 : Int) != 165) = false := by simp; omega
      have HT : Hid (Tab w) := ht
      have HB : Hid (Bytes w (some ⟨b, off, none⟩) l) := hb
      have HL16 : Hid ((l.take 16).length = 16) := by show _ = _; rw [List.length_take]; omega
      have HM16 : Hid ((l.take 16).length ≤ maxLen) := by show _ ≤ _; rw [HL16.out]; unfold maxLen; omega
      have HC16 : Hid ((l.take 16).length ≤ cap) := by show _ ≤ _; rw [HL16.out]; omega
      by_cases hcl : closedB (l.take 16) = false
      · have HP : Hid (PV l = _) := pv_bad l 62 (peekE_62 h16 hm hcl) (by decide)
        have HCL : Hid (closedB (l.take 16) = false) := hcl
        rw [hN] at h16 hl hcap ⊢
        have h16I : ¬ (n : Int) < 16 := by omega
        have h16c : (16 : Int) ≤ (cap : Int) := by omega
        clear hb ht hcell HC1 e0 e1 hne hm hN c1 hcl
        go_enter Tryd.func21, Tryd.ntmps21
        go_wp2_with (go_at_call 22; refine (closed_any (l.take 16) _ _ _ _ HL16.out (HB.out.take 16) HM16.out HC16.out HT.out).mono ?_; rw [HCL.out]; rintro e w1 ⟨rfl, hb1⟩)
        exact bodyPost_ret (v := .tuple #[.int .i64 0, .int .i64 0, .int .i64 0, .int .i64 62]) (by simp [results, Tryd.results21, go_sem]) rfl ⟨by rw [HP.out]; rfl, hb1⟩
      · have HCL : Hid (closedB (l.take 16) = true) := by show _ = _; simpa using hcl
        have HV2 : Hid (Crcm.val ((l.drop 2).take 2) = pn l) := val2 l (by omega)
        have HV8 : Hid (Crcm.val ((l.drop 4).take 8) = ps l) := rfl
        have hpn : pn l < 65536 := by have := hb.1 2; have := hb.1 3; unfold pn; omega
        have hps : ps l < 18446744073709551616 := by
          have := Crcm.val_lt ((l.drop 4).take 8) (fun x hx => hb.mem x (List.mem_of_mem_drop (List.mem_of_mem_take hx)))
          rw [List.length_take, List.length_drop, Nat.min_eq_left (by omega)] at this
          rw [show (2 : Nat) ^ (8 * 8) = 18446744073709551616 from by decide] at this
          exact this
        have HPK : Hid (pk l = x1) := e1.symm
        have HS2 : Hid (((l.drop 2).take 2).length = 2) := by show _ = _; rw [List.length_take, List.length_drop]; omega
        have HS8 : Hid (((l.drop 4).take 8).length = 8) := by show _ = _; rw [List.length_take, List.length_drop]; omega
        by_cases hall : pn l ≤ 16384 ∧ 1 ≤ pk l ∧ pk l ≤ 7 ∧ ps l ≤ 1099511627776
        · have HP : Hid (PV l = _) := pv_good l (peekE_0 h16 hm hcl hall)
          obtain ⟨p, hp⟩ : ∃ p, pn l = p := ⟨_, rfl⟩
          obtain ⟨s, hs⟩ : ∃ s, ps l = s := ⟨_, rfl⟩
          rw [HPK.out, hp, hs] at HP hall
          rw [hp] at hpn HV2
          rw [hs] at hps HV8
          have HW2 : Hid (wrap64 (p : Int) = p) := wrap64_small p (by omega)
          have HW8 : Hid (wrap64 (s : Int) = s) := wrap64_small s (by omega)
          have HF : Hid (fsz (p : Int) = (p : Int) + 20) := by show _ = _; unfold fsz; rw [if_neg (by omega)]
          have HI : Hid (inB (x1 : Int) (s : Int) = true) := by show _ = _; unfold inB; rw [decide_eq_true_eq]; omega
          have hz : ((p : Int) + 20 == 0) = false := by simp; omega
          rw [hN] at h16 hl hcap ⊢
          have h16I : ¬ (n : Int) < 16 := by omega
          have h16n : 16 ≤ n := by omega
          have h1n : (1 : Int) < (n : Int) := by omega
          have h12n : (12 : Int) ≤ (cap : Int) := by omega
          have h4n : (4 : Int) ≤ (cap : Int) := by omega
          have h16c : (16 : Int) ≤ (cap : Int) := by omega
          have hq2 : ¬ cap = 2 := by omega
          have hq4 : ¬ cap = 4 := by omega
          clear hb ht hcell e0 e1 hne hm hN c1 hcl hp hs HPK hps hpn hall
          go_enter Tryd.func21, Tryd.ntmps21
          go_wp2_with (go_at_call 22; refine (closed_any (l.take 16) _ _ _ _ HL16.out (HB.out.take 16) HM16.out HC16.out HT.out).mono ?_; rw [HCL.out]; rintro e w1 ⟨rfl, hb1⟩; have d1 := HC1.out w1 hb1; clear c0)
          have HB1 : Hid (Bytes w1 (some ⟨b, off, none⟩) l) := HB.out.keep hb1
          have HL8 : Hid (∀ c m, Calls Tryd.prog 26 #[.slice (some ⟨b, off + 4, none⟩) 8 c] (w1.drewN m) fun e w' => e = .returned (.int .i64 (s : Int)) ∧ w' = w1.drewN m) := fun c m => by
            have := low_q ((l.drop 4).take 8) 8 b (off + 4) c (w1.drewN m) HS8.out (by decide) ((bytes_sub HB1.out 4 8).drewN _)
            rw [HV8.out, HW8.out] at this
            exact this
          have HL2 : Hid (∀ c m, Calls Tryd.prog 26 #[.slice (some ⟨b, off + 2, none⟩) 2 c] (w1.drewN m) fun e w' => e = .returned (.int .i64 (p : Int)) ∧ w' = w1.drewN m) := fun c m => by
            have := low_q ((l.drop 2).take 2) 2 b (off + 2) c (w1.drewN m) HS2.out (by decide) ((bytes_sub HB1.out 2 2).drewN _)
            rw [HV2.out, HW2.out] at this
            exact this
          have HFZ : Hid (∀ m, Calls Tryd.prog 24 #[.int .i64 (p : Int)] (w1.drewN m) fun e w' => e = .returned (.int .i64 ((p : Int) + 20)) ∧ w' = w1.drewN m) := fun m => by
            have := fsize_q (p : Int) (w1.drewN m)
            rw [HF.out] at this
            exact this
          go_quiet ((first
            | (go_at_call 26; with_reducible exact Calls.quiet_of_same (HL8.out _ _))
            | (go_at_call 26; with_reducible exact Calls.quiet_of_same (HL2.out _ _))
            | (go_at_call 24; with_reducible exact Calls.quiet_of_same (HFZ.out _))))
          go_wp2_with (go_at_call 27; refine (inb_any _ _ _).mono ?_; rw [HI.out]; rintro e w2 ⟨rfl, rfl⟩)
          exact bodyPost_ret (v := .tuple #[.int .i64 (x1 : Int), .int .i64 (s : Int), .int .i64 ((p : Int) + 20), .int .i64 0]) (by simp [results, Tryd.results21, go_sem]) rfl ⟨by rw [HP.out], below_drewN hb1 _⟩
        · have HP : Hid (PV l = _) := pv_bad l 63 (peekE_63 h16 hm hcl hall) (by decide)
          obtain ⟨p, hp⟩ : ∃ p, pn l = p := ⟨_, rfl⟩
          have hI := inB_ps x1 (ps l) hps
          rw [HPK.out, hp] at hall
          rw [hp] at hpn HV2
          obtain ⟨s, hs⟩ : ∃ s : Int, wrap64 (ps l : Int) = s := ⟨_, rfl⟩
          rw [hs] at hI
          have HW2 : Hid (wrap64 (p : Int) = p) := wrap64_small p (by omega)
          have HW8 : Hid (wrap64 (Crcm.val ((l.drop 4).take 8) : Int) = s) := hs
          rw [hN] at h16 hl hcap ⊢
          have h16I : ¬ (n : Int) < 16 := by omega
          have h16n : 16 ≤ n := by omega
          have h1n : (1 : Int) < (n : Int) := by omega
          have h12n : (12 : Int) ≤ (cap : Int) := by omega
          have h4n : (4 : Int) ≤ (cap : Int) := by omega
          have h16c : (16 : Int) ≤ (cap : Int) := by omega
          have hq2 : ¬ cap = 2 := by omega
          have hq4 : ¬ cap = 4 := by omega
          clear hb ht hcell e0 e1 hne hm hN c1 hcl hp HPK hps HV8 hs
          by_cases hp2 : 16384 < p
          · have HF : Hid (fsz (p : Int) = 0) := by show _ = _; unfold fsz; rw [if_pos (by omega)]
            clear hall hI hpn hp2
            go_enter Tryd.func21, Tryd.ntmps21
            go_wp2_with (go_at_call 22; refine (closed_any (l.take 16) _ _ _ _ HL16.out (HB.out.take 16) HM16.out HC16.out HT.out).mono ?_; rw [HCL.out]; rintro e w1 ⟨rfl, hb1⟩; have d1 := HC1.out w1 hb1; clear c0)
            have HB1 : Hid (Bytes w1 (some ⟨b, off, none⟩) l) := HB.out.keep hb1
            have HL8 : Hid (∀ c m, Calls Tryd.prog 26 #[.slice (some ⟨b, off + 4, none⟩) 8 c] (w1.drewN m) fun e w' => e = .returned (.int .i64 s) ∧ w' = w1.drewN m) := fun c m => by
              have := low_q ((l.drop 4).take 8) 8 b (off + 4) c (w1.drewN m) HS8.out (by decide) ((bytes_sub HB1.out 4 8).drewN _)
              rw [HW8.out] at this
              exact this
            have HL2 : Hid (∀ c m, Calls Tryd.prog 26 #[.slice (some ⟨b, off + 2, none⟩) 2 c] (w1.drewN m) fun e w' => e = .returned (.int .i64 (p : Int)) ∧ w' = w1.drewN m) := fun c m => by
              have := low_q ((l.drop 2).take 2) 2 b (off + 2) c (w1.drewN m) HS2.out (by decide) ((bytes_sub HB1.out 2 2).drewN _)
              rw [HV2.out, HW2.out] at this
              exact this
            have HFZ : Hid (∀ m, Calls Tryd.prog 24 #[.int .i64 (p : Int)] (w1.drewN m) fun e w' => e = .returned (.int .i64 0) ∧ w' = w1.drewN m) := fun m => by
              have := fsize_q (p : Int) (w1.drewN m)
              rw [HF.out] at this
              exact this
            go_quiet ((first
              | (go_at_call 26; with_reducible exact Calls.quiet_of_same (HL8.out _ _))
              | (go_at_call 26; with_reducible exact Calls.quiet_of_same (HL2.out _ _))
              | (go_at_call 24; with_reducible exact Calls.quiet_of_same (HFZ.out _))))
            go_wp2
            exact bodyPost_ret (v := .tuple #[.int .i64 0, .int .i64 0, .int .i64 0, .int .i64 63]) (by simp [results, Tryd.results21, go_sem]) rfl ⟨by rw [HP.out]; rfl, below_drewN hb1 _⟩
          · have HF : Hid (fsz (p : Int) = (p : Int) + 20) := by show _ = _; unfold fsz; rw [if_neg (by omega)]
            have HI : Hid (inB (x1 : Int) s = false) := by show _ = _; rw [hI, decide_eq_false_iff_not]; omega
            have hz : ((p : Int) + 20 == 0) = false := by simp; omega
            clear hall hI hp2
            go_enter Tryd.func21, Tryd.ntmps21
            go_wp2_with (go_at_call 22; refine (closed_any (l.take 16) _ _ _ _ HL16.out (HB.out.take 16) HM16.out HC16.out HT.out).mono ?_; rw [HCL.out]; rintro e w1 ⟨rfl, hb1⟩; have d1 := HC1.out w1 hb1; clear c0)
            have HB1 : Hid (Bytes w1 (some ⟨b, off, none⟩) l) := HB.out.keep hb1
            have HL8 : Hid (∀ c m, Calls Tryd.prog 26 #[.slice (some ⟨b, off + 4, none⟩) 8 c] (w1.drewN m) fun e w' => e = .returned (.int .i64 s) ∧ w' = w1.drewN m) := fun c m => by
              have := low_q ((l.drop 4).take 8) 8 b (off + 4) c (w1.drewN m) HS8.out (by decide) ((bytes_sub HB1.out 4 8).drewN _)
              rw [HW8.out] at this
              exact this
            have HL2 : Hid (∀ c m, Calls Tryd.prog 26 #[.slice (some ⟨b, off + 2, none⟩) 2 c] (w1.drewN m) fun e w' => e = .returned (.int .i64 (p : Int)) ∧ w' = w1.drewN m) := fun c m => by
              have := low_q ((l.drop 2).take 2) 2 b (off + 2) c (w1.drewN m) HS2.out (by decide) ((bytes_sub HB1.out 2 2).drewN _)
              rw [HV2.out, HW2.out] at this
              exact this
            have HFZ : Hid (∀ m, Calls Tryd.prog 24 #[.int .i64 (p : Int)] (w1.drewN m) fun e w' => e = .returned (.int .i64 ((p : Int) + 20)) ∧ w' = w1.drewN m) := fun m => by
              have := fsize_q (p : Int) (w1.drewN m)
              rw [HF.out] at this
              exact this
            go_quiet ((first
              | (go_at_call 26; with_reducible exact Calls.quiet_of_same (HL8.out _ _))
              | (go_at_call 26; with_reducible exact Calls.quiet_of_same (HL2.out _ _))
              | (go_at_call 24; with_reducible exact Calls.quiet_of_same (HFZ.out _))))
            go_wp2_with (go_at_call 27; refine (inb_any _ _ _).mono ?_; rw [HI.out]; rintro e w2 ⟨rfl, rfl⟩)
            exact bodyPost_ret (v := .tuple #[.int .i64 0, .int .i64 0, .int .i64 0, .int .i64 63]) (by simp [results, Tryd.results21, go_sem]) rfl ⟨by rw [HP.out]; rfl, below_drewN hb1 _⟩
end Go.Proofs.YtpjikkhcimghaaaDoor
