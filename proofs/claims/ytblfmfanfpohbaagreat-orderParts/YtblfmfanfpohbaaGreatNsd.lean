/- slices' merge in place, over a row of places. -/
import Derived.Test.YtblfmfanfpohbaaGreatNsc
namespace Go.Proofs.YtblfmfanfpohbaaGreat
open Go.ChangeShapes Go.WideShapes Go.ChangeAt Go.RowKit Go.Sort
theorem first_done {k : Nat → Nat} {a i c : Nat} {d e : Array Nat} (hr : Srt k (a + 1) c d) (h : Rot a (a + 1) i d e) (ha : a + 1 ≤ i) (hi : i ≤ c) (h1 : a + 1 < i → k d[a]! < k d[i - 1]!) (h2 : i < c → k d[i]! ≤ k d[a]!) : Srt k a c e := by
  have up : ∀ y, a + 1 ≤ y → y < i → k d[a]! < k d[y]! := by
    intro y hy hyi
    have q := h1 (by omega)
    by_cases hc : y = i - 1
    · rw [hc]; exact q
    · have := hr y (i - 1) hy (by omega) (by omega); omega
  have dn : ∀ y, i ≤ y → y < c → k d[y]! ≤ k d[a]! := by
    intro y hy hyc
    have q := h2 (by omega)
    by_cases hc : y = i
    · rw [hc]; exact q
    · have := hr i y (by omega) (by omega) hyc; omega
  have g1 : ∀ x, a ≤ x → x < i - 1 → e[x]! = d[x + 1]! := fun x hx hy => by rw [h.fst x hx (by omega)]; congr 1; omega
  have g2 : e[i - 1]! = d[a]! := by rw [h.snd _ (by omega) (by omega)]; congr 1; omega
  intro p q hp hpq hq
  by_cases c1 : q < i - 1
  · rw [g1 p hp (by omega), g1 q (by omega) c1]; exact hr _ _ (by omega) (by omega) (by omega)
  · by_cases c2 : q = i - 1
    · rw [c2, g2, g1 p hp (by omega)]; exact Nat.le_of_lt (up _ (by omega) (by omega))
    · rw [h.out q (by omega)]
      by_cases c3 : p < i - 1
      · rw [g1 p hp c3]; exact hr _ _ (by omega) (by omega) hq
      · by_cases c4 : p = i - 1
        · rw [c4, g2]; exact dn q (by omega) hq
        · rw [h.out p (by omega)]; exact hr _ _ (by omega) hpq hq
theorem second_done {k : Nat → Nat} {a i m : Nat} {d e : Array Nat} (hl : Srt k a m d) (h : Rot i m (m + 1) d e) (ha : a ≤ i) (hi : i ≤ m) (h1 : a < i → k d[m]! ≤ k d[i - 1]!) (h2 : i < m → k d[i]! < k d[m]!) : Srt k a (m + 1) e := by
  have up : ∀ y, a ≤ y → y < i → k d[m]! ≤ k d[y]! := by
    intro y hy hyi
    have q := h1 (by omega)
    by_cases hc : y = i - 1
    · rw [hc]; exact q
    · have := hl y (i - 1) hy (by omega) (by omega); omega
  have dn : ∀ y, i ≤ y → y < m → k d[y]! < k d[m]! := by
    intro y hy hyc
    have q := h2 (by omega)
    by_cases hc : y = i
    · rw [hc]; exact q
    · have := hl i y (by omega) (by omega) hyc; omega
  have g1 : ∀ x, i < x → x < m + 1 → e[x]! = d[x - 1]! := fun x hx hy => by rw [h.snd x (by omega) hy]; congr 1; omega
  have g2 : e[i]! = d[m]! := by rw [h.fst _ (by omega) (by omega)]; congr 1; omega
  intro p q hp hpq hq
  by_cases c1 : q < i
  · rw [h.out p (by omega), h.out q (by omega)]; exact hl _ _ hp hpq (by omega)
  · by_cases c2 : q = i
    · rw [c2, g2, h.out p (by omega)]; exact up _ hp (by omega)
    · rw [g1 q (by omega) hq]
      by_cases c3 : p < i
      · rw [h.out p (by omega)]; exact hl _ _ hp (by omega) (by omega)
      · by_cases c4 : p = i
        · rw [c4, g2]; exact Nat.le_of_lt (dn _ (by omega) (by omega))
        · rw [g1 p (by omega) (by omega)]; exact hl _ _ (by omega) (by omega) (by omega)
/-- what the merge is asked for, and what it leaves -/
abbrev SymArgs (b N cap a m c : Nat) (cb : Array Value) : Array Value := #[.slice (some ⟨b, 0, none⟩) N cap, .int .i64 a, .int .i64 m, .int .i64 c, .func (.func 83) #[] cb]
def SymPost (w : World) (b : Nat) (k : Nat → Nat) (a c : Nat) (d : Array Nat) (w' : World) : Prop := ∃ d', (Mv a c d d' ∧ Srt k a c d' ∧ Stb k d') ∧ ∃ q', w' = rowW w b d' q'
theorem halves (i j : Nat) (hij : i < j) (hj : j ≤ 64) : ∃ t h : Nat, (i : Int) + (j : Int) = (t : Int) ∧ IntKind.u64.wrap (t : Int) = (t : Int) ∧ (t : Int) / 2 = (h : Int) ∧ IntKind.i64.wrap (h : Int) = (h : Int) ∧ IntKind.u64.wrap (h : Int) = (h : Int) ∧ i ≤ h ∧ h < j ∧ h = (i + j) / 2 := by
  refine ⟨i + j, (i + j) / 2, by omega, ?_, by omega, ?_, ?_, by omega, by omega, rfl⟩
  · rw [IntKind.wrap_u64]; omega
  · rw [IntKind.wrap_i64]; omega
  · rw [IntKind.wrap_u64]; omega
set_option maxRecDepth 20000 in
set_option maxHeartbeats 4000000 in
theorem sym_first (k : Nat → Nat) (a m c q cap N : Nat) (cb : Array Value) (d d0 : Array Nat) (w : World) (b : Nat) (hH : Hid (Holds eN w b 0 d0)) (hN : d0.size = N) (hd : d.size = N) (hN2 : N ≤ 64) (ham : a < m) (hmc : m < c) (hc : c ≤ N)
    (HC : Hid (CmpR w b N 83 cb k)) (HB : Hid (Bnd d ∧ Stb k d ∧ Srt k a m d ∧ Srt k m c d)) (h1 : m = a + 1) :
    Calls Tryz.prog 115 (SymArgs b N cap a m c cb) (rowW w b d q) fun e w' => e = .returned (.tuple #[]) ∧ SymPost w b k a c d w' := by
  have HD : Hid (d.size = N ∧ d0.size = N ∧ m = a + 1) := ⟨hd, hN, h1⟩
  have h1z : (m : Int) - (a : Int) = 1 := by omega
  have hwm : IntKind.i64.wrap 1 = 1 := by decide
  clear hd hN h1
  go_enter Tryz.func115, Tryz.ntmps115
  go_wp2
  go_loopw [10, 11] (fun vi vj wr => ∃ (i j q' : Nat), m ≤ i ∧ i ≤ j ∧ j ≤ c ∧ vi = .int .i64 i ∧ vj = .int .i64 j ∧ Hid ((m < i → k d[a]! < k d[i - 1]!) ∧ (j < c → k d[j]! ≤ k d[a]!)) ∧ wr = rowW w b d q') (fun vi vj _ => (intOf vj).toNat - (intOf vi).toNat)
  case atStart => exact ⟨m, c, q, Nat.le_refl _, by omega, Nat.le_refl _, rfl, rfl, ⟨fun h => absurd h (by omega), fun h => absurd h (by omega)⟩, rfl⟩
  case round =>
    obtain ⟨i, j, q', hi, hij, hj, rfl, rfl, HS, rfl⟩ := hrel
    by_cases hlt : i < j
    · obtain ⟨t, h, ht, htw, hth, hhw, hhu, hih, hhj, heq⟩ := halves i j hlt (by omega)
      have hhN : (h : Int) < (N : Int) := by omega
      have haN : (a : Int) < (N : Int) := by omega
      clear heq
      obtain ⟨ch, fh⟩ := rowW_cell hH.out (by rw [HD.out.1]; exact HD.out.2.1.symm) q' h (d := d) (by rw [HD.out.1]; omega)
      obtain ⟨ca, fa⟩ := rowW_cell hH.out (by rw [HD.out.1]; exact HD.out.2.1.symm) q' a (d := d) (by rw [HD.out.1]; omega)
      obtain ⟨X, eX⟩ : ∃ X, d[h]! = X := ⟨_, rfl⟩
      obtain ⟨Y, eY⟩ : ∃ Y, d[a]! = Y := ⟨_, rfl⟩
      rw [eX] at ch
      rw [eY] at ca
      have hXN : X < N := by have := HB.out.1 h (by rw [HD.out.1]; omega); rw [HD.out.1, eX] at this; exact this
      have hYN : Y < N := by have := HB.out.1 a (by rw [HD.out.1]; omega); rw [HD.out.1, eY] at this; exact this
      have hcall := HC.out.at d X Y q' HD.out.1 hXN hYN
      obtain ⟨v, ev⟩ : ∃ v, cfk k X Y = v := ⟨_, rfl⟩
      have hvn := cfk_neg k X Y
      rw [ev] at hvn hcall
      have HE : Hid (d[h]! = X ∧ d[a]! = Y ∧ (v < 0 ↔ k Y < k X)) := ⟨eX, eY, hvn⟩
      clear eX eY hvn hXN hYN ev
      generalize hwq : rowW w b d q' = wq at ch ca fh fa hcall ⊢
      have HW : Hid (rowW w b d q' = wq) := hwq
      clear hwq
      by_cases hlv : v < 0
      · go_wp2_with fail
        go_quiet (first | (go_at_call 83; refine Calls.quiet_of (hcall _)))
        go_wp2
        go_roundw
        case rel =>
          obtain ⟨e1, e2, e3⟩ := HE.out
          exact ⟨h + 1, j, q' + nq, by omega, by omega, hj, by go_num, rfl, ⟨fun _ => by rw [Nat.add_sub_cancel, e1, e2]; exact e3.1 hlv, HS.out.2⟩, by rw [← HW.out, rowW_drewN]⟩
        case measure => first | (simp [intOf]; done) | (simp [intOf]; omega)
      · go_wp2_with fail
        go_quiet (first | (go_at_call 83; refine Calls.quiet_of (hcall _)))
        go_wp2
        go_roundw
        case rel =>
          obtain ⟨e1, e2, e3⟩ := HE.out
          exact ⟨i, h, q' + nq, hi, by omega, by omega, rfl, rfl, ⟨HS.out.1, fun _ => by rw [e1, e2]; have : ¬ k Y < k X := (fun hh => by have := e3.2 hh; omega); omega⟩, by rw [← HW.out, rowW_drewN]⟩
        case measure => first | (simp [intOf]; done) | (simp [intOf]; omega)
    · obtain rfl : i = j := by omega
      obtain ⟨ip, hip⟩ : ∃ ip, i = ip + 1 := ⟨i - 1, by omega⟩
      have hipz : (i : Int) - 1 = (ip : Int) := by omega
      have hipw : IntKind.i64.wrap (ip : Int) = (ip : Int) := by rw [IntKind.wrap_i64]; omega
      have HP : Hid (i = ip + 1) := hip
      clear hip
      go_wp2
      go_loopw [13] (fun vk wr2 => ∃ (x q2 : Nat) (dk : Array Nat), vk = .int .i64 x ∧ a ≤ x ∧ x ≤ ip ∧ Hid (Rot a (a + 1) (x + 1) d dk) ∧ wr2 = rowW w b dk q2) (fun vk _ => ip - (intOf vk).toNat)
      case atStart => exact ⟨a, q', d, rfl, Nat.le_refl _, by have := HP.out; omega, rot_none _ _ _ (by omega), rfl⟩
      case round =>
        obtain ⟨x, q2, dk, rfl, hax, hxi, HR, rfl⟩ := hrel
        by_cases hxl : x < ip
        · obtain ⟨y, hy⟩ : ∃ y, y = x + 1 := ⟨_, rfl⟩
          have hyz : (x : Int) + 1 = (y : Int) := by omega
          have hsz : dk.size = N := HR.out.size.trans HD.out.1
          have hP := HP.out
          have hxN : (x : Int) < (N : Int) := by omega
          have hyN : (y : Int) < (N : Int) := by omega
          have hxy : x ≠ y := by omega
          clear hP
          obtain ⟨cx, fx⟩ := rowW_cell hH.out (by rw [hsz]; exact HD.out.2.1.symm) q2 x (d := dk) (by omega)
          obtain ⟨cy, fy⟩ := rowW_cell hH.out (by rw [hsz]; exact HD.out.2.1.symm) q2 y (d := dk) (by omega)
          obtain ⟨X, eX⟩ : ∃ X, dk[x]! = X := ⟨_, rfl⟩
          obtain ⟨Y, eY⟩ : ∃ Y, dk[y]! = Y := ⟨_, rfl⟩
          rw [eX] at cx
          rw [eY] at cy
          have HE : Hid (dk[x]! = X ∧ dk[y]! = Y ∧ y = x + 1 ∧ dk.size = N) := ⟨eX, eY, hy, hsz⟩
          clear eX eY hy hsz
          generalize hwq : rowW w b dk q2 = wq at cx cy fx fy ⊢
          have HW : Hid (rowW w b dk q2 = wq) := hwq
          clear hwq
          go_wp2
          go_region
          all_goals
            go_wp2
            go_roundw
            case rel =>
              obtain ⟨e1, e2, e3, e4⟩ := HE.out
              subst e3
              refine ⟨x + 1, q2 + 1, swp dk x (x + 1), by first | rfl | go_num, by omega, by omega, HR.out.up hax (by rw [HD.out.1]; omega), ?_⟩
              rw [← HW.out, ← e1, ← e2]
              exact rowW_swp w b dk q2 x (x + 1) (by omega) (by omega)
            case measure => first | (simp [intOf]; done) | (simp [intOf]; omega)
        · obtain rfl : x = ip := by omega
          go_wp2
          first | go_end0 | refine bodyPost_ret (results_none rfl _ _ _) rfl ?_
          have e1 := HP.out
          obtain ⟨e2, e3, e4⟩ := HD.out
          subst e4 e1
          refine ⟨rfl, dk, ⟨(HR.out.mv (by omega) (by omega)).mono (Nat.le_refl _) hj, first_done HB.out.2.2.2 HR.out hi hj HS.out.1 HS.out.2, HR.out.stb (by omega) (by omega) (by omega) HB.out.2.1 fun u v h1 h2 h3 h4 => ?_⟩, q2, rfl⟩
          obtain rfl : u = a := by omega
          have g := HS.out.1 (by omega)
          by_cases hv : v = x + 1 - 1
          · rw [hv]; exact g
          · exact Nat.lt_of_lt_of_le g (HB.out.2.2.2 v (x + 1 - 1) h3 (by omega) (by omega))
set_option maxRecDepth 20000 in
set_option maxHeartbeats 4000000 in
theorem sym_second (k : Nat → Nat) (a m c q cap N : Nat) (cb : Array Value) (d d0 : Array Nat) (w : World) (b : Nat) (hH : Hid (Holds eN w b 0 d0)) (hN : d0.size = N) (hd : d.size = N) (hN2 : N ≤ 64) (ham : a < m) (hmc : m < c) (hc : c ≤ N)
    (HC : Hid (CmpR w b N 83 cb k)) (HB : Hid (Bnd d ∧ Stb k d ∧ Srt k a m d ∧ Srt k m c d)) (h1 : m ≠ a + 1) (h2 : c = m + 1) :
    Calls Tryz.prog 115 (SymArgs b N cap a m c cb) (rowW w b d q) fun e w' => e = .returned (.tuple #[]) ∧ SymPost w b k a c d w' := by
  have HD : Hid (d.size = N ∧ d0.size = N ∧ c = m + 1) := ⟨hd, hN, h2⟩
  have h2z : (c : Int) - (m : Int) = 1 := by omega
  obtain ⟨f, hf⟩ : ∃ f, f = m - a := ⟨_, rfl⟩
  have hfz : (m : Int) - (a : Int) = (f : Int) := by omega
  have hfw : IntKind.i64.wrap (f : Int) = (f : Int) := by rw [IntKind.wrap_i64]; omega
  have hfe : ((f : Int) == 1) = false := by simp; omega
  have hwm : IntKind.i64.wrap 1 = 1 := by decide
  clear hd hN h2 hf h1
  go_enter Tryz.func115, Tryz.ntmps115
  go_wp2
  go_loopw [14, 15] (fun vi vj wr => ∃ (i j q' : Nat), a ≤ i ∧ i ≤ j ∧ j ≤ m ∧ vi = .int .i64 i ∧ vj = .int .i64 j ∧ Hid ((a < i → k d[m]! ≤ k d[i - 1]!) ∧ (j < m → k d[j]! < k d[m]!)) ∧ wr = rowW w b d q') (fun vi vj _ => (intOf vj).toNat - (intOf vi).toNat)
  case atStart => exact ⟨a, m, q, Nat.le_refl _, by omega, Nat.le_refl _, rfl, rfl, ⟨fun h => absurd h (by omega), fun h => absurd h (by omega)⟩, rfl⟩
  case round =>
    obtain ⟨i, j, q', hi, hij, hj, rfl, rfl, HS, rfl⟩ := hrel
    by_cases hlt : i < j
    · obtain ⟨t, h, ht, htw, hth, hhw, hhu, hih, hhj, heq⟩ := halves i j hlt (by omega)
      have hhN : (h : Int) < (N : Int) := by omega
      have haN : (m : Int) < (N : Int) := by omega
      clear heq
      obtain ⟨ch, fh⟩ := rowW_cell hH.out (by rw [HD.out.1]; exact HD.out.2.1.symm) q' h (d := d) (by rw [HD.out.1]; omega)
      obtain ⟨ca, fa⟩ := rowW_cell hH.out (by rw [HD.out.1]; exact HD.out.2.1.symm) q' m (d := d) (by rw [HD.out.1]; omega)
      obtain ⟨X, eX⟩ : ∃ X, d[m]! = X := ⟨_, rfl⟩
      obtain ⟨Y, eY⟩ : ∃ Y, d[h]! = Y := ⟨_, rfl⟩
      rw [eY] at ch
      rw [eX] at ca
      have hXN : X < N := by have := HB.out.1 m (by rw [HD.out.1]; omega); rw [HD.out.1, eX] at this; exact this
      have hYN : Y < N := by have := HB.out.1 h (by rw [HD.out.1]; omega); rw [HD.out.1, eY] at this; exact this
      have hcall := HC.out.at d X Y q' HD.out.1 hXN hYN
      obtain ⟨v, ev⟩ : ∃ v, cfk k X Y = v := ⟨_, rfl⟩
      have hvn := cfk_neg k X Y
      rw [ev] at hvn hcall
      have HE : Hid (d[m]! = X ∧ d[h]! = Y ∧ (v < 0 ↔ k Y < k X)) := ⟨eX, eY, hvn⟩
      clear eX eY hvn hXN hYN ev
      generalize hwq : rowW w b d q' = wq at ch ca fh fa hcall ⊢
      have HW : Hid (rowW w b d q' = wq) := hwq
      clear hwq
      by_cases hlv : v < 0
      · go_wp2_with fail
        go_quiet (first | (go_at_call 83; refine Calls.quiet_of (hcall _)))
        go_wp2
        go_roundw
        case rel =>
          obtain ⟨e1, e2, e3⟩ := HE.out
          exact ⟨i, h, q' + nq, hi, by omega, by omega, rfl, rfl, ⟨HS.out.1, fun _ => by rw [e1, e2]; exact e3.1 hlv⟩, by rw [← HW.out, rowW_drewN]⟩
        case measure => first | (simp [intOf]; done) | (simp [intOf]; omega)
      · have hlv0 : (0 : Int) ≤ v := by omega
        have hlvd : decide (v < 0) = false := decide_eq_false hlv
        have hlvn : (!decide (v < 0)) = true := by rw [hlvd]; rfl
        go_wp2_with fail
        go_quiet (first | (go_at_call 83; refine Calls.quiet_of (hcall _)))
        go_wp2
        go_roundw
        case rel =>
          obtain ⟨e1, e2, e3⟩ := HE.out
          exact ⟨h + 1, j, q' + nq, by omega, by omega, hj, by go_num, rfl, ⟨fun _ => by rw [Nat.add_sub_cancel, e1, e2]; have : ¬ k Y < k X := (fun hh => by have := e3.2 hh; omega); omega, HS.out.2⟩, by rw [← HW.out, rowW_drewN]⟩
        case measure => first | (simp [intOf]; done) | (simp [intOf]; omega)
    · obtain rfl : i = j := by omega
      go_wp2
      go_loopw [17] (fun vk wr2 => ∃ (x q2 : Nat) (dk : Array Nat), vk = .int .i64 x ∧ i ≤ x ∧ x ≤ m ∧ Hid (Rot x m (m + 1) d dk) ∧ wr2 = rowW w b dk q2) (fun vk _ => (intOf vk).toNat)
      case atStart => exact ⟨m, q', d, rfl, hj, Nat.le_refl _, rot_none' _ _ _ (by omega), rfl⟩
      case round =>
        obtain ⟨x, q2, dk, rfl, hax, hxi, HR, rfl⟩ := hrel
        by_cases hxl : i < x
        · obtain ⟨y, hy⟩ : ∃ y, x = y + 1 := ⟨x - 1, by omega⟩
          have hyz : (x : Int) - 1 = (y : Int) := by omega
          have hyw : IntKind.i64.wrap (y : Int) = (y : Int) := by rw [IntKind.wrap_i64]; omega
          have hsz : dk.size = N := HR.out.size.trans HD.out.1
          have hxN : (x : Int) < (N : Int) := by omega
          have hyN : (y : Int) < (N : Int) := by omega
          have hxy : x ≠ y := by omega
          obtain ⟨cx, fx⟩ := rowW_cell hH.out (by rw [hsz]; exact HD.out.2.1.symm) q2 x (d := dk) (by omega)
          obtain ⟨cy, fy⟩ := rowW_cell hH.out (by rw [hsz]; exact HD.out.2.1.symm) q2 y (d := dk) (by omega)
          obtain ⟨X, eX⟩ : ∃ X, dk[x]! = X := ⟨_, rfl⟩
          obtain ⟨Y, eY⟩ : ∃ Y, dk[y]! = Y := ⟨_, rfl⟩
          rw [eX] at cx
          rw [eY] at cy
          have HE : Hid (dk[x]! = X ∧ dk[y]! = Y ∧ x = y + 1 ∧ dk.size = N) := ⟨eX, eY, hy, hsz⟩
          clear eX eY hy hsz
          generalize hwq : rowW w b dk q2 = wq at cx cy fx fy ⊢
          have HW : Hid (rowW w b dk q2 = wq) := hwq
          clear hwq
          go_wp2
          go_region
          all_goals
            go_wp2
            go_roundw
            case rel =>
              obtain ⟨e1, e2, e3, e4⟩ := HE.out
              subst e3
              refine ⟨y, q2 + 1, swp dk (y + 1) y, by first | rfl | go_num, by omega, by omega, HR.out.down hxi (by rw [HD.out.1]; omega), ?_⟩
              rw [← HW.out, ← e1, ← e2]
              exact rowW_swp w b dk q2 (y + 1) y (by omega) (by omega)
            case measure => have := HE.out; first | (simp [intOf]; done) | (simp [intOf]; omega)
        · obtain rfl : x = i := by omega
          go_wp2
          first | go_end0 | refine bodyPost_ret (results_none rfl _ _ _) rfl ?_
          obtain ⟨e2, e3, e4⟩ := HD.out
          subst e4
          refine ⟨rfl, dk, ⟨(HR.out.mv (by omega) (by omega)).mono hi (Nat.le_refl _), second_done HB.out.2.2.1 HR.out hi hj HS.out.1 HS.out.2, HR.out.stb (by omega) (by omega) (by omega) HB.out.2.1 fun u v h1 h2 h3 h4 => ?_⟩, q2, rfl⟩
          obtain rfl : v = m := by omega
          have g := HS.out.2 (by omega)
          by_cases hv : u = x
          · rw [hv]; exact g
          · exact Nat.lt_of_le_of_lt (HB.out.2.2.1 x u hi (by omega) (by omega)) g
end Go.Proofs.YtblfmfanfpohbaaGreat
