/- Own texts, joined: Scb1, Sg21, Sg19, Sg22. -/
import Derived.Test.YtaegmeilhdbnnabDoorJ18
import Derived.Test.YtaegmeilhdbnnabDoorJ17
import Derived.Test.YtaegmeilhdbnnabDoorJ07
import Derived.Test.YtaegmeilhdbnnabDoorJ13
import Derived.Test.YtaegmeilhdbnnabDoorJ16
namespace Go.Proofs.YtaegmeilhdbnnabDoor.scanBursts
open Go.ChangeShapes Go.WideShapes Go.ChangeAt Go.RowKit
set_option linter.unusedVariables false
theorem mem_getD {l : List Nat} (h : ∀ i, l.getD i 0 < 256) : ∀ x ∈ l, x < 256 := by
  intro x hx
  obtain ⟨n, hn, rfl⟩ := List.mem_iff_getElem.1 hx
  have := h n
  rw [List.getD_eq_getElem?_getD, List.getElem?_eq_getElem hn] at this
  exact this
theorem cases_of (f : Fi) (t : List Nat) (at0 P : Nat) (h : Fok f.k.toNat f.s.toNat f.body) (ht : ∀ x ∈ t, x < 256) (htl : t.length = (fL f).length) (hP : P < 4294967296) (hat : at0 < 8 * (fL f).length) (hv : Crcm.val t = Crcm.val (fL f) ^^^ turned at0 P (8 * (fL f).length - at0) 32) :
    decide (t = fL f) = true ∨ (decide (t = fL f) = false ∧ (decE t = 61 ∨ decE t = 62)) := by
  by_cases he : t = fL f
  · exact .inl (decide_eq_true he)
  · exact .inr ⟨decide_eq_false he, burst_frame _ _ f.body t at0 P h.byt h.k1 h.k7 h.len h.seq ht htl hP hat hv he⟩
theorem plc_of2 {w : World} {base N c : Nat} {a : Option Addr} {xs : List It} (h : OwnP w base (.slice a N c) xs) : PlcA w a xs := scanTorn.plc_of2 h
end Go.Proofs.YtaegmeilhdbnnabDoor.scanBursts
namespace Go.Proofs.YtaegmeilhdbnnabDoor
open Go.ChangeShapes Go.WideShapes Go.ChangeAt Go.RowKit
set_option linter.unusedVariables false
/-- a laid segment whose k-th event, or footer, is turned into what is none -/
theorem seg_turned (x y k : Nat) (A : Nat → Option Addr) (L : Nat → List Nat) (C : Nat → Nat) (hx1 : 1 ≤ x) (hx : x ≤ 999999) (hy1 : 1 ≤ y) (hy : y ≤ 549755813888) (hk : k ≤ 512) (hb : EvB k L) (t r : List Nat) (ht : decE t = 61 ∨ decE t = 62) (l : List Nat) (hl : l = hdrL x y ++ (layF (evF y k A L C) ++ (t ++ r))) :
    hdr l = some (x, y) ∧ hoX l = x ∧ hoY l = y ∧ sgE l = plF (hdrL x y).length (evF y k A L C) ∧ sgG l = (hdrL x y).length + (layF (evF y k A L C)).length ∧ sgF l = 0 ∧ sgN l = 0 := by
  have hh : hdr l = some (x, y) := by rw [hl]; exact hdr_back x y _ hx1 hx hy1 (by omega)
  have hX : hoX l = x := by unfold hoX; rw [hh]; rfl
  have hY : hoY l = y := by unfold hoY; rw [hh]; rfl
  obtain ⟨q1, q2⟩ := hdr_body x y hx (by omega)
  have hpn : pn l + 20 = (hdrL x y).length := by
    rw [hl, hdrL_len]
    unfold hdrL
    rw [pn_laid 2 x (nencs [x, y]) _ q1 (by omega) (by omega) (by omega) (by omega)]
  have hdrop : l.drop (pn l + 20) = layF (evF y k A L C) ++ (t ++ r) := by rw [hpn, hl, List.drop_left]
  obtain ⟨s1, s2, s3⟩ := scan_turned (evF y k A L C) (evF_ok (y := y) (A := A) (C := C) hb hk hy) t r ht
  have hE : sgE l = plF (hdrL x y).length (evF y k A L C) := by
    unfold sgE runL
    rw [hY, hdrop, s1, plF_run y A L C k hk, hpn, plF_shift, Nat.add_zero]
  have hG : sgG l = (hdrL x y).length + (layF (evF y k A L C)).length := by unfold sgG; rw [hE, hpn, plF_end]
  have hF : sgF l = 0 := by
    unfold sgF
    refine ftS_no _ _ _ _ (.inl ?_)
    have hd : l.drop (sgG l) = t ++ r := by rw [hG, ← List.drop_drop, ← hpn, hdrop, List.drop_left]
    rw [hd, dec_more t r ht]
    omega
  refine ⟨hh, hX, hY, hE, hG, hF, ?_⟩
  unfold sgN ftN
  rw [if_pos]
  exact hF
/-- the footer of a laid segment -/
theorem foot_ok (x y n : Nat) (A : Nat → Option Addr) (L : Nat → List Nat) (C : Nat → Nat) (st : Nat) (hx1 : 1 ≤ x) (hx : x ≤ 999999) (hy1 : 1 ≤ y) (hy : y ≤ 549755813888) (hn1 : 1 ≤ n) (hn : n ≤ 512) (hb : EvB n L) (hst1 : 1 ≤ st) (hst : st ≤ 64) (hl : (hdrL x y ++ layF (evF y n A L C)).length ≤ 16777216) :
    ftE (hdrL x y ++ layF (evF y n A L C)) (st : Int) = 0 ∧ ∃ E : List Fm, EvOk y E ∧ ftV (hdrL x y ++ layF (evF y n A L C)) (st : Int) = sealL x y E st := by
  obtain ⟨l, hll⟩ : ∃ l, hdrL x y ++ layF (evF y n A L C) = l := ⟨_, rfl⟩
  obtain ⟨c1, c2, c3, c4, c5, c6, c7⟩ := seg_cut x y n A L C hx1 hx hy1 hy hn hb n (layF (evF y n A L C)).length (Nat.le_refl _) (Nat.le_refl _) (.inl ⟨rfl, rfl⟩) l (by rw [List.take_of_length_le (Nat.le_refl _)]; exact hll.symm)
  rw [hll] at hl ⊢
  have hmem : ∀ z ∈ l, z < 256 := by
    intro z hz
    rw [← hll] at hz
    rcases List.mem_append.1 hz with h | h
    · obtain ⟨q1, q2⟩ := hdr_body x y hx (by omega)
      exact frameL_lt 2 x _ (by omega) q1 z h
    · have hf := evF_ok (y := y) (A := A) (C := C) hb hn hy
      have : ∀ M : List Fi, (∀ f ∈ M, Fok f.k.toNat f.s.toNat f.body) → ∀ z ∈ layF M, z < 256 := by
        intro M
        induction M with
        | nil => intro _ z hz; cases hz
        | cons f r ih =>
          intro hM z hz
          rcases List.mem_append.1 hz with h | h
          · have hfo := hM f (List.mem_cons_self ..)
            exact frameL_lt _ _ _ (by have := hfo.k7; omega) hfo.byt z h
          · exact ih (fun g hg => hM g (List.mem_cons_of_mem _ hg)) z h
      exact this _ hf z h
  obtain ⟨_, _, _, _, _, _, hY2, _, hpn⟩ := hdr_some l hmem x y c1
  have hS : stB (st : Int) = true := decide_eq_true ⟨by omega, by omega⟩
  have hE0 : ftE l (st : Int) = 0 := by
    unfold ftE
    rw [if_neg (by rw [hS]; simp), if_neg (by rw [c1]; simp), if_neg (by omega), if_neg (by rw [c5, ← hll, List.length_append]; omega), if_neg (by intro h; rw [h] at c4; simp at c4; omega)]
  refine ⟨hE0, sgE l, ?_, ?_⟩
  · unfold sgE
    rw [c3]
    exact (runL_ok l (pn l + 20) y hy1 hpn hl).1
  · unfold ftV
    rw [if_pos hE0, c2, c3]
    rfl
/-- all frames of a sealed segment -/
def segF (x y n : Nat) (A : Nat → Option Addr) (L : Nat → List Nat) (C : Nat → Nat) (fb : List Nat) : List Fi := ⟨2, (x : Int), nencs [x, y], none, 0⟩ :: (evF y n A L C ++ [⟨3, (x : Int), fb, none, 0⟩])
theorem segF_len (x y n : Nat) (A : Nat → Option Addr) (L : Nat → List Nat) (C : Nat → Nat) (fb : List Nat) : (segF x y n A L C fb).length = n + 2 := by
  simp [segF, evF_len]
theorem segF_lay (x y n : Nat) (A : Nat → Option Addr) (L : Nat → List Nat) (C : Nat → Nat) (fb : List Nat) : layF (segF x y n A L C fb) = (hdrL x y ++ layF (evF y n A L C)) ++ frameL 3 x fb := by
  unfold segF
  simp only [layF, layF_append, List.append_nil]
  rw [List.append_assoc]
  rfl
theorem segF_take (x y n : Nat) (A : Nat → Option Addr) (L : Nat → List Nat) (C : Nat → Nat) (fb : List Nat) (k : Nat) (hk : k ≤ n) : layF ((segF x y n A L C fb).take (k + 1)) = hdrL x y ++ layF (evF y k A L C) := by
  unfold segF
  rw [List.take_succ_cons, List.take_append, evF_len, show k - n = 0 from by omega, List.take_zero, List.append_nil, evF_take y n A L C k hk]
  rfl
theorem segF_ok (x y n : Nat) (A : Nat → Option Addr) (L : Nat → List Nat) (C : Nat → Nat) (fb : List Nat) (hx : x ≤ 999999) (hy : y ≤ 549755813888) (hn : n ≤ 512) (hb : EvB n L) (hf : ∀ z ∈ fb, z < 256) (hfl : fb.length ≤ 16384) : ∀ f ∈ segF x y n A L C fb, Fok f.k.toNat f.s.toNat f.body := by
  intro f hfm
  rcases List.mem_cons.1 hfm with rfl | h
  · obtain ⟨q1, q2⟩ := hdr_body x y hx (by omega)
    exact ⟨q1, by simp, by simp, by simp only; omega, by simp only [Int.toNat_natCast]; omega⟩
  · rcases List.mem_append.1 h with h | h
    · exact evF_ok hb hn hy f h
    · simp at h
      subst h
      exact ⟨hf, by simp, by simp, hfl, by simp only [Int.toNat_natCast]; omega⟩
end Go.Proofs.YtaegmeilhdbnnabDoor
namespace Go.Proofs.YtaegmeilhdbnnabDoor
open Go.ChangeShapes Go.WideShapes Go.ChangeAt Go.RowKit
set_option linter.unusedVariables false
def FewP (num first : Int) (n : Nat) (L : Nat → List Nat) : Prop := (1 ≤ num ∧ num ≤ 999999 ∧ 1 ≤ first ∧ first ≤ 549755813888 ∧ 1 ≤ n ∧ n ≤ 512) ∧ ∀ i, i < n → (L i).length ≤ 16384
set_option maxRecDepth 20000 in
set_option maxHeartbeats 2000000 in
theorem few_any (num first : Int) (n : Nat) (a : Option Addr) (cap : Nat) (A : Nat → Option Addr) (L : Nat → List Nat) (C : Nat → Nat) (w : World) (hb : Pieces w a n A L C) (hl : n ≤ 1048576) (hL : ∀ i, i < n → (L i).length ≤ 1048576) :
    Calls Tryd.prog 5 #[.int .i64 num, .int .i64 first, .slice a n cap] w fun e w' => ((FewP num first n L ∧ e = .returned (.bool true)) ∨ (¬ FewP num first n L ∧ e = .returned (.bool false))) ∧ w = w' := by
  have HB : Hid (Pieces w a n A L C ∧ ∀ i, i < n → (L i).length ≤ 1048576) := ⟨hb, hL⟩
  have hnI : (n : Int) ≤ 1048576 := by omega
  clear hb hL
  by_cases q1 : num < 1
  · have HN : Hid (¬ FewP num first n L) := fun h => by have := h.1; omega
    go_enter Tryd.func5, Tryd.ntmps5
    go_wp2
    go_ret
    exact ⟨.inr ⟨HN.out, rfl⟩, rfl⟩
  by_cases q2 : 999999 < num
  · have HN : Hid (¬ FewP num first n L) := fun h => by have := h.1; omega
    go_enter Tryd.func5, Tryd.ntmps5
    go_wp2
    go_ret
    exact ⟨.inr ⟨HN.out, rfl⟩, rfl⟩
  by_cases q3 : first < 1
  · have HN : Hid (¬ FewP num first n L) := fun h => by have := h.1; omega
    go_enter Tryd.func5, Tryd.ntmps5
    go_wp2
    go_ret
    exact ⟨.inr ⟨HN.out, rfl⟩, rfl⟩
  by_cases q4 : 549755813888 < first
  · have HN : Hid (¬ FewP num first n L) := fun h => by have := h.1; omega
    go_enter Tryd.func5, Tryd.ntmps5
    go_wp2
    go_ret
    exact ⟨.inr ⟨HN.out, rfl⟩, rfl⟩
  by_cases q5 : n < 1
  · have HN : Hid (¬ FewP num first n L) := fun h => by have := h.1; omega
    have q5I : (n : Int) < 1 := by omega
    go_enter Tryd.func5, Tryd.ntmps5
    go_wp2
    go_ret
    exact ⟨.inr ⟨HN.out, rfl⟩, rfl⟩
  have q5I : ¬ (n : Int) < 1 := by omega
  by_cases q6 : 512 < n
  · have HN : Hid (¬ FewP num first n L) := fun h => by have := h.1; omega
    have q6I : (512 : Int) < (n : Int) := by omega
    go_enter Tryd.func5, Tryd.ntmps5
    go_wp2
    go_ret
    exact ⟨.inr ⟨HN.out, rfl⟩, rfl⟩
  have q6I : ¬ (512 : Int) < (n : Int) := by omega
  have HQ : Hid (1 ≤ num ∧ num ≤ 999999 ∧ 1 ≤ first ∧ first ≤ 549755813888 ∧ 1 ≤ n ∧ n ≤ 512) := ⟨by omega, by omega, by omega, by omega, by omega, by omega⟩
  rcases HB.out.1.1 with h0 | ⟨b, off, rfl, hlt, hcell⟩
  · omega
  have HC : Hid (∀ r, r < n → w.cell? ⟨b, off + r, none⟩ = some (.slice (A r) (L r).length (C r))) := hcell
  clear hcell
  go_enter Tryd.func5, Tryd.ntmps5
  go_wp2
  go_loopw [34] (fun vi wr => ∃ k : Nat, k ≤ n ∧ vi = .int .i64 k ∧ (∀ i, i < k → (L i).length ≤ 16384) ∧ w = wr) (fun vi _ => n - (intOf vi).toNat)
  case atStart => exact ⟨0, Nat.zero_le _, rfl, (fun i hi => by omega), rfl⟩
  case round =>
    obtain ⟨k, hk, rfl, hall, hwr⟩ := hrel
    subst hwr
    have HA : Hid (∀ i, i < k → (L i).length ≤ 16384) := hall
    clear hall
    by_cases hkn : k < n
    · have hc := HC.out k hkn
      obtain ⟨m, hm⟩ : ∃ m, (L k).length = m := ⟨_, rfl⟩
      rw [hm] at hc
      have hmb : m ≤ 1048576 := by rw [← hm]; exact HB.out.2 k hkn
      have hmI : (m : Int) ≤ 1048576 := by omega
      have HM : Hid ((L k).length = m) := hm
      have hkI : (k : Int) < (n : Int) := by omega
      clear hm
      by_cases hbig : 16384 < m
      · have hbI : (16384 : Int) < (m : Int) := by omega
        have HN : Hid (¬ FewP num first n L) := fun h => by have h1 := h.2 k hkn; rw [HM.out] at h1; omega
        go_wp2
        go_ret
        exact ⟨.inr ⟨HN.out, rfl⟩, rfl⟩
      · have hbI : ¬ (16384 : Int) < (m : Int) := by omega
        go_wp2
        go_roundw
        case rel => exact ⟨k + 1, by omega, by go_num, (fun i hi => by
          by_cases hik : i = k
          · rw [hik, HM.out]; omega
          · exact HA.out i (by omega)), by first | rfl | trivial⟩
        case measure => simp [intOf]; omega
    · obtain rfl : k = n := by omega
      go_wp2
      go_ret
      exact ⟨.inl ⟨⟨HQ.out, HA.out⟩, rfl⟩, rfl⟩
/-- where the events end -/
def endW (h y : Nat) (A : Nat → Option Addr) (L : Nat → List Nat) (C : Nat → Nat) (n : Nat) : List Value := (List.range n).map fun i => .int .i64 ((h : Int) + ((layF (evF y (i + 1) A L C)).length : Int))
theorem endW_succ (h y : Nat) (A : Nat → Option Addr) (L : Nat → List Nat) (C : Nat → Nat) (k : Nat) : endW h y A L C (k + 1) = endW h y A L C k ++ [.int .i64 ((h : Int) + ((layF (evF y (k + 1) A L C)).length : Int))] := by
  unfold endW; rw [List.range_succ, List.map_append]; rfl
theorem evF_succ (y : Nat) (A : Nat → Option Addr) (L : Nat → List Nat) (C : Nat → Nat) (k : Nat) : evF y (k + 1) A L C = evF y k A L C ++ [⟨1, ((y + k : Nat) : Int), L k, A k, C k⟩] := by
  unfold evF
  rw [List.range_succ, List.map_append]
  rfl
set_option maxRecDepth 20000 in
set_option maxHeartbeats 4000000 in
theorem laid14_any (x y n : Nat) (a : Option Addr) (cap : Nat) (A : Nat → Option Addr) (L : Nat → List Nat) (C : Nat → Nat) (w : World) (hb : Pieces w a n A L C) (hx1 : 1 ≤ x) (hx : x ≤ 999999) (hy1 : 1 ≤ y) (hy : y ≤ 549755813888) (hn1 : 1 ≤ n) (hn : n ≤ 512) (hE : EvB n L) (ht : Tab w) :
    Calls Tryd.prog 6 #[.int .i64 (x : Int), .int .i64 (y : Int), .slice a n cap] w fun e w' => ∃ vb ve, e = .returned (.tuple #[vb, ve, .bool true]) ∧ Own w' w.heap.size vb (hdrL x y ++ layF (evF y n A L C)) ∧ w'.ownsRow w.heap.size 3 1 ve n (endW (hdrL x y).length y A L C n) ∧ Below w.heap.size w w' := by
  obtain ⟨i0, hi, hz0, hz1, hz2⟩ := info_parts Tryd.info5
  obtain ⟨j0, ji, jz0, jz1, jz2⟩ := info_parts Tryd.infoSg
  obtain ⟨h, hh⟩ : ∃ h, (hdrL x y).length = h := ⟨_, rfl⟩
  have hh42 : h ≤ 42 := by rw [← hh, hdrL_len]; have := (hdr_body x y hx (by omega)).2; omega
  have hsB : sgB (x : Int) (y : Int) = true := decide_eq_true ⟨by omega, by omega, by omega, by omega⟩
  have HV : Hid (hdE (x : Int) (y : Int) = 0 ∧ hdV (x : Int) (y : Int) = hdrL x y ∧ (hdrL x y).length = h) := ⟨by unfold hdE; rw [if_pos hsB], by unfold hdV; rw [if_pos hsB]; rfl, hh⟩
  have HP : Hid (Pieces w a n A L C ∧ EvB n L ∧ Tab w) := ⟨hb, hE, ht⟩
  rcases hb.1 with h0 | ⟨b, off, rfl, hlt, hcell⟩
  · omega
  have HC : Hid (∀ r, r < n → w.cell? ⟨b, off + r, none⟩ = some (.slice (A r) (L r).length (C r))) := hcell
  have hnI : (n : Int) ≤ 512 := by omega
  have hyI : (y : Int) ≤ 549755813888 := by omega
  rw [hh]
  clear hcell hb hE ht hh hsB
  go_enter Tryd.func6, Tryd.ntmps6
  go_wp2_with (go_at_call 7; refine (header_any (x : Int) (y : Int) w HP.out.2.2).mono ?_; rw [HV.out.1, HV.out.2.1]; rintro r w1 ⟨v1, rfl, ho1, hb1⟩; have HB1 : Hid (Own w1 w.heap.size v1 (hdrL x y) ∧ Below w.heap.size w w1) := ⟨ho1, hb1⟩; have hs1 : w.heap.size ≤ w1.heap.size := hb1.size; clear ho1 hb1)
  go_loopw [9, 11, 26] (fun vb ve vi wr => ∃ (b0 e0 : Value) (k : Nat), b0 = vb ∧ e0 = ve ∧ k ≤ n ∧ vi = .int .i64 k ∧ Own wr w.heap.size b0 (hdrL x y ++ layF (evF y k A L C)) ∧ wr.ownsRow w.heap.size 3 1 e0 k (endW h y A L C k) ∧ Below w.heap.size w wr) (fun _ _ vi _ => n - (intOf vi).toNat)
  case atStart =>
    refine ⟨_, _, 0, rfl, rfl, Nat.zero_le _, rfl, ?_, ?_, HB1.out.2.alloc hs1 _⟩
    · have h := HB1.out.1
      rw [show layF (evF y 0 A L C) = [] from by simp [evF, layF], List.append_nil]
      exact ⟨h.1, World.ownsRow.alloc h.2 _⟩
    · have h := World.ownsRow_lit (base := w1.heap.size) (e := 3) (size := 1) w1 #[] 0 (Nat.le_refl _) (by simp) rfl
      exact World.ownsRow.mono (base' := w.heap.size) h hs1
  case round =>
    obtain ⟨vb, ve, k, rfl, rfl, hk, rfl, hOb, hOe, hbr⟩ := hrel
    have HR : Hid (Own wr w.heap.size vb (hdrL x y ++ layF (evF y k A L C)) ∧ wr.ownsRow w.heap.size 3 1 ve k (endW h y A L C k)) := ⟨hOb, hOe⟩
    clear hOb hOe
    have hsz := hbr.size
    by_cases hkn : k < n
    · have hc := HC.out k hkn
      obtain ⟨m, hm⟩ : ∃ m, (L k).length = m := ⟨_, rfl⟩
      rw [hm, ← hbr.cell (p := ⟨b, off + k, none⟩) hlt] at hc
      obtain ⟨hbm, hbl⟩ := HP.out.2.1 k hkn
      rw [hm] at hbl
      have HCP : Hid (∀ w1, Below wr.heap.size wr w1 → Calls Tryd.prog 11 #[.slice (A k) m (C k)] w1 fun e w' => ∃ v, e = .returned v ∧ Own w' w1.heap.size v (L k) ∧ Below w1.heap.size w1 w') := fun w1 hb1 => by
        have := copy_any (L k) (A k) (C k) w1 (((HP.out.1.2 k hkn).1.keep hbr).keep hb1) (by omega)
        rw [hm] at this
        exact this
      have HM : Hid ((L k).length = m) := hm
      obtain ⟨N, hN⟩ : ∃ N, (hdrL x y ++ layF (evF y k A L C)).length = N := ⟨_, rfl⟩
      have hNb : N ≤ 42 + 16404 * k := by
        rw [← hN, List.length_append, HV.out.2.2, layF_evF]
        have : tot L k ≤ 16384 * k := by
          have : ∀ j, j ≤ k → tot L j ≤ 16384 * j := by
            intro j
            induction j with
            | zero => intro _; simp [tot]
            | succ j ih => intro hj; have h1 := ih (by omega); have h2 := (HP.out.2.1 j (by omega)).2; rw [tot]; omega
          exact this k (Nat.le_refl _)
        omega
      have HN : Hid ((hdrL x y ++ layF (evF y k A L C)).length = N ∧ (N + (m + 20) : Nat) = h + (layF (evF y (k + 1) A L C)).length ∧ hdrL x y ++ layF (evF y (k + 1) A L C) = (hdrL x y ++ layF (evF y k A L C)) ++ frameL 1 (y + k) (L k)) := by
        have e2 : layF (evF y (k + 1) A L C) = layF (evF y k A L C) ++ frameL 1 (y + k) (L k) := by
          rw [evF_succ, layF_append]
          simp only [layF, List.append_nil]
          rfl
        refine ⟨hN, ?_, by rw [e2, List.append_assoc]⟩
        rw [e2, List.length_append, frameL_length, hm, ← hN, List.length_append, HV.out.2.2]
        omega
      have HEN : Hid (encE (1 : Int) ((y : Int) + (k : Int)) m = 0 ∧ encL (1 : Int) ((y : Int) + (k : Int)) (L k) = frameL 1 (y + k) (L k)) := by
        have h := enc_frame 1 (y + k) m (by omega) (by omega) (by omega) (by omega)
        have e : ((y + k : Nat) : Int) = (y : Int) + (k : Int) := by omega
        rw [e] at h
        refine ⟨h, ?_⟩
        unfold encL
        rw [hm]
        rw [show encE (1 : Int) ((y : Int) + (k : Int)) m = 0 from h, if_pos rfl, ← e]
        rfl
      have HFN : Hid (frameL 1 (y + k) (L k) ≠ [] ∧ (frameL 1 (y + k) (L k)).length = m + 20) := by
        have h1 : (frameL 1 (y + k) (L k)).length = m + 20 := by rw [frameL_length, hm]
        exact ⟨fun h => by rw [h] at h1; simp at h1, h1⟩
      have HTR : Hid (Tab wr) := HP.out.2.2.keep hbr
      have hkI : (k : Int) < (n : Int) := by omega
      have hmI : (m : Int) ≤ 16384 := by omega
      have hNI : (N : Int) ≤ 8400000 := by omega
      clear hm hN hbm
      go_wp2_with (first
        | (go_at_call 11; refine (HCP.out _ (Below.refl _ _)).mono ?_; rintro e w3 ⟨v3, rfl, ho3, hb3⟩; obtain ⟨a3, s3, hv3, _⟩ := ho3.shape; rw [HM.out] at hv3; subst hv3; have HO3 : Hid (Own w3 wr.heap.size (.slice a3 m s3) (L k) ∧ Below wr.heap.size wr w3) := ⟨ho3, hb3⟩; clear ho3 hb3)
        | (go_at_call 14; refine (fenc_any 1 ((y : Int) + (k : Int)) (L k) m a3 s3 w3 HM.out (by obtain ⟨_, _, h1, _, _, h2, _⟩ := HO3.out.1.shape; simp only [Value.slice.injEq] at h1; rw [h1.1]; exact h2) (own_addr HO3.out.1).1 (by omega) (own_addr HO3.out.1).2 (HTR.out.keep HO3.out.2)).mono ?_; rw [HEN.out.1, HEN.out.2]; rintro e w4 ⟨v4, rfl, ho4, hb4⟩; obtain ⟨g4, p4, hv4, _, hy4⟩ := ho4.row HFN.out.1; rw [HFN.out.2] at hv4; subst hv4; have hb4' := below_next HO3.out.2 hb4; have HY4 : Hid (Bytes w4 (some ⟨g4, 0, none⟩) (frameL 1 (y + k) (L k)) ∧ (∀ i, (frameL 1 (y + k) (L k)).getD i 0 < 256) ∧ Below w.heap.size w w4) := ⟨hy4, ho4.1, hbr.trans (hb4'.mono hsz)⟩; have HO4 : Hid (w4.ownsRow w.heap.size 5 1 vb N (B8 (hdrL x y ++ layF (evF y k A L C))) ∧ w4.ownsRow w.heap.size 3 1 ve k (endW h y A L C k)) := ⟨by have h := own_below HR.out.1.2 hb4'; rw [HN.out.1] at h; exact h, own_below HR.out.2 hb4'⟩; have hs4 : w.heap.size ≤ w4.heap.size := HY4.out.2.2.size; clear ho4 hb4 hy4 hb4')
        | (at_builtin; refine wpList_append_own _ rfl _ _ 26 rfl w.heap.size 5 i0 (.int .u8 0) 1 1 Tryd.underlying26 hi hz0 hz1 hz2 rfl (by decide) _ _ _ rfl HO4.out.1 ⟨g4, 0, none⟩ (m + 20) p4 (B8 (frameL 1 (y + k) (L k))) rfl (by rw [B8_length, HFN.out.2, Nat.mul_one]) (bytes_cells HY4.out.1) (B8_one _) (by unfold maxLen; omega) (by omega) hs4 ?_; intro v5 w5 ho5 hg5 _; have HW5 : Hid (Below w.heap.size w w5) := grown_row HY4.out.2.2 HO4.out.1 hs4 hg5; have HO5 : Hid (Own w5 w.heap.size v5 (hdrL x y ++ layF (evF y (k + 1) A L C))) := (by show Own _ _ _ _; rw [HN.out.2.2]; exact Own.append HR.out.1.1 HY4.out.2.1 (by rw [HN.out.1, HFN.out.2]; exact ho5)); have HE5 : Hid (w5.ownsRow w.heap.size 3 1 ve k (endW h y A L C k)) := row_apart HO4.out.1 hg5 HO4.out.2 (by decide); obtain ⟨g5, p5, hv5⟩ := (show ∃ g5 p5, v5 = .slice (some ⟨g5, 0, none⟩) (N + (m + 20)) p5 from (by obtain ⟨g5, p5, h1, _⟩ := World.ownsRow.form ho5 (by omega); exact ⟨g5, p5, h1⟩)); subst hv5; have hs5 : w.heap.size ≤ w5.heap.size := HW5.out.size; clear ho5 hg5)
        | (at_builtin; refine wpList_append_own _ rfl _ _ 27 rfl w.heap.size 3 j0 (.int .i64 0) 1 8 Tryd.underlying27 ji jz0 jz1 jz2 rfl (by decide) _ _ _ rfl (World.ownsRow.alloc HE5.out _) ⟨w5.heap.size, 0, none⟩ 1 1 [.int .i64 ((N : Int) + ((m : Int) + 20))] rfl rfl (cell_new _ _ _) (one_new _) (by unfold maxLen; omega) (by omega) (by simp; omega) ?_; intro v6 w6 ho6 hg6 _; have HW6 : Hid (Below w.heap.size w w6) := grown_row (HW5.out.alloc hs5 _) (World.ownsRow.alloc HE5.out _) (by simp; omega) hg6; have HE6 : Hid (w6.ownsRow w.heap.size 3 1 v6 (k + 1) (endW h y A L C (k + 1))) := (by show World.ownsRow _ _ _ _ _ _ _; refine RowEq ho6 ?_; rw [endW_succ]; congr 2; have h2 := HN.out.2.1; congr 1; omega); have HO6 : Hid (Own w6 w.heap.size (.slice (some ⟨g5, 0, none⟩) (N + (m + 20)) p5) (hdrL x y ++ layF (evF y (k + 1) A L C))) := ⟨HO5.out.1, row_apart (World.ownsRow.alloc HE5.out _) hg6 (World.ownsRow.alloc HO5.out.2 _) (by decide)⟩; clear ho6 hg6))
      go_roundw
      case rel => exact ⟨_, v6, k + 1, rfl, rfl, by omega, by go_num, HO6.out, HE6.out, HW6.out⟩
      case measure => simp [intOf]; omega
    · obtain rfl : k = n := by omega
      go_wp2
      go_ret3
      exact ⟨vb, ve, rfl, HR.out.1, HR.out.2, hbr⟩
end Go.Proofs.YtaegmeilhdbnnabDoor
namespace Go.Proofs.YtaegmeilhdbnnabDoor
open Go.ChangeShapes Go.WideShapes Go.ChangeAt Go.RowKit
set_option linter.unusedVariables false
/-- where the frames of a list begin, and the last one ends -/
def lowN (SF : List Fi) (j : Nat) : Nat := (layF (SF.take j)).length
theorem lowN_step (SF : List Fi) (j : Nat) (f : Fi) (h : SF[j]? = some f) : lowN SF (j + 1) = lowN SF j + (fL f).length := (lay_split SF j f h).2
theorem lowN_mono (SF : List Fi) {i j : Nat} (h : i ≤ j) : lowN SF i ≤ lowN SF j := by
  unfold lowN
  have e : SF.take i = (SF.take j).take i := by rw [List.take_take, Nat.min_eq_left h]
  rw [e]
  have h2 : layF (SF.take j) = layF ((SF.take j).take i) ++ layF ((SF.take j).drop i) := by rw [← layF_append, List.take_append_drop]
  rw [h2, List.length_append]
  omega
theorem low_find (SF : List Fi) (p : Nat) (hp : p < lowN SF SF.length) : ∃ i, i < SF.length ∧ lowN SF i ≤ p ∧ p < lowN SF (i + 1) := by
  have : ∀ m, m ≤ SF.length → p < lowN SF m → ∃ i, i < m ∧ lowN SF i ≤ p ∧ p < lowN SF (i + 1) := by
    intro m
    induction m with
    | zero => intro _ h; simp [lowN, layF] at h
    | succ m ih =>
      intro hm h
      by_cases hc : p < lowN SF m
      · obtain ⟨i, h1, h2⟩ := ih (by omega) hc
        exact ⟨i, by omega, h2⟩
      · exact ⟨m, by omega, by omega, h⟩
  exact this _ (Nat.le_refl _) hp
theorem lows_get (x y n : Nat) (A : Nat → Option Addr) (L : Nat → List Nat) (C : Nat → Nat) (fb : List Nat) (h B : Nat) (hh : (hdrL x y).length = h) (hB : (layF (segF x y n A L C fb)).length = B) (j : Nat) (hj : j ≤ n + 2) :
    ([.int .i64 0, .int .i64 (h : Int)] ++ endW h y A L C n ++ [.int .i64 (B : Int)])[j]? = some (.int .i64 ((lowN (segF x y n A L C fb) j : Nat) : Int)) := by
  have hel : (endW h y A L C n).length = n := by simp [endW]
  match j with
  | 0 => simp [lowN, layF]
  | 1 =>
    have := segF_take x y n A L C fb 0 (Nat.zero_le _)
    unfold lowN
    rw [this]
    simp [evF, layF, hh]
  | k + 2 =>
    by_cases hk : k < n
    · rw [List.append_assoc, List.getElem?_append_right (by simp), List.getElem?_append_left (by simp [hel]; omega)]
      simp only [List.length_cons, List.length_nil]
      rw [show k + 2 - (0 + 1 + 1) = k from by omega]
      unfold endW lowN
      rw [List.getElem?_map, List.getElem?_range hk, segF_take x y n A L C fb (k + 1) hk, List.length_append, hh]
      simp
    · obtain rfl : k = n := by omega
      rw [List.getElem?_append_right (by simp [hel])]
      unfold lowN
      rw [List.take_of_length_le (by rw [segF_len]; exact Nat.le_refl _), hB]
      simp only [List.length_append, List.length_cons, List.length_nil, hel]
      rw [show k + 2 - (0 + 1 + 1 + k) = 0 from by omega]
      rfl
end Go.Proofs.YtaegmeilhdbnnabDoor
