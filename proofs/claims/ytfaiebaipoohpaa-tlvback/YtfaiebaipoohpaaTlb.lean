/- daybookref05.Alike and Plain, at lists whose fields mean the same. -/
import Derived.Test.YtfaiebaipoohpaaTla
namespace Go.Proofs.Ytfaiebaipoohpaa
open Go.ChangeShapes Go.WideShapes Go.ChangeAt Go.RowKit
set_option linter.unusedVariables false
/-- fields that mean the same -/
def Like (f g : Fld) : Prop := f.tag = g.tag ∧ f.text = g.text ∧ (f.text = true → f.bytes = g.bytes) ∧ (f.text = false → f.num = g.num)
set_option maxRecDepth 20000 in
set_option maxHeartbeats 1000000 in
theorem alikeN_true (L M : List (Fld × Value)) (b1 off1 c1 b2 off2 c2 n : Nat) (w : World) (h1 : FsAt w (some ⟨b1, off1, none⟩) L) (h2 : FsAt w (some ⟨b2, off2, none⟩) M) (hLM : ∀ (i : Nat) (p q : Fld × Value), L[i]? = some p → M[i]? = some q → Like p.1 q.1) (hll : L.length = M.length) (hn : L.length = n) (hm : n ≤ maxLen) :
    Calls Try.prog 14 #[.slice (some ⟨b1, off1, none⟩) n c1, .slice (some ⟨b2, off2, none⟩) n c2] w fun r w' => r = .returned (.bool true) ∧ ∃ m, w' = w.drewN m := by
  have H1 : Hid (FsAt w (some ⟨b1, off1, none⟩) L) := h1
  have H2 : Hid (FsAt w (some ⟨b2, off2, none⟩) M) := h2
  have HLM : Hid (∀ (i : Nat) (p q : Fld × Value), L[i]? = some p → M[i]? = some q → Like p.1 q.1) := hLM
  have HLL : Hid (L.length = M.length) := hll
  have HN : Hid (L.length = n ∧ M.length = n) := ⟨hn, by omega⟩
  have hnI : (n : Int) ≤ 9223372036854775807 := by unfold maxLen at hm; omega
  clear h1 h2 hLM hll hn hm
  go_enter Try.func14, Try.ntmps14
  go_wp2
  go_loopw [13] (fun vi wr => ∃ k n0 : Nat, k ≤ n ∧ vi = .int .i64 k ∧ wr = w.drewN n0) (fun vi _ => n - (intOf vi).toNat)
  case atStart => exact ⟨0, 0, Nat.zero_le _, rfl, rfl⟩
  case round =>
    obtain ⟨k, n0, hk, rfl, rfl⟩ := hrel
    by_cases hkl : k < n
    · obtain ⟨p, hp⟩ : ∃ p, L[k]? = some p := ⟨_, List.getElem?_eq_getElem (by rw [HN.out.1]; exact hkl)⟩
      obtain ⟨q, hq⟩ : ∃ q, M[k]? = some q := ⟨_, List.getElem?_eq_getElem (by rw [HN.out.2]; exact hkl)⟩
      obtain ⟨l1, l2, l3, l4⟩ := HLM.out k p q hp hq
      obtain ⟨x0, x1, x2, x3⟩ := H1.out.cells k p hp
      obtain ⟨y0, y1, y2, y3⟩ := H2.out.cells k q hq
      obtain ⟨ad, pc, hpv, _, hpb⟩ := (H1.out.fok p (List.mem_of_getElem? hp)).byt
      obtain ⟨bd, qc, hqv, _, hqb⟩ := (H2.out.fok q (List.mem_of_getElem? hq)).byt
      have hlen := (H1.out.fok p (List.mem_of_getElem? hp)).len
      rw [hpv] at x3
      rw [hqv] at y3
      obtain ⟨⟨tag, text, num, bytes⟩, bv⟩ := q
      obtain ⟨⟨tag1, text1, num1, bytes1⟩, bv1⟩ := p
      simp only at x0 x1 x2 x3 y0 y1 y2 y3 hpb hqb hlen l1 l2 l3 l4
      subst l1 l2
      have hkI : (k : Int) < (n : Int) := by omega
      have hk0 : (0 : Int) ≤ (k : Int) := by omega
      clear hp hq hpv hqv
      cases text1 with
      | true =>
        obtain rfl := l3 rfl
        have HP : Hid (Bytes w ad bytes1) := hpb
        have HQ : Hid (Bytes w bd bytes1) := hqb
        obtain ⟨m, hm2⟩ : ∃ m, bytes1.length = m := ⟨_, rfl⟩
        have HM : Hid (bytes1.length = m) := hm2
        rw [hm2] at x3 y3
        clear hpb hqb hm2 l3 l4
        go_wp2
        go_quiet (fail)
        go_wp2
        go_quiet ((go_at_call 13; exact quiet_sum (same_q bytes1 m ad bd pc qc _ HM.out (HP.out.drewN _) (HQ.out.drewN _) hlen)))
        go_wp2
        go_quiet (fail)
        go_wp2
        go_roundw
        case rel => exact ⟨k + 1, _, by omega, by go_num, rfl⟩
        case measure => simp [intOf]; omega
      | false =>
        obtain rfl := l4 rfl
        clear hpb hqb l3 l4
        go_wp2
        go_quiet (fail)
        go_wp2
        go_quiet (fail)
        go_wp2
        go_quiet (fail)
        go_wp2
        go_roundw
        case rel => exact ⟨k + 1, _, by omega, by go_num, rfl⟩
        case measure => simp [intOf]; omega
    · obtain rfl : k = n := by omega
      go_wp2
      go_ret
      exact ⟨rfl, n0, rfl⟩
theorem alikeN_fs (L M : List (Fld × Value)) (a1 a2 : Option Addr) (c1 c2 n k : Nat) (w : World) (h1 : FsAt w a1 L) (h2 : FsAt w a2 M) (hLM : ∀ (i : Nat) (p q : Fld × Value), L[i]? = some p → M[i]? = some q → Like p.1 q.1) (hll : L.length = M.length) (hn : L.length = n) (hk : M.length = k) (hm : n ≤ maxLen) :
    Calls Try.prog 14 #[.slice a1 n c1, .slice a2 k c2] w fun r w' => r = .returned (.bool true) ∧ ∃ m, w' = w.drewN m := by
  have hl : L.length = M.length := hll
  obtain rfl : n = k := by omega
  rcases h1.row with rfl | ⟨b1, off1, rfl, _, _⟩
  · simp only [List.length_nil] at hn
    subst hn
    exact alike_nil a1 a2 c1 c2 w
  · rcases h2.row with rfl | ⟨b2, off2, rfl, _, _⟩
    · simp only [List.length_nil] at hk
      subst hk
      exact alike_nil _ a2 c1 c2 w
    · exact alikeN_true L M b1 off1 c1 b2 off2 c2 n w h1 h2 hLM hll hn hm
set_option maxRecDepth 20000 in
set_option maxHeartbeats 1000000 in
theorem plainN_true (L M : List (Fld × Value)) (b1 off1 c1 n c2 : Nat) (a2 : Option Addr) (w : World) (h1 : FsAt w (some ⟨b1, off1, none⟩) L) (h2 : FsAt w a2 M) (hLM : ∀ (i : Nat) (p q : Fld × Value), L[i]? = some p → M[i]? = some q → Like p.1 q.1) (hll : L.length = M.length) (hpl : ∀ p ∈ L, norm p.1 = p.1) (hn : L.length = n) (hm : n ≤ maxLen) :
    Calls Try.prog 19 #[.slice (some ⟨b1, off1, none⟩) n c1, .slice a2 n c2] w fun r w' => r = .returned (.bool true) ∧ ∃ m, w' = w.drewN m := by
  have H1 : Hid (FsAt w (some ⟨b1, off1, none⟩) L) := h1
  have H2 : Hid (FsAt w a2 M) := h2
  have HLM : Hid (∀ (i : Nat) (p q : Fld × Value), L[i]? = some p → M[i]? = some q → Like p.1 q.1) := hLM
  have HLL : Hid (L.length = M.length) := hll
  have HPL : Hid (∀ p ∈ L, norm p.1 = p.1) := hpl
  have HN : Hid (L.length = n ∧ M.length = n) := ⟨hn, by omega⟩
  have HMX : Hid (n ≤ maxLen) := hm
  have hnI : (n : Int) ≤ 9223372036854775807 := by unfold maxLen at hm; omega
  clear h1 h2 hLM hll hn hm hpl
  go_enter Try.func19, Try.ntmps19
  go_wp2
  go_loopw [8] (fun vi wr => ∃ k n0 : Nat, k ≤ n ∧ vi = .int .i64 k ∧ wr = w.drewN n0) (fun vi _ => n - (intOf vi).toNat)
  case atStart => exact ⟨0, 0, Nat.zero_le _, rfl, rfl⟩
  case round =>
    obtain ⟨k, n0, hk, rfl, rfl⟩ := hrel
    by_cases hkl : k < n
    · obtain ⟨p, hp⟩ : ∃ p, L[k]? = some p := ⟨_, List.getElem?_eq_getElem (by rw [HN.out.1]; exact hkl)⟩
      obtain ⟨x0, x1, x2, x3⟩ := H1.out.cells k p hp
      obtain ⟨ad, pc, hpv, _, hpb⟩ := (H1.out.fok p (List.mem_of_getElem? hp)).byt
      have hnm := HPL.out p (List.mem_of_getElem? hp)
      rw [hpv] at x3
      obtain ⟨⟨tag, text, num, bytes⟩, bv⟩ := p
      simp only at x0 x1 x2 x3 hnm
      have hkI : (k : Int) < (n : Int) := by omega
      have hk0 : (0 : Int) ≤ (k : Int) := by omega
      clear hp hpv hpb
      cases text with
      | true =>
        have hz : num = 0 := by have := congrArg Fld.num hnm; simpa [norm] using this.symm
        subst hz
        clear hnm
        go_wp2
        go_roundw
        case rel => exact ⟨k + 1, _, by omega, by go_num, rfl⟩
        case measure => simp [intOf]; omega
      | false =>
        have hz : bytes = [] := by have := congrArg Fld.bytes hnm; simpa [norm] using this.symm
        subst hz
        clear hnm
        go_wp2
        go_roundw
        case rel => exact ⟨k + 1, _, by omega, by go_num, rfl⟩
        case measure => simp [intOf]; omega
    · obtain rfl : k = n := by omega
      go_wp2_with (go_at_call 14; refine (alikeN_fs L M _ _ _ _ _ _ _ (H1.out.drewN _) (H2.out.drewN _) HLM.out HLL.out HN.out.1 HN.out.2 HMX.out).mono ?_; rintro r w1 ⟨rfl, m, rfl⟩)
      go_ret
      exact ⟨rfl, n0 + m, by first | rfl | rw [World.drewN_drewN]⟩
theorem plainN_fs (L M : List (Fld × Value)) (a1 a2 : Option Addr) (c1 c2 n k : Nat) (w : World) (h1 : FsAt w a1 L) (h2 : FsAt w a2 M) (hLM : ∀ (i : Nat) (p q : Fld × Value), L[i]? = some p → M[i]? = some q → Like p.1 q.1) (hll : L.length = M.length) (hpl : ∀ p ∈ L, norm p.1 = p.1) (hn : L.length = n) (hk : M.length = k) (hm : n ≤ maxLen) :
    Calls Try.prog 19 #[.slice a1 n c1, .slice a2 k c2] w fun r w' => r = .returned (.bool true) ∧ ∃ m, w' = w.drewN m := by
  have hl : L.length = M.length := hll
  obtain rfl : n = k := by omega
  rcases h1.row with rfl | ⟨b1, off1, rfl, _, _⟩
  · simp only [List.length_nil] at hn
    subst hn
    exact plain_nil a1 a2 c1 c2 w
  · exact plainN_true L M b1 off1 c1 n c2 a2 w h1 h2 hLM hll hpl hn hm
end Go.Proofs.Ytfaiebaipoohpaa
