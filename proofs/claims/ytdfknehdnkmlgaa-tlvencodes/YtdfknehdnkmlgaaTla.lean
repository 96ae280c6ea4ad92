/- daybookref05.Alike and Plain, at lists of the same fields. -/
import Derived.Test.YtdfknehdnkmlgaaTln
import Derived.Test.YtdfknehdnkmlgaaSame
namespace Go.Proofs.Ytdfknehdnkmlgaa
open Go.ChangeShapes Go.WideShapes Go.ChangeAt Go.RowKit
set_option linter.unusedVariables false
theorem FsAt.drewN {w : World} {a : Option Addr} {L : List (Fld × Value)} (h : FsAt w a L) (n : Nat) : FsAt (w.drewN n) a L := by
  induction n with
  | zero => exact h
  | succ n ih => exact ih.keep (Below.refl _ _).drew
theorem quiet_sum {P : Program} {f : FuncId} {args : Array Value} {w : World} {a x : Nat} {v : Value} (h : Calls P f args (w.drewN (a + x)) fun e w' => e = .returned v ∧ ∃ m, w' = (w.drewN (a + x)).drewN m) : Calls P f args (w.drewN (a + x)) fun e w'' => e = .returned v ∧ ∃ m, w'' = w.drewN (a + m) :=
  h.mono fun _ _ ⟨he, m, hm⟩ => ⟨he, x + m, by rw [hm, World.drewN_drewN, Nat.add_assoc]⟩
theorem same_q (l : List Nat) (m : Nat) (a1 a2 : Option Addr) (c1 c2 : Nat) (w : World) (e1 : l.length = m) (hb1 : Bytes w a1 l) (hb2 : Bytes w a2 l) (hl : l.length ≤ maxLen) :
    Calls Try.prog 13 #[.slice a1 m c1, .slice a2 m c2] w fun e w' => e = .returned (.bool true) ∧ ∃ n, w' = w.drewN n := by
  have h := same_at l l m m a1 a2 c1 c2 w e1 e1 hb1 hb2 hl hl
  rw [decide_eq_true rfl] at h
  exact h
set_option maxRecDepth 20000 in
set_option maxHeartbeats 1000000 in
theorem alike_true (L M : List (Fld × Value)) (b1 off1 c1 b2 off2 c2 n : Nat) (w : World) (h1 : FsAt w (some ⟨b1, off1, none⟩) L) (h2 : FsAt w (some ⟨b2, off2, none⟩) M) (hLM : L.map Prod.fst = M.map Prod.fst) (hn : L.length = n) (hm : n ≤ maxLen) :
    Calls Try.prog 14 #[.slice (some ⟨b1, off1, none⟩) n c1, .slice (some ⟨b2, off2, none⟩) n c2] w fun r w' => r = .returned (.bool true) ∧ ∃ m, w' = w.drewN m := by
  have H1 : Hid (FsAt w (some ⟨b1, off1, none⟩) L) := h1
  have H2 : Hid (FsAt w (some ⟨b2, off2, none⟩) M) := h2
  have HLM : Hid (L.map Prod.fst = M.map Prod.fst) := hLM
  have HN : Hid (L.length = n ∧ M.length = n) := ⟨hn, by have := congrArg List.length hLM; simp at this; omega⟩
  have hnI : (n : Int) ≤ 9223372036854775807 := by unfold maxLen at hm; omega
  clear h1 h2 hLM hn hm
  go_enter Try.func14, Try.ntmps14
  go_wp2
  go_loopw [13] (fun vi wr => ∃ k n0 : Nat, k ≤ n ∧ vi = .int .i64 k ∧ wr = w.drewN n0) (fun vi _ => n - (intOf vi).toNat)
  case atStart => exact ⟨0, 0, Nat.zero_le _, rfl, rfl⟩
  case round =>
    obtain ⟨k, n0, hk, rfl, rfl⟩ := hrel
    by_cases hkl : k < n
    · obtain ⟨p, hp⟩ : ∃ p, L[k]? = some p := ⟨_, List.getElem?_eq_getElem (by rw [HN.out.1]; exact hkl)⟩
      obtain ⟨q, hq⟩ : ∃ q, M[k]? = some q := ⟨_, List.getElem?_eq_getElem (by rw [HN.out.2]; exact hkl)⟩
      have hpq : p.1 = q.1 := by
        have h := congrArg (fun l => l[k]?) HLM.out
        simp only [List.getElem?_map, hp, hq, Option.map_some] at h
        exact Option.some.inj h
      obtain ⟨x0, x1, x2, x3⟩ := H1.out.cells k p hp
      obtain ⟨y0, y1, y2, y3⟩ := H2.out.cells k q hq
      obtain ⟨ad, pc, hpv, _, hpb⟩ := (H1.out.fok p (List.mem_of_getElem? hp)).byt
      obtain ⟨bd, qc, hqv, _, hqb⟩ := (H2.out.fok q (List.mem_of_getElem? hq)).byt
      have hlen := (H1.out.fok p (List.mem_of_getElem? hp)).len
      rw [hpv] at x3
      rw [hqv] at y3
      rw [hpq] at x0 x1 x2 x3 hpb hlen
      obtain ⟨⟨tag, text, num, bytes⟩, bv⟩ := q
      simp only at x0 x1 x2 x3 y0 y1 y2 y3 hpb hqb hlen
      have HP : Hid (Bytes w ad bytes) := hpb
      have HQ : Hid (Bytes w bd bytes) := hqb
      have hkI : (k : Int) < (n : Int) := by omega
      have hk0 : (0 : Int) ≤ (k : Int) := by omega
      obtain ⟨m, hm2⟩ : ∃ m, bytes.length = m := ⟨_, rfl⟩
      have HM : Hid (bytes.length = m) := hm2
      rw [hm2] at x3 y3
      clear hp hq hpq hpv hqv hpb hqb hm2
      cases text with
      | true =>
        go_wp2
        go_quiet (fail)
        go_wp2
        go_quiet ((go_at_call 13; exact quiet_sum (same_q bytes m ad bd pc qc _ HM.out (HP.out.drewN _) (HQ.out.drewN _) hlen)))
        go_wp2
        go_quiet (fail)
        go_wp2
        go_roundw
        case rel => exact ⟨k + 1, _, by omega, by go_num, rfl⟩
        case measure => simp [intOf]; omega
      | false =>
        go_wp2
        go_quiet (fail)
        go_wp2
        go_quiet (fail)
        go_wp2
        go_quiet (fail)
        go_wp2
        go_roundw
        case rel => exact ⟨k + 1, _, by omega, by go_num, rfl⟩
        case measure => simp [intOf]; omega
    · obtain rfl : k = n := by omega
      go_wp2
      go_ret
      exact ⟨rfl, n0, rfl⟩
set_option maxRecDepth 20000 in
set_option maxHeartbeats 1000000 in
theorem alike_nil (a1 a2 : Option Addr) (c1 c2 : Nat) (w : World) :
    Calls Try.prog 14 #[.slice a1 0 c1, .slice a2 0 c2] w fun r w' => r = .returned (.bool true) ∧ ∃ m, w' = w.drewN m := by
  go_enter Try.func14, Try.ntmps14
  go_wp2
  refine wp_loop_rounds 1 ?_
  rw [rounds_succ]
  go_wp2
  go_ret
  exact ⟨rfl, 0, rfl⟩
theorem alike_fs (L M : List (Fld × Value)) (a1 a2 : Option Addr) (c1 c2 n k : Nat) (w : World) (h1 : FsAt w a1 L) (h2 : FsAt w a2 M) (hLM : L.map Prod.fst = M.map Prod.fst) (hn : L.length = n) (hk : M.length = k) (hm : n ≤ maxLen) :
    Calls Try.prog 14 #[.slice a1 n c1, .slice a2 k c2] w fun r w' => r = .returned (.bool true) ∧ ∃ m, w' = w.drewN m := by
  have hl : L.length = M.length := by have := congrArg List.length hLM; simpa using this
  obtain rfl : n = k := by omega
  rcases h1.row with rfl | ⟨b1, off1, rfl, _, _⟩
  · simp only [List.length_nil] at hn
    subst hn
    exact alike_nil a1 a2 c1 c2 w
  · rcases h2.row with rfl | ⟨b2, off2, rfl, _, _⟩
    · simp only [List.length_nil] at hk
      subst hk
      exact alike_nil _ a2 c1 c2 w
    · exact alike_true L M b1 off1 c1 b2 off2 c2 n w h1 h2 hLM hn hm
set_option maxRecDepth 20000 in
set_option maxHeartbeats 1000000 in
theorem plain_nil (a1 a2 : Option Addr) (c1 c2 : Nat) (w : World) :
    Calls Try.prog 19 #[.slice a1 0 c1, .slice a2 0 c2] w fun r w' => r = .returned (.bool true) ∧ ∃ m, w' = w.drewN m := by
  go_enter Try.func19, Try.ntmps19
  go_wp2
  refine wp_loop_rounds 1 ?_
  rw [rounds_succ]
  go_wp2_with (go_at_call 14; refine (alike_nil a1 a2 c1 c2 _).mono ?_; rintro r w1 ⟨rfl, m, rfl⟩)
  go_ret
  exact ⟨rfl, m, rfl⟩
set_option maxRecDepth 20000 in
set_option maxHeartbeats 1000000 in
theorem plain_true (L M : List (Fld × Value)) (b1 off1 c1 n c2 : Nat) (a2 : Option Addr) (w : World) (h1 : FsAt w (some ⟨b1, off1, none⟩) L) (h2 : FsAt w a2 M) (hLM : L.map Prod.fst = M.map Prod.fst) (hpl : ∀ p ∈ L, norm p.1 = p.1) (hn : L.length = n) (hm : n ≤ maxLen) :
    Calls Try.prog 19 #[.slice (some ⟨b1, off1, none⟩) n c1, .slice a2 n c2] w fun r w' => r = .returned (.bool true) ∧ ∃ m, w' = w.drewN m := by
  have H1 : Hid (FsAt w (some ⟨b1, off1, none⟩) L) := h1
  have H2 : Hid (FsAt w a2 M) := h2
  have HLM : Hid (L.map Prod.fst = M.map Prod.fst) := hLM
  have HPL : Hid (∀ p ∈ L, norm p.1 = p.1) := hpl
  have HN : Hid (L.length = n ∧ M.length = n) := ⟨hn, by have := congrArg List.length hLM; simp at this; omega⟩
  have HMX : Hid (n ≤ maxLen) := hm
  have hnI : (n : Int) ≤ 9223372036854775807 := by unfold maxLen at hm; omega
  clear h1 h2 hLM hn hm hpl
  go_enter Try.func19, Try.ntmps19
  go_wp2
  go_loopw [8] (fun vi wr => ∃ k n0 : Nat, k ≤ n ∧ vi = .int .i64 k ∧ wr = w.drewN n0) (fun vi _ => n - (intOf vi).toNat)
  case atStart => exact ⟨0, 0, Nat.zero_le _, rfl, rfl⟩
  case round =>
    obtain ⟨k, n0, hk, rfl, rfl⟩ := hrel
    by_cases hkl : k < n
    · obtain ⟨p, hp⟩ : ∃ p, L[k]? = some p := ⟨_, List.getElem?_eq_getElem (by rw [HN.out.1]; exact hkl)⟩
      obtain ⟨x0, x1, x2, x3⟩ := H1.out.cells k p hp
      obtain ⟨ad, pc, hpv, _, hpb⟩ := (H1.out.fok p (List.mem_of_getElem? hp)).byt
      have hnm := HPL.out p (List.mem_of_getElem? hp)
      rw [hpv] at x3
      obtain ⟨⟨tag, text, num, bytes⟩, bv⟩ := p
      simp only at x0 x1 x2 x3 hnm
      have hkI : (k : Int) < (n : Int) := by omega
      have hk0 : (0 : Int) ≤ (k : Int) := by omega
      clear hp hpv hpb
      cases text with
      | true =>
        have hz : num = 0 := by have := congrArg Fld.num hnm; simpa [norm] using this.symm
        subst hz
        clear hnm
        go_wp2
        go_roundw
        case rel => exact ⟨k + 1, _, by omega, by go_num, rfl⟩
        case measure => simp [intOf]; omega
      | false =>
        have hz : bytes = [] := by have := congrArg Fld.bytes hnm; simpa [norm] using this.symm
        subst hz
        clear hnm
        go_wp2
        go_roundw
        case rel => exact ⟨k + 1, _, by omega, by go_num, rfl⟩
        case measure => simp [intOf]; omega
    · obtain rfl : k = n := by omega
      go_wp2_with (go_at_call 14; refine (alike_fs L M _ _ _ _ _ _ _ (H1.out.drewN _) (H2.out.drewN _) HLM.out HN.out.1 HN.out.2 HMX.out).mono ?_; rintro r w1 ⟨rfl, m, rfl⟩)
      go_ret
      exact ⟨rfl, n0 + m, by first | rfl | rw [World.drewN_drewN]⟩
theorem plain_fs (L M : List (Fld × Value)) (a1 a2 : Option Addr) (c1 c2 n k : Nat) (w : World) (h1 : FsAt w a1 L) (h2 : FsAt w a2 M) (hLM : L.map Prod.fst = M.map Prod.fst) (hpl : ∀ p ∈ L, norm p.1 = p.1) (hn : L.length = n) (hk : M.length = k) (hm : n ≤ maxLen) :
    Calls Try.prog 19 #[.slice a1 n c1, .slice a2 k c2] w fun r w' => r = .returned (.bool true) ∧ ∃ m, w' = w.drewN m := by
  have hl : L.length = M.length := by have := congrArg List.length hLM; simpa using this
  obtain rfl : n = k := by omega
  rcases h1.row with rfl | ⟨b1, off1, rfl, _, _⟩
  · simp only [List.length_nil] at hn
    subst hn
    exact plain_nil a1 a2 c1 c2 w
  · exact plain_true L M b1 off1 c1 n c2 a2 w h1 h2 hLM hpl hn hm
end Go.Proofs.Ytdfknehdnkmlgaa
