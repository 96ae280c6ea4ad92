/- Own texts, joined: Ov3. -/
import Derived.Test.YtfdaefhamoeaiaaK15
namespace Go.Proofs.Ytfdaefhamoeaiaa
open Go.ChangeShapes Go.WideShapes Go.ChangeAt Go.RowKit
set_option linter.unusedVariables false
def whoE (who : ByteArray) : Ev := ⟨1, 1, 0, 0, 0, 0, 0, who, 0, ⟨#[]⟩⟩
def whoB (who : ByteArray) : Bool := chk 5 (whoE who) == 0
set_option maxRecDepth 20000 in
set_option maxHeartbeats 1000000 in
theorem rightWho_any (who : ByteArray) (w : World) : Calls Try.prog 34 #[.string who] w fun e w' => e = .returned (.bool (whoB who)) ∧ Below w.heap.size w w' := by
  obtain ⟨c, hc⟩ : ∃ c, chk 5 (whoE who) = c := ⟨_, rfl⟩
  have HC : Hid (_) := hc
  have HW : Hid (whoB who = (c == 0)) := by show _ = _; unfold whoB; rw [hc]
  have HA : Hid (EvAt (w.alloc (.cells (evA zeroE) 89)) w.heap.size zeroE) := evAt_new w zeroE
  have HAB : Hid (Below w.heap.size w (w.alloc (.cells (evA zeroE) 89))) := (Below.refl _ _).alloc (Nat.le_refl _) _
  clear hc
  rw [HW.out]
  go_enter Try.func34, Try.ntmps34
  go_wp2_with (first
    | ((with_reducible refine guard_store 89 ?_); refine wpList_store_ev (e := zeroE) (e2 := whoE who) rfl _ _ rfl HA.out rfl rfl ?_; intro x1 z1 z2 z3 z4; have HE1 : Hid (EvAt x1 w.heap.size (whoE who)) := z1; have HB1 : Hid (Below w.heap.size w x1) := z2 _ _ HAB.out (Nat.le_refl _); clear z1 z2 z3 z4)
    | ((with_reducible refine guard_load 89 ?_); refine wpList_load_ev rfl _ rfl HE1.out rfl ?_)
    | (go_at_call 51; refine (check_ev 5 (whoE who) _).mono ?_; rw [HC.out]; rintro _ x2 ⟨rfl, hb2⟩; have HB2 : Hid (Below w.heap.size w x2) := below_next HB1.out hb2; clear hb2))
  go_ret
  exact ⟨rfl, HB2.out⟩
def standS (s : St) : Int := if s.status = 2 then s.prior else s.status
set_option maxRecDepth 20000 in
theorem stands_any (s : St) (a : Option Addr) (n cap : Nat) (w : World) : Calls Try.prog 37 #[.agg (stA s (.slice a n cap))] w fun e w' => e = .returned (.int .i64 (standS s)) ∧ Below w.heap.size w w' := by
  by_cases h : s.status = 2
  · have HS : Hid (standS s = s.prior) := if_pos h
    have hb : (s.status == 2) = true := by simpa using h
    rw [HS.out]
    clear h
    unfold stA
    go_enter Try.func37, Try.ntmps37
    go_wp2
    go_ret
    exact ⟨rfl, (Below.refl _ _).alloc (Nat.le_refl _) _⟩
  · have HS : Hid (standS s = s.status) := if_neg h
    have hb : (s.status == 2) = false := by simpa using h
    rw [HS.out]
    clear h
    unfold stA
    go_enter Try.func37, Try.ntmps37
    go_wp2
    go_ret
    exact ⟨rfl, (Below.refl _ _).alloc (Nat.le_refl _) _⟩
def priorB (s : St) : Bool := if s.status = 2 then (s.prior == 1 || s.prior == 3) else s.prior == 0
set_option maxRecDepth 20000 in
theorem prior_any (s : St) (a : Option Addr) (n cap : Nat) (w : World) : Calls Try.prog 22 #[.agg (stA s (.slice a n cap))] w fun e w' => e = .returned (.bool (priorB s)) ∧ Below w.heap.size w w' := by
  by_cases h : s.status = 2
  · have HS : Hid (priorB s = (s.prior == 1 || s.prior == 3)) := if_pos h
    have hb : (s.status == 2) = true := by simpa using h
    rw [HS.out]
    clear h
    unfold stA
    cases h1 : s.prior == 1
    · go_enter Try.func22, Try.ntmps22
      go_wp2
      go_ret
      exact ⟨rfl, (Below.refl _ _).alloc (Nat.le_refl _) _⟩
    · go_enter Try.func22, Try.ntmps22
      go_wp2
      go_ret
      exact ⟨rfl, (Below.refl _ _).alloc (Nat.le_refl _) _⟩
  · have HS : Hid (priorB s = (s.prior == 0)) := if_neg h
    have hb : (s.status == 2) = false := by simpa using h
    rw [HS.out]
    clear h
    unfold stA
    go_enter Try.func22, Try.ntmps22
    go_wp2
    go_ret
    exact ⟨rfl, (Below.refl _ _).alloc (Nat.le_refl _) _⟩
theorem rightLines_step {L : List Ln} {k : Nat} {p : Ln} {last : Int} (hp : L[k]? = some p) : linesFrom last (L.drop k) = (lnB last p && linesFrom p.item (L.drop (k + 1))) := by
  rw [ln_drop _ _ _ hp]; rfl
set_option maxRecDepth 20000 in
set_option maxHeartbeats 4000000 in
theorem rightLines_any (L : List Ln) (a : Option Addr) (n cap : Nat) (w : World) (hn : L.length = n) (hl : Lns w a L) (hm : n ≤ maxLen) :
    Calls Try.prog 21 #[.slice a n cap] w fun e w' => e = .returned (.bool (linesB L)) ∧ Below w.heap.size w w' := by
  unfold maxLen at hm
  by_cases h16 : n ≤ 16
  · have HN : Hid (L.length = n) := hn
    have HV : Hid (linesB L = linesFrom (-1) (L.drop 0)) := by show _ = _; unfold linesB; rw [decide_eq_true (by omega)]; rfl
    have HLN : Hid (Lns w a L) := hl
    clear hn hl
    go_enter Try.func21, Try.ntmps21
    go_wp2
    go_loopw [3, 12] (fun vl vi wr => ∃ (k : Nat) (l : Int), k ≤ n ∧ vl = .int .i64 l ∧ vi = .int .i64 k ∧ -1 ≤ l ∧ l ≤ 65535 ∧ Hid (linesB L = linesFrom l (L.drop k) ∧ Below w.heap.size w wr)) (fun _ vi _ => n - (intOf vi).toNat)
    case atStart => exact ⟨0, -1, Nat.zero_le _, rfl, rfl, by omega, by omega, HV.out, Below.refl _ _⟩
    case round =>
      clear HV
      obtain ⟨k, l, hk, rfl, rfl, hl0, hl1, HI⟩ := hrel
      by_cases hkn : k < n
      · obtain ⟨p, hp⟩ := ln_get (L := L) (k := k) (by rw [HN.out]; exact hkn)
        obtain ⟨b, off, rfl, hlt, q0, q1, q2, q3⟩ := (HLN.out.keep HI.out.2).cells k p hp
        have HE : Hid (linesB L = (lnB l p && linesFrom p.item (L.drop (k + 1)))) := HI.out.1.trans (rightLines_step hp)
        have HB2 : ∀ o, Hid (Below w.heap.size w (wr.alloc o)) := fun o => HI.out.2.alloc HI.out.2.size o
        clear hp
        have hF : lnB l p = (wit (l + 1) p.item 65535 && (wit 0 p.price 100000000 && (wit 1 p.qty 100000 && wit 0 p.shipped p.qty))) := rfl
        have HF : Hid (_) := hF
        clear hF
        go_wp2_with (first
          | (go_at_call 23; refine (owithin_any _ _ _ _).mono ?_; rintro _ _ ⟨rfl, rfl⟩; generalize hq : wit _ _ _ = q; cases q))
        all_goals first
          | (go_ret; exact ⟨ret_bool (by rw [HE.out, HF.out]; simp only [*]; rfl), (HB2 _).out⟩)
          | (have hA : lnB l p = true := (by rw [HF.out]; simp only [*]; rfl)
             have hB := lnB_facts hA
             refine ⟨⟨k + 1, p.item, by omega, by go_num, by go_num, by omega, by omega, by rw [HE.out, hA]; rfl, (HB2 _).out⟩, by simp [intOf]; omega⟩)
      · have HT : Hid (linesB L = true) := by show _ = _; rw [HI.out.1, List.drop_eq_nil_of_le (by rw [HN.out]; omega)]; rfl
        go_wp2
        go_ret
        exact ⟨ret_bool (by rw [HT.out]), HI.out.2⟩
  · have HF : Hid (linesB L = false) := by show _ = _; unfold linesB; rw [decide_eq_false (by omega)]; rfl
    clear hn hl
    go_enter Try.func21, Try.ntmps21
    go_wp2
    go_ret
    exact ⟨ret_bool (by rw [HF.out]), Below.refl _ _⟩
def bndS (s : St) : Bool := wit 1 s.order 1099511627776 && (wit 0 s.status 5 && (wit 0 s.cur 3 && (wit 0 s.tax 5000 && (wit 0 s.events 1099511627776 && (wit 0 s.refused s.events && (wit 0 s.stamp 1099511627776 && whoB s.who))))))
set_option maxRecDepth 20000 in
set_option maxHeartbeats 4000000 in
theorem bounded_any (s : St) (a : Option Addr) (n cap : Nat) (w : World) : Calls Try.prog 20 #[.agg (stA s (.slice a n cap))] w fun e w' => e = .returned (.bool (bndS s)) ∧ Below w.heap.size w w' := by
  have HF : Hid (bndS s = (wit 1 s.order 1099511627776 && (wit 0 s.status 5 && (wit 0 s.cur 3 && (wit 0 s.tax 5000 && (wit 0 s.events 1099511627776 && (wit 0 s.refused s.events && (wit 0 s.stamp 1099511627776 && whoB s.who)))))))) := rfl
  have HB1 : ∀ o, Hid (Below w.heap.size w (w.alloc o)) := fun o => (Below.refl _ _).alloc (Nat.le_refl _) _
  unfold stA
  go_enter Try.func20, Try.ntmps20
  go_wp2_with (first
    | (go_at_call 23; refine (owithin_any _ _ _ _).mono ?_; rintro _ _ ⟨rfl, rfl⟩; generalize hq : wit _ _ _ = q; cases q)
    | (go_at_call 34; refine (rightWho_any _ _).mono ?_; rintro _ w2 ⟨rfl, hb2⟩; have HB2 : Hid (Below w.heap.size w w2) := below_next (HB1 _).out hb2; clear hb2))
  all_goals first
    | (go_ret; exact ⟨ret_bool (by rw [HF.out]; simp only [*]; rfl), HB2.out⟩)
    | (go_ret; exact ⟨ret_bool (by rw [HF.out]; simp only [*]; rfl), (HB1 _).out⟩)
end Go.Proofs.Ytfdaefhamoeaiaa
