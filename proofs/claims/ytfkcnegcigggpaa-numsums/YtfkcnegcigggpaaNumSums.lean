/- Sum answers as the reference does, and the list stays as it was: for every list. -/
import Derived.Test.YtfkcnegcigggpaaRSum
import Derived.Test.YtfkcnegcigggpaaSameI
import Derived.SizedLaws
import Derived.ChangeOld
import Derived.Laws.AppendOwnNone
import Derived.Deep.RegionWith
namespace Go.Proofs.Ytfkcnegcigggpaa.numSums
open Go.ChangeShapes Go.WideShapes Go.ChangeAt Go.RowKit
set_option linter.unusedVariables false
theorem litI (w : World) : OwnI (w.alloc (.cells #[] 2)) w.heap.size (.slice (some ⟨w.heap.size, 0, none⟩) 0 0) [] :=
  ⟨by simp, World.ownsRow_lit w #[] 0 (Nat.le_refl _) (by simp) rfl⟩
theorem two_ok : ∀ x ∈ [(4 : Int), -6], inI x := by decide
theorem two_sum : fitV ([(4 : Int), -6]).sum = -2 ∧ fitB ([(4 : Int), -6]).sum = true := by decide
theorem same_b (l m : List Int) (n1 n2 : Nat) (a1 a2 : Option Addr) (c1 c2 : Nat) (w : World) (e1 : l.length = n1) (e2 : m.length = n2) (hb1 : Ints w a1 l) (hb2 : Ints w a2 m) (hl : l.length ≤ maxLen) (hm : m.length ≤ maxLen) :
    Calls Try.prog 21 #[.slice a1 n1 c1, .slice a2 n2 c2] w fun e w' => e = .returned (.bool (decide (l = m))) ∧ Below w.heap.size w w' := by
  refine (sameI_at l m n1 n2 a1 a2 c1 c2 w e1 e2 hb1 hb2 hl hm).mono ?_
  rintro e w' ⟨h, n, rfl⟩
  exact ⟨h, below_drewN (Below.refl _ _) n⟩
set_option maxRecDepth 20000 in
set_option maxHeartbeats 2000000 in
theorem walk_some (l : List Int) (n : Nat) (x : Addr) (cap : Nat) (w : World) (hn : Hid (l.length = n)) (hb : Hid (Ints w (some x) l)) (hf : n ≤ cap) (hr : cap * 8 ≤ 140737488351232) :
    Calls Try.prog 7 #[.slice (some x) n cap] w fun e w' => e = .returned (.bool true) ∧ Below w.heap.size w w' := by
  obtain ⟨i0, hi, hz0, hz1, hz2⟩ := info_parts Try.infoI
  have hnI : (n : Int) ≤ 17592186044416 := by omega
  obtain ⟨p, Ep⟩ : ∃ p, Hid (fitV l.sum = p) := ⟨_, rfl⟩
  obtain ⟨pb, Epb⟩ : ∃ p, Hid (fitB l.sum = p) := ⟨_, rfl⟩
  have HM : Hid (n ≤ maxLen) := by show _ ≤ _; unfold maxLen; omega
  go_enter Try.func7, Try.ntmps7
  go_wp2_with (first
    | (go_at_call_of 19 (Value.slice (some (⟨w.heap.size, 0, none⟩ : Addr)) 2 2); refine (sum_any [4, -6] 2 _ _ _ rfl (ints_lit w [4, -6] two_ok) (by unfold maxLen; omega)).mono ?_; rw [two_sum.1, two_sum.2]; rintro e w1 ⟨rfl, hb1'⟩; have HB1 : Hid (Below w.heap.size w w1) := bnx (bal (Below.refl _ _) _) hb1'; clear hb1')
    | (go_at_call 9; refine (head04_any w1).mono ?_; rintro e w2 ⟨rfl, hb2⟩; have HB2 : Hid (Below w.heap.size w w2) := bnx HB1.out hb2; clear hb2)
    | (at_builtin; refine wpList_append_own _ rfl _ _ 35 rfl w2.heap.size 2 i0 (.int .i64 0) 1 8 Try.underlying35 hi hz0 hz1 hz2 rfl (by decide) _ _ _ rfl (litI w2).2 x n cap (BI l) rfl (by rw [BI_length, hn.out]) (ints_cells ((hb.out.keep HB2.out).keep (bal (Below.refl _ _) _))) (BI_one l) (by unfold maxLen; simp; try omega) (by simp; try omega) (by simp) ?_; intro v3 w3 ho3 hg3 _; have hb3 : Below w2.heap.size w2 w3 := ((Below.refl w2.heap.size w2).alloc (Nat.le_refl _) _).grown hg3 (by simp) (fun k hk => by cases hk; exact Nat.le_refl _); obtain ⟨a3, cap3, rfl, hc3, hm3, hnm3⟩ := (show OwnI w3 w2.heap.size v3 l from ⟨hb.out.1, by rw [hn.out]; simpa [BI] using ho3⟩).shape; clear ho3 hg3; rw [hn.out]; have HB3 : Hid (Below w.heap.size w w3) := bnx HB2.out hb3; have HI3 : Hid (Ints w3 a3 l) := hnm3; clear hb3 hnm3)
    | (go_at_call 20; refine (rsum_any l n _ _ _ hn.out (hb.out.keep HB3.out) HM.out).mono ?_; rintro e w4 ⟨rs, rfl, hrs, hb4⟩; have HRS : Hid (IsL rs l.sum) := hrs; have HI4 : Hid (Ints w4 a3 l) := HI3.out.keep hb4; have HB4 : Hid (Below w.heap.size w w4) := bnx HB3.out hb4; clear hb4 hrs)
    | (go_at_call 10; refine (fits_is rs _ w4 HRS.out).mono ?_; rw [Ep.out, Epb.out]; rintro e w5 ⟨rfl, hb5⟩; have HI5 : Hid (Ints w5 a3 l) := HI4.out.keep hb5; have HB5 : Hid (Below w.heap.size w w5) := bnx HB4.out hb5; clear hb5)
    | (go_at_call_of 19 (a3); refine (sum_any l n _ _ _ hn.out HI5.out HM.out).mono ?_; rw [Ep.out, Epb.out]; rintro e w6 ⟨rfl, hb6⟩; have HI6 : Hid (Ints w6 a3 l) := HI5.out.keep hb6; have HB6 : Hid (Below w.heap.size w w6) := bnx HB5.out hb6; clear hb6)
    | (go_at_call 21; refine (same_b l l n n _ _ _ _ w6 hn.out hn.out HI6.out (hb.out.keep HB6.out) (by rw [hn.out]; exact HM.out) (by rw [hn.out]; exact HM.out)).mono ?_; rw [decide_eq_true (rfl : l = l)]; rintro e w7 ⟨rfl, hb7⟩; have HB7 : Hid (Below w.heap.size w w7) := bnx HB6.out hb7; clear hb7))
  go_ret
  exact ⟨ret_bool (by simp), HB7.out⟩
set_option maxRecDepth 20000 in
set_option maxHeartbeats 2000000 in
theorem walk (l : List Int) (a : Option Addr) (cap : Nat) (w : World) (hb : Ints w a l) (hc : Came w a l.length cap 8) :
    Calls Try.prog 7 #[.slice a l.length cap] w fun e w' => e = .returned (.bool true) ∧ Below w.heap.size w w' := by
  obtain ⟨hf, hr, hn⟩ := hc
  cases a with
  | some x => exact walk_some l _ x cap w rfl hb hf hr
  | none =>
    obtain rfl := hn rfl
    obtain rfl : l = [] := List.length_eq_zero_iff.1 (by omega)
    obtain ⟨i0, hi, hz0, hz1, hz2⟩ := info_parts Try.infoI
    clear hb hn
    have HZ : Hid (fitV ([] : List Int).sum = 0 ∧ fitB ([] : List Int).sum = true) := by show _ ∧ _; decide
    go_enter Try.func7, Try.ntmps7
    go_wp2_with (first
      | (go_at_call_of 19 (Value.slice (some (⟨w.heap.size, 0, none⟩ : Addr)) 2 2); refine (sum_any [4, -6] 2 _ _ _ rfl (ints_lit w [4, -6] two_ok) (by unfold maxLen; omega)).mono ?_; rw [two_sum.1, two_sum.2]; rintro e w1 ⟨rfl, hb1'⟩; have HB1 : Hid (Below w.heap.size w w1) := bnx (bal (Below.refl _ _) _) hb1'; clear hb1')
      | (go_at_call 9; refine (head04_any w1).mono ?_; rintro e w2 ⟨rfl, hb2⟩; have HB2 : Hid (Below w.heap.size w w2) := bnx HB1.out hb2; clear hb2)
      | (at_builtin; refine wpList_append_own_none rfl _ _ 35 rfl w2.heap.size 2 i0 1 Try.underlying35 hi _ _ _ rfl (litI w2).2 rfl ?_; obtain ⟨w3, hw3⟩ : ∃ w3, w3 = w2.alloc (.cells #[] 2) := ⟨_, rfl⟩; rw [← hw3]; have HB3 : Hid (Below w.heap.size w w3) := (by rw [hw3]; exact bnx HB2.out ((Below.refl w2.heap.size w2).alloc (Nat.le_refl _) _)); clear hw3; obtain ⟨a3, ha3⟩ : ∃ a3 : Option Addr, a3 = some ⟨w2.heap.size, 0, none⟩ := ⟨_, rfl⟩; rw [← ha3]; clear ha3)
      | (go_at_call 20; refine (rsum_any [] 0 _ _ _ rfl ⟨by simp, .inl rfl⟩ (Nat.zero_le _)).mono ?_; rintro e w4 ⟨rs, rfl, hrs, hb4⟩; have HRS : Hid (IsL rs ([] : List Int).sum) := hrs; have HB4 : Hid (Below w.heap.size w w4) := bnx HB3.out hb4; clear hb4 hrs)
      | (go_at_call 10; refine (fits_is rs _ w4 HRS.out).mono ?_; rw [HZ.out.1, HZ.out.2]; rintro e w5 ⟨rfl, hb5⟩; have HB5 : Hid (Below w.heap.size w w5) := bnx HB4.out hb5; clear hb5)
      | (go_at_call_of 19 (a3); refine (sum_any [] 0 _ _ _ rfl ⟨by simp, .inl rfl⟩ (Nat.zero_le _)).mono ?_; rw [HZ.out.1, HZ.out.2]; rintro e w6 ⟨rfl, hb6⟩; have HB6 : Hid (Below w.heap.size w w6) := bnx HB5.out hb6; clear hb6)
      | (go_at_call 21; refine (same_b [] [] 0 0 _ _ _ _ w6 rfl rfl ⟨by simp, .inl rfl⟩ ⟨by simp, .inl rfl⟩ (Nat.zero_le _) (Nat.zero_le _)).mono ?_; rw [decide_eq_true (rfl : ([] : List Int) = [])]; rintro e w7 ⟨rfl, hb7⟩; have HB7 : Hid (Below w.heap.size w w7) := bnx HB6.out hb7; clear hb7))
    go_ret
    exact ⟨ret_bool (by simp), HB7.out⟩
theorem own : ownKnob Try.prog.godebug = none := by kernel_rfl
theorem laidOut : laidOutB Try.prog = true := by kernel_rfl
set_option maxRecDepth 100000 in
theorem contract (H : Type) (enc : TypeId × Value → H) (W : World) (base : Nat) (args : Array Value) (ds gs : List (DataW H)) (before : List MemPlace)
    (hval : ∀ (j : Nat) t v, Try.f7.params[j]? = some t → args[j]? = some v → Value.okWide Try.prog W .any base t v)
    (hW : DataW.Whole enc Try.prog Try.f7.params.toList Rows.numSumsSpec.vars false W args.toList ds gs before)
    (hsz : (DataW.weightsEach Try.prog (Try.f7.params.toList ++ Rows.numSumsSpec.plain.varTypes Try.prog) (ds ++ gs)).all (· ≤ reachBytes) = true) :
    Calls Try.prog 7 args W fun e W' => ∃ v, e = .returned v ∧ Rows.numSumsSpec.post enc Try.prog Try.f7 false true false false W args v W' := by
  have hW' := hW
  obtain ⟨p, q, hA0, hV, rfl, hfz, hnd⟩ := hW
  have hA : DataW.TrodAll enc Try.prog W 0 (fun _ => true) true Try.f7.params.toList args.toList ds p := hA0
  rw [Try.params7] at hA hval hsz
  obtain ⟨v0, vs0, d0, ds0, p0, q0, hargs, rfl, rfl, h0, r0⟩ := trodAll_cons hA
  obtain ⟨rfl, rfl, rfl⟩ := trodAll_nil r0
  obtain rfl : args = #[v0] := by cases args; simp_all
  obtain ⟨rfl, rfl⟩ := trodVars_none hV
  obtain ⟨a0, len0, cap0, rfl⟩ := okWide_slice Try.underlying35 (hval 0 35 v0 rfl rfl)
  have k0 := h0
  have lt0 : ∀ x ∈ p0, x.block < W.heap.size := by obtain ⟨m, hm⟩ := k0; exact DataW.trod_lt m _ _ _ hm
  obtain ⟨l0, hlen0, w0, c0⟩ : ∃ l : List Int, l.length = len0 ∧ Ints W a0 l ∧ Came W a0 len0 cap0 8 := by
    obtain ⟨fuel, hf⟩ := h0
    rcases open_ints Try.underlying35 Try.underlying2 (by kernel_rfl) hf with ⟨hcs, hx⟩ | ⟨x, l, c, zs, hcs, _, hl, hm, hz, hx, hcell, hwz⟩
    · simp [Value.cells] at hcs
      obtain ⟨rfl, rfl, rfl⟩ := hcs
      exact ⟨[], rfl, ⟨by simp, .inl rfl⟩, ⟨Nat.le_refl _, by simp, fun _ => rfl⟩⟩
    · simp [Value.cells] at hcs
      obtain ⟨rfl, rfl, rfl⟩ := hcs
      have hz2 : zs.length = cap0 := by simpa using hz
      obtain ⟨ll, e1, e2, e3⟩ := row_ints W x zs len0 (by omega) hcell hwz
      have hd : d0 = .slice (lits .i64 (zs.take len0)) (lits .i64 (zs.drop len0)) := (Prod.mk.inj hx).1
      have hreach : cap0 * 8 ≤ 140737488351232 := by
        have := sized_slice hsz (j := 0) (t := 35) (e := 2) rfl (by rw [hd]; rfl) Try.underlying35
        rw [show Try.prog.bytesOf 2 = 8 from by kernel_rfl] at this
        simp only [lits, List.length_map, List.length_take, List.length_drop, reachBytes] at this
        have hmin : min len0 zs.length = len0 := Nat.min_eq_left (by omega)
        rw [hmin] at this
        have hcap : len0 + (zs.length - len0) = cap0 := by omega
        rw [hcap] at this
        exact this
      exact ⟨ll, e1, ⟨e2, e3⟩, ⟨hl, hreach, fun h => by cases h⟩⟩
  subst hlen0
  clear hA0
  refine (walk l0 a0 cap0 W w0 c0).mono fun e W' ⟨he, bel⟩ => ?_
  subst he
  exact ⟨_, rfl, _, _, _, [], _, [], hW', trodAll_mk1 (shut_bool Try.underlying4 _), (trodAll_cons_mk (Below.trod laidOut (by kernel_rfl) (of_decide_eq_true (by kernel_rfl)) k0 bel lt0) trodAll_mk0), rfl, bel.frame _, fun h => by cases h⟩
set_option maxRecDepth 100000 in
theorem lifted (os : Os) (started : os.Started) (H : Type) (enc : TypeId × Value → H) :
    ReturnsInHanded {} Try.checked os 7 .any (Rows.numSumsSpec.pre6 enc Try.prog Try.f7 Rows.numSumsRow.domain false) (Rows.numSumsSpec.post enc Try.prog Try.f7 false true false false) := by
  refine returnsInHanded_of_change_sized (C := Try.checked) own started (by kernel_rfl) Try.func7
    (ChangeSpec.witness6 (enc := enc) (C := Try.checked) false ⟨#[], #[.slice none 0 0], []⟩ 8 (by kernel_rfl) (by kernel_rfl) (by kernel_rfl) (by kernel_rfl)) ?_
  intro W base args ds gs before hval hW _ hsz _
  exact contract H enc W base args ds gs before hval hW hsz
theorem over : Rows.numSumsRow.holds Try.pinned (OpenSpec.ofChange Rows.numSumsSpec) :=
  OpenClaim.holds_of_wide 7 Try.f7 rfl rfl rfl rfl rfl rfl rfl ⟨rfl, rfl, rfl, rfl, rfl⟩ rfl rfl rfl rfl rfl (by kernel_rfl) Try.func7 (by kernel_rfl)
    (of_decide_eq_true (by kernel_rfl)) (by unfold Func.isWrapper; first | (rw [if_pos (by decide +kernel)]; kernel_rfl) | (rw [if_neg (by decide +kernel)]; exact ⟨rfl, rfl⟩))
    (fun os started H enc _ => lifted os started H enc)
theorem proved : Rows.NumSumsSaid := over
end Go.Proofs.Ytfkcnegcigggpaa.numSums
