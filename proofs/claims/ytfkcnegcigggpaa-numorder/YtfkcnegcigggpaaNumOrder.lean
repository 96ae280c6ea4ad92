/- A sum is the same from the other end: for every list. -/
import Derived.Test.YtfkcnegcigggpaaInts
import Derived.SizedLaws
import Derived.ChangeOld
import Derived.Laws.AppendOwnNone
import Derived.Deep.RegionWith
namespace Go.Proofs.Ytfkcnegcigggpaa.numOrder
open Go.ChangeShapes Go.WideShapes Go.ChangeAt Go.RowKit
set_option linter.unusedVariables false
theorem litI (w : World) : OwnI (w.alloc (.cells #[] 2)) w.heap.size (.slice (some ⟨w.heap.size, 0, none⟩) 0 0) [] :=
  ⟨by simp, World.ownsRow_lit w #[] 0 (Nat.le_refl _) (by simp) rfl⟩
theorem ownI_nil (w : World) (base : Nat) : OwnI w base (.slice none 0 0) [] := ⟨by simp, World.ownsRow_nil w base _ 1⟩
theorem two_ok : ∀ x ∈ [(4 : Int), -6], inI x := by decide
theorem two_sum : fitV ([(4 : Int), -6]).sum = -2 ∧ fitB ([(4 : Int), -6]).sum = true := by decide
theorem rev_step (l : List Int) (j : Nat) (h : j < l.length) : l.reverse.take (j + 1) = l.reverse.take j ++ [l.getD (l.length - 1 - j) 0] := by
  rw [List.take_add_one, List.getElem?_reverse h, List.getD_eq_getElem?_getD, List.getElem?_eq_getElem (by omega)]
  rfl
theorem OwnI.snoc {w : World} {base : Nat} {v : Value} {l : List Int} {u : Int} (hl : ∀ x ∈ l, inI x) (hu : inI u) (h : w.ownsRow base 2 1 v (l.length + 1) (BI l ++ [.int .i64 u])) : OwnI w base v (l ++ [u]) := by
  refine ⟨fun x hx => ?_, by rw [List.length_append, BI_append]; exact h⟩
  rcases List.mem_append.1 hx with hx | hx
  · exact hl x hx
  · rw [List.mem_singleton.1 hx]; exact hu
set_option maxRecDepth 20000 in
set_option maxHeartbeats 2000000 in
theorem walk_some (l : List Int) (n : Nat) (x : Addr) (cap : Nat) (w : World) (hn : Hid (l.length = n)) (hb : Hid (Ints w (some x) l)) (hf : n ≤ cap) (hr : cap * 8 ≤ 140737488351232) :
    Calls Try.prog 8 #[.slice (some x) n cap] w fun e w' => e = .returned (.bool true) ∧ Below w.heap.size w w' := by
  obtain ⟨i0, hi, hz0, hz1, hz2⟩ := info_parts Try.infoI
  have hnI : (n : Int) ≤ 17592186044416 := by omega
  obtain ⟨p, Ep⟩ : ∃ p, Hid (fitV l.sum = p) := ⟨_, rfl⟩
  obtain ⟨pb, Epb⟩ : ∃ p, Hid (fitB l.sum = p) := ⟨_, rfl⟩
  have HS : Hid (l.reverse.sum = l.sum) := List.sum_reverse_int l
  go_enter Try.func8, Try.ntmps8
  go_wp2_with (first
    | (go_at_call_of 19 (Value.slice (some (⟨w.heap.size, 0, none⟩ : Addr)) 2 2); refine (sum_any [4, -6] 2 _ _ _ rfl (ints_lit w [4, -6] two_ok) (by unfold maxLen; omega)).mono ?_; rw [two_sum.1, two_sum.2]; rintro e w1 ⟨rfl, hb1'⟩; have HB1 : Hid (Below w.heap.size w w1) := bnx (bal (Below.refl _ _) _) hb1'; clear hb1'))
  go_loopw [5, 6] (fun vb vi wr => ∃ j : Nat, j ≤ n ∧ vi = .int .i64 ((n : Int) - 1 - j) ∧ Hid (OwnI wr w.heap.size vb (l.reverse.take j) ∧ Below w.heap.size w wr)) (fun _ vi _ => (intOf vi + 1).toNat)
  case atStart => exact ⟨0, Nat.zero_le _, by simp, ownI_nil _ _, HB1.out⟩
  case round =>
    obtain ⟨j, hj, rfl, HC⟩ := hrel
    by_cases hjn : j < n
    · obtain ⟨q, hq⟩ : ∃ q : Nat, q + j + 1 = n := ⟨n - 1 - j, by omega⟩
      have eq : (n : Int) - 1 - j = (q : Int) := by omega
      rw [eq]
      have hqn : q < n := by omega
      have hIw := hb.out.keep HC.out.2
      obtain ⟨b, off, hx0, hx⟩ : ∃ b off, x = ⟨b, off, none⟩ ∧ wr.cell? ⟨b, off + q, none⟩ = some (.int .i64 (l.getD q 0)) := by
        rcases hIw.2 with h | ⟨b, off, ha, _, hc⟩
        · have := hn.out; rw [h] at this; simp at this; omega
        · exact ⟨b, off, Option.some.inj ha, hc q (by rw [hn.out]; exact hqn)⟩
      have HX : Hid (inI (l.getD q 0)) := by
        show inI _
        rw [List.getD_eq_getElem?_getD, List.getElem?_eq_getElem (by rw [hn.out]; exact hqn)]
        exact hIw.1 _ (List.getElem_mem _)
      have HRS : Hid (l.reverse.take (j + 1) = l.reverse.take j ++ [l.getD q 0]) := by
        show _ = _
        rw [rev_step l j (by rw [hn.out]; exact hjn), show l.length - 1 - j = q from by rw [hn.out]; omega]
      obtain ⟨y, ey⟩ : ∃ y, l.getD q 0 = y := ⟨_, rfl⟩
      rw [ey] at hx HX HRS
      have HRL : Hid ((l.reverse.take j).length = j) := by show _ = _; rw [List.length_take, List.length_reverse, hn.out]; omega
      have HOA : Hid (OwnI wr w.heap.size u5 (l.reverse.take j)) := HC.out.1
      have HO1 : Hid (wr.ownsRow w.heap.size 2 1 u5 j (BI (l.reverse.take j))) := by show World.ownsRow _ _ _ _ _ _ _; have := HC.out.1.2; rw [HRL.out] at this; exact this
      have HB : Hid (Below w.heap.size w wr) := HC.out.2
      have hsz := HB.out.size
      clear hIw ey HC
      subst hx0
      go_wp2_with (first
        | (at_builtin; refine wpList_append_own _ rfl _ _ 35 rfl w.heap.size 2 i0 (.int .i64 0) 1 8 Try.underlying35 hi hz0 hz1 hz2 rfl (by decide) _ _ _ rfl (World.ownsRow.alloc HO1.out _) ⟨wr.heap.size, 0, none⟩ 1 1 [.int .i64 y] rfl rfl (cell_new _ _ _) (one_new _) (by unfold maxLen; omega) (by omega) (by simp; omega) ?_; intro v4 w4 ho4 hg4 _; have hb4 := grown_row (HB.out.alloc hsz _) (World.ownsRow.alloc HO1.out _) (by simp; omega) hg4; clear hg4))
      go_round
      case rel => exact ⟨j + 1, by omega, by go_num, by rw [HRS.out]; exact OwnI.snoc HOA.out.1 HX.out (by rw [HRL.out]; exact ho4), hb4⟩
      case measure => first | (simp [intOf]; done) | (simp [intOf]; omega)
    · have hjn' : n = j := by omega
      subst hjn'
      have HB : Hid (Below w.heap.size w wr) := HC.out.2
      have hsz := HB.out.size
      obtain ⟨a5, c5, hu5, hc5, hm5, hI5⟩ := HC.out.1.shape
      rw [List.take_of_length_le (by rw [List.length_reverse, hn.out]; omega)] at hu5 hI5 hc5
      rw [List.length_reverse, hn.out] at hu5 hc5
      have HI5 : Hid (Ints wr a5 l.reverse) := hI5
      subst hu5
      clear HC hI5
      rw [show (n : Int) - 1 - n = -1 from by omega]
      go_wp2_with (first
        | (at_builtin; refine wpList_append_own _ rfl _ _ 35 rfl wr.heap.size 2 i0 (.int .i64 0) 1 8 Try.underlying35 hi hz0 hz1 hz2 rfl (by decide) _ _ _ rfl (litI wr).2 x n cap (BI l) rfl (by rw [BI_length, hn.out]) (ints_cells ((hb.out.keep HB.out).keep (bal (Below.refl _ _) _))) (BI_one l) (by unfold maxLen; simp; try omega) (by simp; try omega) (by simp) ?_; intro v2 w2 ho2 hg2 _; have hb2 : Below wr.heap.size wr w2 := ((Below.refl wr.heap.size wr).alloc (Nat.le_refl _) _).grown hg2 (by simp) (fun k hk => by cases hk; exact Nat.le_refl _); obtain ⟨a3, cap3, rfl, hc3, hm3, hnm3⟩ := (show OwnI w2 wr.heap.size v2 l from ⟨hb.out.1, by rw [hn.out]; simpa [BI] using ho2⟩).shape; clear ho2 hg2; rw [hn.out])
        | (go_at_call_of 19 (a3); refine (sum_any l n _ _ _ hn.out hnm3 (by unfold maxLen; omega)).mono ?_; rw [Ep.out, Epb.out]; rintro e w3 ⟨rfl, hb3⟩)
        | (go_at_call_of 19 (a5); refine (sum_any l.reverse n _ _ _ (by rw [List.length_reverse, hn.out]) ((HI5.out.keep hb2).keep hb3) (by unfold maxLen; omega)).mono ?_; rw [HS.out, Ep.out, Epb.out]; rintro e w4 ⟨rfl, hb4⟩))
      go_ret
      exact ⟨ret_bool (by simp), bnx (bnx (bnx HB.out hb2) hb3) hb4⟩
theorem walk (l : List Int) (a : Option Addr) (cap : Nat) (w : World) (hb : Ints w a l) (hc : Came w a l.length cap 8) :
    Calls Try.prog 8 #[.slice a l.length cap] w fun e w' => e = .returned (.bool true) ∧ Below w.heap.size w w' := by
  obtain ⟨hf, hr, hn⟩ := hc
  cases a with
  | some x => exact walk_some l _ x cap w rfl hb hf hr
  | none =>
    obtain rfl := hn rfl
    obtain rfl : l = [] := List.length_eq_zero_iff.1 (by omega)
    obtain ⟨i0, hi, hz0, hz1, hz2⟩ := info_parts Try.infoI
    clear hb hn
    have HZ : Hid (fitV ([] : List Int).sum = 0 ∧ fitB ([] : List Int).sum = true) := by show _ ∧ _; decide
    go_enter Try.func8, Try.ntmps8
    go_wp2_with (first
      | (go_at_call_of 19 (Value.slice (some (⟨w.heap.size, 0, none⟩ : Addr)) 2 2); refine (sum_any [4, -6] 2 _ _ _ rfl (ints_lit w [4, -6] two_ok) (by unfold maxLen; omega)).mono ?_; rw [two_sum.1, two_sum.2]; rintro e w1 ⟨rfl, hb1'⟩; have HB1 : Hid (Below w.heap.size w w1) := bnx (bal (Below.refl _ _) _) hb1'; clear hb1'))
    refine wp_loop_rounds 1 ?_
    rw [rounds_succ]
    go_wp2_with (first
      | (at_builtin; refine wpList_append_own_none rfl _ _ 35 rfl w1.heap.size 2 i0 1 Try.underlying35 hi _ _ _ rfl (litI w1).2 rfl ?_; obtain ⟨w2, hw2⟩ : ∃ w2, w2 = w1.alloc (.cells #[] 2) := ⟨_, rfl⟩; rw [← hw2]; have hb2 : Below w1.heap.size w1 w2 := (by rw [hw2]; exact (Below.refl w1.heap.size w1).alloc (Nat.le_refl _) _); clear hw2; obtain ⟨a3, ha3⟩ : ∃ a3 : Option Addr, a3 = some ⟨w1.heap.size, 0, none⟩ := ⟨_, rfl⟩; rw [← ha3]; clear ha3)
      | (go_at_call_of 19 (a3); refine (sum_any [] 0 _ _ _ rfl ⟨by simp, .inl rfl⟩ (Nat.zero_le _)).mono ?_; rw [HZ.out.1, HZ.out.2]; rintro e w3 ⟨rfl, hb3⟩)
      | (go_at_call_of 19 (Value.slice none 0 0); refine (sum_any [] 0 _ _ _ rfl ⟨by simp, .inl rfl⟩ (Nat.zero_le _)).mono ?_; rw [HZ.out.1, HZ.out.2]; rintro e w4 ⟨rfl, hb4⟩))
    go_ret
    exact ⟨ret_bool (by simp), bnx (bnx (bnx HB1.out hb2) hb3) hb4⟩
theorem own : ownKnob Try.prog.godebug = none := by kernel_rfl
theorem laidOut : laidOutB Try.prog = true := by kernel_rfl
set_option maxRecDepth 100000 in
theorem contract (H : Type) (enc : TypeId × Value → H) (W : World) (base : Nat) (args : Array Value) (ds gs : List (DataW H)) (before : List MemPlace)
    (hval : ∀ (j : Nat) t v, Try.f8.params[j]? = some t → args[j]? = some v → Value.okWide Try.prog W .any base t v)
    (hW : DataW.Whole enc Try.prog Try.f8.params.toList Rows.numOrderSpec.vars false W args.toList ds gs before)
    (hsz : (DataW.weightsEach Try.prog (Try.f8.params.toList ++ Rows.numOrderSpec.plain.varTypes Try.prog) (ds ++ gs)).all (· ≤ reachBytes) = true) :
    Calls Try.prog 8 args W fun e W' => ∃ v, e = .returned v ∧ Rows.numOrderSpec.post enc Try.prog Try.f8 false true false false W args v W' := by
  have hW' := hW
  obtain ⟨p, q, hA0, hV, rfl, hfz, hnd⟩ := hW
  have hA : DataW.TrodAll enc Try.prog W 0 (fun _ => true) true Try.f8.params.toList args.toList ds p := hA0
  rw [Try.params8] at hA hval hsz
  obtain ⟨v0, vs0, d0, ds0, p0, q0, hargs, rfl, rfl, h0, r0⟩ := trodAll_cons hA
  obtain ⟨rfl, rfl, rfl⟩ := trodAll_nil r0
  obtain rfl : args = #[v0] := by cases args; simp_all
  obtain ⟨rfl, rfl⟩ := trodVars_none hV
  obtain ⟨a0, len0, cap0, rfl⟩ := okWide_slice Try.underlying35 (hval 0 35 v0 rfl rfl)
  have k0 := h0
  have lt0 : ∀ x ∈ p0, x.block < W.heap.size := by obtain ⟨m, hm⟩ := k0; exact DataW.trod_lt m _ _ _ hm
  obtain ⟨l0, hlen0, w0, c0⟩ : ∃ l : List Int, l.length = len0 ∧ Ints W a0 l ∧ Came W a0 len0 cap0 8 := by
    obtain ⟨fuel, hf⟩ := h0
    rcases open_ints Try.underlying35 Try.underlying2 (by kernel_rfl) hf with ⟨hcs, hx⟩ | ⟨x, l, c, zs, hcs, _, hl, hm, hz, hx, hcell, hwz⟩
    · simp [Value.cells] at hcs
      obtain ⟨rfl, rfl, rfl⟩ := hcs
      exact ⟨[], rfl, ⟨by simp, .inl rfl⟩, ⟨Nat.le_refl _, by simp, fun _ => rfl⟩⟩
    · simp [Value.cells] at hcs
      obtain ⟨rfl, rfl, rfl⟩ := hcs
      have hz2 : zs.length = cap0 := by simpa using hz
      obtain ⟨ll, e1, e2, e3⟩ := row_ints W x zs len0 (by omega) hcell hwz
      have hd : d0 = .slice (lits .i64 (zs.take len0)) (lits .i64 (zs.drop len0)) := (Prod.mk.inj hx).1
      have hreach : cap0 * 8 ≤ 140737488351232 := by
        have := sized_slice hsz (j := 0) (t := 35) (e := 2) rfl (by rw [hd]; rfl) Try.underlying35
        rw [show Try.prog.bytesOf 2 = 8 from by kernel_rfl] at this
        simp only [lits, List.length_map, List.length_take, List.length_drop, reachBytes] at this
        have hmin : min len0 zs.length = len0 := Nat.min_eq_left (by omega)
        rw [hmin] at this
        have hcap : len0 + (zs.length - len0) = cap0 := by omega
        rw [hcap] at this
        exact this
      exact ⟨ll, e1, ⟨e2, e3⟩, ⟨hl, hreach, fun h => by cases h⟩⟩
  subst hlen0
  clear hA0
  refine (walk l0 a0 cap0 W w0 c0).mono fun e W' ⟨he, bel⟩ => ?_
  subst he
  exact ⟨_, rfl, _, _, _, [], _, [], hW', trodAll_mk1 (shut_bool Try.underlying4 _), (trodAll_cons_mk (Below.trod laidOut (by kernel_rfl) (of_decide_eq_true (by kernel_rfl)) k0 bel lt0) trodAll_mk0), rfl, bel.frame _, fun h => by cases h⟩
set_option maxRecDepth 100000 in
theorem lifted (os : Os) (started : os.Started) (H : Type) (enc : TypeId × Value → H) :
    ReturnsInHanded {} Try.checked os 8 .any (Rows.numOrderSpec.pre6 enc Try.prog Try.f8 Rows.numOrderRow.domain false) (Rows.numOrderSpec.post enc Try.prog Try.f8 false true false false) := by
  refine returnsInHanded_of_change_sized (C := Try.checked) own started (by kernel_rfl) Try.func8
    (ChangeSpec.witness6 (enc := enc) (C := Try.checked) false ⟨#[], #[.slice none 0 0], []⟩ 8 (by kernel_rfl) (by kernel_rfl) (by kernel_rfl) (by kernel_rfl)) ?_
  intro W base args ds gs before hval hW _ hsz _
  exact contract H enc W base args ds gs before hval hW hsz
theorem over : Rows.numOrderRow.holds Try.pinned (OpenSpec.ofChange Rows.numOrderSpec) :=
  OpenClaim.holds_of_wide 8 Try.f8 rfl rfl rfl rfl rfl rfl rfl ⟨rfl, rfl, rfl, rfl, rfl⟩ rfl rfl rfl rfl rfl (by kernel_rfl) Try.func8 (by kernel_rfl)
    (of_decide_eq_true (by kernel_rfl)) (by unfold Func.isWrapper; first | (rw [if_pos (by decide +kernel)]; kernel_rfl) | (rw [if_neg (by decide +kernel)]; exact ⟨rfl, rfl⟩))
    (fun os started H enc _ => lifted os started H enc)
theorem proved : Rows.NumOrderSaid := over
end Go.Proofs.Ytfkcnegcigggpaa.numOrder
