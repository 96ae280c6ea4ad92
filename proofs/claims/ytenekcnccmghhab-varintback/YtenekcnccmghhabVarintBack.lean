/- For every number and every text behind it: the number's form is read back, and no shorter beginning of it is a number. No condition. -/
import Derived.Test.YtenekcnccmghhabHead02
import Derived.Test.YtenekcnccmghhabCopy
import Derived.Test.YtenekcnccmghhabVmath
import Derived.SizedLaws
import Derived.ChangeOld
import Derived.Laws.AppendOwnNone
namespace Go.Proofs.Ytenekcnccmghhab.varintBack
open Go.ChangeShapes Go.WideShapes Go.ChangeAt Go.RowKit
set_option linter.unusedVariables false
theorem copy_at (l : List Nat) (n : Nat) (a : Option Addr) (cap : Nat) (w : World) (e1 : l.length = n) (hb : Bytes w a l) (hl : l.length ≤ 281474976710656) :
    Calls Try.prog 10 #[.slice a n cap] w fun e w' => ∃ v, e = .returned v ∧ Own w' w.heap.size v l ∧ Below w.heap.size w w' := by
  subst e1
  exact copy_any l a cap w hb hl
set_option maxRecDepth 20000 in
set_option maxHeartbeats 1000000 in
theorem walk (a0 : Int) (m : List Nat) (a : Option Addr) (cap : Nat) (w : World) (w0 : (Lit.int .u64 a0).wf = true) (hm : Bytes w a m) (hc : Came w a m.length cap 1) :
    Calls Try.prog 4 #[.int .u64 a0, .slice a m.length cap] w fun e w' => e = .returned (.bool true) ∧ Below w.heap.size w w' := by
  obtain ⟨hf, hr, hn⟩ := hc
  obtain ⟨i0, hi, hz0, hz1, hz2⟩ := info_parts Try.info5
  have b0 := wf_u64 _ w0
  obtain ⟨u, rfl⟩ := Int.eq_ofNat_of_zero_le b0.1
  have hu : u ≤ 18446744073709551615 := by have := b0.2; rw [Int.toNat_natCast] at this; omega
  clear w0 b0
  obtain ⟨hl1, hl2⟩ := enc_length_le u hu
  have HCUT : Hid (∀ j, j < (enc u).length → dec 0 0 ((enc u).take j) = (0, 0, 10)) := fun j hj => dec_cut u j hu hj
  have HBACK : Hid (∀ r, dec 0 0 (enc u ++ r) = (u, (enc u).length, 0)) := fun r => dec_back u r hu
  have HBY : Hid (∀ i, (enc u).getD i 0 < 256) := enc_byte u hu
  have HM : Hid (Bytes w a m) := hm
  clear hm
  obtain ⟨l, hl⟩ : ∃ l, l = enc u := ⟨_, rfl⟩
  rw [← hl] at hl1 hl2 HCUT HBACK HBY
  have HL : Hid (l = enc u) := hl
  clear hl
  have hlm : l.length ≤ maxLen := by unfold maxLen; omega
  have hne : l ≠ [] := by intro h; subst h; simp at hl1
  go_enter Try.func4, Try.ntmps4
  go_wp2_with (first
    | (go_at_call 9; refine (head02_any w).mono ?_; rintro e w1 ⟨rfl, hb1⟩)
    | (go_at_call 14; refine (encode_any u _ hu).mono ?_; rw [← HL.out]; rintro e w2 ⟨v, rfl, ho, hb2⟩; obtain ⟨g, cap2, rfl, hcap2, hby2⟩ := ho.row hne; have HB2 : Hid (Bytes w2 (some ⟨g, 0, none⟩) l) := hby2; clear hby2 ho))
  clear hne
  go_loop [6] (fun i => ∃ k : Nat, k ≤ l.length ∧ i = .int .i64 k) (fun i => l.length - (intOf i).toNat)
  case atStart => exact ⟨0, Nat.zero_le _, rfl⟩
  case round =>
    obtain ⟨k, hk, rfl⟩ := hrel
    by_cases hlt : k < l.length
    · have hk2 : (k : Int) ≤ cap2 := by omega
      have HT : Hid ((l.take k).length = k) := by show _ = _; rw [List.length_take]; omega
      have HTM : Hid ((l.take k).length ≤ maxLen) := by show _ ≤ _; rw [List.length_take]; omega
      go_wp2_with (go_at_call 12; refine (dec_at (l.take k) _ 0 0 10 _ _ _ HT.out (HCUT.out k hlt) (HB2.out.take k) HTM.out).mono ?_; rintro e w3 ⟨rfl, rfl⟩)
      go_round
      case rel => exact ⟨k + 1, by omega, by go_num⟩
      case measure => simp [intOf]; omega
    · have hkl : k = l.length := by omega
      subst hkl
      clear hl1 hcap2 HCUT
      cases a with
      | none =>
        have hcap0 := hn rfl
        subst hcap0
        have hm0 : m = [] := List.length_eq_zero_iff.1 (by omega)
        subst hm0
        have HBK : Hid (dec 0 0 l = (u, l.length, 0)) := by
          have h := HBACK.out []
          rw [List.append_nil] at h
          exact h
        go_wp2_with (first
          | (go_at_call 10; refine (copy_at l _ _ _ _ rfl HB2.out (by omega)).mono ?_; rintro e w3 ⟨v3, rfl, ho3, hb3⟩; obtain ⟨a3, cap3, rfl, hby3⟩ := ho3.slice)
          | (at_builtin; refine wpList_append_own_none rfl _ _ 22 rfl w2.heap.size 5 i0 1 Try.underlying22 hi _ _ _ rfl ho3.2 rfl ?_)
          | (go_at_call 12; refine (dec_at l _ u l.length 0 _ _ _ rfl HBK.out hby3 hlm).mono ?_; rintro e w4 ⟨rfl, rfl⟩)
          | (go_at_call 15; refine (size_any u _ hu).mono ?_; rw [← HL.out]; rintro e w4 ⟨rfl, rfl⟩))
        go_ret
        exact ⟨rfl, hb1.trans ((hb2.mono hb1.size).trans (hb3.mono (Nat.le_trans hb1.size hb2.size)))⟩
      | some x =>
        have HBK : Hid (_ = _) := HBACK.out m
        have hs13 : w.heap.size ≤ w2.heap.size := Nat.le_trans hb1.size hb2.size
        have hlen2 : (l ++ m).length ≤ maxLen := by rw [List.length_append]; unfold maxLen; omega
        have HLA : Hid ((l ++ m).length = l.length + m.length) := List.length_append
        go_wp2_with (first
          | (go_at_call 10; refine (copy_at l _ _ _ _ rfl HB2.out (by omega)).mono ?_; rintro e w3 ⟨v3, rfl, ho3, hb3⟩; have HM3 : Hid (Bytes w3 (some x) m) := ((HM.out.keep hb1).keep hb2).keep hb3)
          | (at_builtin; refine wpList_append_own _ rfl _ _ 22 rfl w2.heap.size 5 i0 (.int .u8 0) 1 1 Try.underlying22 hi hz0 hz1 hz2 rfl (by decide) _ _ _ rfl ho3.2 x m.length cap (B8 m) rfl (B8_length m) (bytes_cells HM3.out) (B8_one m) (by unfold maxLen; omega) (by omega) hb3.size ?_; intro v4 w4 ho4 hg4 _; have hb4 := grown_row (Below.refl w2.heap.size w3) ho3.2 hb3.size hg4; obtain ⟨a4, cap4, rfl, hby4⟩ := (Own.append HBY.out HM.out.1 ho4).slice; clear ho4 hg4)
          | (go_at_call 12; refine (dec_at (l ++ m) _ u l.length 0 _ _ _ HLA.out HBK.out hby4 hlen2).mono ?_; rintro e w5 ⟨rfl, rfl⟩)
          | (go_at_call 15; refine (size_any u _ hu).mono ?_; rw [← HL.out]; rintro e w4 ⟨rfl, rfl⟩))
        go_ret
        exact ⟨rfl, hb1.trans ((hb2.mono hb1.size).trans ((hb3.mono hs13).trans (hb4.mono hs13)))⟩
theorem own : ownKnob Try.prog.godebug = none := by kernel_rfl
theorem laidOut : laidOutB Try.prog = true := by kernel_rfl
set_option maxRecDepth 100000 in
theorem contract (H : Type) (enc : TypeId × Value → H) (W : World) (base : Nat) (args : Array Value) (ds gs : List (DataW H)) (before : List MemPlace)
    (hval : ∀ (j : Nat) t v, Try.f4.params[j]? = some t → args[j]? = some v → Value.okWide Try.prog W .any base t v)
    (hW : DataW.Whole enc Try.prog Try.f4.params.toList Rows.varintBackSpec.vars false W args.toList ds gs before)
    (hsz : (DataW.weightsEach Try.prog (Try.f4.params.toList ++ Rows.varintBackSpec.plain.varTypes Try.prog) (ds ++ gs)).all (· ≤ reachBytes) = true) :
    Calls Try.prog 4 args W fun e W' => ∃ v, e = .returned v ∧ Rows.varintBackSpec.post enc Try.prog Try.f4 false true false false W args v W' := by
  have hW' := hW
  obtain ⟨p, q, hA0, hV, rfl, hfz, hnd⟩ := hW
  have hA : DataW.TrodAll enc Try.prog W 0 (fun _ => true) true Try.f4.params.toList args.toList ds p := hA0
  rw [Try.params4] at hA hval hsz
  obtain ⟨v0, vs0, d0, ds0, p0, q0, hargs, rfl, rfl, h0, r0⟩ := trodAll_cons hA
  obtain ⟨v1, vs1, d1, ds1, p1, q1, rfl, rfl, rfl, h1, r1⟩ := trodAll_cons r0
  obtain ⟨rfl, rfl, rfl⟩ := trodAll_nil r1
  obtain rfl : args = #[v0, v1] := by cases args; simp_all
  obtain ⟨rfl, rfl⟩ := trodVars_none hV
  obtain ⟨a0, rfl, rfl, rfl, w0⟩ := open_int Try.underlying25 (hval 0 25 v0 rfl rfl) h0
  obtain ⟨a1, len1, cap1, rfl⟩ := okWide_slice Try.underlying22 (hval 1 22 v1 rfl rfl)
  have k1 := h1
  have lt1 : ∀ x ∈ p1, x.block < W.heap.size := by obtain ⟨m, hm⟩ := k1; exact DataW.trod_lt m _ _ _ hm
  obtain ⟨l1, hlen1, w1, c1⟩ : ∃ l : List Nat, l.length = len1 ∧ Bytes W a1 l ∧ Came W a1 len1 cap1 1 := by
    obtain ⟨fuel, hf⟩ := h1
    rcases open_ints Try.underlying22 Try.underlying5 (by kernel_rfl) hf with ⟨hcs, hx⟩ | ⟨x, l, c, zs, hcs, _, hl, hm, hz, hx, hcell, hwz⟩
    · simp [Value.cells] at hcs
      obtain ⟨rfl, rfl, rfl⟩ := hcs
      exact ⟨[], rfl, ⟨by simp, .inl rfl⟩, ⟨Nat.le_refl _, by simp, fun _ => rfl⟩⟩
    · simp [Value.cells] at hcs
      obtain ⟨rfl, rfl, rfl⟩ := hcs
      have hz2 : zs.length = cap1 := by simpa using hz
      obtain ⟨ll, e1, e2, e3⟩ := row_nats .u8 256 (by decide) wf_u8 W x zs len1 (by omega) hcell hwz
      have hd : d1 = .slice (lits .u8 (zs.take len1)) (lits .u8 (zs.drop len1)) := (Prod.mk.inj hx).1
      have hreach : cap1 * 1 ≤ 140737488351232 := by
        have := sized_slice hsz (j := 1) (t := 22) (e := 5) rfl (by rw [hd]; rfl) Try.underlying22
        rw [show Try.prog.bytesOf 5 = 1 from by kernel_rfl] at this
        simp only [lits, List.length_map, List.length_take, List.length_drop, reachBytes] at this
        have hmin : min len1 zs.length = len1 := Nat.min_eq_left (by omega)
        rw [hmin] at this
        have hcap : len1 + (zs.length - len1) = cap1 := by omega
        rw [hcap] at this
        exact this
      exact ⟨ll, e1, ⟨e2, e3⟩, ⟨hl, hreach, fun h => by cases h⟩⟩
  subst hlen1
  clear hA0
  refine (walk a0 l1 a1 cap1 W w0 w1 c1).mono fun e W' ⟨he, bel⟩ => ?_
  subst he
  exact ⟨_, rfl, _, _, _, [], _, [], hW', trodAll_mk1 (shut_bool Try.underlying4 _), (trodAll_cons_mk (shut_int Try.underlying25 w0) (trodAll_cons_mk (Below.trod laidOut (by kernel_rfl) (of_decide_eq_true (by kernel_rfl)) k1 bel lt1) trodAll_mk0)), rfl, bel.frame _, fun h => by cases h⟩
set_option maxRecDepth 100000 in
theorem lifted (os : Os) (started : os.Started) (H : Type) (enc : TypeId × Value → H) :
    ReturnsInHanded {} Try.checked os 4 .any (Rows.varintBackSpec.pre6 enc Try.prog Try.f4 Rows.varintBackRow.domain false) (Rows.varintBackSpec.post enc Try.prog Try.f4 false true false false) := by
  refine returnsInHanded_of_change_sized (C := Try.checked) own started (by kernel_rfl) Try.func4
    (ChangeSpec.witness6 (enc := enc) (C := Try.checked) false ⟨#[], #[.int .u64 0, .slice none 0 0], []⟩ 8 (by kernel_rfl) (by kernel_rfl) (by kernel_rfl) (by kernel_rfl)) ?_
  intro W base args ds gs before hval hW _ hsz _
  exact contract H enc W base args ds gs before hval hW hsz
theorem over : Rows.varintBackRow.holds Try.pinned (OpenSpec.ofChange Rows.varintBackSpec) :=
  OpenClaim.holds_of_wide 4 Try.f4 rfl rfl rfl rfl rfl rfl rfl ⟨rfl, rfl, rfl, rfl, rfl⟩ rfl rfl rfl rfl rfl (by kernel_rfl) Try.func4 (by kernel_rfl)
    (of_decide_eq_true (by kernel_rfl)) (by unfold Func.isWrapper; first | (rw [if_pos (by decide +kernel)]; kernel_rfl) | (rw [if_neg (by decide +kernel)]; exact ⟨rfl, rfl⟩))
    (fun os started H enc _ => lifted os started H enc)
theorem proved : Rows.VarintBackSaid := over
end Go.Proofs.Ytenekcnccmghhab.varintBack
