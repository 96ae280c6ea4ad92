/- For every text and every stride: segment.Footer answers as the document says, leaves the text as it was, and its answer is new memory. Condition: the arguments hold together at most 1048576 values and letters (the second form). -/
import Derived.Test.YtaegmeilhdbnnaaDoorJ00
import Derived.Test.YtaegmeilhdbnnaaDoorJ19
import Derived.Test.YtaegmeilhdbnnaaDoorJ18
import Derived.Test.YtaegmeilhdbnnaaDoorJ20
import Derived.Deep.CondSized
import Derived.SizedLaws
import Derived.ChangeOld
namespace Go.Proofs.YtaegmeilhdbnnaaDoor.segmentSeals
open Go.ChangeShapes Go.WideShapes Go.ChangeAt Go.RowKit
set_option linter.unusedVariables false
theorem own_bytes {w : World} {base n c : Nat} {a : Option Addr} {l : List Nat} (h : Own w base (.slice a n c) l) : Bytes w a l := by
  obtain ⟨a2, c2, h1, _, _, h2, _⟩ := h.shape
  simp only [Value.slice.injEq] at h1
  rw [h1.1]
  exact h2
theorem ftV_len (l : List Nat) (st : Int) (hmem : ∀ z ∈ l, z < 256) (hl : l.length ≤ 16777216) : (ftV l st).length ≤ 16404 := by
  unfold ftV
  by_cases h : ftE l st = 0
  · rw [if_pos h]
    unfold ftE at h
    by_cases h1 : stB st = false
    · rw [if_pos h1] at h; omega
    rw [if_neg h1] at h
    cases hh : hdr l with
    | none => rw [if_pos hh] at h; omega
    | some q =>
      obtain ⟨X, Y⟩ := q
      obtain ⟨_, _, _, hX1, hX2, hY1, hY2, _, hpn⟩ := hdr_some l hmem X Y hh
      have hoY' : hoY l = Y := by unfold hoY; rw [hh]; rfl
      have hok : EvOk Y (sgE l) := by unfold sgE; rw [hoY']; exact (runL_ok l (pn l + 20) Y hY1 hpn hl).1
      have hst := of_decide_eq_true (show decide (1 ≤ st ∧ st ≤ 64) = true from by simpa [stB] using h1)
      have := (foot_facts Y (sgE l) st.toNat hok hY2 (by omega)).2.1
      unfold sealL
      rw [frameL_length, hoY']
      omega
  · rw [if_neg h]; simp
set_option maxRecDepth 20000 in
set_option maxHeartbeats 4000000 in
theorem walk (l : List Nat) (a : Option Addr) (cap : Nat) (st : Int) (w : World) (hb : Bytes w a l) (hc : Came w a l.length cap 1) (w1 : (Lit.int .i64 st).wf = true) (hsum : cap ≤ 1048576) (ht : Tab w) :
    Calls Tryd.prog 5 #[.slice a l.length cap, .int .i64 st] w fun e w' => e = .returned (.bool true) ∧ Below w.heap.size w w' := by
  obtain ⟨hf, hr, hn⟩ := hc
  obtain ⟨m, hN⟩ : ∃ n, l.length = n := ⟨_, rfl⟩
  rw [hN] at hf ⊢
  have hl : m ≤ 1048576 := by omega
  have HB : Hid (Bytes w a l ∧ l.length = m ∧ Tab w) := ⟨hb, hN, ht⟩
  obtain ⟨E, hE⟩ : ∃ E, ftE l st = E := ⟨_, rfl⟩
  obtain ⟨V, hV⟩ : ∃ V, ftV l st = V := ⟨_, rfl⟩
  obtain ⟨L, hL⟩ : ∃ L, V.length = L := ⟨_, rfl⟩
  have hLb : L ≤ 16404 := by rw [← hL, ← hV]; exact ftV_len l st hb.mem (by omega)
  have HE : Hid (ftE l st = E ∧ ftV l st = V ∧ V.length = L) := ⟨hE, hV, hL⟩
  have T1 : Hid True := trivial
  have T2 : Hid True := trivial
  clear hb ht hN hr hn w1 hE hV hL
  go_enter Tryd.func5, Tryd.ntmps5
  go_wp2_with (first
    | (go_at_call 9; refine (head14_any w HB.out.2.2).mono ?_; rintro e w1 ⟨rfl, hb1⟩; have HB1 : Hid (Below w.heap.size w w1) := hb1; clear hb1)
    | (go_at_call 20; refine (rfooter14_any l m a cap st w1 HB.out.2.1 (HB.out.1.keep HB1.out) hf (by omega)).mono ?_; rw [HE.out.1, HE.out.2.1]; rintro r w2 ⟨v2, rfl, ho2, hb2⟩; obtain ⟨a2, c2, hv2, _, _, hy2, _⟩ := ho2.shape; rw [HE.out.2.2] at hv2; subst hv2; have HB2 : Hid (Below w.heap.size w w2 ∧ Bytes w2 a2 V) := ⟨below_next HB1.out hb2, hy2⟩; clear ho2 hb2 hy2)
    | (go_at_call 15; refine (copy_n l m a cap w2 HB.out.2.1 (HB.out.1.keep HB2.out.1) (by omega)).mono ?_; rintro r w3 ⟨a3, c3, rfl, hc3, hy3, hb3⟩; have HB3 : Hid (Below w.heap.size w w3 ∧ Bytes w3 a3 l ∧ m ≤ c3 ∧ Bytes w3 a2 V) := ⟨below_next HB2.out.1 hb3, hy3, hc3, HB2.out.2.keep hb3⟩; clear hb3 hy3 hc3)
    | (go_at_call 21; clear T1; refine (footer14_any l m a3 c3 st w3 HB.out.2.1 HB3.out.2.1 HB3.out.2.2.1 (by omega) (HB.out.2.2.keep HB3.out.1)).mono ?_; rw [HE.out.1, HE.out.2.1]; rintro r w4 ⟨v4, rfl, ho4, hb4⟩; obtain ⟨a4, c4, hv4, _⟩ := ho4.shape; rw [HE.out.2.2] at hv4; subst hv4; have HB4 : Hid (Below w3.heap.size w3 w4 ∧ Own w4 w3.heap.size (.slice a4 L c4) V) := ⟨hb4, ho4⟩; have hs4 : w3.heap.size ≤ w4.heap.size := hb4.size; clear ho4 hb4)
    | (go_at_call 21; refine (footer14_any l m a3 c3 st w4 HB.out.2.1 (HB3.out.2.1.keep HB4.out.1) HB3.out.2.2.1 (by omega) ((HB.out.2.2.keep HB3.out.1).keep HB4.out.1)).mono ?_; rw [HE.out.1, HE.out.2.1]; rintro r w5 ⟨v5, rfl, ho5, hb5⟩; obtain ⟨a5, c5, hv5, _⟩ := ho5.shape; rw [HE.out.2.2] at hv5; subst hv5; have HB5 : Hid (Below w3.heap.size w3 w5 ∧ Own w5 w3.heap.size (.slice a4 L c4) V ∧ Own w5 w4.heap.size (.slice a5 L c5) V) := ⟨below_next HB4.out.1 hb5, ⟨HB4.out.2.1, own_below HB4.out.2.2 hb5⟩, ho5⟩; have hs5 : w4.heap.size ≤ w5.heap.size := hb5.size; clear ho5 hb5)
    | (go_at_call 12; clear T2; refine (same_at V V L L a4 a2 c4 c2 w5 HE.out.2.2 HE.out.2.2 (own_bytes HB5.out.2.1) (HB3.out.2.2.2.keep HB5.out.1) (by rw [HE.out.2.2]; unfold maxLen; omega) (by rw [HE.out.2.2]; unfold maxLen; omega)).mono ?_; rw [decide_eq_true (rfl : V = V)]; rintro r w6 ⟨rfl, nq, hq6⟩; have HB6 : Hid (Below w5.heap.size w5 w6) := (by rw [hq6]; exact below_drewN (Below.refl _ _) nq); clear hq6)
    | (go_at_call 12; refine (same_at l l m m a3 a c3 cap w6 HB.out.2.1 HB.out.2.1 ((HB3.out.2.1.keep HB5.out.1).keep HB6.out) ((HB.out.1.keep (below_next HB3.out.1 HB5.out.1)).keep HB6.out) (by rw [HB.out.2.1]; unfold maxLen; omega) (by rw [HB.out.2.1]; unfold maxLen; omega)).mono ?_; rw [decide_eq_true (rfl : l = l)]; rintro r w7 ⟨rfl, nq, hq7⟩; have HB7 : Hid (Below w5.heap.size w5 w7) := (by rw [hq7]; exact below_drewN HB6.out nq); clear hq7))
  have HO7 : Hid (Own w7 w3.heap.size (.slice a4 L c4) V ∧ Own w7 w4.heap.size (.slice a5 L c5) V ∧ Below w3.heap.size w3 w7 ∧ Below w.heap.size w w7) := ⟨⟨HB5.out.2.1.1, own_below HB5.out.2.1.2 HB7.out⟩, ⟨HB5.out.2.2.1, own_below HB5.out.2.2.2 HB7.out⟩, below_next HB5.out.1 HB7.out, below_next (below_next HB3.out.1 HB5.out.1) HB7.out⟩
  have hs7 : w5.heap.size ≤ w7.heap.size := HB7.out.size
  by_cases hL0 : L = 0
  · subst hL0
    go_loopw [52] (fun vi wr => ∃ i : Nat, i ≤ 0 ∧ vi = .int .i64 i ∧ w7 = wr) (fun vi _ => 0)
    case atStart => exact ⟨0, Nat.le_refl _, rfl, rfl⟩
    case round =>
      obtain ⟨i, hi0, rfl, hwr⟩ := hrel
      subst hwr
      obtain rfl : i = 0 := by omega
      go_wp2_with (go_at_call 12; refine (same_at V V 0 0 a5 a2 c5 c2 w7 HE.out.2.2 HE.out.2.2 (own_bytes HO7.out.2.1) (HB3.out.2.2.2.keep HO7.out.2.2.1) (by rw [HE.out.2.2]; unfold maxLen; omega) (by rw [HE.out.2.2]; unfold maxLen; omega)).mono ?_; rw [decide_eq_true (rfl : V = V)]; rintro r w8 ⟨rfl, nq, rfl⟩)
      go_ret
      exact ⟨rfl, below_drewN HO7.out.2.2.2 nq⟩
  · obtain ⟨g4, c4', hv4, hg4, hg4s⟩ := World.ownsRow.form (by have h := HB4.out.2.2; rw [HE.out.2.2] at h; exact h) (show 0 < L by omega)
    cases hv4
    have HR7 : Hid (w7.ownsRow w3.heap.size 5 1 (.slice (some ⟨g4, 0, none⟩) L c4) L (B8 V) ∧ ∀ x ∈ V, x < 256) := ⟨by have h := HO7.out.1.2; rw [HE.out.2.2] at h; exact h, by obtain ⟨_, _, _, _, _, h2, _⟩ := HO7.out.1.shape; exact h2.mem⟩
    have hLI : (L : Int) ≤ 16404 := by omega
    go_loopw [52] (fun vi wr => ∃ (j : Nat) (t : List Nat), j ≤ L ∧ vi = .int .i64 j ∧ t.length = L ∧ (∀ x ∈ t, x < 256) ∧ wr.ownsRow w3.heap.size 5 1 (.slice (some ⟨g4, 0, none⟩) L c4) L (B8 t) ∧ Btw w3.heap.size w4.heap.size w7 wr) (fun vi _ => L - (intOf vi).toNat)
    case atStart => exact ⟨0, V, Nat.zero_le _, rfl, HE.out.2.2, HR7.out.2, HR7.out.1, Btw.refl _ _ _⟩
    case round =>
      obtain ⟨j, t, hj, rfl, htl, htb, ho, hbt⟩ := hrel
      have HTB : Hid ((∀ x ∈ t, x < 256) ∧ t.length = L ∧ Btw w3.heap.size w4.heap.size w7 wr) := ⟨htb, htl, hbt⟩
      clear htb hbt
      by_cases hjl : j < L
      · obtain ⟨x, hx⟩ : ∃ x, x = t.getD j 0 := ⟨_, rfl⟩
        have hx256 : x < 256 := by rw [hx]; exact getD_lt HTB.out.1 j
        obtain ⟨e9, hlt9⟩ := xor255 x hx256
        have e2 := World.ownsRow.cellAt ho j (by omega)
        rw [B8_get t j (by omega), ← hx] at e2
        have e3 := World.ownsRow.frozenAt ho j
        have hst := World.ownsRow.stored ho j (.int .u8 ((x ^^^ 255 : Nat) : Int))
        rw [← B8_set] at hst
        have HS : Hid (_ ∧ _) := ⟨hst.1, HTB.out.2.2.set g4 j (.int .u8 ((x ^^^ 255 : Nat) : Int)) hg4 hg4s⟩
        have HTB2 : Hid (∀ y ∈ t.set j (x ^^^ 255), y < 256) := by
          intro y hy
          rcases List.mem_or_eq_of_mem_set hy with h | h
          · exact HTB.out.1 y h
          · rw [h]; exact hlt9
        generalize x ^^^ 255 = z at *
        clear hst ho hx htl hlt9
        go_wp2
        go_roundw
        case rel => exact ⟨j + 1, t.set j z, by omega, by go_num, by rw [List.length_set]; exact HTB.out.2.1, HTB2.out, HS.out.1, HS.out.2⟩
        case measure => simp [intOf]; omega
      · have HW9 : Hid (Below w3.heap.size w3 wr ∧ Own wr w4.heap.size (.slice a5 L c5) V) := ⟨HO7.out.2.2.1.trans HTB.out.2.2.low, ⟨HO7.out.2.1.1, row_same HO7.out.2.1.2 (fun k h1 h2 => HTB.out.2.2.up k h1 h2)⟩⟩
        clear ho htl
        go_wp2_with (go_at_call 12; refine (same_at V V L L a5 a2 c5 c2 wr HE.out.2.2 HE.out.2.2 (own_bytes HW9.out.2) (HB3.out.2.2.2.keep HW9.out.1) (by rw [HE.out.2.2]; unfold maxLen; omega) (by rw [HE.out.2.2]; unfold maxLen; omega)).mono ?_; rw [decide_eq_true (rfl : V = V)]; rintro r w8 ⟨rfl, nq, rfl⟩)
        go_ret
        exact ⟨rfl, below_drewN (below_next HB3.out.1 HW9.out.1) nq⟩
theorem own : ownKnob Tryd.prog.godebug = none := by kernel_rfl
theorem laidOut : laidOutB Tryd.prog = true := by kernel_rfl
set_option maxRecDepth 100000 in
theorem contract (H : Type) (enc : TypeId × Value → H) (W : World) (base : Nat) (args : Array Value) (ds gs : List (DataW H)) (before : List MemPlace)
    (hval : ∀ (j : Nat) t v, Tryd.f5.params[j]? = some t → args[j]? = some v → Value.okWide Tryd.prog W .any base t v)
    (hW : DataW.Whole enc Tryd.prog Tryd.f5.params.toList Rows.segmentSealsSpec.vars false W args.toList ds gs before)
    (hsz : (DataW.weightsEach Tryd.prog (Tryd.f5.params.toList ++ Rows.segmentSealsSpec.plain.varTypes Tryd.prog) (ds ++ gs)).all (· ≤ reachBytes) = true) (hk : Rows.uptoSmall H (ds ++ gs) = true) (hL : laidMetH Tryd.prog ([("daybook/crc.halves", Rows.laid_daybook_crc_halves)]) W) :
    Calls Tryd.prog 5 args W fun e W' => ∃ v, e = .returned v ∧ Rows.segmentSealsSpec.post enc Tryd.prog Tryd.f5 false true false false W args v W' := by
  have hW' := hW
  obtain ⟨p, q, hA0, hV, rfl, hfz, hnd⟩ := hW
  have hA : DataW.TrodAll enc Tryd.prog W 0 (fun _ => true) true Tryd.f5.params.toList args.toList ds p := hA0
  rw [Tryd.params5] at hA hval hsz
  obtain ⟨v0, vs0, d0, ds0, p0, q0, hargs, rfl, rfl, h0, r0⟩ := trodAll_cons hA
  obtain ⟨v1, vs1, d1, ds1, p1, q1, rfl, rfl, rfl, h1, r1⟩ := trodAll_cons r0
  obtain ⟨rfl, rfl, rfl⟩ := trodAll_nil r1
  obtain rfl : args = #[v0, v1] := by cases args; simp_all
  obtain ⟨rfl, rfl⟩ := trodVars_none hV
  obtain ⟨a0, len0, cap0, rfl⟩ := okWide_slice Tryd.underlying22 (hval 0 22 v0 rfl rfl)
  have k0 := h0
  have lt0 : ∀ x ∈ p0, x.block < W.heap.size := by obtain ⟨m, hm⟩ := k0; exact DataW.trod_lt m _ _ _ hm
  obtain ⟨l0, hlen0, w0, c0, u0⟩ : ∃ l : List Nat, l.length = len0 ∧ Bytes W a0 l ∧ Came W a0 len0 cap0 1 ∧ cap0 + 1 ≤ Rows.uptoBulk d0 := by
    obtain ⟨fuel, hf⟩ := h0
    rcases open_ints Tryd.underlying22 Tryd.underlying5 (by kernel_rfl) hf with ⟨hcs, hx⟩ | ⟨x, l, c, zs, hcs, _, hl, hm, hz, hx, hcell, hwz⟩
    · simp [Value.cells] at hcs
      obtain ⟨rfl, rfl, rfl⟩ := hcs
      obtain ⟨rfl, rfl⟩ := Prod.mk.inj hx
      exact ⟨[], rfl, ⟨by simp, .inl rfl⟩, ⟨Nat.le_refl _, by simp, fun _ => rfl⟩, by simp [Rows.uptoBulk]⟩
    · simp [Value.cells] at hcs
      obtain ⟨rfl, rfl, rfl⟩ := hcs
      have hz2 : zs.length = cap0 := by simpa using hz
      obtain ⟨ll, e1, e2, e3⟩ := row_nats .u8 256 (by decide) wf_u8 W x zs len0 (by omega) hcell hwz
      have hd : d0 = .slice (lits .u8 (zs.take len0)) (lits .u8 (zs.drop len0)) := (Prod.mk.inj hx).1
      have hreach : cap0 * 1 ≤ 140737488351232 := by
        have := sized_slice hsz (j := 0) (t := 22) (e := 5) rfl (by rw [hd]; rfl) Tryd.underlying22
        rw [show Tryd.prog.bytesOf 5 = 1 from by kernel_rfl] at this
        simp only [lits, List.length_map, List.length_take, List.length_drop, reachBytes] at this
        have hmin : min len0 zs.length = len0 := Nat.min_eq_left (by omega)
        rw [hmin] at this
        have hcap : len0 + (zs.length - len0) = cap0 := by omega
        rw [hcap] at this
        exact this
      refine ⟨ll, e1, ⟨e2, e3⟩, ⟨hl, hreach, fun h => by cases h⟩, ?_⟩
      rw [hd]
      have := bulks.slice_le (lits (H := H) .u8 (zs.take len0)) (lits .u8 (zs.drop len0))
      simp only [lits, List.length_map, List.length_take, List.length_drop] at this ⊢
      omega
  subst hlen0
  obtain ⟨a1, rfl, rfl, rfl, w1⟩ := open_int Tryd.underlying3 (hval 1 3 v1 rfl rfl) h1
  have hbk := bulks.bound hk
  simp only [List.append_nil, Rows.uptoBulkAll] at hbk
  have hsum : cap0 ≤ 1048576 := by omega
  clear hA0
  refine (walk l0 a0 cap0 a1 W w0 c0 w1 hsum (tab_of hL)).mono fun e W' ⟨he, bel⟩ => ?_
  subst he
  exact ⟨_, rfl, _, _, _, [], _, [], hW', trodAll_mk1 (shut_bool Tryd.underlying4 _), (trodAll_cons_mk (Below.trod laidOut (by kernel_rfl) (of_decide_eq_true (by kernel_rfl)) k0 bel lt0) (trodAll_cons_mk (shut_int Tryd.underlying3 w1) trodAll_mk0)), rfl, bel.frame _, fun h => by cases h⟩
set_option maxRecDepth 100000 in
theorem start (os : Os) : ∃ w0 : World, w0.os = os ∧ (w0.forCall (fun _ _ => 0) ⟨#[], #[.slice none 0 0, .int .i64 0], []⟩).variablesB Tryd.prog = true ∧
    ((w0.forCall (fun _ _ => 0) ⟨#[], #[.slice none 0 0, .int .i64 0], []⟩).heap.toList.drop Tryd.prog.globals.size).take ((begin Tryd.prog (fun _ _ => 0) default).world.heap.size - Tryd.prog.globals.size) = (begin Tryd.prog (fun _ _ => 0) default).world.heap.toList.drop Tryd.prog.globals.size ∧
    Input.okWideB Tryd.prog (w0.forCall (fun _ _ => 0) ⟨#[], #[.slice none 0 0, .int .i64 0], []⟩) 5 ⟨#[], #[.slice none 0 0, .int .i64 0], []⟩ = true ∧
    laidMet Tryd.prog Rows.segmentSealsUptoRow.laid (w0.forCall (fun _ _ => 0) ⟨#[], #[.slice none 0 0, .int .i64 0], []⟩).memory ∧
    ∀ (H : Type) (enc : TypeId × Value → H), DataW.whole enc Tryd.prog (w0.forCall (fun _ _ => 0) ⟨#[], #[.slice none 0 0, .int .i64 0], []⟩).memory Tryd.f5.params.toList Rows.segmentSealsSpec.vars false (#[.slice none 0 0, .int .i64 0] : Array Value).toList 8 = some ([.nil, .lit (.int .i64 0)], [], []) :=
  ⟨{ World.holding Tryd.prog os ⟨#[], #[], []⟩ with heap := (World.holding Tryd.prog os ⟨#[], #[], []⟩).heap.modify 0 fun
      | .cells _ t frozen => .cells #[.int .u32 0, .int .u32 498536548, .int .u32 997073096, .int .u32 651767980, .int .u32 1994146192, .int .u32 1802195444, .int .u32 1303535960, .int .u32 1342533948, .int .u32 3988292384, .int .u32 4027552580, .int .u32 3604390888, .int .u32 3412177804, .int .u32 2607071920, .int .u32 2262029012, .int .u32 2685067896, .int .u32 3183342108] t frozen
      | o => o }, rfl, by kernel_rfl, by kernel_rfl, by kernel_rfl, laidMet_of_run' 8 (by kernel_rfl) (by kernel_rfl), fun _ _ => by kernel_rfl⟩
set_option maxRecDepth 100000 in
theorem lifted (os : Os) (started : os.Started) (H : Type) (enc : TypeId × Value → H) (F : Stop.Interp) :
    ReturnsInHanded {} Tryd.checked os 5 .any ((Rows.OpenSpec.upto Rows.segmentSealsSpec).preRow enc Tryd.prog Tryd.f5 Rows.segmentSealsUptoRow.domain false Rows.segmentSealsUptoRow.laid) (((Rows.OpenSpec.upto Rows.segmentSealsSpec).at F).post enc Tryd.prog Tryd.f5 false true false false) := by
  obtain ⟨w0, h1, h2, h3, h4, h5, h6⟩ := start os
  refine returnsInHanded_of_row (C := Tryd.checked) (s := Rows.OpenSpec.upto Rows.segmentSealsSpec) own started (by kernel_rfl) Tryd.func5
    (witness_row_at (enc := enc) (C := Tryd.checked) false w0 #[.slice none 0 0, .int .i64 0] h1 h2 h3 h4
      (OpenSpec.preRow_of_cond 8 (h6 H enc) (by kernel_rfl) (fun k hk => by cases hk; kernel_rfl) (by kernel_rfl) h5)) ?_
  intro W base args ds gs before hval hW _ hcond hsz hL _ _
  exact contract H enc W base args ds gs before hval hW hsz (hcond _ rfl) hL
theorem said : Rows.SegmentSealsUptoSaid :=
  OpenClaim.holds_of_cond 5 Tryd.f5 rfl rfl rfl rfl rfl rfl rfl ⟨rfl, rfl, rfl, rfl, rfl⟩ rfl rfl rfl rfl rfl (by kernel_rfl) Tryd.func5 (by kernel_rfl)
    (of_decide_eq_true (by kernel_rfl)) (by unfold Func.isWrapper; first | (rw [if_pos (by decide +kernel)]; kernel_rfl) | (rw [if_neg (by decide +kernel)]; exact ⟨rfl, rfl⟩))
    (fun os started H enc _ F => by rw [OpenClaim.pre_eq_preRow]; exact lifted os started H enc F)
theorem plain (f : FuncId) (fn : Func) (hf : Tryd.pinned.checked.prog.funcNamed "daybook/daybooklaw14.SegmentSeals" = some f) (hfn : Tryd.pinned.checked.prog.funcs[f]? = some fn) :
    false = Tryd.pinned.checked.prog.looks [] ∧ ∀ (j : Nat) t, fn.params[j]? = some t → Tryd.pinned.checked.prog.wantsStandIn t = false := by
  obtain rfl : f = 5 := Option.some.inj ((show Tryd.prog.funcNamed "daybook/daybooklaw14.SegmentSeals" = some 5 by kernel_rfl).symm.trans hf) |>.symm
  obtain rfl : fn = Tryd.f5 := (Option.some.inj (Tryd.func5.symm.trans hfn)).symm
  refine ⟨by kernel_rfl, fun j t ht => ?_⟩
  rw [Tryd.params5] at ht
  have hm := Array.mem_of_getElem? ht
  have hall : ∀ t ∈ (#[22, 3] : Array TypeId), Tryd.prog.wantsStandIn t = false := by
    intro t ht
    simp only [List.mem_toArray, List.mem_cons, List.not_mem_nil, or_false] at ht
    rcases ht with rfl | rfl <;> kernel_rfl
  exact hall t hm
theorem card : Rows.SegmentSealsUptoCardSaid :=
  Claim7.holds_tied_plain_at .later [] _ _ _ _ said (fun _ h => by cases h) (by kernel_rfl) (fun _ h => by cases h) segmentSealsUpto_row_tie rfl ⟨rfl, rfl⟩ (by kernel_rfl) rfl plain (by kernel_rfl)
end Go.Proofs.YtaegmeilhdbnnaaDoor.segmentSeals
