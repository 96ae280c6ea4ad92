/- Every Hex, Unhex and Number is the document's, and they undo each other: for all bytes and texts of bulk at most 1048576 together, and every number. -/
import Derived.Test.YtomgnbhajhkhfaaDoorNmTie
import Derived.Test.YtomgnbhajhkhfaaDoorDm3
import Derived.Test.YtomgnbhajhkhfaaDoorDn2
import Derived.Test.YtomgnbhajhkhfaaDoorBulk
import Derived.SizedLaws
import Derived.ChangeOld
namespace Go.Proofs.YtomgnbhajhkhfaaDoor.dumpBasics
open Go.ChangeShapes Go.WideShapes Go.ChangeAt Go.RowKit
set_option linter.unusedVariables false
set_option linter.unusedSimpArgs false
theorem num_back (n : Int) (h : inI64 n) : nmV (Lib.itoa n) = n ∧ nmE (Lib.itoa n) = 0 := nm_some ((numR_iff _ n).2 ⟨h, rfl⟩)
theorem nm_bits (l : List UInt8) : (nmB l = true ∧ nmE l = 0) ∨ (nmB l = false ∧ nmE l = 101) := by
  unfold nmB nmE
  cases numR l
  · exact .inr ⟨rfl, rfl⟩
  · exact .inl ⟨rfl, rfl⟩
set_option maxRecDepth 20000 in
set_option maxHeartbeats 8000000 in
theorem walk (l : List Nat) (a : Option Addr) (cap : Nat) (sb : ByteArray) (N : Int) (w : World) (hb : Bytes w a l) (hc : Came w a l.length cap 1) (hws : sb.size ≤ maxLen) (hss : sb.size ≤ 140737488351232) (hwn : (Lit.int .i64 N).wf = true) (hsum : cap + sb.size ≤ 1048576) (he : Ers w) :
    Calls Tryd.prog 3 #[.slice a l.length cap, .string sb, .int .i64 N] w fun e w' => e = .returned (.bool true) ∧ Below w.heap.size w w' := by
  obtain ⟨hf, hr, hn0⟩ := hc
  have HIN : Hid (inI64 N) := by show inI64 N; simpa [inI64, Lit.wf, IntKind.min, IntKind.max, IntKind.signed, IntKind.bits] using hwn
  obtain ⟨n, hn⟩ : ∃ n, l.length = n := ⟨_, rfl⟩
  rw [hn] at hf ⊢
  rw [bs_of sb] at hsum ⊢
  obtain ⟨s, hs⟩ : ∃ s, sb.data.toList = s := ⟨_, rfl⟩
  rw [hs] at hsum ⊢
  have HN : Hid (l.length = n) := hn
  have HE : Hid (Ers w) := he
  have HB : Hid (Bytes w a l) := hb
  have hsl : s.length ≤ 1048576 := by have : (bs s).size = s.length := rfl; omega
  have hnl : n ≤ 1048576 := by omega
  have HLT : Hid (∀ x ∈ l, x < 256) := hb.mem
  have HUH : Hid (uhL (hexL l) = some l) := uhL_hex l hb.mem
  have HHL : Hid ((hexL l).length ≤ 4194304) := by show _ ≤ _; rw [hexL_length, hn]; omega
  obtain ⟨X, hX⟩ : ∃ X, hexL l = X := ⟨_, rfl⟩
  have HX : Hid (hexL l = X) := hX
  have hmx : n ≤ maxLen := by unfold maxLen; omega
  have hxx : (X == X) = true := by simp
  obtain ⟨E, hE⟩ : ∃ E, uhE s = E := ⟨_, rfl⟩
  obtain ⟨L, hL⟩ : ∃ L, uhB s = L := ⟨_, rfl⟩
  have HEL : Hid (uhE s = E ∧ uhB s = L) := ⟨hE, hL⟩
  have HLL : Hid (L.length ≤ 4194304) := by
    show _ ≤ _
    rw [← hL]
    cases hu : uhL s with
    | none => rw [(uh_none hu).2]; simp
    | some q => rw [(uh_some hu).2]; have := (uhL_lt s q hu).2; omega
  have hEE : (E != E) = false := by simp
  obtain ⟨V, hV⟩ : ∃ V, nmV s = V := ⟨_, rfl⟩
  have hVV : (V != V) = false := by simp
  obtain ⟨G, hG⟩ : ∃ G, nmE s = G := ⟨_, rfl⟩
  obtain ⟨F, hF⟩ : ∃ F, nmB s = F := ⟨_, rfl⟩
  have HVG : Hid (nmV s = V ∧ nmE s = G ∧ nmB s = F) := ⟨hV, hG, hF⟩
  have hbits := nm_bits s
  rw [hF, hG] at hbits
  obtain ⟨I, hI⟩ : ∃ I, Lib.itoa N = I := ⟨_, rfl⟩
  have HI : Hid (Lib.itoa N = I) := hI
  have HIL : Hid (I.length ≤ 281474976710656) := by show _ ≤ _; rw [← hI]; have := itoa_len N HIN.out; omega
  have HNB : Hid (nmV I = N ∧ nmE I = 0) := by rw [← hI]; exact num_back N HIN.out
  have hNN : (N == N) = true := by simp
  have hlit : Bytes (w.alloc (.cells #[.int .u8 10, .int .u8 240] 5)) (some ⟨w.heap.size, 0, none⟩) [10, 240] := bytes_lit w [10, 240] (getD_lt (by intro x hx; simp at hx; omega))
  have HLIT : Hid (Bytes (w.alloc (.cells #[.int .u8 10, .int .u8 240] 5)) (some ⟨w.heap.size, 0, none⟩) [10, 240]) := hlit
  have HX0 : Hid (hexL [10, 240] = [48, 97, 102, 48]) := by show _ = _; decide
  have T1 : Hid True := trivial
  have T2 : Hid True := trivial
  have T3 : Hid True := trivial
  have T4 : Hid True := trivial
  have T5 : Hid True := trivial
  clear hb he hn hX hE hL hV hG hF hI hwn hws hss hsum hr hn0 hs hlit
  rcases hbits with ⟨rfl, rfl⟩ | ⟨rfl, rfl⟩
  all_goals
    go_enter Tryd.func3, Tryd.ntmps3
    go_wp2_with (first
      | (go_at_call 4; clear T1; refine (hex_any [10, 240] 2 _ 2 _ rfl HLIT.out (by omega)).mono ?_; rw [HX0.out]; rintro _ x1 ⟨rfl, hb1⟩; have HB1 : Hid (Below w.heap.size w x1) := below_next ((Below.refl _ _).alloc (Nat.le_refl _) _) hb1; clear hb1)
      | (go_at_call 5; refine (copy_nn l a n cap _ HN.out (HB.out.keep HB1.out) (by omega)).mono ?_; rintro _ x2 ⟨a2, cap2, rfl, _, hy2, _, hb2⟩; have HB2 : Hid (Below w.heap.size w x2 ∧ Bytes x2 a2 l) := ⟨below_next HB1.out hb2, hy2⟩; clear hb2 hy2)
      | (go_at_call 4; refine (hex_any l n a2 cap2 _ HN.out HB2.out.2 hnl).mono ?_; rw [HX.out]; rintro _ x3 ⟨rfl, hb3⟩; have HB3 : Hid (Below w.heap.size w x3 ∧ Bytes x3 a2 l) := ⟨below_next HB2.out.1 hb3, HB2.out.2.keep hb3⟩; clear hb3)
      | (go_at_call 6; refine (rhex_any l n a cap _ HN.out (HB.out.keep HB3.out.1) hnl).mono ?_; rw [HX.out]; rintro _ x4 ⟨rfl, q4, hq4⟩; have HB4 : Hid (Below w.heap.size w x4 ∧ Bytes x4 a2 l) := (by rw [hq4]; exact ⟨bel_drewN HB3.out.1 _, HB3.out.2.drewN _⟩); clear hq4)
      | (go_at_call 7; clear T2; refine (same_yes l n n a2 a cap2 cap _ HN.out HN.out HB4.out.2 (HB.out.keep HB4.out.1) hmx).mono ?_; rintro _ x5 ⟨rfl, hb5⟩; have HB5 : Hid (Below w.heap.size w x5) := below_next HB4.out.1 hb5; clear hb5)
      | (go_at_call 8; clear T3; refine (unhex_any X _ (by rw [← HX.out]; exact HHL.out)).mono ?_; rintro _ x6 ⟨v6, rfl, ho6, hb6⟩; rw [← HX.out, (uh_some HUH.out).1]; rw [← HX.out, (uh_some HUH.out).2] at ho6; obtain ⟨a6, c6, hv6, hy6⟩ := ho6.slice; rw [HN.out] at hv6; subst hv6; have HB6 : Hid (Below w.heap.size w x6 ∧ Bytes x6 a6 l) := ⟨below_next HB5.out hb6, hy6⟩; clear hb6 hy6 ho6)
      | (go_at_call 7; clear T4; refine (same_yes l n n a6 a c6 cap _ HN.out HN.out HB6.out.2 (HB.out.keep HB6.out.1) hmx).mono ?_; rintro _ x7 ⟨rfl, hb7⟩; have HB7 : Hid (Below w.heap.size w x7) := below_next HB6.out.1 hb7; clear hb7)
      | (go_at_call 9; refine (runhex_any s _ (by omega)).mono ?_; rintro _ x8 ⟨v8, rfl, ho8, hb8⟩; rw [HEL.out.1]; rw [HEL.out.2] at ho8; obtain ⟨a8, c8, hv8, hy8⟩ := ho8.slice; obtain ⟨m, hm⟩ : ∃ m, L.length = m := ⟨_, rfl⟩; rw [hm] at hv8; subst hv8; have HLM : Hid (L.length = m ∧ m ≤ maxLen) := ⟨hm, by have h9 := HLL.out; unfold maxLen; omega⟩; have HB8 : Hid (Below w.heap.size w x8 ∧ Bytes x8 a8 L) := ⟨below_next HB7.out hb8, hy8⟩; clear hb8 hy8 ho8 hm)
      | (go_at_call 8; refine (unhex_any s _ (by omega)).mono ?_; rintro _ x9 ⟨v9, rfl, ho9, hb9⟩; rw [HEL.out.1]; rw [HEL.out.2] at ho9; obtain ⟨a9, c9, hv9, hy9⟩ := ho9.slice; rw [HLM.out.1] at hv9; subst hv9; have HB9 : Hid (Below w.heap.size w x9 ∧ Bytes x9 a9 L ∧ Bytes x9 a8 L) := ⟨below_next HB8.out.1 hb9, hy9, HB8.out.2.keep hb9⟩; clear hb9 hy9 ho9)
      | (go_at_call 7; refine (same_yes L m m a9 a8 c9 c8 _ HLM.out.1 HLM.out.1 HB9.out.2.1 HB9.out.2.2 HLM.out.2).mono ?_; rintro _ xa ⟨rfl, hba⟩; have HBA : Hid (Below w.heap.size w xa) := below_next HB9.out.1 hba; clear hba)
      | (go_at_call 10; refine (rnumber_any s _ s.length rfl (by omega)).mono ?_; rintro _ xb ⟨rfl, rfl⟩; rw [HVG.out.1, HVG.out.2.2])
      | (go_at_call 11; clear T5; refine (number_any s _ (by omega) (HE.out.keep HBA.out)).mono ?_; rintro _ xc ⟨rfl, hbc⟩; rw [HVG.out.1, HVG.out.2.1]; have HBC : Hid (Below w.heap.size w xc) := below_next HBA.out hbc; clear hbc)
      | (go_at_call 12; refine (show_any _ N (Nat.le_refl _) HIN.out _).mono ?_; rw [HI.out]; rintro _ xd ⟨rfl, hbd⟩; have HBD : Hid (Below w.heap.size w xd) := below_next HBC.out hbd; clear hbd)
      | (go_at_call 11; refine (number_any I _ HIL.out (HE.out.keep HBD.out)).mono ?_; rintro _ xe ⟨rfl, hbe⟩; rw [HNB.out.1, HNB.out.2]; have HBE : Hid (Below w.heap.size w xe) := below_next HBD.out hbe; clear hbe))
    go_ret
    exact ⟨rfl, HBE.out⟩
theorem own : ownKnob Tryd.prog.godebug = none := by kernel_rfl
theorem laidOut : laidOutB Tryd.prog = true := by kernel_rfl
set_option maxRecDepth 100000 in
theorem contract (H : Type) (enc : TypeId × Value → H) (W : World) (base : Nat) (args : Array Value) (ds gs : List (DataW H)) (before : List MemPlace)
    (hval : ∀ (j : Nat) t v, Tryd.f3.params[j]? = some t → args[j]? = some v → Value.okWide Tryd.prog W .any base t v)
    (hW : DataW.Whole enc Tryd.prog Tryd.f3.params.toList Rows.dumpBasicsSpec.vars false W args.toList ds gs before)
    (hsz : (DataW.weightsEach Tryd.prog (Tryd.f3.params.toList ++ Rows.dumpBasicsSpec.plain.varTypes Tryd.prog) (ds ++ gs)).all (· ≤ reachBytes) = true) (hk : Rows.uptoSmall H (ds ++ gs) = true) (hL : laidMetH Tryd.prog ([("math/bits.deBruijn32tab", Rows.laid_math_bits_deBruijn32tab), ("math/bits.deBruijn64tab", Rows.laid_math_bits_deBruijn64tab), ("internal/strconv.uint64pow10", Rows.laid_internal_strconv_uint64pow10), ("strconv.ErrRange", Rows.laid_strconv_ErrRange), ("strconv.ErrSyntax", Rows.laid_strconv_ErrSyntax)]) W) :
    Calls Tryd.prog 3 args W fun e W' => ∃ v, e = .returned v ∧ Rows.dumpBasicsSpec.post enc Tryd.prog Tryd.f3 false true false false W args v W' := by
  have hW' := hW
  obtain ⟨p, q, hA0, hV, rfl, hfz, hnd⟩ := hW
  have hA : DataW.TrodAll enc Tryd.prog W 0 (fun _ => true) true Tryd.f3.params.toList args.toList ds p := hA0
  rw [Tryd.params3] at hA hval hsz
  obtain ⟨v0, vs0, d0, ds0, p0, q0, hargs, rfl, rfl, h0, r0⟩ := trodAll_cons hA
  obtain ⟨v1, vs1, d1, ds1, p1, q1, rfl, rfl, rfl, h1, r1⟩ := trodAll_cons r0
  obtain ⟨v2, vs2, d2, ds2, p2, q2, rfl, rfl, rfl, h2, r2⟩ := trodAll_cons r1
  obtain ⟨rfl, rfl, rfl⟩ := trodAll_nil r2
  obtain rfl : args = #[v0, v1, v2] := by cases args; simp_all
  obtain ⟨rfl, rfl⟩ := trodVars_none hV
  obtain ⟨a0, len0, cap0, rfl⟩ := okWide_slice Tryd.underlying22 (hval 0 22 v0 rfl rfl)
  have k0 := h0
  have lt0 : ∀ x ∈ p0, x.block < W.heap.size := by obtain ⟨m, hm⟩ := k0; exact DataW.trod_lt m _ _ _ hm
  obtain ⟨l0, hlen0, w0, c0, u0⟩ : ∃ l : List Nat, l.length = len0 ∧ Bytes W a0 l ∧ Came W a0 len0 cap0 1 ∧ cap0 + 1 ≤ Rows.uptoBulk d0 := by
    obtain ⟨fuel, hf⟩ := h0
    rcases open_ints Tryd.underlying22 Tryd.underlying5 (by kernel_rfl) hf with ⟨hcs, hx⟩ | ⟨x, l, c, zs, hcs, _, hl, hm, hz, hx, hcell, hwz⟩
    · simp [Value.cells] at hcs
      obtain ⟨rfl, rfl, rfl⟩ := hcs
      obtain ⟨rfl, rfl⟩ := Prod.mk.inj hx
      exact ⟨[], rfl, ⟨by simp, .inl rfl⟩, ⟨Nat.le_refl _, by simp, fun _ => rfl⟩, by simp [Rows.uptoBulk]⟩
    · simp [Value.cells] at hcs
      obtain ⟨rfl, rfl, rfl⟩ := hcs
      have hz2 : zs.length = cap0 := by simpa using hz
      obtain ⟨ll, e1, e2, e3⟩ := row_nats .u8 256 (by decide) wf_u8 W x zs len0 (by omega) hcell hwz
      have hd : d0 = .slice (lits .u8 (zs.take len0)) (lits .u8 (zs.drop len0)) := (Prod.mk.inj hx).1
      have hreach : cap0 * 1 ≤ 140737488351232 := by
        have := sized_slice hsz (j := 0) (t := 22) (e := 5) rfl (by rw [hd]; rfl) Tryd.underlying22
        rw [show Tryd.prog.bytesOf 5 = 1 from by kernel_rfl] at this
        simp only [lits, List.length_map, List.length_take, List.length_drop, reachBytes] at this
        have hmin : min len0 zs.length = len0 := Nat.min_eq_left (by omega)
        rw [hmin] at this
        have hcap : len0 + (zs.length - len0) = cap0 := by omega
        rw [hcap] at this
        exact this
      refine ⟨ll, e1, ⟨e2, e3⟩, ⟨hl, hreach, fun h => by cases h⟩, ?_⟩
      rw [hd]
      have := bulks.slice_le (lits (H := H) .u8 (zs.take len0)) (lits .u8 (zs.drop len0))
      simp only [lits, List.length_map, List.length_take, List.length_drop] at this ⊢
      omega
  subst hlen0
  obtain ⟨a1, rfl, rfl, rfl, w1⟩ := Go.ChangeMaps.open_string Tryd.underlying9 (hval 1 9 v1 rfl rfl) h1
  have s1 : a1.size ≤ 140737488351232 := by have := sized_string hsz (j := 1) (t := 9) rfl rfl; simpa [reachBytes] using this
  obtain ⟨a2, rfl, rfl, rfl, w2⟩ := open_int Tryd.underlying3 (hval 2 3 v2 rfl rfl) h2
  have hbk := bulks.bound hk
  simp only [List.append_nil, Rows.uptoBulkAll, Rows.uptoBulk] at hbk
  have hsl1 : a1.data.toList.length = a1.size := Array.length_toList
  have hsum : cap0 + a1.size ≤ 1048576 := by omega
  clear hA0
  refine (walk l0 a0 cap0 a1 a2 W w0 c0 w1 s1 w2 hsum (ers_of5 hL)).mono fun e W' ⟨he, bel⟩ => ?_
  subst he
  exact ⟨_, rfl, _, _, _, [], _, [], hW', trodAll_mk1 (shut_bool Tryd.underlying4 _), (trodAll_cons_mk (Below.trod laidOut (by kernel_rfl) (of_decide_eq_true (by kernel_rfl)) k0 bel lt0) (trodAll_cons_mk (Go.ChangeMaps.shut_string Tryd.underlying9 w1) (trodAll_cons_mk (shut_int Tryd.underlying3 w2) trodAll_mk0))), rfl, bel.frame _, fun h => by cases h⟩
set_option maxRecDepth 100000 in
theorem start (os : Os) : ∃ w0 : World, w0.os = os ∧ (w0.forCall (fun _ _ => 0) ⟨#[], #[.slice none 0 0, .string ⟨#[]⟩, .int .i64 0], []⟩).variablesB Tryd.prog = true ∧
    ((w0.forCall (fun _ _ => 0) ⟨#[], #[.slice none 0 0, .string ⟨#[]⟩, .int .i64 0], []⟩).heap.toList.drop Tryd.prog.globals.size).take ((begin Tryd.prog (fun _ _ => 0) default).world.heap.size - Tryd.prog.globals.size) = (begin Tryd.prog (fun _ _ => 0) default).world.heap.toList.drop Tryd.prog.globals.size ∧
    Input.okWideB Tryd.prog (w0.forCall (fun _ _ => 0) ⟨#[], #[.slice none 0 0, .string ⟨#[]⟩, .int .i64 0], []⟩) 3 ⟨#[], #[.slice none 0 0, .string ⟨#[]⟩, .int .i64 0], []⟩ = true ∧
    laidMet Tryd.prog Rows.dumpBasicsUptoRow.laid (w0.forCall (fun _ _ => 0) ⟨#[], #[.slice none 0 0, .string ⟨#[]⟩, .int .i64 0], []⟩).memory ∧
    ∀ (H : Type) (enc : TypeId × Value → H), DataW.whole enc Tryd.prog (w0.forCall (fun _ _ => 0) ⟨#[], #[.slice none 0 0, .string ⟨#[]⟩, .int .i64 0], []⟩).memory Tryd.f3.params.toList Rows.dumpBasicsSpec.vars false (#[.slice none 0 0, .string ⟨#[]⟩, .int .i64 0] : Array Value).toList 8 = some ([.nil, .lit (.string []), .lit (.int .i64 0)], [], []) :=
  ⟨{ World.holding Tryd.prog os ⟨#[.cells #[.string ⟨#[118, 97, 108, 117, 101, 32, 111, 117, 116, 32, 111, 102, 32, 114, 97, 110, 103, 101]⟩] 68, .cells #[.string ⟨#[105, 110, 118, 97, 108, 105, 100, 32, 115, 121, 110, 116, 97, 120]⟩] 68], #[], []⟩ with heap := ((((((World.holding Tryd.prog os ⟨#[.cells #[.string ⟨#[118, 97, 108, 117, 101, 32, 111, 117, 116, 32, 111, 102, 32, 114, 97, 110, 103, 101]⟩] 68, .cells #[.string ⟨#[105, 110, 118, 97, 108, 105, 100, 32, 115, 121, 110, 116, 97, 120]⟩] 68], #[], []⟩).heap).modify 4 fun x => match x with | .cells _ t frozen => .cells #[.int .u8 0, .int .u8 1, .int .u8 28, .int .u8 2, .int .u8 29, .int .u8 14, .int .u8 24, .int .u8 3, .int .u8 30, .int .u8 22, .int .u8 20, .int .u8 15, .int .u8 25, .int .u8 17, .int .u8 4, .int .u8 8, .int .u8 31, .int .u8 27, .int .u8 13, .int .u8 23, .int .u8 21, .int .u8 19, .int .u8 16, .int .u8 7, .int .u8 26, .int .u8 12, .int .u8 18, .int .u8 6, .int .u8 11, .int .u8 5, .int .u8 10, .int .u8 9] t frozen | o => o).modify 5 fun x => match x with | .cells _ t frozen => .cells #[.int .u8 0, .int .u8 1, .int .u8 56, .int .u8 2, .int .u8 57, .int .u8 49, .int .u8 28, .int .u8 3, .int .u8 61, .int .u8 58, .int .u8 42, .int .u8 50, .int .u8 38, .int .u8 29, .int .u8 17, .int .u8 4, .int .u8 62, .int .u8 47, .int .u8 59, .int .u8 36, .int .u8 45, .int .u8 43, .int .u8 51, .int .u8 22, .int .u8 53, .int .u8 39, .int .u8 33, .int .u8 30, .int .u8 24, .int .u8 18, .int .u8 12, .int .u8 5, .int .u8 63, .int .u8 55, .int .u8 48, .int .u8 27, .int .u8 60, .int .u8 41, .int .u8 37, .int .u8 16, .int .u8 46, .int .u8 35, .int .u8 44, .int .u8 21, .int .u8 52, .int .u8 32, .int .u8 23, .int .u8 11, .int .u8 54, .int .u8 26, .int .u8 40, .int .u8 15, .int .u8 34, .int .u8 20, .int .u8 31, .int .u8 10, .int .u8 25, .int .u8 14, .int .u8 19, .int .u8 9, .int .u8 13, .int .u8 8, .int .u8 7, .int .u8 6] t frozen | o => o).modify 3 fun x => match x with | .cells _ t frozen => .cells #[.int .u64 1, .int .u64 10, .int .u64 100, .int .u64 1000, .int .u64 10000, .int .u64 100000, .int .u64 1000000, .int .u64 10000000, .int .u64 100000000, .int .u64 1000000000, .int .u64 10000000000, .int .u64 100000000000, .int .u64 1000000000000, .int .u64 10000000000000, .int .u64 100000000000000, .int .u64 1000000000000000, .int .u64 10000000000000000, .int .u64 100000000000000000, .int .u64 1000000000000000000, .int .u64 10000000000000000000] t frozen | o => o).modify 2 fun x => match x with | .cells _ t frozen => .cells #[.iface 66 (.pointer (some ⟨(World.holding Tryd.prog default ⟨#[], #[], []⟩).heap.size, 0, none⟩))] t frozen | o => o).modify 1 fun x => match x with | .cells _ t frozen => .cells #[.iface 66 (.pointer (some ⟨(World.holding Tryd.prog default ⟨#[], #[], []⟩).heap.size + 1, 0, none⟩))] t frozen | o => o }, rfl, by kernel_rfl, by kernel_rfl, by kernel_rfl, laidMet_of_run' 8 (by kernel_rfl) (by kernel_rfl), fun _ _ => by kernel_rfl⟩
set_option maxRecDepth 100000 in
theorem lifted (os : Os) (started : os.Started) (H : Type) (enc : TypeId × Value → H) (F : Stop.Interp) :
    ReturnsInHanded {} Tryd.checked os 3 .any ((Rows.OpenSpec.upto Rows.dumpBasicsSpec).preRow enc Tryd.prog Tryd.f3 Rows.dumpBasicsUptoRow.domain false Rows.dumpBasicsUptoRow.laid) (((Rows.OpenSpec.upto Rows.dumpBasicsSpec).at F).post enc Tryd.prog Tryd.f3 false true false false) := by
  obtain ⟨w0, h1, h2, h3, h4, h5, h6⟩ := start os
  refine returnsInHanded_of_row (C := Tryd.checked) (s := Rows.OpenSpec.upto Rows.dumpBasicsSpec) own started (by kernel_rfl) Tryd.func3
    (witness_row_at (enc := enc) (C := Tryd.checked) false w0 #[.slice none 0 0, .string ⟨#[]⟩, .int .i64 0] h1 h2 h3 h4
      (OpenSpec.preRow_of_cond 8 (h6 H enc) (by kernel_rfl) (fun k hk => by cases hk; kernel_rfl) (by kernel_rfl) h5)) ?_
  intro W base args ds gs before hval hW _ hcond hsz hL _ _
  exact contract H enc W base args ds gs before hval hW hsz (hcond _ rfl) hL
theorem said : Rows.DumpBasicsUptoSaid :=
  OpenClaim.holds_of_cond 3 Tryd.f3 rfl rfl rfl rfl rfl rfl rfl ⟨rfl, rfl, rfl, rfl, rfl⟩ rfl rfl rfl rfl rfl (by kernel_rfl) Tryd.func3 (by kernel_rfl)
    (of_decide_eq_true (by kernel_rfl)) (by unfold Func.isWrapper; first | (rw [if_pos (by decide +kernel)]; kernel_rfl) | (rw [if_neg (by decide +kernel)]; exact ⟨rfl, rfl⟩))
    (fun os started H enc _ F => by rw [OpenClaim.pre_eq_preRow]; exact lifted os started H enc F)
theorem plain (f : FuncId) (fn : Func) (hf : Tryd.pinned.checked.prog.funcNamed "daybook/daybooklaw24.DumpBasics" = some f) (hfn : Tryd.pinned.checked.prog.funcs[f]? = some fn) :
    true = Tryd.pinned.checked.prog.looks [] ∧ ∀ (j : Nat) t, fn.params[j]? = some t → Tryd.pinned.checked.prog.wantsStandIn t = false := by
  obtain rfl : f = 3 := Option.some.inj ((show Tryd.prog.funcNamed "daybook/daybooklaw24.DumpBasics" = some 3 by kernel_rfl).symm.trans hf) |>.symm
  obtain rfl : fn = Tryd.f3 := (Option.some.inj (Tryd.func3.symm.trans hfn)).symm
  refine ⟨by kernel_rfl, fun j t ht => ?_⟩
  rw [Tryd.params3] at ht
  have hm := Array.mem_of_getElem? ht
  have hall : ∀ t ∈ (#[22, 9, 3] : Array TypeId), Tryd.prog.wantsStandIn t = false := by
    intro t ht
    simp only [List.mem_toArray, List.mem_cons, List.not_mem_nil, or_false] at ht
    rcases ht with rfl | rfl | rfl <;> kernel_rfl
  exact hall t hm
theorem card : Rows.DumpBasicsUptoCardSaid :=
  Claim7.holds_tied_plain_at .later [] _ _ _ _ said (fun _ h => by cases h) (by kernel_rfl) (fun _ h => by cases h) dumpBasicsUpto_row_tie rfl ⟨rfl, rfl⟩ (by kernel_rfl) rfl plain (by kernel_rfl)
end Go.Proofs.YtomgnbhajhkhfaaDoor.dumpBasics
