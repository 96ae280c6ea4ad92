/- Every reading of canon.Decode is the document's; the bytes stay as they were; nothing is shared: for every text. -/
import Derived.Test.YtfcgcpfckbmgnaaGreatK49
import Derived.Test.YtfcgcpfckbmgnaaGreatK54
import Derived.SizedLaws
import Derived.ChangeOld
import Derived.JoinedCond
import Derived.Laws.OwnMore
namespace Go.Proofs.YtfcgcpfckbmgnaaGreat.canonDecodes
open Go.ChangeShapes Go.WideShapes Go.ChangeAt Go.RowKit
set_option linter.unusedVariables false
theorem Lns.heap {w y : World} {a : Option Addr} {L : List Ln} (h : Lns w a L) (he : ∀ x, a = some x → y.heap[x.block]? = w.heap[x.block]?) : Lns y a L := by
  rcases h with h1 | ⟨b, off, h1, h2, h3⟩
  · exact .inl h1
  · have he2 : y.heap[b]? = w.heap[b]? := he _ h1
    have hs : w.heap[b]? = some (w.heap[b]'h2) := Array.getElem?_eq_getElem h2
    exact .inr ⟨b, off, h1, lt_of_heap (he2.trans hs), fun j hj => (cell_heap he2 _).trans (h3 j hj)⟩
/-- while the lines of the first answer are written over -/
structure Dl (w wr : World) (bw bs bt : Nat) (S : St) (aw ap at9 : Option Addr) (m cw cp ct : Nat) : Prop where
  bel : Below w.heap.size w wr
  xw : StAt wr bw S (.slice aw m cw)
  xs : StAt wr bs S (.slice ap m cp)
  xt : StAt wr bt S (.slice at9 m ct)
  lw : Lns wr aw S.lines
  lt : Lns wr at9 S.lines
  row : ∃ xs, wr.ownsRow w.heap.size 37 4 (.slice ap m cp) m xs ∧ ∀ x ∈ xs, ∃ z : Int, x = .int .i64 z
theorem lfl_int : ∀ (L : List Ln), ∀ x ∈ lfl L, ∃ z : Int, x = .int .i64 z
  | [], x, h => by simp [lfl] at h
  | p :: r, x, h => by
    have h2 : x ∈ [Value.int .i64 p.item, .int .i64 p.price, .int .i64 p.qty, .int .i64 p.shipped] ++ lfl r := h
    rcases List.mem_append.1 h2 with h3 | h3
    · simp only [List.mem_cons, List.not_mem_nil, or_false] at h3
      rcases h3 with rfl | rfl | rfl | rfl <;> exact ⟨_, rfl⟩
    · exact lfl_int r x h3
theorem Dl.step {w wr : World} {bw bs bt : Nat} {S : St} {aw ap at9 : Option Addr} {m cw cp ct : Nat} (h : Dl w wr bw bs bt S aw ap at9 m cw cp ct) (hs : ∀ g, ap = some ⟨g, 0, none⟩ → bw ≠ g ∧ bs ≠ g ∧ bt ≠ g ∧ (∀ x, aw = some x → x.block ≠ g) ∧ (∀ x, at9 = some x → x.block ≠ g)) (j : Nat) (hj : j < m) :
    ∃ g z, ap = some ⟨g, 0, none⟩ ∧ wr.cell? ⟨g, j * 4, none⟩ = some (.int .i64 z) ∧ wr.frozen? ⟨g, j * 4, none⟩ = false ∧ ∀ y : Int, Dl w (wr.setCell ⟨g, j * 4, none⟩ (.int .i64 y)) bw bs bt S aw ap at9 m cw cp ct := by
  obtain ⟨xs, hx, hz⟩ := h.row
  have hx2 := hx
  rcases hx2.2 with ⟨_, hn⟩ | ⟨g, cap, cur, hv, hb, _⟩
  · omega
  · injection hv with h1 h2 h3
    subst h1
    have e2 := hx.cellAt (j * 4) (by omega)
    have hl := hx.1
    obtain ⟨x, hxj⟩ : ∃ x, xs[j * 4]? = some x := ⟨_, List.getElem?_eq_getElem (by omega)⟩
    obtain ⟨z, rfl⟩ := hz x (List.mem_of_getElem? hxj)
    refine ⟨g, z, rfl, by rw [e2]; exact hxj, hx.frozenAt (j * 4), fun y => ?_⟩
    have hst := hx.stored (j * 4) (.int .i64 y)
    obtain ⟨s1, s2, s3, s4, s5⟩ := hs g rfl
    have hh : ∀ k, k ≠ g → (wr.setCell ⟨g, j * 4, none⟩ (.int .i64 y)).heap[k]? = wr.heap[k]? := fun k hk => heap_setCell_other wr ⟨g, j * 4, none⟩ k _ hk
    exact ⟨h.bel.setCell (p := ⟨g, j * 4, none⟩) hb _, (hh _ s1).trans h.xw, (hh _ s2).trans h.xs, (hh _ s3).trans h.xt, Lns.heap h.lw (fun x hx => hh _ (s4 x hx)), Lns.heap h.lt (fun x hx => hh _ (s5 x hx)), ⟨_, hst.1, fun x hx => by rcases List.mem_or_eq_of_mem_set hx with h9 | rfl; exact hz x h9; exact ⟨y, rfl⟩⟩⟩
set_option maxRecDepth 20000 in
set_option maxHeartbeats 4000000 in
theorem walk (l : List Nat) (a : Option Addr) (cap : Nat) (w : World) (hb : Bytes w a l) (hc : Came w a l.length cap 1) :
    Calls Tryz.prog 3 #[.slice a l.length cap] w fun r w' => r = .returned (.bool true) ∧ Below w.heap.size w w' := by
  have HB : Hid (Bytes w a l) := hb
  have hl : l.length ≤ 140737488351232 := by have h1 := hc.1; have h2 := hc.2; omega
  have hcap : l.length ≤ cap := hc.1
  obtain ⟨n, hn⟩ : ∃ n, l.length = n := ⟨_, rfl⟩
  have HN : Hid (l.length = n) := hn
  rw [hn] at hl hcap ⊢
  have hlm : n ≤ maxLen := by unfold maxLen; omega
  obtain ⟨S, c, hP⟩ : ∃ S c, cdec l = (S, c) := ⟨_, _, rfl⟩
  have HP : Hid (_) := hP
  have hm16 : S.lines.length ≤ 16 := by
    by_cases h0 : c = 0
    · have hform := cdec_form (lt_allC hb.1) (by rw [hP]; exact h0)
      rw [hP] at hform
      exact (vst_of hform.1).each.1
    · have h1 := cdec_err (l := l) (by rw [hP]; exact h0)
      rw [hP] at h1
      have h2 : S = zeroS := h1
      rw [h2]
      exact Nat.zero_le _
  obtain ⟨m, hm⟩ : ∃ m, S.lines.length = m := ⟨_, rfl⟩
  have HM : Hid (S.lines.length = m) := hm
  rw [hm] at hm16
  have hmm : m ≤ maxLen := by unfold maxLen; omega
  have T1 : Hid True := trivial
  have T2 : Hid True := trivial
  have T3 : Hid True := trivial
  have E1 : Hid True := trivial
  have E2 : Hid True := trivial
  have G1 : Hid True := trivial
  have G2 : Hid True := trivial
  have hccb : (c != c) = false := by simp
  clear hb hc hn hP hm
  go_enter Tryz.func3, Tryz.ntmps3
  go_wp2_with (first
    | (go_at_call 4; refine (head09_any _).mono ?_; rintro _ x1 ⟨rfl, hb1⟩; have HB1 : Hid (Below w.heap.size w x1) := hb1; clear hb1)
    | (go_at_call 5; refine (copy_nn l a n cap _ HN.out (HB.out.keep HB1.out) (by omega)).mono ?_; rintro _ x2 ⟨a2, cap2, rfl, hcap2, hy2, _, hb2⟩; have HY2 : Hid (Bytes x2 a2 l) := hy2; have HB2 : Hid (Below w.heap.size w x2) := below_next HB1.out hb2; clear hy2 hb2)
    | (go_at_call 6; refine (rdec09_any l a n cap _ HN.out (HB.out.keep HB2.out) hcap hlm).mono ?_; unfold CdecPost; rw [HP.out]; rintro _ x3 ⟨v3, rfl, ho3, hb3⟩; obtain ⟨a3, c3, hv3, _, _, hl3, hs3⟩ := ho3.shape; simp only [HM.out] at hv3; subst hv3; have HB3 : Hid (Below w.heap.size w x3) := below_next HB2.out hb3; have HL3 : Hid (Lns x3 a3 S.lines) := hl3; have HY3 : Hid (Bytes x3 a2 l) := HY2.out.keep hb3; have HSW : Hid (∀ x, a3 = some x → x.block < x3.heap.size) := (fun x hx => by rcases hs3 with ⟨h1, _⟩ | ⟨g, h1, _, h2⟩; rw [h1] at hx; cases hx; rw [h1] at hx; cases hx; exact h2); clear ho3 hb3 hl3 hs3)
    | ((with_reducible refine guard_store 28 ?_); clear T1; refine wpList_store_st (s := zeroS) (s2 := S) (a2 := a3) (n2 := m) (c2 := c3) rfl _ _ rfl (StAt.new x3 zeroS (.slice none 0 0)) rfl rfl ?_; intro x4 z1 z2 z3 z4; have hu := (z2 _ _ ((Below.refl x3.heap.size x3).alloc (Nat.le_refl _) _) (Nat.le_refl _)); have HB4 : Hid (Below w.heap.size w x4) := below_next HB3.out hu; have HW4 : Hid (StAt x4 x3.heap.size S (.slice a3 m c3)) := z1; have HL4 : Hid (Lns x4 a3 S.lines) := HL3.out.keep hu; have HY4 : Hid (Bytes x4 a2 l) := HY3.out.keep hu; have hz4 : x3.heap.size < x4.heap.size := z1.lt; clear z1 z2 z3 z4 hu)
    | (go_at_call 7; clear E1; refine (cdec_any l a2 n cap2 _ HN.out HY4.out hcap2 hlm).mono ?_; unfold CdecPost; rw [HP.out]; rintro _ x5 ⟨v5, rfl, ho5, hb5⟩; obtain ⟨a5, c5, hv5, _, _, _, hs5⟩ := ho5.shape; simp only [HM.out] at hv5; subst hv5; have HB5 : Hid (Below w.heap.size w x5) := below_next HB4.out hb5; have HO5 : Hid (OwnL x5 x4.heap.size (.slice a5 m c5) S.lines) := ho5; have HW5 : Hid (StAt x5 x3.heap.size S (.slice a3 m c3)) := HW4.out.after hb5; have HL5 : Hid (Lns x5 a3 S.lines) := HL4.out.keep hb5; have HY5 : Hid (Bytes x5 a2 l) := HY4.out.keep hb5; have HSP : Hid (∀ g, a5 = some ⟨g, 0, none⟩ → x4.heap.size ≤ g ∧ g < x5.heap.size) := (fun g hx => by rcases hs5 with ⟨h1, _⟩ | ⟨g2, h1, h3, h2⟩; rw [h1] at hx; cases hx; rw [h1] at hx; cases hx; exact ⟨h3, h2⟩); clear ho5 hb5 hs5)
    | ((with_reducible refine guard_store 28 ?_); clear T2; refine wpList_store_st (s := zeroS) (s2 := S) (a2 := a5) (n2 := m) (c2 := c5) rfl _ _ rfl (StAt.new x5 zeroS (.slice none 0 0)) rfl rfl ?_; intro x6 z1 z2 z3 z4; have hu := (z2 _ _ ((Below.refl x5.heap.size x5).alloc (Nat.le_refl _) _) (Nat.le_refl _)); have HB6 : Hid (Below w.heap.size w x6) := below_next HB5.out hu; have HS6 : Hid (StAt x6 x5.heap.size S (.slice a5 m c5)) := z1; have HO6 : Hid (OwnL x6 x4.heap.size (.slice a5 m c5) S.lines) := OwnL.keep HO5.out hu; have HW6 : Hid (StAt x6 x3.heap.size S (.slice a3 m c3)) := HW5.out.after hu; have HL6 : Hid (Lns x6 a3 S.lines) := HL5.out.keep hu; have HY6 : Hid (Bytes x6 a2 l) := HY5.out.keep hu; have hz6 : x5.heap.size < x6.heap.size := z1.lt; clear z1 z2 z3 z4 hu)
    | (go_at_call 7; clear E2; refine (cdec_any l a2 n cap2 _ HN.out HY6.out hcap2 hlm).mono ?_; unfold CdecPost; rw [HP.out]; rintro _ x7 ⟨v7, rfl, ho7, hb7⟩; obtain ⟨a7, c7, hv7, _, _, hl7, hs7⟩ := ho7.shape; simp only [HM.out] at hv7; subst hv7; have HB7 : Hid (Below w.heap.size w x7) := below_next HB6.out hb7; have HT7 : Hid (Lns x7 a7 S.lines) := hl7; have HS7 : Hid (StAt x7 x5.heap.size S (.slice a5 m c5)) := HS6.out.after hb7; have HO7 : Hid (OwnL x7 x4.heap.size (.slice a5 m c5) S.lines) := OwnL.keep HO6.out hb7; have HW7 : Hid (StAt x7 x3.heap.size S (.slice a3 m c3)) := HW6.out.after hb7; have HL7 : Hid (Lns x7 a3 S.lines) := HL6.out.keep hb7; have HY7 : Hid (Bytes x7 a2 l) := HY6.out.keep hb7; have hz7 : x6.heap.size ≤ x7.heap.size := hb7.size; have HSQ : Hid (∀ x, a7 = some x → x6.heap.size ≤ x.block) := (fun x hx => by rcases hs7 with ⟨h1, _⟩ | ⟨g, h1, h3, _⟩; rw [h1] at hx; cases hx; rw [h1] at hx; cases hx; exact h3); clear ho7 hb7 hl7 hs7)
    | ((with_reducible refine guard_store 28 ?_); clear T3; refine wpList_store_st (s := zeroS) (s2 := S) (a2 := a7) (n2 := m) (c2 := c7) rfl _ _ rfl (StAt.new x7 zeroS (.slice none 0 0)) rfl rfl ?_; intro x8 z1 z2 z3 z4; have hu := (z2 _ _ ((Below.refl x7.heap.size x7).alloc (Nat.le_refl _) _) (Nat.le_refl _)); have HB8 : Hid (Below w.heap.size w x8) := below_next HB7.out hu; have HX8 : Hid (StAt x8 x7.heap.size S (.slice a7 m c7)) := z1; have HT8 : Hid (Lns x8 a7 S.lines) := HT7.out.keep hu; have HS8 : Hid (StAt x8 x5.heap.size S (.slice a5 m c5)) := HS7.out.after hu; have HO8 : Hid (OwnL x8 x4.heap.size (.slice a5 m c5) S.lines) := OwnL.keep HO7.out hu; have HW8 : Hid (StAt x8 x3.heap.size S (.slice a3 m c3)) := HW7.out.after hu; have HL8 : Hid (Lns x8 a3 S.lines) := HL7.out.keep hu; have HY8 : Hid (Bytes x8 a2 l) := HY7.out.keep hu; clear z1 z2 z3 z4 hu)
    | ((with_reducible refine guard_loadg 28 ?_); clear G1; refine wpList_load_stg rfl _ rfl HS8.out rfl ?_)
    | ((with_reducible refine guard_loadg 28 ?_); clear G2; refine wpList_load_stg rfl _ rfl HW8.out rfl ?_)
    | (go_at_call 8; refine (ssame_yes S a5 a3 m c5 c3 _ HM.out (ownl_lns HO8.out) HL8.out hmm).mono ?_; rintro _ x9 ⟨rfl, hb9⟩; have HB9 : Hid (Below w.heap.size w x9) := below_next HB8.out hb9; have HX9 : Hid (StAt x9 x7.heap.size S (.slice a7 m c7)) := HX8.out.after hb9; have HT9 : Hid (Lns x9 a7 S.lines) := HT8.out.keep hb9; have HS9 : Hid (StAt x9 x5.heap.size S (.slice a5 m c5)) := HS8.out.after hb9; have HO9 : Hid (OwnL x9 x4.heap.size (.slice a5 m c5) S.lines) := OwnL.keep HO8.out hb9; have HW9 : Hid (StAt x9 x3.heap.size S (.slice a3 m c3)) := HW8.out.after hb9; have HL9 : Hid (Lns x9 a3 S.lines) := HL8.out.keep hb9; have HY9 : Hid (Bytes x9 a2 l) := HY8.out.keep hb9; clear hb9)
    | (go_at_call 9; refine (same_yes l n n a2 a cap2 cap _ HN.out HN.out HY9.out (HB.out.keep HB9.out) hlm).mono ?_; rintro _ x10 ⟨rfl, hb10⟩; have HB10 : Hid (Below w.heap.size w x10) := below_next HB9.out hb10; have HO10 : Hid (OwnL x10 x4.heap.size (.slice a5 m c5) S.lines) := OwnL.keep HO9.out hb10; have hs10 := HS9.out.after hb10; have d5 := hs10.cell 5 (.slice a5 m c5) rfl; have HDL : Hid (Dl w x10 x3.heap.size x5.heap.size x7.heap.size S a3 a5 a7 m c3 c5 c7) := ⟨HB10.out, HW9.out.after hb10, hs10, HX9.out.after hb10, HL9.out.keep hb10, HT9.out.keep hb10, ⟨lfl S.lines, by rw [← HM.out]; have h9 := OwnL.mono HO10.out HB4.out.size; rw [← HM.out] at h9; exact h9, lfl_int S.lines⟩⟩; clear hb10 hs10))
  have HSEP : Hid (∀ g, a5 = some ⟨g, 0, none⟩ → x3.heap.size ≠ g ∧ x5.heap.size ≠ g ∧ x7.heap.size ≠ g ∧ (∀ x, a3 = some x → x.block ≠ g) ∧ (∀ x, a7 = some x → x.block ≠ g)) := fun g hg => by
    have h1 := HSP.out g hg
    refine ⟨by omega, by omega, by omega, fun x hx => ?_, fun x hx => ?_⟩
    · have := HSW.out x hx; omega
    · have := HSQ.out x hx; omega
  clear HO5 HO6 HO7 HO8 HO9 HO10 HW4 HW5 HW6 HW7 HW8 HW9 HL3 HL4 HL5 HL6 HL7 HL8 HL9 HY2 HY3 HY4 HY5 HY6 HY7 HY8 HY9 HS6 HS7 HS8 HS9 HX8 HX9 HT7 HT8 HT9 d5
  go_loopw [48] (fun vi wr => ∃ j : Nat, j ≤ m ∧ vi = .int .i64 (j : Int) ∧ Hid (Dl w wr x3.heap.size x5.heap.size x7.heap.size S a3 a5 a7 m c3 c5 c7)) (fun vi _ => m - (intOf vi).toNat)
  case atStart => exact ⟨0, by omega, rfl, HDL.out⟩
  case round =>
    clear HDL
    obtain ⟨j, hj, rfl, HI⟩ := hrel
    by_cases hjl : j < m
    · obtain ⟨g, z, hap, c0, f0, hnew⟩ := HI.out.step HSEP.out j hjl
      have HNEW : Hid (_) := hnew
      have e5 := HI.out.xs.cell 5 (.slice a5 m c5) rfl
      subst hap
      clear hnew
      go_wp2
      go_roundw
      case rel => exact ⟨j + 1, by omega, by go_num, HNEW.out _⟩
      case measure => simp [intOf]; omega
    · obtain rfl : j = m := by omega
      have HXT : Hid (_) := HI.out.xt
      have HXW : Hid (_) := HI.out.xw
      have HB6 : Hid (Below w.heap.size w wr) := HI.out.bel
      go_wp2_with (first
        | ((with_reducible refine guard_load 28 ?_); refine wpList_load_st rfl _ rfl HXT.out rfl ?_)
        | ((with_reducible refine guard_load 28 ?_); refine wpList_load_st rfl _ rfl HXW.out rfl ?_)
        | (go_at_call 8; refine (ssame_yes S a7 a3 j c7 c3 _ HM.out HI.out.lt HI.out.lw hmm).mono ?_; rintro _ y7 ⟨rfl, hb7⟩; have HB7 : Hid (Below w.heap.size w y7) := below_next HB6.out hb7; clear hb7))
      go_ret
      exact ⟨rfl, HB7.out⟩

theorem own : ownKnob Tryz.prog.godebug = none := by kernel_rfl
theorem laidOut : laidOutB Tryz.prog = true := by kernel_rfl
set_option maxRecDepth 100000 in
theorem contract (H : Type) (enc : TypeId × Value → H) (W : World) (base : Nat) (args : Array Value) (ds gs : List (DataW H)) (before : List MemPlace)
    (hval : ∀ (j : Nat) t v, Tryz.f3.params[j]? = some t → args[j]? = some v → Value.okWide Tryz.prog W .any base t v)
    (hW : DataW.Whole enc Tryz.prog Tryz.f3.params.toList Rows.canonDecodesSpec.vars false W args.toList ds gs before)
    (hsz : (DataW.weightsEach Tryz.prog (Tryz.f3.params.toList ++ Rows.canonDecodesSpec.plain.varTypes Tryz.prog) (ds ++ gs)).all (· ≤ reachBytes) = true) :
    Calls Tryz.prog 3 args W fun e W' => ∃ v, e = .returned v ∧ Rows.canonDecodesSpec.post enc Tryz.prog Tryz.f3 false true false false W args v W' := by
  have hW' := hW
  obtain ⟨p, q, hA0, hV, rfl, hfz, hnd⟩ := hW
  have hA : DataW.TrodAll enc Tryz.prog W 0 (fun _ => true) true Tryz.f3.params.toList args.toList ds p := hA0
  rw [Tryz.params3] at hA hval hsz
  obtain ⟨v0, vs0, d0, ds0, p0, q0, hargs, rfl, rfl, h0, r0⟩ := trodAll_cons hA
  obtain ⟨rfl, rfl, rfl⟩ := trodAll_nil r0
  obtain rfl : args = #[v0] := by cases args; simp_all
  obtain ⟨rfl, rfl⟩ := trodVars_none hV
  obtain ⟨a0, len0, cap0, rfl⟩ := okWide_slice Tryz.underlying22 (hval 0 22 v0 rfl rfl)
  have k0 := h0
  have lt0 : ∀ x ∈ p0, x.block < W.heap.size := by obtain ⟨m, hm⟩ := k0; exact DataW.trod_lt m _ _ _ hm
  obtain ⟨l0, hlen0, w0, c0⟩ : ∃ l : List Nat, l.length = len0 ∧ Bytes W a0 l ∧ Came W a0 len0 cap0 1 := by
    obtain ⟨fuel, hf⟩ := h0
    rcases open_ints Tryz.underlying22 Tryz.underlying5 (by kernel_rfl) hf with ⟨hcs, hx⟩ | ⟨x, l, c, zs, hcs, _, hl, hm, hz, hx, hcell, hwz⟩
    · simp [Value.cells] at hcs
      obtain ⟨rfl, rfl, rfl⟩ := hcs
      exact ⟨[], rfl, ⟨by simp, .inl rfl⟩, ⟨Nat.le_refl _, by simp, fun _ => rfl⟩⟩
    · simp [Value.cells] at hcs
      obtain ⟨rfl, rfl, rfl⟩ := hcs
      have hz2 : zs.length = cap0 := by simpa using hz
      obtain ⟨ll, e1, e2, e3⟩ := row_nats .u8 256 (by decide) wf_u8 W x zs len0 (by omega) hcell hwz
      have hd : d0 = .slice (lits .u8 (zs.take len0)) (lits .u8 (zs.drop len0)) := (Prod.mk.inj hx).1
      have hreach : cap0 * 1 ≤ 140737488351232 := by
        have := sized_slice hsz (j := 0) (t := 22) (e := 5) rfl (by rw [hd]; rfl) Tryz.underlying22
        rw [show Tryz.prog.bytesOf 5 = 1 from by kernel_rfl] at this
        simp only [lits, List.length_map, List.length_take, List.length_drop, reachBytes] at this
        have hmin : min len0 zs.length = len0 := Nat.min_eq_left (by omega)
        rw [hmin] at this
        have hcap : len0 + (zs.length - len0) = cap0 := by omega
        rw [hcap] at this
        exact this
      exact ⟨ll, e1, ⟨e2, e3⟩, ⟨hl, hreach, fun h => by cases h⟩⟩
  subst hlen0
  clear hA0
  refine (walk l0 a0 cap0 W w0 c0).mono fun e W' ⟨he, bel⟩ => ?_
  subst he
  exact ⟨_, rfl, _, _, _, [], _, [], hW', trodAll_mk1 (shut_bool Tryz.underlying4 _), (trodAll_cons_mk (Below.trod laidOut (by kernel_rfl) (of_decide_eq_true (by kernel_rfl)) k0 bel lt0) trodAll_mk0), rfl, bel.frame _, fun h => by cases h⟩
set_option maxRecDepth 100000 in
theorem lifted (os : Os) (started : os.Started) (H : Type) (enc : TypeId × Value → H) :
    ReturnsInHanded {} Tryz.checked os 3 .any (Rows.canonDecodesSpec.pre6 enc Tryz.prog Tryz.f3 Rows.canonDecodesRow.domain false) (Rows.canonDecodesSpec.post enc Tryz.prog Tryz.f3 false true false false) := by
  refine returnsInHanded_of_change_sized (C := Tryz.checked) own started (by kernel_rfl) Tryz.func3
    (ChangeSpec.witness6 (enc := enc) (C := Tryz.checked) false ⟨#[], #[.slice none 0 0], []⟩ 8 (by kernel_rfl) (by kernel_rfl) (by kernel_rfl) (by kernel_rfl)) ?_
  intro W base args ds gs before hval hW _ hsz _
  exact contract H enc W base args ds gs before hval hW hsz
theorem over : Rows.canonDecodesRow.holds Tryz.pinned (OpenSpec.ofChange Rows.canonDecodesSpec) :=
  OpenClaim.holds_of_wide 3 Tryz.f3 rfl rfl rfl rfl rfl rfl rfl ⟨rfl, rfl, rfl, rfl, rfl⟩ rfl rfl rfl rfl rfl (by kernel_rfl) Tryz.func3 (by kernel_rfl)
    (of_decide_eq_true (by kernel_rfl)) (by unfold Func.isWrapper; first | (rw [if_pos (by decide +kernel)]; kernel_rfl) | (rw [if_neg (by decide +kernel)]; exact ⟨rfl, rfl⟩))
    (fun os started H enc _ => lifted os started H enc)
theorem proved : Rows.CanonDecodesSaid := over
end Go.Proofs.YtfcgcpfckbmgnaaGreat.canonDecodes
