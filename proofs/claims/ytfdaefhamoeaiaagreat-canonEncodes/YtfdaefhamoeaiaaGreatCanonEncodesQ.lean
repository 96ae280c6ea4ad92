/- Every record of canon.Encode is the document's, and new memory; Size tells its length; the state stays: for every state. -/
import Derived.Test.YtfdaefhamoeaiaaGreatK50
import Derived.Test.YtfdaefhamoeaiaaGreatK51
import Derived.SizedLaws
import Derived.ChangeOld
import Derived.JoinedCond
import Derived.Laws.OwnMore
namespace Go.Proofs.YtfdaefhamoeaiaaGreat.canonEncodes
open Go.ChangeShapes Go.WideShapes Go.ChangeAt Go.RowKit
set_option linter.unusedVariables false
theorem own_bytes {w : World} {base : Nat} {a : Option Addr} {k c : Nat} {m : List Nat} (h : Own w base (.slice a k c) m) : Bytes w a m := by
  obtain ⟨a2, c2, hv, _, _, hb, _⟩ := h.shape
  injection hv with h1
  subst h1
  exact hb
theorem ob_ne {a : Option Addr} {k c g : Nat} (h : ∀ x, a = some x → x.block ≠ g) : (Value.slice a k c).ownBlock ≠ some g := by
  cases a with
  | none => simp [Value.ownBlock]
  | some x => have := h x rfl; simpa [Value.ownBlock] using this
/-- while the first answer is turned -/
structure Fl (w wr : World) (ap : Option Addr) (k cp : Nat) (vq vw : Value) (m : List Nat) : Prop where
  bel : Below w.heap.size w wr
  p : ∃ xs, wr.ownsRow w.heap.size 5 1 (.slice ap k cp) k xs ∧ ∀ x ∈ xs, ∃ z : Int, x = .int .u8 z
  q : Own wr w.heap.size vq m
  r : Own wr w.heap.size vw m
theorem Fl.step {w wr : World} {ap : Option Addr} {k cp : Nat} {vq vw : Value} {m : List Nat} (h : Fl w wr ap k cp vq vw m) (hs : ∀ g, ap = some ⟨g, 0, none⟩ → vq.ownBlock ≠ some g ∧ vw.ownBlock ≠ some g) (j : Nat) (hj : j < k) :
    ∃ g z, ap = some ⟨g, 0, none⟩ ∧ wr.cell? ⟨g, j, none⟩ = some (.int .u8 z) ∧ wr.frozen? ⟨g, j, none⟩ = false ∧ ∀ y : Int, Fl w (wr.setCell ⟨g, j, none⟩ (.int .u8 y)) ap k cp vq vw m := by
  obtain ⟨xs, hx, hz⟩ := h.p
  have hx2 := hx
  rcases hx2.2 with ⟨_, hn⟩ | ⟨g, cap, cur, hv, hb, _⟩
  · omega
  · injection hv with h1 h2 h3
    subst h1
    have e2 := hx.cellAt j (by omega)
    have hl := hx.1
    obtain ⟨x, hxj⟩ : ∃ x, xs[j]? = some x := ⟨_, List.getElem?_eq_getElem (by omega)⟩
    obtain ⟨z, rfl⟩ := hz x (List.mem_of_getElem? hxj)
    refine ⟨g, z, rfl, by rw [e2]; exact hxj, hx.frozenAt j, fun y => ?_⟩
    have hst := hx.stored j (.int .u8 y)
    obtain ⟨s1, s2⟩ := hs g rfl
    exact ⟨h.bel.setCell (p := ⟨g, j, none⟩) hb _, ⟨_, hst.1, fun x hx => by rcases List.mem_or_eq_of_mem_set hx with h9 | rfl; exact hz x h9; exact ⟨y, rfl⟩⟩, ⟨h.q.1, h.q.2.kept hst.2 (.inr s1)⟩, ⟨h.r.1, h.r.2.kept hst.2 (.inr s2)⟩⟩
theorem Fl.start {w x : World} {ap aq aw : Option Addr} {k cp cq cw : Nat} {m : List Nat} (hb : Below w.heap.size w x) (hp : Own x w.heap.size (.slice ap k cp) m) (hq : Own x w.heap.size (.slice aq k cq) m) (hr : Own x w.heap.size (.slice aw k cw) m) (hk : m.length = k) : Fl w x ap k cp (.slice aq k cq) (.slice aw k cw) m := by
  subst hk
  exact ⟨hb, ⟨_, hp.2, fun x hx => by obtain ⟨n, _, rfl⟩ := List.mem_map.1 hx; exact ⟨_, rfl⟩⟩, hq, hr⟩
theorem own_le {w : World} {b b' : Nat} {v : Value} {m : List Nat} (h : Own w b' v m) (hb : b ≤ b') : Own w b v m := ⟨h.1, h.2.mono hb⟩
set_option maxRecDepth 20000 in
set_option maxHeartbeats 4000000 in
theorem walk (s : St) (a : Option Addr) (n cap : Nat) (w : World) (hn : s.lines.length = n) (hl : Lns w a s.lines) (hc : n ≤ cap) (hm : n * 32 ≤ 140737488351232) :
    Calls Tryz.prog 3 #[.agg (stA s (.slice a n cap))] w fun r w' => r = .returned (.bool true) ∧ Below w.heap.size w w' := by
  have HN : Hid (s.lines.length = n) := hn
  have hlm : n ≤ maxLen := by unfold maxLen; omega
  have HC0 : Hid (StC w w.heap.size s a n cap (w.alloc (.cells (stA s (.slice a n cap)) 25))) := StC.new w s a n cap hl
  obtain ⟨l, c, hE⟩ : ∃ l c, cenc s = (l, c) := ⟨_, _, rfl⟩
  have HE : Hid (cenc s = (l, c)) := hE
  obtain ⟨k, hk⟩ : ∃ k, l.length = k := ⟨_, rfl⟩
  have HK : Hid (l.length = k) := hk
  have hk1 : k ≤ 1024 := by have := cenc_len s; rw [hE] at this; simp only at this; omega
  have hkm : k ≤ maxLen := by unfold maxLen; omega
  have HSZ : Hid ((cenc s).1.length = k) := by show _ = _; rw [hE]; exact hk
  have T1 : Hid True := trivial
  have T2 : Hid True := trivial
  have T3 : Hid True := trivial
  have T4 : Hid True := trivial
  have E1 : Hid True := trivial
  have E2 : Hid True := trivial
  have E3 : Hid True := trivial
  have G1 : Hid True := trivial
  have G2 : Hid True := trivial
  have G3 : Hid True := trivial
  clear hn hl hE hk
  go_enter Tryz.func3, Tryz.ntmps3
  go_wp2_with (first
    | (go_at_call 5; refine (head09_any _).mono ?_; rintro _ x1 ⟨rfl, hb⟩; have HC1 : Hid (StC w w.heap.size s a n cap x1) := StC.keep HC0.out hb; clear hb)
    | ((with_reducible refine guard_load 25 ?_); clear T1; refine wpList_load_st rfl _ rfl HC1.out.1 rfl ?_)
    | (go_at_call 6; refine (scopy_any s a n cap _ HN.out HC1.out.2.1 hm).mono ?_; rintro _ x2 ⟨v2, rfl, ho2, hb⟩; obtain ⟨a2, c2, hv2, _, _, hl2, _⟩ := ho2.shape; simp only [HN.out] at hv2; subst hv2; have HL2 : Hid (Lns x2 a2 s.lines) := hl2; have HC2 : Hid (StC w w.heap.size s a n cap x2) := StC.keep HC1.out hb; clear hb ho2 hl2)
    | ((with_reducible refine guard_store 25 ?_); refine wpList_store_st (s := zeroS) (s2 := s) (a2 := a2) (n2 := n) (c2 := c2) rfl _ _ rfl (StAt.new x2 zeroS (.slice none 0 0)) rfl rfl ?_; intro x3 z1 z2 z3 z4; have hu := (z2 _ _ ((Below.refl x2.heap.size x2).alloc (Nat.le_refl _) _) (Nat.le_refl _)); have HC3 : Hid (StC w w.heap.size s a n cap x3) := StC.keep HC2.out hu; have HM3 : Hid (StC w x2.heap.size s a2 n c2 x3) := ⟨z1, HL2.out.keep hu, HC3.out.2.2⟩; clear z1 z2 z3 z4 hu)
    | ((with_reducible refine guard_load 25 ?_); clear T2; refine wpList_load_st rfl _ rfl HC3.out.1 rfl ?_)
    | (go_at_call 7; clear E1; refine (renc09_any s a n cap _ HN.out HC3.out.2.1 hlm).mono ?_; unfold CencPost; rw [HE.out]; rintro _ x4 ⟨v4, rfl, ho, hb⟩; obtain ⟨a4, c4, hv, _, _, _, hs⟩ := ho.shape; simp only [HK.out] at hv; subst hv; have HW4 : Hid (Own x4 x3.heap.size (.slice a4 k c4) l) := ho; have HC4 : Hid (StC w w.heap.size s a n cap x4) := StC.keep HC3.out hb; have HM4 : Hid (StC w x2.heap.size s a2 n c2 x4) := StC.keep HM3.out hb; have HSW : Hid (∀ x, a4 = some x → x.block < x4.heap.size) := (fun x hx => by rcases hs with ⟨h1, _⟩ | ⟨g, h1, _, h2⟩; rw [h1] at hx; cases hx; rw [h1] at hx; cases hx; exact h2); clear hb ho hs)
    | ((with_reducible refine guard_load 25 ?_); clear T3; refine wpList_load_st rfl _ rfl HM4.out.1 rfl ?_)
    | (go_at_call 8; clear E2; refine (cenc_any s a2 n c2 _ HN.out HM4.out.2.1 hlm).mono ?_; unfold CencPost; rw [HE.out]; rintro _ x5 ⟨v5, rfl, ho, hb⟩; obtain ⟨a5, c5, hv, _, _, _, hs⟩ := ho.shape; simp only [HK.out] at hv; subst hv; have HP5 : Hid (Own x5 x4.heap.size (.slice a5 k c5) l) := ho; have HW5 : Hid (Own x5 x3.heap.size (.slice a4 k c4) l) := ⟨HW4.out.1, own_below HW4.out.2 hb⟩; have HC5 : Hid (StC w w.heap.size s a n cap x5) := StC.keep HC4.out hb; have HM5 : Hid (StC w x2.heap.size s a2 n c2 x5) := StC.keep HM4.out hb; have HSP : Hid (∀ g, a5 = some ⟨g, 0, none⟩ → x4.heap.size ≤ g ∧ g < x5.heap.size) := (fun g hx => by rcases hs with ⟨h1, _⟩ | ⟨g2, h1, h3, h2⟩; rw [h1] at hx; cases hx; rw [h1] at hx; cases hx; exact ⟨h3, h2⟩); clear hb ho hs)
    | ((with_reducible refine guard_load 25 ?_); clear T4; refine wpList_load_st rfl _ rfl HM5.out.1 rfl ?_)
    | (go_at_call 8; clear E3; refine (cenc_any s a2 n c2 _ HN.out HM5.out.2.1 hlm).mono ?_; unfold CencPost; rw [HE.out]; rintro _ x6 ⟨v6, rfl, ho, hb⟩; obtain ⟨a6, c6, hv, _, _, _, hs⟩ := ho.shape; simp only [HK.out] at hv; subst hv; have HQ6 : Hid (Own x6 x5.heap.size (.slice a6 k c6) l) := ho; have HW6 : Hid (Own x6 x3.heap.size (.slice a4 k c4) l) := ⟨HW5.out.1, own_below HW5.out.2 hb⟩; have HP6 : Hid (Own x6 x4.heap.size (.slice a5 k c5) l) := ⟨HP5.out.1, own_below HP5.out.2 hb⟩; have HC6 : Hid (StC w w.heap.size s a n cap x6) := StC.keep HC5.out hb; have HM6 : Hid (StC w x2.heap.size s a2 n c2 x6) := StC.keep HM5.out hb; have HSQ : Hid (∀ x, a6 = some x → x5.heap.size ≤ x.block) := (fun x hx => by rcases hs with ⟨h1, _⟩ | ⟨g, h1, h3, _⟩; rw [h1] at hx; cases hx; rw [h1] at hx; cases hx; exact h3); clear hb ho hs)
    | (go_at_call 9; refine (same_yes l k k a5 a4 c5 c4 _ HK.out HK.out (own_bytes HP6.out) (own_bytes HW6.out) hkm).mono ?_; rintro _ x7 ⟨rfl, hb⟩; have HW7 : Hid (Own x7 x3.heap.size (.slice a4 k c4) l) := ⟨HW6.out.1, own_below HW6.out.2 hb⟩; have HP7 : Hid (Own x7 x4.heap.size (.slice a5 k c5) l) := ⟨HP6.out.1, own_below HP6.out.2 hb⟩; have HQ7 : Hid (Own x7 x5.heap.size (.slice a6 k c6) l) := ⟨HQ6.out.1, own_below HQ6.out.2 hb⟩; have HC7 : Hid (StC w w.heap.size s a n cap x7) := StC.keep HC6.out hb; have HM7 : Hid (StC w x2.heap.size s a2 n c2 x7) := StC.keep HM6.out hb; clear hb)
    | ((with_reducible refine guard_loadg 25 ?_); clear G1; refine wpList_load_stg rfl _ rfl HM7.out.1 rfl ?_)
    | (go_at_call 10; refine (csize_any s a2 n c2 _ HN.out HM7.out.2.1 hlm).mono ?_; rw [HSZ.out]; rintro _ x8 ⟨rfl, hb⟩; have HW8 : Hid (Own x8 x3.heap.size (.slice a4 k c4) l) := ⟨HW7.out.1, own_below HW7.out.2 hb⟩; have HP8 : Hid (Own x8 x4.heap.size (.slice a5 k c5) l) := ⟨HP7.out.1, own_below HP7.out.2 hb⟩; have HQ8 : Hid (Own x8 x5.heap.size (.slice a6 k c6) l) := ⟨HQ7.out.1, own_below HQ7.out.2 hb⟩; have HC8 : Hid (StC w w.heap.size s a n cap x8) := StC.keep HC7.out hb; have HM8 : Hid (StC w x2.heap.size s a2 n c2 x8) := StC.keep HM7.out hb; clear hb)
    | ((with_reducible refine guard_loadg 25 ?_); clear G2; refine wpList_load_stg rfl _ rfl HM8.out.1 rfl ?_)
    | ((with_reducible refine guard_loadg 25 ?_); clear G3; refine wpList_load_stg rfl _ rfl HC8.out.1 rfl ?_)
    | (go_at_call 11; refine (ssame_yes s a2 a n c2 cap _ HN.out HM8.out.2.1 HC8.out.2.1 hlm).mono ?_; rintro _ x9 ⟨rfl, hb⟩; have HW9 : Hid (Own x9 x3.heap.size (.slice a4 k c4) l) := ⟨HW8.out.1, own_below HW8.out.2 hb⟩; have HP9 : Hid (Own x9 x4.heap.size (.slice a5 k c5) l) := ⟨HP8.out.1, own_below HP8.out.2 hb⟩; have HQ9 : Hid (Own x9 x5.heap.size (.slice a6 k c6) l) := ⟨HQ8.out.1, own_below HQ8.out.2 hb⟩; have HC9 : Hid (StC w w.heap.size s a n cap x9) := StC.keep HC8.out hb; clear hb))
  have HFL : Hid (Fl w x9 a5 k c5 (.slice a6 k c6) (.slice a4 k c4) l) := Fl.start HC9.out.2.2 (own_le HP9.out HC4.out.2.2.size) (own_le HQ9.out HC5.out.2.2.size) (own_le HW9.out HC3.out.2.2.size) HK.out
  have HSEP : Hid (∀ g, a5 = some ⟨g, 0, none⟩ → (Value.slice a6 k c6).ownBlock ≠ some g ∧ (Value.slice a4 k c4).ownBlock ≠ some g) := fun g hg => ⟨ob_ne fun x hx => by have h1 := HSQ.out x hx; have h2 := HSP.out g hg; omega, ob_ne fun x hx => by have h1 := HSW.out x hx; have h2 := HSP.out g hg; omega⟩
  have hk0 : (0 : Int) ≤ (k : Int) := by omega
  clear HP6 HP7 HP8 HP9 HQ7 HQ8 HQ9 HW5 HW6 HW7 HW8 HW9 HM3 HM4 HM5 HM6 HM7 HM8
  go_loopw [54] (fun vi wr => ∃ j : Nat, j ≤ k ∧ vi = .int .i64 (j : Int) ∧ Hid (Fl w wr a5 k c5 (.slice a6 k c6) (.slice a4 k c4) l)) (fun vi _ => k - (intOf vi).toNat)
  case atStart => exact ⟨0, by omega, rfl, HFL.out⟩
  case round =>
    obtain ⟨j, hj, rfl, HI⟩ := hrel
    by_cases hjl : j < k
    · obtain ⟨g, z, hap, c0, f0, hnew⟩ := HI.out.step HSEP.out j hjl
      have HNEW : Hid (_) := hnew
      subst hap
      clear hnew
      go_wp2
      go_roundw
      case rel => exact ⟨j + 1, by omega, by go_num, HNEW.out _⟩
      case measure => simp [intOf]; omega
    · obtain rfl : k = j := by omega
      have HY6 : Hid (Bytes wr a6 l ∧ Bytes wr a4 l) := ⟨own_bytes HI.out.q, own_bytes HI.out.r⟩
      have HB6 : Hid (Below w.heap.size w wr) := HI.out.bel
      go_wp2_with (first
        | (go_at_call 9; refine (same_yes l k k a6 a4 c6 c4 _ HK.out HK.out HY6.out.1 HY6.out.2 hkm).mono ?_; rintro _ y7 ⟨rfl, hb7⟩; have HB7 : Hid (Below w.heap.size w y7) := below_next HB6.out hb7; clear hb7))
      go_ret
      exact ⟨rfl, HB7.out⟩
theorem own : ownKnob Tryz.prog.godebug = none := by kernel_rfl
theorem laidOut : laidOutB Tryz.prog = true := by kernel_rfl
set_option maxRecDepth 100000 in
theorem contract (H : Type) (enc : TypeId × Value → H) (W : World) (base : Nat) (args : Array Value) (ds gs : List (DataW H)) (before : List MemPlace)
    (hval : ∀ (j : Nat) t v, Tryz.f3.params[j]? = some t → args[j]? = some v → Value.okWide Tryz.prog W .any base t v)
    (hW : DataW.Whole enc Tryz.prog Tryz.f3.params.toList Rows.canonEncodesSpec.vars false W args.toList ds gs before)
    (hsz : (DataW.weightsEach Tryz.prog (Tryz.f3.params.toList ++ Rows.canonEncodesSpec.plain.varTypes Tryz.prog) (ds ++ gs)).all (· ≤ reachBytes) = true) :
    Calls Tryz.prog 3 args W fun e W' => ∃ v, e = .returned v ∧ Rows.canonEncodesSpec.post enc Tryz.prog Tryz.f3 false true false false W args v W' := by
  have hW' := hW
  obtain ⟨p, q, hA0, hV, rfl, hfz, hnd⟩ := hW
  have hA : DataW.TrodAll enc Tryz.prog W 0 (fun _ => true) true Tryz.f3.params.toList args.toList ds p := hA0
  rw [Tryz.params3] at hA hval hsz
  obtain ⟨v0, vs0, d0, ds0, p0, q0, hargs, rfl, rfl, h0, r0⟩ := trodAll_cons hA
  obtain ⟨rfl, rfl, rfl⟩ := trodAll_nil r0
  obtain rfl : args = #[v0] := by cases args; simp_all
  obtain ⟨rfl, rfl⟩ := trodVars_none hV
  have k0 := h0
  have lt0 : ∀ x ∈ p0, x.block < W.heap.size := by obtain ⟨m, hm⟩ := k0; exact DataW.trod_lt m _ _ _ hm
  obtain ⟨st0, a0, n0, cap0, rfl, hlen0, w0, c0, m0⟩ := open_state (hval 0 25 v0 rfl rfl) h0 hsz (j := 0) rfl rfl
  clear hA0
  refine (walk st0 a0 n0 cap0 W hlen0 w0 c0 m0).mono fun e W' ⟨he, bel⟩ => ?_
  subst he
  exact ⟨_, rfl, _, _, _, [], _, [], hW', trodAll_mk1 (shut_bool Tryz.underlying4 _), (trodAll_cons_mk (Below.trod laidOut (by kernel_rfl) (of_decide_eq_true (by kernel_rfl)) k0 bel lt0) trodAll_mk0), rfl, bel.frame _, fun h => by cases h⟩
set_option maxRecDepth 100000 in
theorem lifted (os : Os) (started : os.Started) (H : Type) (enc : TypeId × Value → H) :
    ReturnsInHanded {} Tryz.checked os 3 .any (Rows.canonEncodesSpec.pre6 enc Tryz.prog Tryz.f3 Rows.canonEncodesRow.domain false) (Rows.canonEncodesSpec.post enc Tryz.prog Tryz.f3 false true false false) := by
  refine returnsInHanded_of_change_sized (C := Tryz.checked) own started (by kernel_rfl) Tryz.func3
    (ChangeSpec.witness6 (enc := enc) (C := Tryz.checked) false ⟨#[], #[.agg #[.int .i64 0, .int .i64 0, .int .i64 0, .int .i64 0, .int .i64 0, .slice none 0 0, .int .i64 0, .int .i64 0, .int .i64 0, .int .i64 0, .int .i64 0, .string ⟨#[]⟩]], []⟩ 8 (by kernel_rfl) (by kernel_rfl) (by kernel_rfl) (by kernel_rfl)) ?_
  intro W base args ds gs before hval hW _ hsz _
  exact contract H enc W base args ds gs before hval hW hsz
theorem over : Rows.canonEncodesRow.holds Tryz.pinned (OpenSpec.ofChange Rows.canonEncodesSpec) :=
  OpenClaim.holds_of_wide 3 Tryz.f3 rfl rfl rfl rfl rfl rfl rfl ⟨rfl, rfl, rfl, rfl, rfl⟩ rfl rfl rfl rfl rfl (by kernel_rfl) Tryz.func3 (by kernel_rfl)
    (of_decide_eq_true (by kernel_rfl)) (by unfold Func.isWrapper; first | (rw [if_pos (by decide +kernel)]; kernel_rfl) | (rw [if_neg (by decide +kernel)]; exact ⟨rfl, rfl⟩))
    (fun os started H enc _ => lifted os started H enc)
theorem proved : Rows.CanonEncodesSaid := over
end Go.Proofs.YtfdaefhamoeaiaaGreat.canonEncodes
