/- For every two texts, every two numbers and every length, where the texts hold together at most 1048576 values: the sums of two pieces make the sum of both; and Combine is the register over noughts. -/
import Derived.Test.YtnecnedkoddihaaDoorCrcTie
import Derived.Test.YtnecnedkoddihaaDoorHead03
import Derived.Test.YtnecnedkoddihaaDoorComb
import Derived.Test.YtnecnedkoddihaaDoorRcomb
import Derived.Test.YtnecnedkoddihaaDoorJoin
import Derived.SizedLaws
import Derived.ChangeOld
import Derived.Deep.QuietTactic
import Derived.BigQuiet
import Derived.Deep.RegionHeld
import Derived.JoinedCond
import Derived.Deep.CondSized
import Derived.Test.YtnecnedkoddihaaDoorBulk
namespace Go.Proofs.YtnecnedkoddihaaDoor.crcCombines
open Go.ChangeShapes Go.WideShapes Go.ChangeAt Go.RowKit
set_option linter.unusedVariables false
theorem wf_u32 (n : Int) (h : (Lit.int .u32 n).wf = true) : 0 ≤ n ∧ n < 4294967296 := by
  simp [Lit.wf, IntKind.min, IntKind.max, IntKind.bits, IntKind.signed] at h; omega
theorem wf_i64 (n : Int) (h : (Lit.int .i64 n).wf = true) : -9223372036854775808 ≤ n ∧ n ≤ 9223372036854775807 := by
  simp [Lit.wf, IntKind.min, IntKind.max, IntKind.bits, IntKind.signed] at h; omega
theorem comb_int (a b R : Nat) (n : Int) (w : World) (hR : Crcm.shN (8 * n.toNat) a ^^^ b = R) (ha : a < 4294967296) (hb : b < 4294967296) (hn : n ≤ 9223372036854775807) (ht : Tab w) :
    Calls Tryd.prog 7 #[.int .u32 a, .int .u32 b, .int .i64 n] w fun e w' => e = .returned (.int .u32 (R : Int)) ∧ Below w.heap.size w w' := by
  subst hR
  by_cases h : n < 0
  · rw [show n.toNat = 0 from by omega]
    exact comb_neg a b n w ha hb h ht
  · obtain ⟨N, rfl⟩ : ∃ N : Nat, n = (N : Int) := ⟨n.toNat, by omega⟩
    rw [Int.toNat_natCast]
    exact comb_nat a b N w ha hb (by omega) ht
set_option maxRecDepth 20000 in
set_option maxHeartbeats 1000000 in
theorem join_none (l : List Nat) (n1 : Nat) (a1 : Option Addr) (c1 : Nat) (w : World) (h1 : l.length = n1) (hb1 : Bytes w a1 l) (hl : l.length ≤ 140737488355328) :
    Calls Tryd.prog 10 #[.slice a1 n1 c1, .slice none 0 0] w fun e w' => ∃ v, e = .returned v ∧ Own w' w.heap.size v l ∧ Below w.heap.size w w' := by
  subst h1
  obtain ⟨i0, hi, hz0, hz1, hz2⟩ := info_parts Tryd.info5c
  have HB1 : Hid (Bytes w a1 l) := hb1
  clear hb1
  go_enter Tryd.func10, Tryd.ntmps10
  go_wp2_with (first
    | (go_at_call 13; refine (copy_any l _ _ _ HB1.out (by omega)).mono ?_; rintro e w3 ⟨v3, rfl, ho3, hb3⟩)
    | (at_builtin; refine wpList_append_own_none rfl _ _ 22 rfl w.heap.size 5 i0 1 Tryd.underlying22 hi _ _ _ rfl ho3.2 rfl ?_))
  go_ret
  exact ⟨v3, rfl, ho3, hb3⟩
theorem join_all (l m : List Nat) (n1 n2 : Nat) (a1 a2 : Option Addr) (c1 c2 : Nat) (w : World) (h1 : l.length = n1) (h2 : m.length = n2) (hb1 : Bytes w a1 l) (hb2 : Bytes w a2 m) (hl : l.length + m.length ≤ 140737488355328) (hle : n2 ≤ c2) (hn : a2 = none → c2 = 0) :
    Calls Tryd.prog 10 #[.slice a1 n1 c1, .slice a2 n2 c2] w fun e w' => ∃ v, e = .returned v ∧ Own w' w.heap.size v (l ++ m) ∧ Below w.heap.size w w' := by
  cases a2 with
  | some x => exact join_any l m n1 n2 a1 x c1 c2 w h1 h2 hb1 hb2 hl
  | none =>
    have hc := hn rfl
    subst hc
    have hn2 : n2 = 0 := by omega
    subst hn2
    have hm : m = [] := List.length_eq_zero_iff.1 h2
    subst hm
    rw [List.append_nil]
    exact join_none l n1 a1 c1 w h1 hb1 (by omega)
theorem sum_two (l m : List Nat) (hm : ∀ x ∈ m, x < 256) : Crcm.shN (8 * m.length) (Crcm.sum l) ^^^ Crcm.sum m = Crcm.sum (l ++ m) := by
  have e1 : Crcm.sum (l ++ m) = Crcm.update (Crcm.sum l) m := Crcm.update_append 0 l m
  rw [e1]
  show Crcm.shN (8 * m.length) (Crcm.sum l) ^^^ (Crcm.upd (0 ^^^ Crcm.ones) m ^^^ Crcm.ones) = Crcm.upd (Crcm.sum l ^^^ Crcm.ones) m ^^^ Crcm.ones
  rw [Nat.zero_xor, Crcm.upd_val _ m hm, Crcm.upd_val _ m hm, Nat.xor_assoc (Crcm.sum l), Crcm.shN_xor (8 * m.length) (Crcm.sum l), Nat.xor_assoc]
set_option maxRecDepth 100000 in
set_option maxHeartbeats 2000000 in
theorem walk (lx : List Nat) (x : Option Addr) (cx : Nat) (ly : List Nat) (y : Option Addr) (cy : Nat) (a b n : Int) (w : World) (hx : Bytes w x lx) (ccx : Came w x lx.length cx 1) (hy : Bytes w y ly) (ccy : Came w y ly.length cy 1) (wa : (Lit.int .u32 a).wf = true) (wb : (Lit.int .u32 b).wf = true) (wn : (Lit.int .i64 n).wf = true) (hsum : cx + cy ≤ 1048576) (ht : Tab w) :
    Calls Tryd.prog 3 #[.slice x lx.length cx, .slice y ly.length cy, .int .u32 a, .int .u32 b, .int .i64 n] w fun e w' => e = .returned (.bool true) ∧ Below w.heap.size w w' := by
  obtain ⟨fx, rx, nx⟩ := ccx
  obtain ⟨fy, ry, ny⟩ := ccy
  have ba := wf_u32 a wa
  have bb := wf_u32 b wb
  have bn := wf_i64 n wn
  obtain ⟨A, rfl⟩ : ∃ A : Nat, a = (A : Int) := ⟨a.toNat, by omega⟩
  obtain ⟨B, rfl⟩ : ∃ B : Nat, b = (B : Int) := ⟨b.toNat, by omega⟩
  have HA : Hid (A < 4294967296) := by show A < 4294967296; omega
  have HB : Hid (B < 4294967296) := by show B < 4294967296; omega
  have HT : Hid (Tab w) := ht
  have HX : Hid (Bytes w x lx) := hx
  have HY : Hid (Bytes w y ly) := hy
  have HNY : Hid (y = none → cy = 0) := ny
  have HNN : Hid (n ≤ 9223372036854775807) := bn.2
  obtain ⟨S, hS⟩ : ∃ S, Crcm.sum lx = S := ⟨_, rfl⟩
  obtain ⟨U, hU⟩ : ∃ U, Crcm.sum ly = U := ⟨_, rfl⟩
  obtain ⟨V, hV⟩ : ∃ V, Crcm.sum (lx ++ ly) = V := ⟨_, rfl⟩
  have HS : Hid (Crcm.sum lx = S) := hS
  have HU : Hid (Crcm.sum ly = U) := hU
  have HV : Hid (Crcm.sum (lx ++ ly) = V) := hV
  have HSL : Hid (S < 4294967296) := by show S < 4294967296; rw [← hS]; exact Crcm.sum_lt _ hx.mem
  have HUL : Hid (U < 4294967296) := by show U < 4294967296; rw [← hU]; exact Crcm.sum_lt _ hy.mem
  have HSU : Hid (Crcm.shN (8 * (ly.length : Int).toNat) S ^^^ U = V) := by show _ = _; rw [Int.toNat_natCast, ← hS, ← hU, ← hV]; exact sum_two lx ly hy.mem
  have hlx : lx.length ≤ 1048576 := by omega
  have hly : ly.length ≤ 1048576 := by omega
  have HLX : Hid (lx.length ≤ maxLen ∧ ly.length ≤ maxLen ∧ (lx ++ ly).length ≤ maxLen ∧ lx.length + ly.length ≤ 140737488355328) := by
    rw [Hid, List.length_append]; unfold maxLen; omega
  have T1 : Hid True := trivial
  have T2 : Hid True := trivial
  have hn2 : (4096 < n ∧ 0 ≤ n.tmod 4096 ∧ n.tmod 4096 < 4096) ∨ n ≤ 4096 := by
    by_cases h : 4096 < n
    · exact .inl ⟨h, Int.tmod_nonneg _ (by omega), Int.tmod_lt_of_pos _ (by omega)⟩
    · exact .inr (by omega)
  clear ht wa wb wn ba bb bn hx hy hS hU hV nx ny
  rcases hn2 with ⟨hn, hk0, hk1⟩ | hn
  · obtain ⟨N, hN⟩ : ∃ N, n.tmod 4096 = N := ⟨_, rfl⟩
    rw [hN] at hk0 hk1
    obtain ⟨R, hR⟩ : ∃ R, Crcm.shN (8 * N.toNat) A ^^^ B = R := ⟨_, rfl⟩
    have HR : Hid (Crcm.shN (8 * N.toNat) A ^^^ B = R) := hR
    have HN : Hid (N ≤ 4096 ∧ N ≤ 9223372036854775807) := ⟨by omega, by omega⟩
    clear hR hk0 hk1
    go_enter Tryd.func3, Tryd.ntmps3
    go_wp2_with (first
      | (go_at_call 6; refine (head03_any w HT.out).mono ?_; rintro e w1 ⟨rfl, hb1⟩; have HB1 : Hid (Below w.heap.size w w1) := hb1; clear hb1)
      | (go_at_call 8; clear T1; refine (sum_any lx _ _ _ _ rfl (HX.out.keep HB1.out) HLX.out.1 (HT.out.keep HB1.out)).mono ?_; rw [HS.out]; rintro e w2 ⟨rfl, rfl⟩)
      | (go_at_call 8; refine (sum_any ly _ _ _ _ rfl (HY.out.keep HB1.out) HLX.out.2.1 (HT.out.keep HB1.out)).mono ?_; rw [HU.out]; rintro e w3 ⟨rfl, rfl⟩)
      | (go_at_call 7; clear T2; refine (comb_int S U V _ _ HSU.out HSL.out HUL.out (by omega) (HT.out.keep HB1.out)).mono ?_; rintro e w4 ⟨rfl, hb4⟩; have HB4 : Hid (Below w.heap.size w w4) := below_after HB1.out hb4; clear hb4)
      | (go_at_call 10; refine (join_all lx ly _ _ _ _ _ _ _ rfl rfl (HX.out.keep HB4.out) (HY.out.keep HB4.out) HLX.out.2.2.2 fy HNY.out).mono ?_; rintro e w5 ⟨v5, rfl, ho5, hb5⟩; obtain ⟨a5, cap5, rfl, hby5⟩ := ho5.slice; have HB5 : Hid (Below w.heap.size w w5) := below_after HB4.out hb5; have HY5 : Hid (Bytes w5 a5 (lx ++ ly)) := hby5; clear hb5 hby5 ho5)
      | (go_at_call 9; refine (rsum_any (lx ++ ly) _ _ _ _ List.length_append HY5.out HLX.out.2.2.1).mono ?_; rw [HV.out]; rintro e w6 ⟨rfl, rfl⟩)
      | (go_at_call 7; refine (comb_int A B R _ _ HR.out HA.out HB.out HN.out.2 (HT.out.keep HB5.out)).mono ?_; rintro e w7 ⟨rfl, hb7⟩; have HB7 : Hid (Below w.heap.size w w7) := below_after HB5.out hb7; clear hb7)
      | (go_at_call 11; refine (rcomb_any A B _ _ HA.out HB.out HN.out.1).mono ?_; rw [HR.out]; rintro e w8 ⟨rfl, hb8⟩; have HB8 : Hid (Below w.heap.size w w8) := below_after HB7.out hb8; clear hb8))
    go_ret
    exact ⟨rfl, HB8.out⟩
  · obtain ⟨R, hR⟩ : ∃ R, Crcm.shN (8 * n.toNat) A ^^^ B = R := ⟨_, rfl⟩
    have HR : Hid (Crcm.shN (8 * n.toNat) A ^^^ B = R) := hR
    have HN : Hid (n ≤ 4096 ∧ n ≤ 9223372036854775807) := ⟨by omega, by omega⟩
    clear hR
    go_enter Tryd.func3, Tryd.ntmps3
    go_wp2_with (first
      | (go_at_call 6; refine (head03_any w HT.out).mono ?_; rintro e w1 ⟨rfl, hb1⟩; have HB1 : Hid (Below w.heap.size w w1) := hb1; clear hb1)
      | (go_at_call 8; clear T1; refine (sum_any lx _ _ _ _ rfl (HX.out.keep HB1.out) HLX.out.1 (HT.out.keep HB1.out)).mono ?_; rw [HS.out]; rintro e w2 ⟨rfl, rfl⟩)
      | (go_at_call 8; refine (sum_any ly _ _ _ _ rfl (HY.out.keep HB1.out) HLX.out.2.1 (HT.out.keep HB1.out)).mono ?_; rw [HU.out]; rintro e w3 ⟨rfl, rfl⟩)
      | (go_at_call 7; clear T2; refine (comb_int S U V _ _ HSU.out HSL.out HUL.out (by omega) (HT.out.keep HB1.out)).mono ?_; rintro e w4 ⟨rfl, hb4⟩; have HB4 : Hid (Below w.heap.size w w4) := below_after HB1.out hb4; clear hb4)
      | (go_at_call 10; refine (join_all lx ly _ _ _ _ _ _ _ rfl rfl (HX.out.keep HB4.out) (HY.out.keep HB4.out) HLX.out.2.2.2 fy HNY.out).mono ?_; rintro e w5 ⟨v5, rfl, ho5, hb5⟩; obtain ⟨a5, cap5, rfl, hby5⟩ := ho5.slice; have HB5 : Hid (Below w.heap.size w w5) := below_after HB4.out hb5; have HY5 : Hid (Bytes w5 a5 (lx ++ ly)) := hby5; clear hb5 hby5 ho5)
      | (go_at_call 9; refine (rsum_any (lx ++ ly) _ _ _ _ List.length_append HY5.out HLX.out.2.2.1).mono ?_; rw [HV.out]; rintro e w6 ⟨rfl, rfl⟩)
      | (go_at_call 7; refine (comb_int A B R _ _ HR.out HA.out HB.out HN.out.2 (HT.out.keep HB5.out)).mono ?_; rintro e w7 ⟨rfl, hb7⟩; have HB7 : Hid (Below w.heap.size w w7) := below_after HB5.out hb7; clear hb7)
      | (go_at_call 11; refine (rcomb_any A B _ _ HA.out HB.out HN.out.1).mono ?_; rw [HR.out]; rintro e w8 ⟨rfl, hb8⟩; have HB8 : Hid (Below w.heap.size w w8) := below_after HB7.out hb8; clear hb8))
    go_ret
    exact ⟨rfl, HB8.out⟩
theorem own : ownKnob Tryd.prog.godebug = none := by kernel_rfl
theorem laidOut : laidOutB Tryd.prog = true := by kernel_rfl
set_option maxRecDepth 100000 in
theorem contract (H : Type) (enc : TypeId × Value → H) (W : World) (base : Nat) (args : Array Value) (ds gs : List (DataW H)) (before : List MemPlace)
    (hval : ∀ (j : Nat) t v, Tryd.f3.params[j]? = some t → args[j]? = some v → Value.okWide Tryd.prog W .any base t v)
    (hW : DataW.Whole enc Tryd.prog Tryd.f3.params.toList Rows.crcCombinesSpec.vars false W args.toList ds gs before)
    (hsz : (DataW.weightsEach Tryd.prog (Tryd.f3.params.toList ++ Rows.crcCombinesSpec.plain.varTypes Tryd.prog) (ds ++ gs)).all (· ≤ reachBytes) = true) (hk : Rows.uptoSmall H (ds ++ gs) = true) (hL : laidMetH Tryd.prog [("daybook/crc.halves", Rows.laid_daybook_crc_halves)] W) :
    Calls Tryd.prog 3 args W fun e W' => ∃ v, e = .returned v ∧ Rows.crcCombinesSpec.post enc Tryd.prog Tryd.f3 false true false false W args v W' := by
  have hW' := hW
  obtain ⟨p, q, hA0, hV, rfl, hfz, hnd⟩ := hW
  have hA : DataW.TrodAll enc Tryd.prog W 0 (fun _ => true) true Tryd.f3.params.toList args.toList ds p := hA0
  rw [Tryd.params3] at hA hval hsz
  obtain ⟨v0, vs0, d0, ds0, p0, q0, hargs, rfl, rfl, h0, r0⟩ := trodAll_cons hA
  obtain ⟨v1, vs1, d1, ds1, p1, q1, rfl, rfl, rfl, h1, r1⟩ := trodAll_cons r0
  obtain ⟨v2, vs2, d2, ds2, p2, q2, rfl, rfl, rfl, h2, r2⟩ := trodAll_cons r1
  obtain ⟨v3, vs3, d3, ds3, p3, q3, rfl, rfl, rfl, h3, r3⟩ := trodAll_cons r2
  obtain ⟨v4, vs4, d4, ds4, p4, q4, rfl, rfl, rfl, h4, r4⟩ := trodAll_cons r3
  obtain ⟨rfl, rfl, rfl⟩ := trodAll_nil r4
  obtain rfl : args = #[v0, v1, v2, v3, v4] := by cases args; simp_all
  obtain ⟨rfl, rfl⟩ := trodVars_none hV
  obtain ⟨a0, len0, cap0, rfl⟩ := okWide_slice Tryd.underlying22 (hval 0 22 v0 rfl rfl)
  have k0 := h0
  have lt0 : ∀ x ∈ p0, x.block < W.heap.size := by obtain ⟨m, hm⟩ := k0; exact DataW.trod_lt m _ _ _ hm
  obtain ⟨l0, hlen0, w0, c0, u0⟩ : ∃ l : List Nat, l.length = len0 ∧ Bytes W a0 l ∧ Came W a0 len0 cap0 1 ∧ cap0 + 1 ≤ Rows.uptoBulk d0 := by
    obtain ⟨fuel, hf⟩ := h0
    rcases open_ints Tryd.underlying22 Tryd.underlying5 (by kernel_rfl) hf with ⟨hcs, hx⟩ | ⟨x, l, c, zs, hcs, _, hl, hm, hz, hx, hcell, hwz⟩
    · simp [Value.cells] at hcs
      obtain ⟨rfl, rfl, rfl⟩ := hcs
      obtain ⟨rfl, rfl⟩ := Prod.mk.inj hx
      exact ⟨[], rfl, ⟨by simp, .inl rfl⟩, ⟨Nat.le_refl _, by simp, fun _ => rfl⟩, by simp [Rows.uptoBulk]⟩
    · simp [Value.cells] at hcs
      obtain ⟨rfl, rfl, rfl⟩ := hcs
      have hz2 : zs.length = cap0 := by simpa using hz
      obtain ⟨ll, e1, e2, e3⟩ := row_nats .u8 256 (by decide) wf_u8 W x zs len0 (by omega) hcell hwz
      have hd : d0 = .slice (lits .u8 (zs.take len0)) (lits .u8 (zs.drop len0)) := (Prod.mk.inj hx).1
      have hreach : cap0 * 1 ≤ 140737488351232 := by
        have := sized_slice hsz (j := 0) (t := 22) (e := 5) rfl (by rw [hd]; rfl) Tryd.underlying22
        rw [show Tryd.prog.bytesOf 5 = 1 from by kernel_rfl] at this
        simp only [lits, List.length_map, List.length_take, List.length_drop, reachBytes] at this
        have hmin : min len0 zs.length = len0 := Nat.min_eq_left (by omega)
        rw [hmin] at this
        have hcap : len0 + (zs.length - len0) = cap0 := by omega
        rw [hcap] at this
        exact this
      refine ⟨ll, e1, ⟨e2, e3⟩, ⟨hl, hreach, fun h => by cases h⟩, ?_⟩
      rw [hd]
      have := bulks.slice_le (lits (H := H) .u8 (zs.take len0)) (lits .u8 (zs.drop len0))
      simp only [lits, List.length_map, List.length_take, List.length_drop] at this ⊢
      omega
  subst hlen0
  obtain ⟨a1, len1, cap1, rfl⟩ := okWide_slice Tryd.underlying22 (hval 1 22 v1 rfl rfl)
  have k1 := h1
  have lt1 : ∀ x ∈ p1, x.block < W.heap.size := by obtain ⟨m, hm⟩ := k1; exact DataW.trod_lt m _ _ _ hm
  obtain ⟨l1, hlen1, w1, c1, u1⟩ : ∃ l : List Nat, l.length = len1 ∧ Bytes W a1 l ∧ Came W a1 len1 cap1 1 ∧ cap1 + 1 ≤ Rows.uptoBulk d1 := by
    obtain ⟨fuel, hf⟩ := h1
    rcases open_ints Tryd.underlying22 Tryd.underlying5 (by kernel_rfl) hf with ⟨hcs, hx⟩ | ⟨x, l, c, zs, hcs, _, hl, hm, hz, hx, hcell, hwz⟩
    · simp [Value.cells] at hcs
      obtain ⟨rfl, rfl, rfl⟩ := hcs
      obtain ⟨rfl, rfl⟩ := Prod.mk.inj hx
      exact ⟨[], rfl, ⟨by simp, .inl rfl⟩, ⟨Nat.le_refl _, by simp, fun _ => rfl⟩, by simp [Rows.uptoBulk]⟩
    · simp [Value.cells] at hcs
      obtain ⟨rfl, rfl, rfl⟩ := hcs
      have hz2 : zs.length = cap1 := by simpa using hz
      obtain ⟨ll, e1, e2, e3⟩ := row_nats .u8 256 (by decide) wf_u8 W x zs len1 (by omega) hcell hwz
      have hd : d1 = .slice (lits .u8 (zs.take len1)) (lits .u8 (zs.drop len1)) := (Prod.mk.inj hx).1
      have hreach : cap1 * 1 ≤ 140737488351232 := by
        have := sized_slice hsz (j := 1) (t := 22) (e := 5) rfl (by rw [hd]; rfl) Tryd.underlying22
        rw [show Tryd.prog.bytesOf 5 = 1 from by kernel_rfl] at this
        simp only [lits, List.length_map, List.length_take, List.length_drop, reachBytes] at this
        have hmin : min len1 zs.length = len1 := Nat.min_eq_left (by omega)
        rw [hmin] at this
        have hcap : len1 + (zs.length - len1) = cap1 := by omega
        rw [hcap] at this
        exact this
      refine ⟨ll, e1, ⟨e2, e3⟩, ⟨hl, hreach, fun h => by cases h⟩, ?_⟩
      rw [hd]
      have := bulks.slice_le (lits (H := H) .u8 (zs.take len1)) (lits .u8 (zs.drop len1))
      simp only [lits, List.length_map, List.length_take, List.length_drop] at this ⊢
      omega
  subst hlen1
  obtain ⟨a2, rfl, rfl, rfl, w2⟩ := open_int Tryd.underlying23 (hval 2 23 v2 rfl rfl) h2
  obtain ⟨a3, rfl, rfl, rfl, w3⟩ := open_int Tryd.underlying23 (hval 3 23 v3 rfl rfl) h3
  obtain ⟨a4, rfl, rfl, rfl, w4⟩ := open_int Tryd.underlying3 (hval 4 3 v4 rfl rfl) h4
  have hbk := bulks.bound hk
  simp only [List.append_nil, Rows.uptoBulkAll] at hbk
  have hsum : cap0 + cap1 ≤ 1048576 := by omega
  clear hA0
  refine (walk l0 a0 cap0 l1 a1 cap1 a2 a3 a4 W w0 c0 w1 c1 w2 w3 w4 hsum (tab_of hL)).mono fun e W' ⟨he, bel⟩ => ?_
  subst he
  exact ⟨_, rfl, _, _, _, [], _, [], hW', trodAll_mk1 (shut_bool Tryd.underlying4 _), (trodAll_cons_mk (Below.trod laidOut (by kernel_rfl) (of_decide_eq_true (by kernel_rfl)) k0 bel lt0) (trodAll_cons_mk (Below.trod laidOut (by kernel_rfl) (of_decide_eq_true (by kernel_rfl)) k1 bel lt1) (trodAll_cons_mk (shut_int Tryd.underlying23 w2) (trodAll_cons_mk (shut_int Tryd.underlying23 w3) (trodAll_cons_mk (shut_int Tryd.underlying3 w4) trodAll_mk0))))), rfl, bel.frame _, fun h => by cases h⟩
set_option maxRecDepth 100000 in
theorem start (os : Os) : ∃ w0 : World, w0.os = os ∧ (w0.forCall (fun _ _ => 0) ⟨#[], #[.slice none 0 0, .slice none 0 0, .int .u32 0, .int .u32 0, .int .i64 0], []⟩).variablesB Tryd.prog = true ∧
    ((w0.forCall (fun _ _ => 0) ⟨#[], #[.slice none 0 0, .slice none 0 0, .int .u32 0, .int .u32 0, .int .i64 0], []⟩).heap.toList.drop Tryd.prog.globals.size).take ((begin Tryd.prog (fun _ _ => 0) default).world.heap.size - Tryd.prog.globals.size) = (begin Tryd.prog (fun _ _ => 0) default).world.heap.toList.drop Tryd.prog.globals.size ∧
    Input.okWideB Tryd.prog (w0.forCall (fun _ _ => 0) ⟨#[], #[.slice none 0 0, .slice none 0 0, .int .u32 0, .int .u32 0, .int .i64 0], []⟩) 3 ⟨#[], #[.slice none 0 0, .slice none 0 0, .int .u32 0, .int .u32 0, .int .i64 0], []⟩ = true ∧
    laidMet Tryd.prog Rows.crcCombinesUptoRow.laid (w0.forCall (fun _ _ => 0) ⟨#[], #[.slice none 0 0, .slice none 0 0, .int .u32 0, .int .u32 0, .int .i64 0], []⟩).memory ∧
    ∀ (H : Type) (enc : TypeId × Value → H), DataW.whole enc Tryd.prog (w0.forCall (fun _ _ => 0) ⟨#[], #[.slice none 0 0, .slice none 0 0, .int .u32 0, .int .u32 0, .int .i64 0], []⟩).memory Tryd.f3.params.toList Rows.crcCombinesSpec.vars false (#[.slice none 0 0, .slice none 0 0, .int .u32 0, .int .u32 0, .int .i64 0] : Array Value).toList 8 = some ([.nil, .nil, .lit (.int .u32 0), .lit (.int .u32 0), .lit (.int .i64 0)], [], []) :=
  ⟨{ World.holding Tryd.prog os ⟨#[], #[], []⟩ with heap := (World.holding Tryd.prog os ⟨#[], #[], []⟩).heap.modify 0 fun
      | .cells _ t frozen => .cells #[.int .u32 0, .int .u32 498536548, .int .u32 997073096, .int .u32 651767980, .int .u32 1994146192, .int .u32 1802195444, .int .u32 1303535960, .int .u32 1342533948, .int .u32 3988292384, .int .u32 4027552580, .int .u32 3604390888, .int .u32 3412177804, .int .u32 2607071920, .int .u32 2262029012, .int .u32 2685067896, .int .u32 3183342108] t frozen
      | o => o }, rfl, by kernel_rfl, by kernel_rfl, by kernel_rfl, laidMet_of_run' 8 (by kernel_rfl) (by kernel_rfl), fun _ _ => by kernel_rfl⟩
set_option maxRecDepth 100000 in
theorem lifted (os : Os) (started : os.Started) (H : Type) (enc : TypeId × Value → H) (F : Stop.Interp) :
    ReturnsInHanded {} Tryd.checked os 3 .any ((Rows.OpenSpec.upto Rows.crcCombinesSpec).preRow enc Tryd.prog Tryd.f3 Rows.crcCombinesUptoRow.domain false Rows.crcCombinesUptoRow.laid) (((Rows.OpenSpec.upto Rows.crcCombinesSpec).at F).post enc Tryd.prog Tryd.f3 false true false false) := by
  obtain ⟨w0, h1, h2, h3, h4, h5, h6⟩ := start os
  refine returnsInHanded_of_row (C := Tryd.checked) (s := Rows.OpenSpec.upto Rows.crcCombinesSpec) own started (by kernel_rfl) Tryd.func3
    (witness_row_at (enc := enc) (C := Tryd.checked) false w0 #[.slice none 0 0, .slice none 0 0, .int .u32 0, .int .u32 0, .int .i64 0] h1 h2 h3 h4
      (OpenSpec.preRow_of_cond 8 (h6 H enc) (by kernel_rfl) (fun k hk => by cases hk; kernel_rfl) (by kernel_rfl) h5)) ?_
  intro W base args ds gs before hval hW _ hcond hsz hL _ _
  exact contract H enc W base args ds gs before hval hW hsz (hcond _ rfl) hL
theorem said : Rows.CrcCombinesUptoSaid :=
  OpenClaim.holds_of_cond 3 Tryd.f3 rfl rfl rfl rfl rfl rfl rfl ⟨rfl, rfl, rfl, rfl, rfl⟩ rfl rfl rfl rfl rfl (by kernel_rfl) Tryd.func3 (by kernel_rfl)
    (of_decide_eq_true (by kernel_rfl)) (by unfold Func.isWrapper; first | (rw [if_pos (by decide +kernel)]; kernel_rfl) | (rw [if_neg (by decide +kernel)]; exact ⟨rfl, rfl⟩))
    (fun os started H enc _ F => by rw [OpenClaim.pre_eq_preRow]; exact lifted os started H enc F)
theorem plain (f : FuncId) (fn : Func) (hf : Tryd.pinned.checked.prog.funcNamed "daybook/daybooklaw03.CrcCombines" = some f) (hfn : Tryd.pinned.checked.prog.funcs[f]? = some fn) :
    false = Tryd.pinned.checked.prog.looks [] ∧ ∀ (j : Nat) t, fn.params[j]? = some t → Tryd.pinned.checked.prog.wantsStandIn t = false := by
  obtain rfl : f = 3 := Option.some.inj ((show Tryd.prog.funcNamed "daybook/daybooklaw03.CrcCombines" = some 3 by kernel_rfl).symm.trans hf) |>.symm
  obtain rfl : fn = Tryd.f3 := (Option.some.inj (Tryd.func3.symm.trans hfn)).symm
  refine ⟨by kernel_rfl, fun j t ht => ?_⟩
  rw [Tryd.params3] at ht
  have hm := Array.mem_of_getElem? ht
  have hall : ∀ t ∈ (#[22, 22, 23, 23, 3] : Array TypeId), Tryd.prog.wantsStandIn t = false := by
    intro t ht
    simp only [List.mem_toArray, List.mem_cons, List.not_mem_nil, or_false] at ht
    rcases ht with rfl | rfl | rfl | rfl | rfl <;> kernel_rfl
  exact hall t hm
theorem card : Rows.CrcCombinesUptoCardSaid :=
  Claim7.holds_tied_plain_at .later [] _ _ _ _ said (fun _ h => by cases h) (by kernel_rfl) (fun _ h => by cases h) crcCombinesUpto_row_tie rfl ⟨rfl, rfl⟩ (by kernel_rfl) rfl plain (by kernel_rfl)
end Go.Proofs.YtnecnedkoddihaaDoor.crcCombines
