/- For every list of steps and every number: over the rising list that the steps make, index.Last finds the place of the last number that is at most n. No condition. -/
import Derived.Test.YtifackbilmkjlaaMkI
import Derived.SizedLaws
import Derived.ChangeOld
namespace Go.Proofs.Ytifackbilmkjlaa.indexLast
open Go.ChangeShapes Go.WideShapes Go.ChangeAt Go.RowKit
set_option linter.unusedVariables false
def BX (l : List Int) : List Value := l.map fun n => Value.int .i64 n
theorem BX_snoc (l : List Int) (y : Int) : BX (l ++ [y]) = BX l ++ [.int .i64 y] := by simp [BX]
theorem BX_get (l : List Int) (i : Nat) (h : i < l.length) : (BX l)[i]? = some (.int .i64 (l.getD i 0)) := by simp [BX, h]
theorem ints_own {w : World} {base n : Nat} {v : Value} {X : List Int} (hn : X.length = n) (hI : ∀ x ∈ X, inI x) (h : w.ownsRow base 3 1 v n (BX X)) : ∃ a c, v = .slice a n c ∧ Ints w a X := by
  rcases h.2 with ⟨rfl, h0⟩ | ⟨g, cap, cur, rfl, hb, hg, h3⟩
  · have : X = [] := List.length_eq_zero_iff.1 (by omega)
    subst this
    exact ⟨none, 0, by rw [h0], hI, .inl rfl⟩
  · have h' : w.ownsRow base 3 1 (.slice (some ⟨g, 0, none⟩) n cap) n (BX X) := ⟨h.1, .inr ⟨g, cap, cur, rfl, hb, hg, h3⟩⟩
    have hlt : g < w.heap.size := lt_of_heap hg
    refine ⟨some ⟨g, 0, none⟩, cap, rfl, hI, .inr ⟨g, 0, rfl, hlt, fun i hi => ?_⟩⟩
    rw [Nat.zero_add, h'.cellAt i (by omega), BX_get X i hi]
theorem and15 (s : Int) : 0 ≤ bits .and .i64 s 15 ∧ bits .and .i64 s 15 ≤ 15 := by
  have h : bits .and .i64 s 15 = IntKind.i64.wrap ((BitVec.ofInt 64 s &&& BitVec.ofInt 64 15).toNat : Int) := rfl
  have h2 : (BitVec.ofInt 64 s &&& BitVec.ofInt 64 15).toNat ≤ 15 := by
    rw [BitVec.toNat_and]
    exact Nat.le_trans Nat.and_le_right (by decide)
  rw [h, wrap_i64]
  omega
theorem Try.infoI : (Try.prog.info? 3).map (fun i => (i.zero, i.size, i.bytes)) = some (some (.int .i64 0), 1, 8) := by kernel_rfl
theorem cut135 (r : Nat) (h : CutI [1, 3, 5] 3 r) : r = 2 := by
  have h0 := h.le
  simp at h0
  match r, h0 with
  | 0, _ => have := h.high 0 1 (by omega) rfl; omega
  | 1, _ => have := h.high 1 3 (by omega) rfl; omega
  | 2, _ => rfl
  | 3, _ => have := h.low 2 5 (by omega) rfl; omega
theorem rise135 : RiseI [1, 3, 5] := by
  intro i j p q hij hp hq
  match i, j, hp, hq with
  | 0, 0, hp, hq => simp at hp hq; omega
  | 0, 1, hp, hq => simp at hp hq; omega
  | 0, 2, hp, hq => simp at hp hq; omega
  | 1, 0, hp, hq => omega
  | 1, 1, hp, hq => simp at hp hq; omega
  | 1, 2, hp, hq => simp at hp hq; omega
  | 2, 0, hp, hq => omega
  | 2, 1, hp, hq => omega
  | 2, 2, hp, hq => simp at hp hq; omega
  | _, j + 3, hp, hq => simp at hq
  | i + 3, _, hp, hq => simp at hp
/-- what the law's loop holds: the numbers so far, the last of them, the place of the last at or below n -/
structure SI (X : List Int) (c n want : Int) (k : Nat) : Prop where
  len : X.length = k
  rise : RiseI X
  top : ∀ (t : Nat) (p : Int), X[t]? = some p → 0 ≤ p ∧ p ≤ c
  nn : 0 ≤ c
  hi : c ≤ 15 * (k : Int)
  last : (want = -1 ∧ ∀ (t : Nat) (p : Int), X[t]? = some p → n < p) ∨ ∃ j : Nat, want = (j : Int) ∧ (∃ p, X[j]? = some p ∧ p ≤ n) ∧ ∀ (t : Nat) (p : Int), j < t → X[t]? = some p → n < p
theorem snoc_get {X : List Int} {c p : Int} {t : Nat} (h : (X ++ [c])[t]? = some p) : (t < X.length ∧ X[t]? = some p) ∨ (t = X.length ∧ p = c) := by
  by_cases h1 : t < X.length
  · rw [List.getElem?_append_left h1] at h
    exact .inl ⟨h1, h⟩
  · rw [List.getElem?_append_right (by omega)] at h
    by_cases h2 : t = X.length
    · subst h2
      simp at h
      exact .inr ⟨rfl, h.symm⟩
    · rw [List.getElem?_eq_none (by simp; omega)] at h
      cases h
theorem SI.step {X : List Int} {c n want v : Int} {k : Nat} (h : SI X c n want k) (h0 : 0 ≤ v) (h1 : v ≤ 15) : SI (X ++ [c + v]) (c + v) n (if c + v ≤ n then (k : Int) else want) (k + 1) := by
  have hk := h.len
  refine ⟨by simp [hk], ?_, ?_, by have := h.nn; omega, by have := h.hi; omega, ?_⟩
  · intro i j p q hij hp hq
    rcases snoc_get hp with ⟨g1, g2⟩ | ⟨g1, g2⟩ <;> rcases snoc_get hq with ⟨g3, g4⟩ | ⟨g3, g4⟩
    · exact h.rise i j p q hij g2 g4
    · have := (h.top i p g2).2; omega
    · omega
    · omega
  · intro t p hp
    rcases snoc_get hp with ⟨g1, g2⟩ | ⟨g1, g2⟩
    · have := h.top t p g2; omega
    · have := h.nn; omega
  · by_cases hle : c + v ≤ n
    · rw [if_pos hle]
      refine .inr ⟨k, rfl, ⟨c + v, by rw [← hk]; simp, hle⟩, fun t p ht hp => ?_⟩
      have := lt_of_get hp
      simp at this
      omega
    · rw [if_neg hle]
      rcases h.last with ⟨g1, g2⟩ | ⟨j, g1, ⟨p0, g2, g3⟩, g4⟩
      · refine .inl ⟨g1, fun t p hp => ?_⟩
        rcases snoc_get hp with ⟨q1, q2⟩ | ⟨q1, q2⟩
        · exact g2 t p q2
        · omega
      · have hj := lt_of_get g2
        refine .inr ⟨j, g1, ⟨p0, by rw [List.getElem?_append_left hj]; exact g2, g3⟩, fun t p ht hp => ?_⟩
        rcases snoc_get hp with ⟨q1, q2⟩ | ⟨q1, q2⟩
        · exact g4 t p ht q2
        · omega
theorem SI.cut {X : List Int} {c n want : Int} {k r : Nat} (h : SI X c n want k) (hc : CutI X n r) : (r : Int) - 1 = want := by
  rcases h.last with ⟨g1, g2⟩ | ⟨j, g1, ⟨p0, g2, g3⟩, g4⟩
  · have : r = 0 := by
      by_cases h0 : r = 0
      · exact h0
      · obtain ⟨p, hp⟩ := get_of_lt (L := X) (k := 0) (by have := hc.le; omega)
        have h1 := hc.low 0 p (by omega) hp
        have h2 := g2 0 p hp
        omega
    omega
  · have h1 : j < r := by
      by_cases hh : j < r
      · exact hh
      · have := hc.high j p0 (by omega) g2; omega
    have h2 : r = j + 1 := by
      by_cases hh : r = j + 1
      · exact hh
      · obtain ⟨p, hp⟩ := get_of_lt (L := X) (k := j + 1) (by have := hc.le; omega)
        have h3 := hc.low (j + 1) p (by omega) hp
        have h4 := g4 (j + 1) p (by omega) hp
        omega
    omega
set_option maxRecDepth 20000 in
set_option maxHeartbeats 4000000 in
theorem walk (l : List Int) (a : Option Addr) (cap : Nat) (n : Int) (w : World) (hm : Ints w a l) (hc : Came w a l.length cap 8) (w1 : (Lit.int .i64 n).wf = true) :
    Calls Try.prog 3 #[.slice a l.length cap, .int .i64 n] w fun e w' => e = .returned (.bool true) ∧ Below w.heap.size w w' := by
  have hmf : ∀ (fn : Fn) (first cap : Array Value) (w : World), (Instr.makeFunc fn first cap).run Try.prog w = .ok (.func fn first cap) w := fun _ _ _ _ => rfl
  obtain ⟨m, hn⟩ : ∃ m, l.length = m := ⟨_, rfl⟩
  obtain ⟨hf, hr, hnn⟩ := hc
  rw [hn] at hf ⊢
  obtain ⟨i0, hi, hz0, hz1, hz2⟩ := info_parts Try.infoI
  have HN : Hid (l.length = m) := hn
  have HM : Hid (Ints w a l) := hm
  have hm44 : m * 8 ≤ 140737488351232 := by omega
  have hmI : (m : Int) ≤ 17592186044416 := by omega
  have HLIT : Hid (Ints ((w.alloc (.cells #[.int .i64 n] 3)).alloc (.cells #[.int .i64 1, .int .i64 3, .int .i64 5] 3)) (some ⟨w.heap.size + 1, 0, none⟩) [1, 3, 5] ∧ ((w.alloc (.cells #[.int .i64 n] 3)).alloc (.cells #[.int .i64 1, .int .i64 3, .int .i64 5] 3)).heap[w.heap.size]? = some (.cells #[.int .i64 n] 3) ∧ Below w.heap.size w ((w.alloc (.cells #[.int .i64 n] 3)).alloc (.cells #[.int .i64 1, .int .i64 3, .int .i64 5] 3))) := by
    refine ⟨⟨by intro x hx; simp at hx; rcases hx with rfl | rfl | rfl <;> exact ⟨by omega, by omega⟩, .inr ⟨w.heap.size + 1, 0, rfl, by simp, fun i hi => ?_⟩⟩, ?_, ((Below.refl _ _).alloc (Nat.le_refl _) _).alloc (by simp) _⟩
    · have h := heap_alloc_new (w.alloc (.cells #[.int .i64 n] 3)) (.cells #[.int .i64 1, .int .i64 3, .int .i64 5] 3)
      rw [World.size_alloc] at h
      rw [Nat.zero_add, cell_of_row _ (w.heap.size + 1) i _ _ (0, 0) h]
      match i, hi with
      | 0, _ => rfl
      | 1, _ => rfl
      | 2, _ => rfl
    · exact (Below.heap_alloc _ _ _ (by simp)).trans (heap_alloc_new w _)
  clear hn hm hf hr hnn w1
  go_enter Try.func3, Try.ntmps3
  go_wp2_with (go_at_call 9; refine (lastIA [1, 3, 5] 3 _ _ _ rfl HLIT.out.1 rise135 (by omega)).mono ?_; rintro e w2 ⟨r, rfl, hcut, hb2⟩; obtain rfl := cut135 r hcut; have HB2 : Hid (Below w.heap.size w w2 ∧ w2.heap[w.heap.size]? = some (.cells #[.int .i64 n] 3)) := ⟨below_next HLIT.out.2.2 hb2, (hb2.block _ (lt_of_heap HLIT.out.2.1)).trans HLIT.out.2.1⟩; clear hcut hb2; have e21 : ((2 : Nat) : Int) - 1 = 1 := rfl)
  have hws : w.heap.size < w2.heap.size := lt_of_heap HB2.out.2
  go_loopw [5, 6, 7, 16] (fun vxs vat vw vi wr => ∃ (v0 : Value) (k : Nat) (X : List Int) (c want : Int), v0 = vxs ∧ k ≤ m ∧ vat = .int .i64 c ∧ vw = .int .i64 want ∧ vi = .int .i64 k ∧ SI X c n want k ∧ wr.ownsRow w2.heap.size 3 1 v0 k (BX X) ∧ Below w2.heap.size w2 wr) (fun _ _ _ vi _ => m - (intOf vi).toNat)
  case atStart => exact ⟨_, 0, [], 0, -1, rfl, Nat.zero_le _, rfl, rfl, rfl, ⟨rfl, fun i j p q _ h _ => by simp at h, fun t p h => by simp at h, by omega, by omega, .inl ⟨rfl, fun t p h => by simp at h⟩⟩, World.ownsRow_lit w2 #[] 0 (Nat.le_refl _) (by simp) rfl, (Below.refl _ _).alloc (Nat.le_refl _) _⟩
  case round =>
    obtain ⟨v0, k, X, c, want, rfl, hk, rfl, rfl, rfl, hS, hO, hbe⟩ := hrel
    have HS : Hid (SI X c n want k) := hS
    have HO : Hid (wr.ownsRow w2.heap.size 3 1 v0 k (BX X)) := hO
    have hc0 := hS.nn
    have hc1 := hS.hi
    have hbs := hbe.size
    have hbx : wr.heap[w.heap.size]? = some (.cells #[.int .i64 n] 3) := (hbe.block _ hws).trans HB2.out.2
    have HBX : Hid (wr.heap[w.heap.size]? = some (.cells #[.int .i64 n] 3)) := hbx
    clear hS hO
    by_cases hkn : k < m
    · obtain ⟨s, hp⟩ := get_of_lt (L := l) (k := k) (by rw [HN.out]; exact hkn)
      rcases HM.out.2 with h0 | ⟨b, off, rfl, hlt, hcl⟩
      · exfalso; have := HN.out; rw [h0] at this; simp at this; omega
      have c0 := hcl k (by rw [HN.out]; exact hkn)
      rw [getD_ofI hp] at c0
      rw [← (HB2.out.1.trans (hbe.mono (by omega))).cell (p := ⟨b, off + k, none⟩) hlt] at c0
      obtain ⟨v, hv⟩ : ∃ v, bits BinOp.and IntKind.i64 s 15 = v := ⟨_, rfl⟩
      obtain ⟨hv0, hv1⟩ : 0 ≤ v ∧ v ≤ 15 := by rw [← hv]; exact and15 s
      have HST : Hid (SI (X ++ [c + v]) (c + v) n (if c + v ≤ n then (k : Int) else want) (k + 1)) := HS.out.step hv0 hv1
      have HO5 : Hid ((wr.alloc (.cells #[.int .i64 (c + v)] 3)).ownsRow w2.heap.size 3 1 v0 k (BX X)) := World.ownsRow.alloc HO.out _
      have HB5 : Hid (Below w2.heap.size w2 (wr.alloc (.cells #[.int .i64 (c + v)] 3)) ∧ (wr.alloc (.cells #[.int .i64 (c + v)] 3)).heap[w.heap.size]? = some (.cells #[.int .i64 n] 3)) := ⟨hbe.alloc hbs _, (Below.heap_alloc _ _ _ (lt_of_heap hbx)).trans hbx⟩
      clear hcl hp
      go_wp2_with (at_builtin; refine wpList_append_own _ rfl _ _ 22 rfl w2.heap.size 3 i0 (.int .i64 0) 1 8 Try.underlying22 hi hz0 hz1 hz2 rfl (by decide) _ _ _ rfl HO5.out ⟨wr.heap.size, 0, none⟩ 1 1 [.int .i64 (c + v)] rfl rfl (cell_new _ _ _) (one_new _) (by unfold maxLen; omega) (by omega) (by simp; omega) ?_; intro v4 w4 ho4 hg4 _; have hb4 := grown_row HB5.out.1 HO5.out (by simp; omega) hg4; have hbx4 : w4.heap[w.heap.size]? = some (.cells #[.int .i64 n] 3) := (hb4.block _ hws).trans HB2.out.2; have y0 : w4.cell? ⟨w.heap.size, 0, none⟩ = some (.int .i64 n) := (by rw [cell_of_row _ _ 0 _ _ _ hbx4]; rfl); have HO4 : Hid (w4.ownsRow w2.heap.size 3 1 v4 (k + 1) (BX (X ++ [c + v]))) := (by rw [BX_snoc]; exact ho4); clear ho4 hg4 hbx4)
      all_goals first
        | exact ⟨⟨v4, k + 1, X ++ [c + v], c + v, _, rfl, by omega, rfl, rfl, by go_num, by have h := HST.out; rw [if_pos (by omega)] at h; exact h, HO4.out, hb4⟩, by simp [intOf]; omega⟩
        | exact ⟨⟨v4, k + 1, X ++ [c + v], c + v, _, rfl, by omega, rfl, rfl, by go_num, by have h := HST.out; rw [if_neg (by omega)] at h; exact h, HO4.out, hb4⟩, by simp [intOf]; omega⟩
    · obtain ⟨ax, cx, hvx, hix⟩ := ints_own HS.out.len (fun x hx => by obtain ⟨t, ht⟩ := List.getElem?_of_mem hx; have := HS.out.top t x ht; exact ⟨by omega, by omega⟩) HO.out
      subst hvx
      have HIX : Hid (Ints wr ax X) := hix
      have y0 : wr.cell? ⟨w.heap.size, 0, none⟩ = some (.int .i64 n) := by rw [cell_of_row _ _ 0 _ _ _ hbx]; rfl
      have HY0 : Hid (wr.cell? ⟨w.heap.size, 0, none⟩ = some (.int .i64 n)) := y0
      have HBW : Hid (Below w.heap.size w wr) := HB2.out.1.trans (hbe.mono (by omega))
      have HKB : Hid (k ≤ 140737488351232) := by show _ ≤ _; omega
      clear hix hbe
      go_wp2_with (go_at_call 9; refine (lastIB X _ _ _ n w.heap.size _ HS.out.len HIX.out HS.out.rise HKB.out HY0.out).mono ?_; rintro e w5 ⟨r, rfl, hcut, hb5⟩; have hw := HS.out.cut hcut; rw [hw]; clear hw hcut)
      go_ret
      exact ⟨ret_bool (by simp), below_next HBW.out hb5⟩
theorem own : ownKnob Try.prog.godebug = none := by kernel_rfl
theorem laidOut : laidOutB Try.prog = true := by kernel_rfl
set_option maxRecDepth 100000 in
theorem contract (H : Type) (enc : TypeId × Value → H) (W : World) (base : Nat) (args : Array Value) (ds gs : List (DataW H)) (before : List MemPlace)
    (hval : ∀ (j : Nat) t v, Try.f3.params[j]? = some t → args[j]? = some v → Value.okWide Try.prog W .any base t v)
    (hW : DataW.Whole enc Try.prog Try.f3.params.toList Rows.indexLastSpec.vars false W args.toList ds gs before)
    (hsz : (DataW.weightsEach Try.prog (Try.f3.params.toList ++ Rows.indexLastSpec.plain.varTypes Try.prog) (ds ++ gs)).all (· ≤ reachBytes) = true) :
    Calls Try.prog 3 args W fun e W' => ∃ v, e = .returned v ∧ Rows.indexLastSpec.post enc Try.prog Try.f3 false true false false W args v W' := by
  have hW' := hW
  obtain ⟨p, q, hA0, hV, rfl, hfz, hnd⟩ := hW
  have hA : DataW.TrodAll enc Try.prog W 0 (fun _ => true) true Try.f3.params.toList args.toList ds p := hA0
  rw [Try.params3] at hA hval hsz
  obtain ⟨v0, vs0, d0, ds0, p0, q0, hargs, rfl, rfl, h0, r0⟩ := trodAll_cons hA
  obtain ⟨v1, vs1, d1, ds1, p1, q1, rfl, rfl, rfl, h1, r1⟩ := trodAll_cons r0
  obtain ⟨rfl, rfl, rfl⟩ := trodAll_nil r1
  obtain rfl : args = #[v0, v1] := by cases args; simp_all
  obtain ⟨rfl, rfl⟩ := trodVars_none hV
  obtain ⟨a0, len0, cap0, rfl⟩ := okWide_slice Try.underlying22 (hval 0 22 v0 rfl rfl)
  have k0 := h0
  have lt0 : ∀ x ∈ p0, x.block < W.heap.size := by obtain ⟨m, hm⟩ := k0; exact DataW.trod_lt m _ _ _ hm
  obtain ⟨l0, hlen0, w0, c0⟩ : ∃ l : List Int, l.length = len0 ∧ Ints W a0 l ∧ Came W a0 len0 cap0 8 := by
    obtain ⟨fuel, hf⟩ := h0
    rcases open_ints Try.underlying22 Try.underlying3 (by kernel_rfl) hf with ⟨hcs, hx⟩ | ⟨x, l, c, zs, hcs, _, hl, hm, hz, hx, hcell, hwz⟩
    · simp [Value.cells] at hcs
      obtain ⟨rfl, rfl, rfl⟩ := hcs
      exact ⟨[], rfl, ⟨by simp, .inl rfl⟩, ⟨Nat.le_refl _, by simp, fun _ => rfl⟩⟩
    · simp [Value.cells] at hcs
      obtain ⟨rfl, rfl, rfl⟩ := hcs
      have hz2 : zs.length = cap0 := by simpa using hz
      obtain ⟨ll, e1, e2, e3⟩ := row_ints W x zs len0 (by omega) hcell hwz
      have hd : d0 = .slice (lits .i64 (zs.take len0)) (lits .i64 (zs.drop len0)) := (Prod.mk.inj hx).1
      have hreach : cap0 * 8 ≤ 140737488351232 := by
        have := sized_slice hsz (j := 0) (t := 22) (e := 3) rfl (by rw [hd]; rfl) Try.underlying22
        rw [show Try.prog.bytesOf 3 = 8 from by kernel_rfl] at this
        simp only [lits, List.length_map, List.length_take, List.length_drop, reachBytes] at this
        have hmin : min len0 zs.length = len0 := Nat.min_eq_left (by omega)
        rw [hmin] at this
        have hcap : len0 + (zs.length - len0) = cap0 := by omega
        rw [hcap] at this
        exact this
      exact ⟨ll, e1, ⟨e2, e3⟩, ⟨hl, hreach, fun h => by cases h⟩⟩
  subst hlen0
  obtain ⟨a1, rfl, rfl, rfl, w1⟩ := open_int Try.underlying3 (hval 1 3 v1 rfl rfl) h1
  clear hA0
  refine (walk l0 a0 cap0 a1 W w0 c0 w1).mono fun e W' ⟨he, bel⟩ => ?_
  subst he
  exact ⟨_, rfl, _, _, _, [], _, [], hW', trodAll_mk1 (shut_bool Try.underlying4 _), (trodAll_cons_mk (Below.trod laidOut (by kernel_rfl) (of_decide_eq_true (by kernel_rfl)) k0 bel lt0) (trodAll_cons_mk (shut_int Try.underlying3 w1) trodAll_mk0)), rfl, bel.frame _, fun h => by cases h⟩
set_option maxRecDepth 100000 in
theorem lifted (os : Os) (started : os.Started) (H : Type) (enc : TypeId × Value → H) :
    ReturnsInHanded {} Try.checked os 3 .any (Rows.indexLastSpec.pre6 enc Try.prog Try.f3 Rows.indexLastRow.domain false) (Rows.indexLastSpec.post enc Try.prog Try.f3 false true false false) := by
  refine returnsInHanded_of_change_sized (C := Try.checked) own started (by kernel_rfl) Try.func3
    (ChangeSpec.witness6 (enc := enc) (C := Try.checked) false ⟨#[], #[.slice none 0 0, .int .i64 0], []⟩ 8 (by kernel_rfl) (by kernel_rfl) (by kernel_rfl) (by kernel_rfl)) ?_
  intro W base args ds gs before hval hW _ hsz _
  exact contract H enc W base args ds gs before hval hW hsz
theorem over : Rows.indexLastRow.holds Try.pinned (OpenSpec.ofChange Rows.indexLastSpec) :=
  OpenClaim.holds_of_wide 3 Try.f3 rfl rfl rfl rfl rfl rfl rfl ⟨rfl, rfl, rfl, rfl, rfl⟩ rfl rfl rfl rfl rfl (by kernel_rfl) Try.func3 (by kernel_rfl)
    (of_decide_eq_true (by kernel_rfl)) (by unfold Func.isWrapper; first | (rw [if_pos (by decide +kernel)]; kernel_rfl) | (rw [if_neg (by decide +kernel)]; exact ⟨rfl, rfl⟩))
    (fun os started H enc _ => lifted os started H enc)
theorem proved : Rows.IndexLastSaid := over
end Go.Proofs.Ytifackbilmkjlaa.indexLast
