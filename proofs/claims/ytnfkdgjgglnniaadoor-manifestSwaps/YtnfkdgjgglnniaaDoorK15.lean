/- Own texts, joined: Mf4, Rcrc. -/
import Derived.Test.YtnfkdgjgglnniaaDoorK14
import Derived.Shelf.RegionOpen
import Derived.BigRegion
import Derived.Test.YtnfkdgjgglnniaaDoorK01
namespace Go.Proofs.YtnfkdgjgglnniaaDoor
open Go.ChangeShapes Go.WideShapes Go.ChangeAt Go.RowKit Go.Shelf
set_option linter.unusedVariables false
attribute [local go_sem] Oper.semAt_some
/-- a number of 64 bits, as one with a sign -/
def toI (u : Nat) : Int := wrap64 (u : Int)
theorem toI_eq (u : Nat) : IntKind.i64.wrap (u : Int) = toI u := by unfold toI wrap64; rw [IntKind.wrap_i64]
/-- the segments that numbers tell of -/
def smsOf : List Nat → List Sm
  | a :: b :: c :: d :: r => ⟨toI a, toI b, toI c, toI d⟩ :: smsOf r
  | _ => []
theorem smsOf_short {q : List Nat} (h : q.length < 4) : smsOf q = [] := by
  match q, h with
  | [], _ => rfl
  | [_], _ => rfl
  | [_, _], _ => rfl
  | [_, _, _], _ => rfl
  | _ :: _ :: _ :: _ :: _, h => simp at h; omega
theorem four_of {q : List Nat} (h : 4 ≤ q.length) : ∃ a b c d r, q = a :: b :: c :: d :: r := by
  match q, h with
  | a :: b :: c :: d :: r, _ => exact ⟨a, b, c, d, r, rfl⟩
theorem smsOf_length : ∀ (q : List Nat), 4 * (smsOf q).length ≤ q.length
  | [] => by simp [smsOf]
  | [_] => by simp [smsOf]
  | [_, _] => by simp [smsOf]
  | [_, _, _] => by simp [smsOf]
  | _ :: _ :: _ :: _ :: r => by have := smsOf_length r; simp only [smsOf, List.length_cons]; omega
def SmAt (w : World) (b : Nat) (s : Sm) : Prop := w.heap[b]? = some (.cells #[.int .i64 s.num, .int .i64 s.first, .int .i64 s.count, .int .i64 s.foot] 55)
theorem SmAt.cells {w : World} {b : Nat} {s : Sm} (h : SmAt w b s) : w.cell? ⟨b, 0, none⟩ = some (.int .i64 s.num) ∧ w.cell? ⟨b, 1, none⟩ = some (.int .i64 s.first) ∧ w.cell? ⟨b, 2, none⟩ = some (.int .i64 s.count) ∧ w.cell? ⟨b, 3, none⟩ = some (.int .i64 s.foot) :=
  ⟨by rw [cell_of_row _ _ 0 _ _ _ h]; rfl, by rw [cell_of_row _ _ 1 _ _ _ h]; rfl, by rw [cell_of_row _ _ 2 _ _ _ h]; rfl, by rw [cell_of_row _ _ 3 _ _ _ h]; rfl⟩
theorem SmAt.loadVar {w : World} {b : Nat} {s : Sm} (h : SmAt w b s) : (Go.loadVar 55 ⟨b, 0, none⟩).run Tryd.prog w = .ok (SmV s) w := by
  obtain ⟨h0, h1, h2, h3⟩ := h.cells
  simp [go_sem, h0, h1, h2, h3]
theorem results_sm {fn : Func} {p : Tmp} (h : fn.results = #[.cell p 55]) (tmps : Array Value) (w : World) (b : Nat) {s : Sm} (hp : tmps.getD p undef = .pointer (some ⟨b, 0, none⟩)) (hl : SmAt w b s) :
    (results fn tmps).run Tryd.prog w = .ok (SmV s) w := by
  simp only [Array.getD_eq_getD_getElem?] at hp
  simp [results, h, hp, asAddr, hl.loadVar]
theorem nums_four {w : World} {a : Option Addr} {u0 u1 u2 u3 : Nat} {r : List Nat} (h : Nums w a (u0 :: u1 :: u2 :: u3 :: r)) : ∃ b off, a = some ⟨b, off, none⟩ ∧ b < w.heap.size ∧ w.cell? ⟨b, off, none⟩ = some (.int .u64 (u0 : Int)) ∧ w.cell? ⟨b, off + 1, none⟩ = some (.int .u64 (u1 : Int)) ∧ w.cell? ⟨b, off + 2, none⟩ = some (.int .u64 (u2 : Int)) ∧ w.cell? ⟨b, off + 3, none⟩ = some (.int .u64 (u3 : Int)) := by
  rcases h.2 with h | ⟨b, off, rfl, hlt, hc⟩
  · cases h
  · exact ⟨b, off, rfl, hlt, hc 0 (by simp), hc 1 (by simp), hc 2 (by simp), hc 3 (by simp)⟩
set_option maxRecDepth 20000 in
set_option maxHeartbeats 2000000 in
theorem mseg_any (u0 u1 u2 u3 : Nat) (b off n cap : Nat) (w : World) (hn : 4 ≤ n) (hlt : b < w.heap.size) (c0 : w.cell? ⟨b, off, none⟩ = some (.int .u64 (u0 : Int))) (c1 : w.cell? ⟨b, off + 1, none⟩ = some (.int .u64 (u1 : Int))) (c2 : w.cell? ⟨b, off + 2, none⟩ = some (.int .u64 (u2 : Int))) (c3 : w.cell? ⟨b, off + 3, none⟩ = some (.int .u64 (u3 : Int))) :
    Calls Tryd.prog 56 #[.slice (some ⟨b, off, none⟩) n cap] w fun e w' => e = .returned (SmV ⟨toI u0, toI u1, toI u2, toI u3⟩) ∧ Below w.heap.size w w' := by
  have e0 := toI_eq u0
  have e1 := toI_eq u1
  have e2 := toI_eq u2
  have e3 := toI_eq u3
  have hnI : (4 : Int) ≤ (n : Int) := by omega
  go_enter Tryd.func56, Tryd.ntmps56
  go_wp2
  go_region
  all_goals go_wp2
  all_goals
    refine bodyPost_ret (results_sm rfl _ _ w.heap.size rfl (s := ⟨toI u0, toI u1, toI u2, toI u3⟩) ?_) rfl ⟨rfl, ?_⟩
    · exact (show SmAt (w.alloc _) w.heap.size ⟨toI u0, toI u1, toI u2, toI u3⟩ from heap_alloc_new w _)
    · exact ((Below.refl _ _).alloc (Nat.le_refl _) _).drew
/-- what a round keeps: all below n₀ but block bm -/
def KE (n₀ bm : Nat) (W W' : World) : Prop := W.heap.size ≤ W'.heap.size ∧ ∀ k, k < n₀ → k ≠ bm → k < W.heap.size → W'.heap[k]? = W.heap[k]?
theorem KE.trans {n₀ bm : Nat} {A B C : World} (h : KE n₀ bm A B) (g : KE n₀ bm B C) : KE n₀ bm A C :=
  ⟨Nat.le_trans h.1 g.1, fun k h1 h2 h3 => (g.2 k h1 h2 (Nat.lt_of_lt_of_le h3 h.1)).trans (h.2 k h1 h2 h3)⟩
theorem KE.put {n₀ bm : Nat} (W : World) (l : Nat) (o' : Obj) (h1 : n₀ ≤ l) : KE n₀ bm W (W.putObj l o') := by
  refine ⟨by simp [World.putObj], fun k h2 h3 h4 => World.putObj_heap_other (by omega)⟩
theorem KE.below {n₀ bm : Nat} {W W' : World} (h : Below W.heap.size W W') : KE n₀ bm W W' := ⟨h.size, fun k _ _ hk => h.block k hk⟩
theorem grown_of_belowM {w w' : World} (h : Below w.heap.size w w') : w.grownBy w' none := ⟨h.os, h.tape, h.output, h.size, fun k hk _ => h.block k hk⟩
theorem AbidesFrom.belowM {α : Type} {B : Nat} {J : List α → World → Prop} (h : AbidesFrom B J) {s : List α} {w w' : World} (hs : J s w) (hb : Below w.heap.size w w') : J s w' := h s w w' none hs (grown_of_belowM hb) (fun r e => by cases e)
/-- numbers that lie somewhere, whatever a round does -/
def NumsE (n₀ bm : Nat) (w : World) (a : Option Addr) (q : List Nat) : Prop := ∀ x, KE n₀ bm w x → Nums x a q
theorem NumsE.of {w : World} {bm : Nat} {a : Option Addr} {q : List Nat} (h : Nums w a q) (hb : ∀ b off, a = some ⟨b, off, none⟩ → b ≠ bm) : NumsE w.heap.size bm w a q := by
  intro x hx
  refine ⟨h.1, ?_⟩
  rcases h.2 with h | ⟨b, off, rfl, hlt, hc⟩
  · exact .inl h
  · refine .inr ⟨b, off, rfl, Nat.lt_of_lt_of_le hlt hx.1, fun i hi => ?_⟩
    rw [← hc i hi]
    have := hx.2 b hlt (hb b off rfl) hlt
    simp only [World.cell?, this]
theorem NumsE.tail {n₀ bm : Nat} {w : World} {b off : Nat} {u0 u1 u2 u3 : Nat} {r : List Nat} (h : NumsE n₀ bm w (some ⟨b, off, none⟩) (u0 :: u1 :: u2 :: u3 :: r)) : NumsE n₀ bm w (some ⟨b, off + 4, none⟩) r := by
  intro x hx
  obtain ⟨h1, h2⟩ := h x hx
  refine ⟨fun i => by have := h1 (i + 4); simpa using this, ?_⟩
  rcases h2 with h2 | ⟨b2, off2, he, hlt, hc⟩
  · cases h2
  · cases he
    refine .inr ⟨b, off + 4, rfl, hlt, fun i hi => ?_⟩
    have := hc (i + 4) (by simp; omega)
    rw [show off + 4 + i = off + (i + 4) from by omega, this]
    simp
theorem NumsE.nil (n₀ bm : Nat) (w : World) (a : Option Addr) : NumsE n₀ bm w a [] := fun x _ => ⟨fun i => by simp, .inl rfl⟩
set_option maxHeartbeats 1000000 in
theorem segs_in (n : Nat) (a : Option Addr) (m cap : Nat) (w : World) :
    CallsIn Fence.wide n Tryd.prog 36 #[.slice a m cap] w fun e w' => e = .returned (.func (.func 55) #[] #[.pointer (some ⟨w.heap.size, 0, none⟩)]) ∧ w' = w.alloc (.cells #[.slice a m cap] 66) := by
  refine callsIn_of_wp Tryd.func36 rfl trivial ?_ rfl
  simp only [Tryd.ntmps36, List.size_toArray, List.length_cons, List.length_nil, Nat.reduceAdd, Nat.reduceSub, Array.replicate_succ, Array.replicate_zero, List.push_toArray, List.append_toArray, List.nil_append, List.cons_append]
  gi_wp2
  go_ret
  exact ⟨rfl, rfl⟩
set_option maxRecDepth 100000 in
set_option maxHeartbeats 4000000 in
/-- the iterator itself -/
theorem segs1_in (n : Nat) (hn : 1 ≤ n) (U : List Nat) (m k bm : Nat) (a : Option Addr) (cap : Nat) (w : World) (hm : U.length = m) (hb : NumsE w.heap.size bm w a U) (hcap : m ≤ cap) (hl : m ≤ 1028)
    (lp : Nat) (J Jx : List Sm → World → Prop) (W : World) (hk : w.heap[k]? = some (.cells #[.slice a m cap] 66)) (hbe : Below w.heap.size w W) (hJ : AbidesFrom W.heap.size J)
    (hY : ∀ pre x W1, J pre W1 → ((pre ++ [x]) <+: smsOf U) → YieldAt Fence.wide (n - 1) Tryd.prog lp #[SmV x] W1 fun e W' =>
      (e = .returned (.bool true) ∧ J (pre ++ [x]) W' ∧ KE w.heap.size bm W1 W') ∨ (e = .returned (.bool false) ∧ Jx (pre ++ [x]) W')) (h0 : J [] W) :
    CallsIn Fence.wide n Tryd.prog 55 (#[.func (.yield lp) #[] #[]] ++ #[.pointer (some ⟨k, 0, none⟩)]) W fun e W' => (∃ v, e = .returned v) ∧ ((∃ xs : List Sm, xs = smsOf U ∧ J xs W') ∨ (∃ pre : List Sm, True ∧ Jx pre W')) := by
  have HY : Hid (∀ pre x W1, J pre W1 → ((pre ++ [x]) <+: smsOf U) → YieldAt Fence.wide (n - 1) Tryd.prog lp #[SmV x] W1 fun e W' =>
      (e = .returned (.bool true) ∧ J (pre ++ [x]) W' ∧ KE w.heap.size bm W1 W') ∨ (e = .returned (.bool false) ∧ Jx (pre ++ [x]) W')) := hY
  have HJ : Hid (AbidesFrom W.heap.size J) := hJ
  have HX : Hid (U.length = m ∧ NumsE w.heap.size bm w a U ∧ m ≤ cap) := ⟨hm, hb, hcap⟩
  have f1 : Fence.wide.fn 56 := trivial
  have hkW : W.heap[k]? = some (.cells #[.slice a m cap] 66) := (hbe.block k (lt_of_heap hk)).trans hk
  have c0 : W.cell? ⟨k, 0, none⟩ = some (.slice a m cap) := by rw [cell_of_row _ _ 0 _ _ _ hkW]; rfl
  have hklt : k < W.heap.size := lt_of_heap hkW
  have HKE : Hid (KE w.heap.size bm w W) := KE.below hbe
  clear hm hb hcap hY hJ hkW hk
  refine callsIn_of_wp Tryd.func55 rfl trivial ?_ rfl
  simp only [Tryd.ntmps55, List.size_toArray, List.length_cons, List.length_nil, Nat.reduceAdd, Nat.reduceSub, Array.replicate_succ, Array.replicate_zero, List.push_toArray, List.append_toArray, List.nil_append, List.cons_append]
  gi_wp2
  gi_loopw [3] (fun vr wr => ∃ (pre : List Sm) (q : List Nat) (a2 : Option Addr) (t c2 : Nat), vr = .slice a2 t c2 ∧ q.length = t ∧ t ≤ c2 ∧ t ≤ 1028 ∧ pre ++ smsOf q = smsOf U ∧ NumsE w.heap.size bm w a2 q ∧ J pre wr ∧ KE w.heap.size bm w wr ∧ W.heap.size ≤ wr.heap.size) (fun vr _ => match vr with | .slice _ t _ => t | _ => 0)
  case atStart => exact ⟨[], U, a, m, cap, rfl, HX.out.1, HX.out.2.2, hl, rfl, HX.out.2.1, h0, HKE.out, Nat.le_refl _⟩
  case round =>
    obtain ⟨pre, q, a2, t, c2, rfl, hqt, htc, ht28, hsc, hnq, hJp, hke, hsz⟩ := hrel
    have HSC : Hid (pre ++ smsOf q = smsOf U) := hsc
    by_cases ht4 : 4 ≤ t
    · obtain ⟨u0, u1, u2, u3, r, rfl⟩ := four_of (q := q) (by omega)
      obtain ⟨b, off, rfl, hlt, d0, d1, d2, d3⟩ := nums_four (hnq wr hke)
      have HNT : Hid (NumsE w.heap.size bm w (some ⟨b, off + 4, none⟩) r) := hnq.tail
      have hrt : r.length = t - 4 := by simp at hqt; omega
      have HRT : Hid (r.length = t - 4) := hrt
      have HC : Hid (t ≤ c2) := htc
      have ht4I : (4 : Int) ≤ (t : Int) := by omega
      have hc4I : (4 : Int) ≤ (c2 : Int) := by omega
      have htI : (t : Int) ≤ 1028 := by omega
      have HWR : Hid (KE w.heap.size bm w wr ∧ W.heap.size ≤ wr.heap.size) := ⟨hke, hsz⟩
      clear hsc hnq hqt hrt hke hsz htc
      gi_wp2_with (gi_at_call 56; refine (callsIn_wide.2 (mseg_any u0 u1 u2 u3 b off t c2 _ ht4 hlt d0 d1 d2 d3)).mono ?_; rintro e w2 ⟨rfl, hb2⟩; have hX1 : pre ++ [(⟨toI u0, toI u1, toI u2, toI u3⟩ : Sm)] <+: smsOf U := ⟨smsOf r, (by rw [← HSC.out]; simp [smsOf])⟩; obtain ⟨fn, tmps, assign, body, hy, hR⟩ := HY.out pre ⟨toI u0, toI u1, toI u2, toI u3⟩ w2 (AbidesFrom.belowM HJ.out hJp hb2) hX1; have HR : Hid (_) := hR; have HK2 : Hid (KE w.heap.size bm w w2 ∧ W.heap.size ≤ w2.heap.size) := ⟨HWR.out.1.trans (KE.below hb2), Nat.le_trans HWR.out.2 hb2.size⟩; clear hb2 hX1 hR)
      refine RoundIn.mono HR.out ?_
      clear HR
      rintro e W3 (⟨rfl, hJ3, hk3⟩ | ⟨rfl, hJx3⟩)
      · have HK3 : Hid (KE w.heap.size bm w W3 ∧ W.heap.size ≤ W3.heap.size) := ⟨HK2.out.1.trans hk3, Nat.le_trans HK2.out.2 hk3.1⟩
        clear hk3 HK2
        by_cases hc5 : c2 = 4
        · subst hc5
          have ht5 : t = 4 := by have := HC.out; omega
          subst ht5
          have hr0 : r = [] := List.length_eq_zero_iff.1 (by rw [HRT.out])
          subst hr0
          gi_wp2
          go_roundw
          case rel => exact ⟨_, [], _, 0, _, rfl, rfl, Nat.zero_le _, by omega, by rw [← HSC.out]; simp [smsOf], NumsE.nil _ _ _ _, hJ3, HK3.out.1, HK3.out.2⟩
          case measure => simp
        · have hc6 : ¬ (c2 : Int) = 4 := by omega
          gi_wp2
          go_roundw
          case rel => exact ⟨_, r, some ⟨b, off + 4, none⟩, t - 4, c2 - 4, by go_num, HRT.out, by have := HC.out; omega, by omega, by rw [← HSC.out]; simp [smsOf], HNT.out, hJ3, HK3.out.1, HK3.out.2⟩
          case measure => simp; omega
      · gi_wp2
        go_end0
        exact ⟨⟨_, rfl⟩, .inr ⟨_, trivial, hJx3⟩⟩
    · have HFI : Hid (pre = smsOf U) := by
        show _ = _
        have h := HSC.out
        rw [smsOf_short (by omega), List.append_nil] at h
        exact h
      have ht4I : ¬ (4 : Int) ≤ (t : Int) := by omega
      clear hsc
      gi_wp2
      first | go_end0 | (refine ⟨fun _ h => (by cases h), ?_⟩; gi_wp2; go_end0) | trace_state
      exact ⟨⟨_, rfl⟩, .inl ⟨pre, HFI.out, hJp⟩⟩
end Go.Proofs.YtnfkdgjgglnniaaDoor
namespace Go.Proofs.YtnfkdgjgglnniaaDoor
open Go.ChangeShapes Go.WideShapes Go.ChangeAt Go.RowKit
theorem shN_snoc (k x : Nat) : Crcm.shN (k + 1) x = Crcm.sh (Crcm.shN k x) := by rw [Crcm.shN_add]; rfl
end Go.Proofs.YtnfkdgjgglnniaaDoor
