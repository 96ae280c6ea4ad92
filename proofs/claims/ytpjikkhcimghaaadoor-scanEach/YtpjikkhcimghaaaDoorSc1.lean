/- scan.Each: the frames of a text, one after the other. -/
import Derived.Test.YtpjikkhcimghaaaDoorRfw
import Derived.Test.YtpjikkhcimghaaaDoorFr4
import Derived.Shelf.RegionOpen
import Derived.Deep.Onto
namespace Go.Proofs.YtpjikkhcimghaaaDoor
open Go.ChangeShapes Go.WideShapes Go.ChangeAt Go.RowKit Go.Shelf
set_option linter.unusedVariables false
attribute [local go_sem] Oper.semAt_some
/-- a frame of a text, and where it begins -/
structure Fm where
  pos : Nat
  kind : Nat
  seq : Nat
  body : List Nat
/-- the frames from a place on, up to the first that is none -/
def scanN : Nat → List Nat → Nat → List Fm
  | 0, _, _ => []
  | f + 1, l, p => if p < l.length ∧ decE (l.drop p) = 0 then ⟨p, decK (l.drop p), decS (l.drop p), decB (l.drop p)⟩ :: scanN f l (p + decN (l.drop p)) else []
def scanL (l : List Nat) : List Fm := scanN (l.length + 1) l 0
theorem decN_pos {l : List Nat} (h : decE l = 0) : 20 ≤ decN l ∧ decN l ≤ l.length ∧ decN l = (decB l).length + 20 := by
  obtain ⟨h1, h2, h3⟩ := decE_zero h
  unfold decN decB
  rw [if_pos h, if_pos h, List.length_take, List.length_drop]
  omega
theorem scanN_fuel (l : List Nat) : ∀ (f g p : Nat), l.length + 1 ≤ f + p → l.length + 1 ≤ g + p → scanN f l p = scanN g l p
  | 0, 0, p, _, _ => rfl
  | 0, g + 1, p, h1, _ => by unfold scanN; rw [if_neg (by omega)]
  | f + 1, 0, p, _, h2 => by unfold scanN; rw [if_neg (by omega)]
  | f + 1, g + 1, p, h1, h2 => by
    unfold scanN
    by_cases h : p < l.length ∧ decE (l.drop p) = 0
    · rw [if_pos h, if_pos h, scanN_fuel l f g _ (by have := (decN_pos h.2).1; omega) (by have := (decN_pos h.2).1; omega)]
    · rw [if_neg h, if_neg h]
/-- the frames from place p on -/
def scanAt (l : List Nat) (p : Nat) : List Fm := scanN (l.length + 1) l p
theorem scanAt_step (l : List Nat) (p : Nat) (h1 : p < l.length) (h2 : decE (l.drop p) = 0) : scanAt l p = ⟨p, decK (l.drop p), decS (l.drop p), decB (l.drop p)⟩ :: scanAt l (p + decN (l.drop p)) := by
  unfold scanAt
  rw [scanN, if_pos ⟨h1, h2⟩, scanN_fuel l l.length (l.length + 1) _ (by have := (decN_pos h2).1; omega) (by omega)]
theorem scanAt_end (l : List Nat) (p : Nat) (h : ¬ (p < l.length ∧ decE (l.drop p) = 0)) : scanAt l p = [] := by
  unfold scanAt
  rw [scanN, if_neg h]
/-- how many bytes the frame has with which a text begins -/
def AtN (l : List Nat) : Nat := decN l
/-- what the iterator hands on: a frame, and the value that bears its body -/
structure It where
  fm : Fm
  bv : Value
abbrev itV (x : It) : Array Value := #[.int .i64 (x.fm.pos : Int), FrV (x.fm.kind : Int) (x.fm.seq : Int) x.bv]
/-- what a round keeps: all below n₀, and block k -/
def KB (n₀ k : Nat) (W W' : World) : Prop := Below n₀ W W' ∧ (k < W.heap.size → W'.heap[k]? = W.heap[k]?)
theorem KB.trans {n₀ k : Nat} {A B C : World} (h : KB n₀ k A B) (g : KB n₀ k B C) : KB n₀ k A C :=
  ⟨h.1.trans g.1, fun hk => (g.2 (Nat.lt_of_lt_of_le hk h.1.size)).trans (h.2 hk)⟩
theorem KB.put {n₀ k : Nat} (W : World) (l : Nat) (o o' : Obj) (h1 : n₀ ≤ l) (h2 : k < l) (hl : W.heap[l]? = some o) : KB n₀ k W (W.putObj l o') := by
  have hlt := (Array.getElem?_eq_some_iff.1 hl).1
  exact ⟨(Below.refl n₀ W).grown (grownBy_putObj' W l o') (by omega) (fun j e => by cases e; exact h1), fun hk => World.putObj_heap_other (by omega)⟩
theorem grown_of_below {w w' : World} (h : Below w.heap.size w w') : w.grownBy w' none := ⟨h.os, h.tape, h.output, h.size, fun k hk _ => h.block k hk⟩
theorem AbidesFrom.below {α : Type} {B : Nat} {J : List α → World → Prop} (h : AbidesFrom B J) {s : List α} {w w' : World} (hs : J s w) (hb : Below w.heap.size w w') : J s w' := h s w w' none hs (grown_of_below hb) (fun r e => by cases e)
set_option maxHeartbeats 1000000 in
theorem each_in (n : Nat) (a : Option Addr) (m cap : Nat) (w : World) :
    CallsIn Fence.wide n Tryd.prog 6 #[.slice a m cap] w fun e w' => e = .returned (.func (.func 13) #[] #[.pointer (some ⟨w.heap.size, 0, none⟩)]) ∧ w' = w.alloc (.cells #[.slice a m cap] 22) := by
  refine callsIn_of_wp Tryd.func6 rfl trivial ?_ rfl
  simp only [Tryd.ntmps6, List.size_toArray, List.length_cons, List.length_nil, Nat.reduceAdd, Nat.reduceSub, Array.replicate_succ, Array.replicate_zero, List.push_toArray, List.append_toArray, List.nil_append, List.cons_append]
  gi_wp2
  go_ret
  exact ⟨rfl, rfl⟩
set_option maxRecDepth 100000 in
set_option maxHeartbeats 4000000 in
/-- the iterator itself -/
theorem each1_in (n : Nat) (hn : 1 ≤ n) (l : List Nat) (m k : Nat) (a : Option Addr) (cap : Nat) (w : World) (hm : l.length = m) (hb : Bytes w a l) (hcap : m ≤ cap) (hl : m ≤ 140737488351232) (ht : Tab w)
    (lp : Nat) (J Jx : List It → World → Prop) (W : World) (hk0 : w.heap.size ≤ k) (hk : W.heap[k]? = some (.cells #[.slice a m cap] 22)) (hbe : Below w.heap.size w W) (hJ : AbidesFrom W.heap.size J)
    (hY : ∀ pre x W1, J pre W1 → ((pre ++ [x]).map It.fm <+: scanL l ∧ Own W1 w.heap.size x.bv x.fm.body) → YieldAt Fence.wide (n - 1) Tryd.prog lp (itV x) W1 fun e W' =>
      (e = .returned (.bool true) ∧ J (pre ++ [x]) W' ∧ KB w.heap.size k W1 W') ∨ (e = .returned (.bool false) ∧ Jx (pre ++ [x]) W')) (h0 : J [] W) :
    CallsIn Fence.wide n Tryd.prog 13 (#[.func (.yield lp) #[] #[]] ++ #[.pointer (some ⟨k, 0, none⟩)]) W fun e W' => (∃ v, e = .returned v) ∧ ((∃ xs : List It, xs.map It.fm = scanL l ∧ J xs W') ∨ (∃ pre : List It, pre.map It.fm <+: scanL l ∧ Jx pre W')) := by
  have HX : Hid (l.length = m ∧ Bytes w a l ∧ m ≤ cap ∧ Tab w) := ⟨hm, hb, hcap, ht⟩
  have HY : Hid (∀ pre x W1, J pre W1 → ((pre ++ [x]).map It.fm <+: scanL l ∧ Own W1 w.heap.size x.bv x.fm.body) → YieldAt Fence.wide (n - 1) Tryd.prog lp (itV x) W1 fun e W' =>
      (e = .returned (.bool true) ∧ J (pre ++ [x]) W' ∧ KB w.heap.size k W1 W') ∨ (e = .returned (.bool false) ∧ Jx (pre ++ [x]) W')) := hY
  have HJ : Hid (AbidesFrom W.heap.size J) := hJ
  have hmI : (m : Int) ≤ 140737488351232 := by omega
  have f24 : Fence.wide.fn 14 := trivial
  clear hm hb hcap ht hY hJ
  refine callsIn_of_wp Tryd.func13 rfl trivial ?_ rfl
  simp only [Tryd.ntmps13, List.size_toArray, List.length_cons, List.length_nil, Nat.reduceAdd, Nat.reduceSub, Array.replicate_succ, Array.replicate_zero, List.push_toArray, List.append_toArray, List.nil_append, List.cons_append]
  gi_wp2
  gi_loopw [3] (fun vp wr => ∃ (pre : List It) (p : Nat), vp = .int .i64 p ∧ p ≤ m ∧ pre.map It.fm ++ scanAt l p = scanL l ∧ J pre wr ∧ wr.heap[k]? = some (.cells #[.slice a m cap] 22) ∧ Below w.heap.size w wr ∧ W.heap.size ≤ wr.heap.size) (fun vp _ => m - (intOf vp).toNat)
  case atStart => exact ⟨[], 0, rfl, Nat.zero_le _, rfl, h0, hk, hbe, Nat.le_refl _⟩
  case round =>
    obtain ⟨pre, p, rfl, hp, hsc, hJp, hkr, hbr, hsz⟩ := hrel
    have c0 : wr.cell? ⟨k, 0, none⟩ = some (.slice a m cap) := by rw [cell_of_row _ _ 0 _ _ _ hkr]; rfl
    have HSC : Hid (pre.map It.fm ++ scanAt l p = scanL l) := hsc
    by_cases hpm : p < m
    · have hlp : p < l.length := by rw [HX.out.1]; exact hpm
      have hne : l ≠ [] := by intro h; rw [h] at hlp; simp at hlp
      obtain ⟨b, off, rfl, hlt, _⟩ := HX.out.2.1.nonempty hne
      have HBq : Hid (Bytes wr (some ⟨b, off + p, none⟩) (l.drop p)) := (HX.out.2.1.keep hbr).drop p
      have HTr : Hid (Tab wr) := HX.out.2.2.2.keep hbr
      obtain ⟨q, hq⟩ : ∃ q, l.drop p = q := ⟨_, rfl⟩
      have hql : q.length = m - p := by rw [← hq, List.length_drop, HX.out.1]
      have HQL : Hid (q.length = m - p ∧ q.length ≤ 281474976710656 ∧ q.length ≤ cap - p) := ⟨hql, by omega, by have := HX.out.2.2.1; omega⟩
      have HBQ : Hid (Bytes wr (some ⟨b, off + p, none⟩) q) := by rw [← hq]; exact HBq.out
      have HQ : Hid (l.drop p = q) := hq
      have hpc : (p : Int) ≤ (cap : Int) := by have := HX.out.2.2.1; omega
      have hpn : (p : Int) ≤ (m : Int) := by omega
      have hpc2 : (p : Int) < (cap : Int) := by have := HX.out.2.2.1; omega
      obtain ⟨K, hK⟩ : ∃ K, decK q = K := ⟨_, rfl⟩
      obtain ⟨S, hS⟩ : ∃ S, decS q = S := ⟨_, rfl⟩
      obtain ⟨N, hN⟩ : ∃ N, AtN q = N := ⟨_, rfl⟩
      obtain ⟨E, hE⟩ : ∃ E, decE q = E := ⟨_, rfl⟩
      obtain ⟨B, hB⟩ : ∃ B, decB q = B := ⟨_, rfl⟩
      have HV : Hid (∀ v, DV q v = .tuple #[FrV (K : Int) (S : Int) v, .int .i64 (N : Int), .int .i64 (E : Int)] ∧ decB q = B) := fun v => ⟨by rw [← hK, ← hS, ← hN, ← hE]; rfl, hB⟩
      by_cases hE0 : E = 0
      · subst hE0
        have hdn := decN_pos hE
        have hN2 : 20 ≤ N ∧ p + N ≤ m := by rw [← hN]; unfold AtN; omega
        have HST : Hid (scanAt l p = ⟨p, K, S, B⟩ :: scanAt l (p + N)) := by show _ = _; rw [scanAt_step l p hlp (by rw [hq]; exact hE), hq, hK, hS, hB, ← hN]; rfl
        clear hq hql hK hS hN hE hB hdn hsc hlp hne HBq
        gi_wp2_with (gi_at_call 14; refine (callsIn_wide.2 (fdec_any q _ _ _ _ HQL.out.1 HBQ.out HQL.out.2.1 HQL.out.2.2 HTr.out)).mono ?_; rintro e w2 ⟨v2, rfl, ho2, hb2⟩; rw [(HV.out v2).1]; rw [(HV.out v2).2] at ho2; obtain ⟨a2, c2, hv2, _⟩ := ho2.shape; subst hv2; have hb1 : Below wr.heap.size wr (w2.alloc (.cells #[.int .i64 (K : Int), .int .i64 (S : Int), .slice a2 B.length c2] 32)) := hb2.alloc hb2.size _; have hX1 : (pre ++ [(⟨⟨p, K, S, B⟩, .slice a2 B.length c2⟩ : It)]).map It.fm <+: scanL l ∧ Own (w2.alloc (.cells #[.int .i64 (K : Int), .int .i64 (S : Int), .slice a2 B.length c2] 32)) w.heap.size (.slice a2 B.length c2) B := ⟨⟨scanAt l (p + N), (by rw [← HSC.out, HST.out]; simp)⟩, ⟨ho2.1, World.ownsRow.alloc (World.ownsRow.mono ho2.2 hbr.size) _⟩⟩; obtain ⟨fn, tmps, assign, body, hy, hR⟩ := HY.out pre ⟨⟨p, K, S, B⟩, .slice a2 B.length c2⟩ (w2.alloc (.cells #[.int .i64 (K : Int), .int .i64 (S : Int), .slice a2 B.length c2] 32)) (AbidesFrom.below HJ.out hJp hb1) hX1; have HR : Hid (_) := hR; have HK1 : Hid ((w2.alloc (.cells #[.int .i64 (K : Int), .int .i64 (S : Int), .slice a2 B.length c2] 32)).heap[k]? = some (.cells #[.slice (some ⟨b, off, none⟩) m cap] 22) ∧ Below w.heap.size w (w2.alloc (.cells #[.int .i64 (K : Int), .int .i64 (S : Int), .slice a2 B.length c2] 32)) ∧ W.heap.size ≤ (w2.alloc (.cells #[.int .i64 (K : Int), .int .i64 (S : Int), .slice a2 B.length c2] 32)).heap.size) := ⟨(hb1.block k (lt_of_heap hkr)).trans hkr, hbr.trans (hb1.mono hbr.size), Nat.le_trans hsz hb1.size⟩; clear ho2 hb2 hX1 hb1 hR)
        refine RoundIn.mono HR.out ?_
        clear HR
        rintro e W3 (⟨rfl, hJ3, hk3⟩ | ⟨rfl, hJx3⟩)
        · have HK3 : Hid (W3.heap[k]? = some (.cells #[.slice (some ⟨b, off, none⟩) m cap] 22) ∧ Below w.heap.size w W3 ∧ W.heap.size ≤ W3.heap.size) := ⟨(hk3.2 (lt_of_heap HK1.out.1)).trans HK1.out.1, HK1.out.2.1.trans hk3.1, Nat.le_trans HK1.out.2.2 hk3.1.size⟩
          clear hk3 HK1
          gi_wp2
          go_roundw
          case rel => exact ⟨_, p + N, by go_num, by omega, by rw [← HSC.out, HST.out]; simp, hJ3, HK3.out.1, HK3.out.2.1, HK3.out.2.2⟩
          case measure => simp [intOf]; omega
        · gi_wp2
          refine bodyPost_ret (results_none rfl _ _ _) rfl ?_
          exact ⟨⟨_, rfl⟩, .inr ⟨_, ⟨scanAt l (p + N), by rw [← HSC.out, HST.out]; simp⟩, hJx3⟩⟩
      · have heb : ((E : Int) != 0) = true := by simp; omega
        have HFI : Hid (pre.map It.fm = scanL l) := by
          have h := HSC.out
          rw [scanAt_end l p (by rw [hq, hE]; exact fun h => hE0 h.2), List.append_nil] at h
          exact h
        clear hq hql hK hS hN hE hB hsc hlp hne HBq hE0
        gi_wp2_with (gi_at_call 14; refine (callsIn_wide.2 (fdec_any q _ _ _ _ HQL.out.1 HBQ.out HQL.out.2.1 HQL.out.2.2 HTr.out)).mono ?_; rintro e w2 ⟨v2, rfl, ho2, hb2⟩; rw [(HV.out v2).1]; rw [(HV.out v2).2] at ho2; obtain ⟨a2, c2, hv2, _⟩ := ho2.shape; subst hv2; have hJ1 : J pre (w2.alloc (.cells #[.int .i64 (K : Int), .int .i64 (S : Int), .slice a2 B.length c2] 32)) := AbidesFrom.below HJ.out hJp (hb2.alloc hb2.size _); clear ho2 hb2)
        refine ⟨fun _ h => (by cases h), ?_⟩
        gi_wp2
        refine bodyPost_ret (results_none rfl _ _ _) rfl ?_
        exact ⟨⟨_, rfl⟩, .inl ⟨pre, HFI.out, hJ1⟩⟩
    · have HFI : Hid (pre.map It.fm = scanL l) := by
        have h := HSC.out
        rw [scanAt_end l p (by rw [HX.out.1]; exact fun h => hpm h.1), List.append_nil] at h
        exact h
      clear hsc
      gi_wp2
      go_end0
      exact ⟨⟨_, rfl⟩, .inl ⟨pre, HFI.out, hJp⟩⟩
end Go.Proofs.YtpjikkhcimghaaaDoor
