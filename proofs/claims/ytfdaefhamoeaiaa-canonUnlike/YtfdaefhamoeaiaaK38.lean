/- Own texts, joined: Cn5, Slc, Slc2. -/
import Derived.Test.YtfdaefhamoeaiaaK37
import Derived.Test.YtfdaefhamoeaiaaK00
import Derived.Test.YtfdaefhamoeaiaaRows
namespace Go.Proofs.Ytfdaefhamoeaiaa
open Go.ChangeShapes Go.WideShapes Go.ChangeAt Go.RowKit
set_option linter.unusedVariables false
/-- a row of texts of the call's own (from block bt on), their bytes (from block base on) -/
structure Txs (w : World) (bt base : Nat) (v : Value) (T : List (List Nat × Value)) : Prop where
  own : w.ownsRow bt 27 1 v T.length (T.map Prod.snd)
  byt : ∀ p ∈ T, Own w base p.2 p.1
theorem row_at {w w' : World} {base : Nat} {e : TypeId} {size : Nat} {v : Value} {n : Nat} {xs : List Value} (h : w.ownsRow base e size v n xs) (hs : ∀ g, v.ownBlock = some g → g < w.heap.size → w'.heap[g]? = w.heap[g]?) : w'.ownsRow base e size v n xs := by
  refine ⟨h.1, ?_⟩
  rcases h.2 with h2 | ⟨g, cap, cur, h3, h4, h5, h6⟩
  · exact .inl h2
  · exact .inr ⟨g, cap, cur, h3, h4, (hs g (by rw [h3]; rfl) (lt_of_heap h5)).trans h5, h6⟩
theorem row_blk {w : World} {base : Nat} {e : TypeId} {size : Nat} {v : Value} {n : Nat} {xs : List Value} (h : w.ownsRow base e size v n xs) {g : Nat} (hg : v.ownBlock = some g) : base ≤ g ∧ ∃ c, w.heap[g]? = some (.cells c e) := by
  rcases h.2 with ⟨rfl, _⟩ | ⟨g2, cap, cur, rfl, h4, h5, h6⟩
  · simp [Value.ownBlock] at hg
  · have : g2 = g := by simpa [Value.ownBlock] using hg
    subst this
    exact ⟨h4, _, h5⟩
theorem Txs.keep {w w' : World} {bt base : Nat} {v : Value} {T : List (List Nat × Value)} (h : Txs w bt base v T) (hb : Below w.heap.size w w') : Txs w' bt base v T :=
  ⟨own_below h.own hb, fun p hp => ⟨(h.byt p hp).1, own_below (h.byt p hp).2 hb⟩⟩
theorem Txs.nil (w : World) (bt base : Nat) : Txs w bt base (.slice none 0 0) [] := ⟨World.ownsRow_nil w bt _ 1, fun p hp => by cases hp⟩
/-- the reader is elsewhere than a row of texts -/
theorem Tk.grown {w1 w2 w3 : World} {base q b bt n : Nat} {L : List (Fld × Value)} {ts : List (Int × Bool)} {v : Value} {xs : List Value} (h : Tk w1 w2 base q b L ts) (hr : w2.ownsRow bt 27 1 v n xs) (hbt : w1.heap.size ≤ bt) (hg : w2.grownBy w3 v.ownBlock) : Tk w1 w3 base q b L ts := by
  obtain ⟨n, D, hm, hrp⟩ := h.rd.map
  obtain ⟨es, c, hbm⟩ := map_blk hm
  have hne : ∀ k, (∀ c, w2.heap[k]? ≠ some (.cells c 27)) → some k ≠ v.ownBlock := by
    intro k hk hv
    obtain ⟨_, c, hc⟩ := row_blk hr hv.symm
    exact hk c hc
  have h1 : w3.heap[q]? = w2.heap[q]? := hg.block q (lt_of_heap h.rd.blk) (hne q (fun c hc => by rw [h.rd.blk] at hc; cases hc))
  have h2 : w3.heap[b]? = w2.heap[b]? := hg.block b (lt_of_heap hbm) (hne b (fun c hc => by rw [hbm] at hc; cases hc))
  refine ⟨⟨h1.trans h.rd.blk, ⟨n, D, owns_same hm h2, hrp⟩, fun p hp => ⟨(h.rd.byt p hp).1, row_at (h.rd.byt p hp).2 (fun g hgb hlt => hg.block g hlt (hne g (fun c hc => ?_)))⟩⟩, ⟨hg.os.trans h.kep.os, hg.tape.trans h.kep.tape, hg.output.trans h.kep.output, Nat.le_trans h.kep.size hg.size, fun k hk k1 k2 => (hg.block k (Nat.lt_of_lt_of_le hk h.kep.size) ?_).trans (h.kep.block k hk k1 k2)⟩⟩
  · obtain ⟨_, c2, hc2⟩ := row_blk (h.rd.byt p hp).2 hgb
    rw [hc2] at hc; cases hc
  · intro hv
    have := (row_blk hr hv.symm).1
    omega
theorem own_grownT {w w' : World} {bt base n : Nat} {v p : Value} {xs : List Value} {l : List Nat} (ho : w.ownsRow bt 27 1 v n xs) (hg : w.grownBy w' v.ownBlock) (hp : Own w base p l) : Own w' base p l := by
  refine ⟨hp.1, row_at hp.2 (fun g hgb hlt => hg.block g hlt (fun hv => ?_))⟩
  obtain ⟨_, c, hc⟩ := row_blk ho hv.symm
  obtain ⟨_, c2, hc2⟩ := row_blk hp.2 hgb
  rw [hc2] at hc; cases hc
/-- the texts from tag 12 + k on, up to the first that holds nothing, f at most -/
def txsFrom (fs : List Fld) : Nat → Nat → List (List Nat)
  | 0, _ => []
  | f + 1, k => if txtF fs (12 + (k : Int)) = [] then [] else txtF fs (12 + (k : Int)) :: txsFrom fs f (k + 1)
/-- the tags that are asked for -/
def tgsFrom (fs : List Fld) : Nat → Nat → List (Int × Bool)
  | 0, _ => []
  | f + 1, k => (12 + (k : Int), true) :: (if txtF fs (12 + (k : Int)) = [] then [] else tgsFrom fs f (k + 1))
theorem Try.infoBs : (Try.prog.info? 27).map (fun i => (i.zero, i.size, i.bytes)) = some (some (.slice none 0 0), 1, 24) := by kernel_rfl
theorem bcell_new (w : World) (v : Value) (t : TypeId) : ∀ j u, [v][j]? = some u → (w.alloc (.cells #[v] t)).cell? ((⟨w.heap.size, 0, none⟩ : Addr).add j) = some u := by
  intro j u hj
  cases j with
  | zero =>
    simp at hj; subst hj
    rw [show (⟨w.heap.size, 0, none⟩ : Addr).add 0 = ⟨w.heap.size, 0, none⟩ from by simp [Addr.add]]
    rw [cell_of_row (w.alloc (.cells #[v] t)) w.heap.size 0 #[v] t (0, 0) (heap_alloc_new w _)]
    rfl
  | succ j => simp at hj
theorem Txs.snoc {w : World} {bt base : Nat} {v t : Value} {T : List (List Nat × Value)} {l : List Nat} (h1 : w.ownsRow bt 27 1 v (T.length + 1) (T.map Prod.snd ++ [t])) (h2 : ∀ p ∈ T, Own w base p.2 p.1) (h3 : Own w base t l) : Txs w bt base v (T ++ [(l, t)]) :=
  ⟨by rw [List.length_append, List.map_append]; exact h1, fun p hp => by rcases List.mem_append.1 hp with h | h; exact h2 p h; rw [List.mem_singleton.1 h]; exact h3⟩
theorem Kept.chain2 {x y : Nat} {a b c : World} (h : Kept x y a b) (k : Kept x y b c) : Kept x y a c :=
  ⟨k.os.trans h.os, k.tape.trans h.tape, k.output.trans h.output, Nat.le_trans h.size k.size, fun j hj h1 h2 => (k.block j (Nat.lt_of_lt_of_le hj h.size) h1 h2).trans (h.block j hj h1 h2)⟩
theorem Kept.grown2 {x y bt n : Nat} {a b c : World} {v : Value} {xs : List Value} (h : Kept x y a b) (ho : b.ownsRow bt 27 1 v n xs) (hbt : a.heap.size ≤ bt) (hg : b.grownBy c v.ownBlock) : Kept x y a c :=
  ⟨hg.os.trans h.os, hg.tape.trans h.tape, hg.output.trans h.output, Nat.le_trans h.size hg.size, fun j hj h1 h2 => (hg.block j (Nat.lt_of_lt_of_le hj h.size) (fun hv => by have := (row_blk ho hv.symm).1; omega)).trans (h.block j hj h1 h2)⟩
set_option maxRecDepth 20000 in
set_option maxHeartbeats 4000000 in
theorem takeTexts_any (w1 w2 : World) (base q b : Nat) (L : List (Fld × Value)) (fs : List Fld) (hL : L.map Prod.fst = fs) (h : Tk w1 w2 base q b L tg11) :
    Calls Try.prog 28 #[.pointer (some ⟨q, 0, none⟩)] w2 fun r w3 => ∃ v T, r = .returned v ∧ T.map Prod.fst = txsFrom fs 16 0 ∧ Txs w3 w2.heap.size base v T ∧ Tk w1 w3 base q b L (tg11 ++ tgsFrom fs 16 0) ∧ Kept q b w2 w3 := by
  obtain ⟨i0, hi, hz0, hz1, hz2⟩ := info_parts Try.infoBs
  have HF : Hid (L.map Prod.fst = fs) := hL
  have HT0 : Hid (Tk w1 w2 base q b L tg11) := h
  have HQ : Hid (q < w2.heap.size ∧ b < w2.heap.size ∧ w1.heap.size ≤ w2.heap.size) := ⟨h.lts.1, h.lts.2, h.kep.size⟩
  clear h hL
  go_enter Try.func28, Try.ntmps28
  go_wp2
  go_loopw [3, 6] (fun vt vi wr => ∃ (v0 : Value) (k : Nat) (T : List (List Nat × Value)) (TS : List (Int × Bool)), v0 = vt ∧ k ≤ 16 ∧ vi = .int .i64 k ∧ T.length = k ∧ Hid (T.map Prod.fst ++ txsFrom fs (16 - k) k = txsFrom fs 16 0 ∧ TS ++ tgsFrom fs (16 - k) k = tg11 ++ tgsFrom fs 16 0 ∧ (∀ x ∈ TS, x.1 < 12 + (k : Int)) ∧ Txs wr w2.heap.size base v0 T ∧ Tk w1 wr base q b L TS ∧ Kept q b w2 wr)) (fun _ vi _ => 16 - (intOf vi).toNat)
  case atStart => exact ⟨_, 0, [], tg11, rfl, by omega, rfl, rfl, rfl, rfl, by unfold tg11; simp, Txs.nil _ _ _, HT0.out, Kept.refl _ _ _⟩
  case round =>
    clear HT0
    obtain ⟨v0, k, T, TS, rfl, hk, rfl, hTk, HI⟩ := hrel
    have HTK : Hid (T.length = k) := hTk
    clear hTk
    by_cases hk16 : k < 16
    · obtain ⟨f, hf⟩ : ∃ f, 16 - k = f + 1 := ⟨15 - k, by omega⟩
      have HFK : Hid (16 - (k + 1) = f) := by show _ = _; omega
      obtain ⟨t, ht⟩ : ∃ t, txtF fs (12 + (k : Int)) = t := ⟨_, rfl⟩
      have H1 : Hid (T.map Prod.fst ++ (if t = [] then [] else t :: txsFrom fs f (k + 1)) = txsFrom fs 16 0 ∧ TS ++ ((12 + (k : Int), true) :: (if t = [] then [] else tgsFrom fs f (k + 1))) = tg11 ++ tgsFrom fs 16 0) := by
        obtain ⟨g1, g2, _⟩ := HI.out
        rw [hf] at g1 g2
        simp only [txsFrom, tgsFrom, ht] at g1 g2
        exact ⟨g1, g2⟩
      have HTX : Hid (txtF (L.map Prod.fst) (12 + (k : Int)) = t) := by show _ = _; rw [HF.out]; exact ht
      have HNT : Hid (∀ x ∈ TS, x.1 ≠ 12 + (k : Int)) := fun x hx => by have := HI.out.2.2.1 x hx; omega
      clear ht hf
      obtain ⟨m, hm⟩ : ∃ m, t.length = m := ⟨_, rfl⟩
      have HM : Hid (_) := hm
      have hwf : (Lit.int .i64 (12 + (k : Int))).wf = true := WalkArith.wf_i64 (by omega)
      have HWF : Hid (_) := hwf
      have HMB : Hid (m = 0 ↔ t = []) := by show _ ↔ _; rw [← hm]; exact List.length_eq_zero_iff
      clear hwf hm
      by_cases hm0 : m = 0
      · subst hm0
        have ht0 := HMB.out.1 rfl
        go_wp2_with (go_at_call 44; refine (text_tk (12 + (k : Int)) w1 _ base q b L TS HI.out.2.2.2.2.1 HNT.out HWF.out).mono ?_; rw [HTX.out]; rintro _ x1 ⟨tv, rfl, hto, h1, h2⟩; obtain ⟨a1, c1, hv1, _, _, _, _⟩ := hto.shape; rw [HM.out] at hv1; subst hv1; have HT1 : Hid (Tk w1 x1 base q b L (TS ++ [(12 + (k : Int), true)])) := h1; have HK1 : Hid (Kept q b wr x1) := h2; clear hto h1 h2)
        go_ret
        refine ⟨_, T, rfl, ?_, ⟨row_at HI.out.2.2.2.1.own (fun g hg hlt => HK1.out.block g hlt ?_ ?_), fun p hp => HI.out.2.2.2.2.1.rd.own HK1.out (HI.out.2.2.2.1.byt p hp)⟩, ?_, HI.out.2.2.2.2.2.chain2 HK1.out⟩
        · have := H1.out.1
          rw [if_pos ht0, List.append_nil] at this
          exact this
        · have := (row_blk HI.out.2.2.2.1.own hg).1; have := HQ.out; omega
        · have := (row_blk HI.out.2.2.2.1.own hg).1; have := HQ.out; omega
        · have := H1.out.2
          rw [if_pos ht0] at this
          rw [← this]
          exact HT1.out
      · have hmb : ((m : Int) == 0) = false := by simp; omega
        have ht0 : ¬ t = [] := fun h => hm0 (HMB.out.2 h)
        have HT0 : Hid (¬ t = []) := ht0
        clear ht0
        go_wp2_with (first
          | (go_at_call 44; refine (text_tk (12 + (k : Int)) w1 _ base q b L TS HI.out.2.2.2.2.1 HNT.out HWF.out).mono ?_; rw [HTX.out]; rintro _ x1 ⟨tv, rfl, hto, h1, h2⟩; obtain ⟨a1, c1, hv1, _, _, _, _⟩ := hto.shape; rw [HM.out] at hv1; subst hv1; have HT1 : Hid (Tk w1 x1 base q b L (TS ++ [(12 + (k : Int), true)])) := h1; have HK1 : Hid (Kept q b wr x1) := h2; have HO1 : Hid (Own x1 base (.slice a1 m c1) t) := hto; have HX1 : Hid (Txs x1 w2.heap.size base v0 T) := (⟨row_at HI.out.2.2.2.1.own (fun g hg hlt => HK1.out.block g hlt (by have := (row_blk HI.out.2.2.2.1.own hg).1; have := HQ.out; omega) (by have := (row_blk HI.out.2.2.2.1.own hg).1; have := HQ.out; omega)), fun p hp => HI.out.2.2.2.2.1.rd.own HK1.out (HI.out.2.2.2.1.byt p hp)⟩); have HL1 : Hid (w2.heap.size ≤ x1.heap.size) := Nat.le_trans HI.out.2.2.2.2.2.size h2.size; clear hto h1 h2)
          | (at_builtin; refine wpList_append_own _ rfl _ _ 55 rfl w2.heap.size 27 i0 (.slice none 0 0) 1 24 Try.underlying55 hi hz0 hz1 hz2 rfl (by decide) v0 T.length _ rfl (HX1.out.keep ((Below.refl _ _).alloc (Nat.le_refl _) _)).own ⟨x1.heap.size, 0, none⟩ 1 1 [.slice a1 m c1] rfl rfl (bcell_new x1 _ _) (by intro u hu; rw [List.mem_singleton.1 hu]; rfl) (by have := HTK.out; unfold maxLen; omega) (by have := HTK.out; omega) (by have := HL1.out; simp; omega) ?_; intro v3 w3 ho3 hg3 _; have HG3 : Hid (_) := hg3; have HO3 : Hid (w3.ownsRow w2.heap.size 27 1 v3 (T.length + 1) (T.map Prod.snd ++ [.slice a1 m c1])) := ho3; clear ho3 hg3))
        go_roundw
        case rel =>
          have hX := HX1.out.keep ((Below.refl x1.heap.size x1).alloc (Nat.le_refl _) (.cells #[.slice a1 m c1] 27))
          have hT := HT1.out.keep ((Below.refl x1.heap.size x1).alloc (Nat.le_refl _) (.cells #[.slice a1 m c1] 27))
          have hO := own_app HO1.out ((Below.refl x1.heap.size x1).alloc (Nat.le_refl _) (.cells #[.slice a1 m c1] 27))
          have hK := (HI.out.2.2.2.2.2.chain2 HK1.out).chain2 (Kept.of_bel ((Below.refl x1.heap.size x1).alloc (Nat.le_refl _) (.cells #[.slice a1 m c1] 27)))
          refine ⟨v3, k + 1, T ++ [(t, .slice a1 m c1)], TS ++ [(12 + (k : Int), true)], rfl, by omega, by go_num, by rw [List.length_append, HTK.out]; rfl, ?_, ?_, ?_, Txs.snoc HO3.out (fun p hp => own_grownT hX.own HG3.out (hX.byt p hp)) (own_grownT hX.own HG3.out hO), hT.grown hX.own HQ.out.2.2 HG3.out, hK.grown2 hX.own (Nat.le_refl _) HG3.out⟩
          · have := H1.out.1
            rw [if_neg HT0.out] at this
            rw [HFK.out, List.map_append, List.append_assoc]
            exact this
          · have := H1.out.2
            rw [if_neg HT0.out] at this
            rw [HFK.out, List.append_assoc]
            exact this
          · intro x hx
            rcases List.mem_append.1 hx with h | h
            · have := HI.out.2.2.1 x h; omega
            · rw [List.mem_singleton.1 h]; show 12 + (k : Int) < _; omega
        case measure => simp [intOf]; omega
    · obtain rfl : k = 16 := by omega
      go_wp2
      go_ret
      refine ⟨_, T, rfl, ?_, HI.out.2.2.2.1, ?_, HI.out.2.2.2.2.2⟩
      · have h2 := HI.out.1
        rw [show txsFrom fs (16 - 16) 16 = [] from rfl, List.append_nil] at h2
        exact h2
      · have h1 := HI.out.2.2.2.2.1
        have h2 := HI.out.2.1
        rw [show tgsFrom fs (16 - 16) 16 = [] from rfl, List.append_nil] at h2
        rw [← h2]
        exact h1
end Go.Proofs.Ytfdaefhamoeaiaa
namespace Go.Proofs.Ytfdaefhamoeaiaa
open Go.ChangeShapes Go.WideShapes Go.ChangeAt Go.RowKit
set_option linter.unusedVariables false
theorem bytes_cut {w : World} {a : Option Addr} {l : List Nat} (h : Bytes w a l) (i cap : Nat) (hi : i ≤ l.length) (hc : l.length ≤ cap) : Bytes w (if cap = i then a else a.map (·.add (i * 1))) (l.drop i) := by
  by_cases hci : cap = i
  · rw [if_pos hci, List.drop_of_length_le (by omega)]
    exact Bytes.none _ _
  · rw [if_neg hci]
    rcases h.2 with rfl | ⟨b, off, rfl, hlt, hcell⟩
    · rw [List.drop_nil]
      exact Bytes.none _ _
    · have e : (⟨b, off, none⟩ : Addr).add (i * 1) = ⟨b, off + i, none⟩ := by rw [Nat.mul_one]; simp [Addr.add]
      rw [Option.map_some, e]
      exact h.drop i
theorem slice_under : Try.prog.underlying 27 = some (.slice (Try.prog.elem 27)) := by kernel_rfl
theorem slice_size (w : World) : (sizeOf (Try.prog.elem 27)).run Try.prog w = .ok 1 w := by kernel_rfl
theorem at_slice {ops : Array Oper} {rest : List Oper} {a : Act} {w : World} {Q : Exit → Act → World → Prop} {dst : Option Tmp} {ty : TypeId} {pos : String} {after : Array Edge} {s lo : Operand}
    (h : wpList Try.prog ops Q (⟨dst, .slice 27 s (some lo) none none, ty, pos, after, none⟩ :: rest) a w) : wpList Try.prog ops Q (⟨dst, .slice 27 s (some lo) none none, ty, pos, after, none⟩ :: rest) a w := h
theorem wpList_slice_l {ops : Array Oper} {rest : List Oper} {o : Oper} {a : Act} {w : World} {Q : Exit → Act → World → Prop} (hgd : o.guard = none) (s lo : Operand) (ho : o.op = .slice 27 s (some lo) none none)
    {A : Option Addr} {n cap i : Nat} {l : List Nat} (hs : a.eval s = .slice A n cap) (hlo : a.eval lo = .int .i64 (i : Int)) (hi : i ≤ n) (hn : n ≤ cap) (hl : l.length = n) (hb : Bytes w A l)
    (h : ∀ x, Bytes w x (l.drop i) → wpList Try.prog ops Q rest (a.put o.dst (.slice x (n - i) (cap - i))) w) : wpList Try.prog ops Q (o :: rest) a w :=
  wpList_plain hgd fun _ hK => by
    have hrun := run_slice_l (P := Try.prog) w 27 A n cap slice_under .i64 (i : Int) (by omega) (by omega)
    unfold Oper.wp execOp
    simp only [ho, hs, hlo, Option.map_some, Option.map_none, Sem.run_bind, Sem.run_pure, Result.andThen_ok, run_sliceAt_slice (P := Try.prog) w 27 _ _ _ _ slice_under, hrun, slice_size, sliced, Int.toNat_natCast]
    exact hK _ _ (h _ (bytes_cut hb i cap (by omega) (by omega)))
end Go.Proofs.Ytfdaefhamoeaiaa
namespace Go.Proofs.Ytfdaefhamoeaiaa
open Go.ChangeShapes Go.WideShapes Go.ChangeAt Go.RowKit
set_option linter.unusedVariables false
theorem wpList_slice_l2 {ops : Array Oper} {rest : List Oper} {o : Oper} {a : Act} {w : World} {Q : Exit → Act → World → Prop} (hgd : o.guard = none) (s lo : Operand) (ho : o.op = .slice 27 s (some lo) none none)
    {A : Option Addr} {n cap i : Nat} {l : List Nat} (hs : a.eval s = .slice A n cap) (hlo : a.eval lo = .int .i64 (i : Int)) (hi : i ≤ n) (hn : n ≤ cap) (hl : l.length = n)
    (h : ∀ x, (∀ w0, Bytes w0 A l → Bytes w0 x (l.drop i)) → wpList Try.prog ops Q rest (a.put o.dst (.slice x (n - i) (cap - i))) w) : wpList Try.prog ops Q (o :: rest) a w :=
  wpList_plain hgd fun _ hK => by
    have hrun := run_slice_l (P := Try.prog) w 27 A n cap slice_under .i64 (i : Int) (by omega) (by omega)
    unfold Oper.wp execOp
    simp only [ho, hs, hlo, Option.map_some, Option.map_none, Sem.run_bind, Sem.run_pure, Result.andThen_ok, run_sliceAt_slice (P := Try.prog) w 27 _ _ _ _ slice_under, hrun, slice_size, sliced, Int.toNat_natCast]
    exact hK _ _ (h _ (fun w0 hb => bytes_cut hb i cap (by omega) (by omega)))
end Go.Proofs.Ytfdaefhamoeaiaa
