/- Own texts, joined: Ev, EvM, Str8, Sd5. -/
import Derived.ProofKit
import Derived.WalkKit
import Derived.OpenShut
import Derived.Below
import Derived.Deep.Fields
import Derived.Test.YtfhcbdmmckjmaaaJ02
import Derived.Test.YtfhcbdmmckjmaaaJ09
import Derived.Test.YtfhcbdmmckjmaaaJ10
import Derived.Laws.ResultCell
import Derived.Test.YtfhcbdmmckjmaaaRows
import Derived.Test.YtfhcbdmmckjmaaaJ00
import Derived.Laws.BytesArg
import Derived.Lib.Bytes
import Derived.Test.YtfhcbdmmckjmaaaJ07
namespace Go.Proofs.Ytfhcbdmmckjmaaa
open Go.ChangeShapes Go.WideShapes Go.ChangeAt Go.RowKit Go.Deep
/-- an event: its fields -/
structure Ev where
  kind : Int
  order : Int
  item : Int
  qty : Int
  price : Int
  cur : Int
  tax : Int
  who : ByteArray
  stamp : Int
  note : ByteArray
/-- whole numbers of 64 bits -/
def inW (a : Int) : Prop := -9223372036854775808 ≤ a ∧ a ≤ 9223372036854775807
theorem inW_of {a : Int} (h : (Lit.int .i64 a).wf = true) : inW a := by
  simpa [inW, Lit.wf, IntKind.min, IntKind.max, IntKind.signed, IntKind.bits] using h
/-- an event that fits its fields -/
structure Ev.Fit (e : Ev) : Prop where
  kind : inW e.kind
  order : inW e.order
  item : inW e.item
  qty : inW e.qty
  price : inW e.price
  cur : inW e.cur
  tax : inW e.tax
  who : e.who.size ≤ maxLen
  stamp : inW e.stamp
  note : e.note.size ≤ maxLen
theorem array10 {α : Type} {cs : Array α} (h : cs.size = 10) : ∃ c0 c1 c2 c3 c4 c5 c6 c7 c8 c9, cs = #[c0, c1, c2, c3, c4, c5, c6, c7, c8, c9] := by
  obtain ⟨l⟩ := cs
  match l, h with
  | [c0, c1, c2, c3, c4, c5, c6, c7, c8, c9], _ => exact ⟨c0, c1, c2, c3, c4, c5, c6, c7, c8, c9, rfl⟩
section
variable {H : Type} {enc : TypeId × Value → H} {P : Program} {w : World} {base : Nat} {spare : Nat → Bool} {held : Bool}
theorem struct10 {t : TypeId} {f0 f1 f2 f3 f4 f5 f6 f7 f8 f9 : Field} {fuel : Nat} {c0 c1 c2 c3 c4 c5 c6 c7 c8 c9 : Value} {x : DataW H × List MemPlace} (ht : P.underlying t = some (.struct #[f0, f1, f2, f3, f4, f5, f6, f7, f8, f9])) (hone : oneCellFields P #[f0, f1, f2, f3, f4, f5, f6, f7, f8, f9] = true)
    (h : DataW.trod enc P w base spare held fuel t [c0, c1, c2, c3, c4, c5, c6, c7, c8, c9] = some x) :
    ∃ y0 y1 y2 y3 y4 y5 y6 y7 y8 y9 n, x = (.agg [y0.1, y1.1, y2.1, y3.1, y4.1, y5.1, y6.1, y7.1, y8.1, y9.1], y0.2 ++ (y1.2 ++ (y2.2 ++ (y3.2 ++ (y4.2 ++ (y5.2 ++ (y6.2 ++ (y7.2 ++ (y8.2 ++ y9.2)))))))))
      ∧ DataW.trod enc P w base spare held n f0.type [c0] = some y0 ∧ DataW.trod enc P w base spare held n f1.type [c1] = some y1 ∧ DataW.trod enc P w base spare held n f2.type [c2] = some y2 ∧ DataW.trod enc P w base spare held n f3.type [c3] = some y3
      ∧ DataW.trod enc P w base spare held n f4.type [c4] = some y4 ∧ DataW.trod enc P w base spare held n f5.type [c5] = some y5 ∧ DataW.trod enc P w base spare held n f6.type [c6] = some y6 ∧ DataW.trod enc P w base spare held n f7.type [c7] = some y7
      ∧ DataW.trod enc P w base spare held n f8.type [c8] = some y8 ∧ DataW.trod enc P w base spare held n f9.type [c9] = some y9 := by
  obtain ⟨xs, n, _, rfl, _, hlen, hf⟩ := DataW.trod_struct ht h
  obtain ⟨o0, k0⟩ := hone_of hone 0 f0 rfl
  obtain ⟨o1, k1⟩ := hone_of hone 1 f1 rfl
  obtain ⟨o2, k2⟩ := hone_of hone 2 f2 rfl
  obtain ⟨o3, k3⟩ := hone_of hone 3 f3 rfl
  obtain ⟨o4, k4⟩ := hone_of hone 4 f4 rfl
  obtain ⟨o5, k5⟩ := hone_of hone 5 f5 rfl
  obtain ⟨o6, k6⟩ := hone_of hone 6 f6 rfl
  obtain ⟨o7, k7⟩ := hone_of hone 7 f7 rfl
  obtain ⟨o8, k8⟩ := hone_of hone 8 f8 rfl
  obtain ⟨o9, k9⟩ := hone_of hone 9 f9 rfl
  match xs, hlen with
  | [y0, y1, y2, y3, y4, y5, y6, y7, y8, y9], _ =>
    exact ⟨y0, y1, y2, y3, y4, y5, y6, y7, y8, y9, n, by simp, by simpa [o0, k0] using hf 0 f0 rfl, by simpa [o1, k1] using hf 1 f1 rfl, by simpa [o2, k2] using hf 2 f2 rfl, by simpa [o3, k3] using hf 3 f3 rfl, by simpa [o4, k4] using hf 4 f4 rfl,
      by simpa [o5, k5] using hf 5 f5 rfl, by simpa [o6, k6] using hf 6 f6 rfl, by simpa [o7, k7] using hf 7 f7 rfl, by simpa [o8, k8] using hf 8 f8 rfl, by simpa [o9, k9] using hf 9 f9 rfl⟩
theorem int_of {t : TypeId} {n : Nat} {c : Value} {y : DataW H × List MemPlace} (u : P.underlying t = some (.int .i64)) (h : DataW.trod enc P w base spare held n t [c] = some y) : ∃ a, c = .int .i64 a ∧ y = (.lit (.int .i64 a), []) ∧ inW a := by
  obtain ⟨a, hc, rfl, hw⟩ := DataW.trod_int u h
  simp only [List.cons.injEq, and_true] at hc
  exact ⟨a, hc, rfl, inW_of hw⟩
theorem str_of {t : TypeId} {n : Nat} {c : Value} {y : DataW H × List MemPlace} (u : P.underlying t = some .string) (h : DataW.trod enc P w base spare held n t [c] = some y) : ∃ s : ByteArray, c = .string s ∧ y = (.lit (.string s.data.toList), []) ∧ s.size ≤ maxLen := by
  obtain ⟨s, hc, rfl, hw⟩ := DataW.trod_string u h
  simp only [List.cons.injEq, and_true] at hc
  exact ⟨s, hc, rfl, hw⟩
theorem open_event {r : Reach} {b0 : Nat} {t : TypeId} {f0 f1 f2 f3 f4 f5 f6 f7 f8 f9 : Field} {v : Value} {d : DataW H} {p : List MemPlace} (hs : P.underlying t = some (.struct #[f0, f1, f2, f3, f4, f5, f6, f7, f8, f9])) (hone : oneCellFields P #[f0, f1, f2, f3, f4, f5, f6, f7, f8, f9] = true) (hC : P.cellsOf t = 10)
    (u0 : P.underlying f0.type = some (.int .i64)) (u1 : P.underlying f1.type = some (.int .i64)) (u2 : P.underlying f2.type = some (.int .i64)) (u3 : P.underlying f3.type = some (.int .i64)) (u4 : P.underlying f4.type = some (.int .i64)) (u5 : P.underlying f5.type = some (.int .i64))
    (u6 : P.underlying f6.type = some (.int .i64)) (u7 : P.underlying f7.type = some .string) (u8 : P.underlying f8.type = some (.int .i64)) (u9 : P.underlying f9.type = some .string)
    (hv : Value.okWide P w r b0 t v) (h : DataW.Trod enc P w base spare held t v d p) :
    ∃ e : Ev, v = .agg #[.int .i64 e.kind, .int .i64 e.order, .int .i64 e.item, .int .i64 e.qty, .int .i64 e.price, .int .i64 e.cur, .int .i64 e.tax, .string e.who, .int .i64 e.stamp, .string e.note] ∧ p = [] ∧ e.Fit := by
  obtain ⟨cs, rfl, hsz⟩ := okWide_struct hs hv
  obtain ⟨c0, c1, c2, c3, c4, c5, c6, c7, c8, c9, rfl⟩ := array10 (hsz.trans hC)
  obtain ⟨fuel, hf⟩ := h
  obtain ⟨y0, y1, y2, y3, y4, y5, y6, y7, y8, y9, n, hx, h0, h1, h2, h3, h4, h5, h6, h7, h8, h9⟩ := struct10 hs hone (by simpa [Value.cells] using hf)
  obtain ⟨a0, rfl, rfl, w0⟩ := int_of u0 h0
  obtain ⟨a1, rfl, rfl, w1⟩ := int_of u1 h1
  obtain ⟨a2, rfl, rfl, w2⟩ := int_of u2 h2
  obtain ⟨a3, rfl, rfl, w3⟩ := int_of u3 h3
  obtain ⟨a4, rfl, rfl, w4⟩ := int_of u4 h4
  obtain ⟨a5, rfl, rfl, w5⟩ := int_of u5 h5
  obtain ⟨a6, rfl, rfl, w6⟩ := int_of u6 h6
  obtain ⟨a7, rfl, rfl, w7⟩ := str_of u7 h7
  obtain ⟨a8, rfl, rfl, w8⟩ := int_of u8 h8
  obtain ⟨a9, rfl, rfl, w9⟩ := str_of u9 h9
  simp only [Prod.mk.injEq] at hx
  exact ⟨⟨a0, a1, a2, a3, a4, a5, a6, a7, a8, a9⟩, rfl, by simpa using hx.2, ⟨w0, w1, w2, w3, w4, w5, w6, w7, w8, w9⟩⟩
end
end Go.Proofs.Ytfhcbdmmckjmaaa
namespace Go.Proofs.Ytfhcbdmmckjmaaa
open Go.ChangeShapes Go.WideShapes Go.ChangeAt Go.RowKit
def evA (e : Ev) : Array Value := #[.int .i64 e.kind, .int .i64 e.order, .int .i64 e.item, .int .i64 e.qty, .int .i64 e.price, .int .i64 e.cur, .int .i64 e.tax, .string e.who, .int .i64 e.stamp, .string e.note]
def zeroE : Ev := ⟨0, 0, 0, 0, 0, 0, 0, ⟨#[]⟩, 0, ⟨#[]⟩⟩
theorem evA_one (e : Ev) : (evA e).all (·.oneCell') = true := by simp [evA, Value.oneCell']
def EvAt (w : World) (b : Nat) (e : Ev) : Prop := w.heap[b]? = some (.cells (evA e) 24)
theorem EvAt.lt {w : World} {b : Nat} {e : Ev} (h : EvAt w b e) : b < w.heap.size := by
  by_cases hh : b < w.heap.size
  · exact hh
  · unfold EvAt at h; rw [Array.getElem?_eq_none (by omega)] at h; cases h
theorem EvAt.keep {B : Nat} {w w' : World} {b : Nat} {e : Ev} (h : EvAt w b e) (hb : Below B w w') (hlt : b < B) : EvAt w' b e := (hb.block b hlt).trans h
theorem EvAt.after {w w' : World} {b : Nat} {e : Ev} (h : EvAt w b e) (hb : Below w.heap.size w w') : EvAt w' b e := h.keep hb h.lt
theorem Try.infoEv : (Try.prog.info? 24).map (·.size) = some 10 := by kernel_rfl
theorem EvAt.loadVar {w : World} {b : Nat} {e : Ev} (h : EvAt w b e) : (Go.loadVar 24 ⟨b, 0, none⟩).run Try.prog w = .ok (.agg (evA e)) w :=
  run_loadVar_row _ _ _ _ _ _ _ h Try.underlying24 rfl Try.infoEv
theorem EvAt.load {w : World} {b : Nat} {e : Ev} (h : EvAt w b e) : (Instr.loadAt 24 (.pointer (some ⟨b, 0, none⟩))).run Try.prog w = .ok (.agg (evA e)) w := by
  simp only [Instr.loadAt, Instr.sureAddr, Sem.run_bind, Sem.run_pure, Result.andThen_ok, h.loadVar]
theorem below_setRow {B : Nat} {a w : World} (h : Below B a w) (g : Nat) (c : Array Value) (hB : B ≤ g) : Below B a (w.setRow g c) := by
  refine ⟨h.os, h.tape, h.output, ?_, fun k hk => ?_⟩
  · have := h.size; simp [World.setRow]; exact this
  · rw [← h.block k hk]
    simp only [World.setRow, Array.getElem?_modify]
    rw [if_neg (by omega)]
theorem EvAt.store {w : World} {b : Nat} {e : Ev} (h : EvAt w b e) (e2 : Ev) : ∃ w2, (Instr.storeAt 24 (.pointer (some ⟨b, 0, none⟩)) (.agg (evA e2))).run Try.prog w = .ok () w2 ∧ EvAt w2 b e2 ∧ (∀ B a, Below B a w → B ≤ b → Below B a w2) ∧ (∀ k, k ≠ b → w2.heap[k]? = w.heap[k]?) ∧ w2.heap.size = w.heap.size := by
  refine ⟨w.setRow b (evA e2), ?_, ?_, fun B a hb hB => below_setRow hb b _ hB, fun k hk => ?_, ?_⟩
  · simp only [Instr.storeAt, Instr.sureAddr, Sem.run_bind, Sem.run_pure, Result.andThen_ok, run_storeVar_row w b 24 24 (evA e) (evA e2) h Try.infoEv rfl (evA_one e2)]
  · unfold EvAt at h ⊢
    simp [World.setRow, Array.getElem?_modify, h]
  · simp only [World.setRow, Array.getElem?_modify]
    rw [if_neg (Ne.symm hk)]
  · simp [World.setRow]
theorem wpList_load_ev {ops : Array Oper} {rest : List Oper} {o : Oper} {a : Act} {w : World} {Q : Exit → Act → World → Prop} (hgd : o.guard = none) (x : Operand) (ho : o.op = .load 24 x)
    {b : Nat} {e : Ev} (hL : EvAt w b e) (hx : a.eval x = .pointer (some ⟨b, 0, none⟩)) (h : wpList Try.prog ops Q rest (a.put o.dst (.agg (evA e))) w) : wpList Try.prog ops Q (o :: rest) a w :=
  wpList_plain hgd fun _ hK => by
    unfold Oper.wp execOp
    simp only [ho, hx, Sem.run_bind, Sem.run_pure, Result.andThen_ok, hL.load]
    exact hK _ _ h
theorem wpList_store_ev {ops : Array Oper} {rest : List Oper} {o : Oper} {a : Act} {w : World} {Q : Exit → Act → World → Prop} (hgd : o.guard = none) (x y : Operand) (ho : o.op = .store 24 x y)
    {b : Nat} {e e2 : Ev} (hL : EvAt w b e) (hx : a.eval x = .pointer (some ⟨b, 0, none⟩)) (hy : a.eval y = .agg (evA e2))
    (h : ∀ w2, EvAt w2 b e2 → (∀ B a, Below B a w → B ≤ b → Below B a w2) → (∀ k, k ≠ b → w2.heap[k]? = w.heap[k]?) → w2.heap.size = w.heap.size → wpList Try.prog ops Q rest (a.put o.dst undef) w2) : wpList Try.prog ops Q (o :: rest) a w :=
  wpList_plain hgd fun _ hK => by
    obtain ⟨w2, h1, h2, h3, h4, h5⟩ := hL.store e2
    unfold Oper.wp execOp
    simp only [ho, hx, hy, Sem.run_bind, Sem.run_pure, Result.andThen_ok, h1]
    exact hK _ _ (h w2 h2 h3 h4 h5)
theorem results_ev {fn : Func} {p u : Tmp} (h : fn.results = #[.cell p 24, .tmp u]) (tmps : Array Value) (w : World) (b : Nat) (e : Ev) (x : Value) (hp : tmps.getD p undef = .pointer (some ⟨b, 0, none⟩)) (hx : tmps.getD u undef = x) (hl : EvAt w b e) :
    (results fn tmps).run Try.prog w = .ok (.tuple #[.agg (evA e), x]) w := by
  rw [results_cell_tmp h, hp]
  simp only [asAddr, Sem.run_pure, Result.andThen_ok, hl.loadVar, hx]
/-- the least quantity, the highest price, the last kind of a version -/
def loQ (v : Int) : Int := if v ≤ 2 then -10000 else 0
def hiP (v : Int) : Int := if v ≤ 1 then 1000000 else 100000000
def lastK (v : Int) : Int := if v ≤ 2 then 5 else if v ≤ 3 then 7 else if v ≤ 4 then 9 else 10
def chk (v : Int) (e : Ev) : Int := if v < 1 ∨ 5 < v then 30 else chkV v (loQ v) (hiP v) (lastK v) e.kind e.order e.item e.qty e.price e.cur e.tax e.who e.stamp e.note
set_option maxRecDepth 20000 in
theorem check_no (v : Int) (e : Ev) (w : World) (h : v < 1 ∨ 5 < v) :
    Calls Try.prog 10 #[.int .i64 v, .agg (evA e)] w fun x w' => x = .returned (.int .i64 30) ∧ Below w.heap.size w w' := by
  have HV : Hid (v < 1 ∨ 5 < v) := h
  clear h
  go_enter Try.func10, Try.ntmps10
  go_wp2_with (go_at_call 22; refine (find_no v _ HV.out).mono ?_; rintro e w' ⟨rfl, rfl⟩)
  go_ret
  exact ⟨rfl, (Below.refl _ _).alloc (Nat.le_refl _) _⟩
theorem check_ev (v : Int) (e : Ev) (w : World) :
    Calls Try.prog 10 #[.int .i64 v, .agg (evA e)] w fun x w' => x = .returned (.int .i64 (chk v e)) ∧ Below w.heap.size w w' := by
  by_cases h : v < 1 ∨ 5 < v
  · rw [show chk v e = 30 from if_pos h]
    exact check_no v e w h
  · rw [show chk v e = chkV v (loQ v) (hiP v) (lastK v) e.kind e.order e.item e.qty e.price e.cur e.tax e.who e.stamp e.note from if_neg h]
    have hv : v = 1 ∨ v = 2 ∨ v = 3 ∨ v = 4 ∨ v = 5 := by omega
    rcases hv with rfl | rfl | rfl | rfl | rfl
    · exact check1 e.kind e.order e.item e.qty e.price e.cur e.tax e.who e.stamp e.note w
    · exact check2 e.kind e.order e.item e.qty e.price e.cur e.tax e.who e.stamp e.note w
    · exact check3 e.kind e.order e.item e.qty e.price e.cur e.tax e.who e.stamp e.note w
    · exact check4 e.kind e.order e.item e.qty e.price e.cur e.tax e.who e.stamp e.note w
    · exact check5 e.kind e.order e.item e.qty e.price e.cur e.tax e.who e.stamp e.note w
/-- an event is right in a version -/
structure Right (v : Int) (e : Ev) : Prop where
  v1 : 1 ≤ v
  v5 : v ≤ 5
  kind0 : 1 ≤ e.kind
  kind1 : e.kind ≤ lastK v
  who : e.who.size ≤ 16
  note : e.note.size ≤ 120
  order0 : 1 ≤ e.order
  order1 : e.order ≤ 1099511627776
  item0 : 0 ≤ e.item
  item1 : e.item ≤ 65535
  qty0 : loQ v ≤ e.qty
  qty1 : e.qty ≤ 10000
  price0 : 0 ≤ e.price
  price1 : e.price ≤ hiP v
  cur0 : 0 ≤ e.cur
  cur1 : e.cur ≤ 3
  tax0 : 0 ≤ e.tax
  tax1 : e.tax ≤ 5000
  plain : plainB e.who.data.toList = true
  stamp0 : 0 ≤ e.stamp
  stamp1 : e.stamp ≤ 1099511627776
  own1 : 1 < v ∨ e.cur = 0
  own2 : 2 < v ∨ e.tax = 0
  own3 : 3 < v ∨ nilB e.who = true
  own4 : 4 < v ∨ (e.stamp = 0 ∧ nilB e.note = true)
theorem right_of {v : Int} {e : Ev} (h : chk v e = 0) : Right v e := by
  unfold chk at h
  split at h
  · cases h
  · rename_i hv
    unfold chkV at h
    split at h
    · cases h
    · rename_i hk
      split at h
      · cases h
      · rename_i hs
        split at h
        · rename_i hb
          obtain ⟨h1, h2⟩ := hb
          simp only [bnd, wit, Bool.and_eq_true, decide_eq_true_eq] at h1
          simp only [ownB, Bool.and_eq_true, Bool.or_eq_true, decide_eq_true_eq, beq_iff_eq] at h2
          obtain ⟨⟨a1, a2⟩, ⟨a3, a4⟩, ⟨a5, a6⟩, ⟨a7, a8⟩, ⟨a9, a10⟩, ⟨a11, a12⟩, a13, a14, a15⟩ := h1
          obtain ⟨b1, b2, b3, b4⟩ := h2
          exact ⟨by omega, by omega, by omega, by omega, by omega, by omega, a1, a2, a3, a4, a5, a6, a7, a8, a9, a10, a11, a12, a13, a14, a15, b1, b2, b3, b4⟩
        · cases h
theorem chk_of {v : Int} {e : Ev} (r : Right v e) : chk v e = 0 := by
  unfold chk
  rw [if_neg (by have := r.v1; have := r.v5; omega)]
  unfold chkV
  rw [if_neg (by have := r.kind0; have := r.kind1; omega), if_neg (by have := r.who; have := r.note; omega), if_pos]
  refine ⟨?_, ?_⟩
  · simp only [bnd, wit, Bool.and_eq_true, decide_eq_true_eq]
    exact ⟨⟨r.order0, r.order1⟩, ⟨r.item0, r.item1⟩, ⟨r.qty0, r.qty1⟩, ⟨r.price0, r.price1⟩, ⟨r.cur0, r.cur1⟩, ⟨r.tax0, r.tax1⟩, r.plain, r.stamp0, r.stamp1⟩
  · simp only [ownB, Bool.and_eq_true, Bool.or_eq_true, decide_eq_true_eq, beq_iff_eq]
    exact ⟨r.own1, r.own2, r.own3, r.own4⟩
theorem evAt_new (w : World) (e : Ev) : EvAt (w.alloc (.cells (evA e) 24)) w.heap.size e := by
  unfold EvAt; exact heap_alloc_new w _
end Go.Proofs.Ytfhcbdmmckjmaaa
namespace Go.Proofs.Ytfhcbdmmckjmaaa
open Go.ChangeShapes Go.WideShapes Go.ChangeAt Go.RowKit
set_option linter.unusedVariables false
def str8 (l : List Nat) : ByteArray := strOfNums (l.map fun (n : Nat) => (n : Int))
theorem str8_inj {l m : List Nat} (hl : ∀ x ∈ l, x < 256) (hm : ∀ x ∈ m, x < 256) (h : (str8 l).toList = (str8 m).toList) : l = m := by
  have h1 : (str8 l).data.toList = (str8 m).data.toList := by
    unfold str8 at h ⊢
    rw [Lib.strOfNums_toList, Lib.strOfNums_toList] at h
    exact h
  unfold str8 at h1
  rw [strOfNums_data, strOfNums_data, List.map_map, List.map_map] at h1
  have key : ∀ k : List Nat, (∀ x ∈ k, x < 256) → (k.map ((fun n : Int => UInt8.ofNat n.toNat) ∘ fun n : Nat => (n : Int))).map UInt8.toNat = k := by
    intro k
    induction k with
    | nil => intro _; rfl
    | cons x r ih =>
      intro hk
      have hx := hk x (List.mem_cons_self ..)
      simp only [List.map_cons, Function.comp, Int.toNat_natCast, UInt8.toNat_ofNat']
      rw [Nat.mod_eq_of_lt (by omega)]
      congr 1
      exact ih (fun y hy => hk y (List.mem_cons_of_mem _ hy))
  rw [← key l hl, ← key m hm, h1]
theorem conv_bytes {w : World} {a : Option Addr} {l : List Nat} {n cap : Nat} (hn : l.length = n) (hne : l ≠ []) (hb : Bytes w a l) : (convert 30 9 (.slice a n cap)).run Try.prog w = .ok (.string (str8 l)) w := by
  obtain ⟨b, off, rfl, hlt, hc⟩ := hb.nonempty hne
  refine run_convert_bytes_arg w 30 5 Try.underlying30 Try.underlying5 b off n cap (l.map fun (n : Nat) => (n : Int)) (by rw [List.length_map]; exact hn) (fun i hi => ?_) 9 Try.underlying9
  rw [hc i (by omega)]
  simp [List.getD_eq_getElem?_getD, show i < l.length from by omega]
/-- the bytes of a string, as numbers -/
def nums8 (s : ByteArray) : List Nat := s.data.toList.map UInt8.toNat
theorem nums8_len (s : ByteArray) : (nums8 s).length = s.size := by unfold nums8; rw [List.length_map, Array.length_toList]; rfl
theorem nums8_lt (s : ByteArray) : ∀ x ∈ nums8 s, x < 256 := by
  intro x hx
  obtain ⟨c, _, rfl⟩ := List.mem_map.1 hx
  exact c.toNat_lt
theorem str8_data (l : List Nat) : (str8 l).data.toList = l.map UInt8.ofNat := by
  unfold str8
  rw [strOfNums_data, List.map_map]
  exact List.map_congr_left (fun x _ => by show UInt8.ofNat (Int.toNat (x : Int)) = _; rw [Int.toNat_natCast])
theorem nums8_str8 (l : List Nat) (hl : ∀ x ∈ l, x < 256) : nums8 (str8 l) = l := by
  unfold nums8
  rw [str8_data, List.map_map]
  conv => rhs; rw [← List.map_id l]
  refine List.map_congr_left (fun x hx => ?_)
  have := hl x hx
  simp only [Function.comp, UInt8.toNat_ofNat', id]
  omega
theorem str8_nums8 (s : ByteArray) : str8 (nums8 s) = s := by
  have h : (str8 (nums8 s)).data.toList = s.data.toList := by
    rw [str8_data]
    unfold nums8
    rw [List.map_map]
    conv => rhs; rw [← List.map_id s.data.toList]
    exact List.map_congr_left (fun x _ => by simp)
  cases s with
  | mk d =>
    have h2 : (str8 (nums8 ⟨d⟩)).data = d := Array.toList_inj.1 h
    cases hs : str8 (nums8 ⟨d⟩) with
    | mk d2 => rw [hs] at h2; simp only at h2; rw [h2]
theorem str8_nil : str8 [] = ⟨#[]⟩ := rfl
theorem nums8_nil : nums8 ⟨#[]⟩ = [] := rfl
theorem str8_size (l : List Nat) : (str8 l).size = l.length := by unfold str8; rw [strOfNums_size, List.length_map]
theorem nums8_inj {s t : ByteArray} (h : nums8 s = nums8 t) : s = t := by rw [← str8_nums8 s, ← str8_nums8 t, h]
theorem nums8_getD (s : ByteArray) (j : Nat) (hj : j < s.size) : (nums8 s).getD j 0 = (s.data.toList.getD j 0).toNat := by
  have h1 : j < s.data.toList.length := by rw [Array.length_toList]; exact hj
  unfold nums8
  rw [List.getD_eq_getElem?_getD, List.getD_eq_getElem?_getD, List.getElem?_map, List.getElem?_eq_getElem h1]
  rfl
/-- string(b): any bytes of one's own -/
theorem conv_own {w : World} {base : Nat} {v : Value} {l : List Nat} (h : Own w base v l) : (convert 30 9 v).run Try.prog w = .ok (.string (str8 l)) w := by
  obtain ⟨a, cap, rfl, _, _, hb, hx⟩ := h.shape
  rcases hx with ⟨rfl, rfl, _⟩ | ⟨g, rfl, _, _⟩
  · exact run_convert_bytes_nil w 30 5 Try.underlying30 Try.underlying5 _ cap 9 Try.underlying9
  · refine run_convert_bytes_arg w 30 5 Try.underlying30 Try.underlying5 g 0 l.length cap (l.map fun (n : Nat) => (n : Int)) (by rw [List.length_map]) (fun i hi => ?_) 9 Try.underlying9
    obtain ⟨b, off, hbb, _, hc⟩ := hb.nonempty (by intro e; subst e; simp at hi)
    cases hbb
    rw [hc i hi]
    simp [List.getD_eq_getElem?_getD, hi]
end Go.Proofs.Ytfhcbdmmckjmaaa
namespace Go.Proofs.Ytfhcbdmmckjmaaa
open Go.ChangeShapes Go.WideShapes Go.ChangeAt Go.RowKit
set_option linter.unusedVariables false
/-- a number as an int -/
def capN (u : Nat) : Int := if u ≤ 4611686018427387904 then (u : Int) else 4611686018427387904
set_option maxRecDepth 20000 in
theorem capped_any (u : Nat) (w : World) : Calls Try.prog 43 #[.int .u64 (u : Int)] w fun r w' => r = .returned (.int .i64 (capN u)) ∧ w = w' := by
  by_cases h : u ≤ 4611686018427387904
  · have HC : Hid (capN u = (u : Int)) := if_pos h
    have hI : (u : Int) ≤ 4611686018427387904 := by omega
    clear h
    go_enter Try.func43, Try.ntmps43
    go_wp2
    go_ret
    exact ⟨by rw [HC.out]; rfl, rfl⟩
  · have HC : Hid (capN u = 4611686018427387904) := if_neg h
    have hI : ¬ (u : Int) ≤ 4611686018427387904 := by omega
    clear h
    go_enter Try.func43, Try.ntmps43
    go_wp2
    go_ret
    exact ⟨by rw [HC.out]; rfl, rfl⟩
set_option maxRecDepth 20000 in
theorem number_any (t : Int) (w : World) (base q b : Nat) (L : List (Fld × Value)) (e : Nat) (h : RdAt w base q b L e) (ht : (Lit.int .i64 t).wf = true) :
    Calls Try.prog 90 #[.pointer (some ⟨q, 0, none⟩), .int .i64 t] w fun r w' => r = .returned (.int .i64 (capN (numF (L.map Prod.fst) t))) ∧ RdPost w base q b L e t false w' := by
  have HR : Hid (RdAt w base q b L e) := h
  obtain ⟨u, hu⟩ : ∃ u, numF (L.map Prod.fst) t = u := ⟨_, rfl⟩
  rw [hu]
  have HU : Hid (_) := hu
  clear h hu
  go_enter Try.func90, Try.ntmps90
  go_wp2_with (first
    | (go_at_call 93; refine (rnum_any t w base q b L e HR.out ht).mono ?_; rw [HU.out]; rintro r w1 ⟨rfl, hp⟩; have HP : Hid (RdPost w base q b L e t false w1) := hp; clear hp)
    | (go_at_call 43; refine (capped_any u w1).mono ?_; rintro r w2 ⟨rfl, rfl⟩))
  go_ret
  exact ⟨rfl, HP.out⟩
/-- what is left behind takes, and the error -/
def tkL (L : List (Fld × Value)) (ts : List (Int × Bool)) : List (Fld × Value) := ts.foldl (fun L x => delT L x.1) L
def tkF (fs : List Fld) (ts : List (Int × Bool)) : List Fld := ts.foldl (fun L x => delF L x.1) fs
def tkE (fs : List Fld) (ts : List (Int × Bool)) : Nat := (ts.foldl (fun (S : List Fld × Nat) x => (delF S.1 x.1, errF S.1 S.2 x.1 x.2)) (fs, 0)).2
theorem tkF_of (ts : List (Int × Bool)) : ∀ (L : List (Fld × Value)), (tkL L ts).map Prod.fst = tkF (L.map Prod.fst) ts := by
  induction ts with
  | nil => intro L; rfl
  | cons x r ih => intro L; show (tkL (delT L x.1) r).map Prod.fst = tkF (delF (L.map Prod.fst) x.1) r; rw [ih, delF_of]
theorem tk_pair (ts : List (Int × Bool)) : ∀ (fs : List Fld) (e : Nat), (ts.foldl (fun (S : List Fld × Nat) x => (delF S.1 x.1, errF S.1 S.2 x.1 x.2)) (fs, e)).1 = tkF fs ts := by
  induction ts with
  | nil => intro fs e; rfl
  | cons x r ih => intro fs e; exact ih _ _
theorem tkE_snoc (fs : List Fld) (ts : List (Int × Bool)) (x : Int × Bool) : tkE fs (ts ++ [x]) = errF (tkF fs ts) (tkE fs ts) x.1 x.2 := by
  unfold tkE
  rw [List.foldl_append]
  show errF _ _ _ _ = _
  rw [tk_pair]
theorem tkL_snoc (L : List (Fld × Value)) (ts : List (Int × Bool)) (x : Int × Bool) : tkL L (ts ++ [x]) = delT (tkL L ts) x.1 := by
  unfold tkL; rw [List.foldl_append]; rfl
theorem getF_del_other (fs : List Fld) {t s : Int} (h : s ≠ t) : getF (delF fs t) s = getF fs s := by
  unfold getF delF
  refine Go.Maps.find_filter_keep (fun p hp => ?_) fs
  simp at hp ⊢
  omega
theorem getF_tk (s : Int) : ∀ (ts : List (Int × Bool)) (fs : List Fld), (∀ x ∈ ts, x.1 ≠ s) → getF (tkF fs ts) s = getF fs s
  | [], fs, _ => rfl
  | x :: r, fs, h => by
    show getF (tkF (delF fs x.1) r) s = _
    rw [getF_tk s r _ (fun y hy => h y (List.mem_cons_of_mem _ hy)), getF_del_other fs (h x (List.mem_cons_self ..)).symm]
theorem numF_tk {s : Int} {ts : List (Int × Bool)} {fs : List Fld} (h : ∀ x ∈ ts, x.1 ≠ s) : numF (tkF fs ts) s = numF fs s := by unfold numF; rw [getF_tk s ts fs h]
theorem txtF_tk {s : Int} {ts : List (Int × Bool)} {fs : List Fld} (h : ∀ x ∈ ts, x.1 ≠ s) : txtF (tkF fs ts) s = txtF fs s := by unfold txtF; rw [getF_tk s ts fs h]
/-- the reader behind the takes ts -/
structure Tk (w1 w2 : World) (base q b : Nat) (L : List (Fld × Value)) (ts : List (Int × Bool)) : Prop where
  rd : RdAt w2 base q b (tkL L ts) (tkE (L.map Prod.fst) ts)
  kep : Kept q b w1 w2
theorem Tk.keep {w1 w2 w3 : World} {base q b : Nat} {L : List (Fld × Value)} {ts : List (Int × Bool)} (h : Tk w1 w2 base q b L ts) (hb : Below w2.heap.size w2 w3) : Tk w1 w3 base q b L ts :=
  ⟨h.rd.keep hb, ⟨hb.os.trans h.kep.os, hb.tape.trans h.kep.tape, hb.output.trans h.kep.output, Nat.le_trans h.kep.size hb.size, fun k hk h1 h2 => (hb.block k (Nat.lt_of_lt_of_le hk h.kep.size)).trans (h.kep.block k hk h1 h2)⟩⟩
theorem Tk.step {w1 w2 w3 : World} {base q b : Nat} {L : List (Fld × Value)} {ts : List (Int × Bool)} {t : Int} {x : Bool} (h : Tk w1 w2 base q b L ts) (hp : RdPost w2 base q b (tkL L ts) (tkE (L.map Prod.fst) ts) t x w3) : Tk w1 w3 base q b L (ts ++ [(t, x)]) := by
  obtain ⟨h1, h2⟩ := hp
  rw [tkF_of] at h1
  refine ⟨?_, ⟨h2.os.trans h.kep.os, h2.tape.trans h.kep.tape, h2.output.trans h.kep.output, Nat.le_trans h.kep.size h2.size, fun k hk k1 k2 => (h2.block k (Nat.lt_of_lt_of_le hk h.kep.size) k1 k2).trans (h.kep.block k hk k1 k2)⟩⟩
  rw [tkL_snoc, tkE_snoc]
  exact h1
theorem number_tk (t : Int) (w1 w2 : World) (base q b : Nat) (L : List (Fld × Value)) (ts : List (Int × Bool)) (h : Tk w1 w2 base q b L ts) (hts : ∀ x ∈ ts, x.1 ≠ t) (ht : (Lit.int .i64 t).wf = true) :
    Calls Try.prog 90 #[.pointer (some ⟨q, 0, none⟩), .int .i64 t] w2 fun r w3 => r = .returned (.int .i64 (capN (numF (L.map Prod.fst) t))) ∧ Tk w1 w3 base q b L (ts ++ [(t, false)]) ∧ Kept q b w2 w3 := by
  refine (number_any t w2 base q b _ _ h.rd ht).mono ?_
  rw [tkF_of, numF_tk hts]
  rintro r w3 ⟨rfl, hp⟩
  exact ⟨rfl, h.step hp, hp.2⟩
theorem int_tk (t : Int) (w1 w2 : World) (base q b : Nat) (L : List (Fld × Value)) (ts : List (Int × Bool)) (h : Tk w1 w2 base q b L ts) (hts : ∀ x ∈ ts, x.1 ≠ t) (ht : (Lit.int .i64 t).wf = true) (hf : ∀ f ∈ L.map Prod.fst, FRight f) :
    Calls Try.prog 81 #[.pointer (some ⟨q, 0, none⟩), .int .i64 t] w2 fun r w3 => r = .returned (.int .i64 (zag (numF (L.map Prod.fst) t : Int))) ∧ Tk w1 w3 base q b L (ts ++ [(t, false)]) ∧ Kept q b w2 w3 := by
  have hf2 : ∀ f ∈ (tkL L ts).map Prod.fst, FRight f := by
    intro f hfm
    rw [tkF_of] at hfm
    refine hf f ?_
    clear hts hf h
    generalize L.map Prod.fst = fs at hfm ⊢
    induction ts generalizing fs with
    | nil => exact hfm
    | cons x r ih => exact (List.mem_filter.1 (ih _ hfm)).1
  refine (rint_any t w2 base q b _ _ h.rd ht hf2).mono ?_
  rw [tkF_of, numF_tk hts]
  rintro r w3 ⟨rfl, hp⟩
  exact ⟨rfl, h.step hp, hp.2⟩
theorem text_tk (t : Int) (w1 w2 : World) (base q b : Nat) (L : List (Fld × Value)) (ts : List (Int × Bool)) (h : Tk w1 w2 base q b L ts) (hts : ∀ x ∈ ts, x.1 ≠ t) (ht : (Lit.int .i64 t).wf = true) :
    Calls Try.prog 103 #[.pointer (some ⟨q, 0, none⟩), .int .i64 t] w2 fun r w3 => ∃ v, r = .returned v ∧ Own w3 base v (txtF (L.map Prod.fst) t) ∧ Tk w1 w3 base q b L (ts ++ [(t, true)]) ∧ Kept q b w2 w3 := by
  refine (rtext_any t w2 base q b _ _ h.rd ht).mono ?_
  rw [tkF_of, txtF_tk hts]
  rintro r w3 ⟨v, rfl, ho, hp⟩
  exact ⟨v, rfl, ho, h.step hp, hp.2⟩
theorem EvAt.kept {w w' : World} {g1 g2 b : Nat} {e : Ev} (h : EvAt w b e) (hk : Kept g1 g2 w w') (h1 : b ≠ g1) (h2 : b ≠ g2) : EvAt w' b e := (hk.block b h.lt h1 h2).trans h
theorem results_ev1 {fn : Func} {p : Tmp} (h : fn.results = #[.cell p 24]) (tmps : Array Value) (w : World) (k : Nat) {e : Ev} (hp : tmps.getD p undef = .pointer (some ⟨k, 0, none⟩)) (hl : EvAt w k e) :
    (results fn tmps).run Try.prog w = .ok (.agg (evA e)) w := by
  simp only [Array.getD_eq_getD_getElem?] at hp
  simp [results, h, hp, asAddr, hl.loadVar]
theorem Tk.lts {w1 w2 : World} {base q b : Nat} {L : List (Fld × Value)} {ts : List (Int × Bool)} (h : Tk w1 w2 base q b L ts) : q < w2.heap.size ∧ b < w2.heap.size := by
  obtain ⟨n, D, hm, _⟩ := h.rd.map
  exact ⟨lt_of_heap h.rd.blk, hm.lt⟩
set_option maxRecDepth 20000 in
theorem takeq1 (arr : Array Value) (w1 w2 : World) (base q b : Nat) (L : List (Fld × Value)) (ts : List (Int × Bool)) (h : Tk w1 w2 base q b L ts) (hts : ∀ x ∈ ts, x.1 ≠ 4) (hf : ∀ f ∈ L.map Prod.fst, FRight f) :
    Calls Try.prog 88 #[.agg arr, .pointer (some ⟨q, 0, none⟩)] w2 fun r w3 => r = .returned (.int .i64 (zag (numF (L.map Prod.fst) 4 : Int))) ∧ Tk w1 w3 base q b L (ts ++ [(4, false)]) ∧ Kept q b w2 w3 := by
  have hB : Below w2.heap.size w2 (w2.alloc (.cells arr 85)) := (Below.refl _ _).alloc (Nat.le_refl _) _
  have HT : Hid (Tk w1 (w2.alloc (.cells arr 85)) base q b L ts) := h.keep hB
  have HB : Hid (_) := hB
  have HF : Hid (_) := hf
  have HTS : Hid (_) := hts
  clear h hB hf hts
  go_enter Try.func88, Try.ntmps88
  go_wp2_with (go_at_call 81; refine (int_tk 4 w1 _ base q b L ts HT.out HTS.out (by decide) HF.out).mono ?_; rintro r x1 ⟨rfl, h1, h2⟩; have H1 : Hid (Tk w1 x1 base q b L (ts ++ [(4, false)])) := h1; have H2 : Hid (Kept q b w2 x1) := ⟨h2.os.trans HB.out.os, h2.tape.trans HB.out.tape, h2.output.trans HB.out.output, Nat.le_trans HB.out.size h2.size, fun k hk k1 k2 => (h2.block k (Nat.lt_of_lt_of_le hk HB.out.size) k1 k2).trans (HB.out.block k hk)⟩; clear h1 h2)
  go_ret
  exact ⟨rfl, H1.out, H2.out⟩
set_option maxRecDepth 20000 in
theorem takeq3 (arr : Array Value) (w1 w2 : World) (base q b : Nat) (L : List (Fld × Value)) (ts : List (Int × Bool)) (h : Tk w1 w2 base q b L ts) (hts : ∀ x ∈ ts, x.1 ≠ 4) :
    Calls Try.prog 100 #[.agg arr, .pointer (some ⟨q, 0, none⟩)] w2 fun r w3 => r = .returned (.int .i64 (capN (numF (L.map Prod.fst) 4))) ∧ Tk w1 w3 base q b L (ts ++ [(4, false)]) ∧ Kept q b w2 w3 := by
  have hB : Below w2.heap.size w2 (w2.alloc (.cells arr 89)) := (Below.refl _ _).alloc (Nat.le_refl _) _
  have HT : Hid (Tk w1 (w2.alloc (.cells arr 89)) base q b L ts) := h.keep hB
  have HB : Hid (_) := hB
  have HTS : Hid (_) := hts
  clear h hB hts
  go_enter Try.func100, Try.ntmps100
  go_wp2_with (go_at_call 90; refine (number_tk 4 w1 _ base q b L ts HT.out HTS.out (by decide)).mono ?_; rintro r x1 ⟨rfl, h1, h2⟩; have H1 : Hid (Tk w1 x1 base q b L (ts ++ [(4, false)])) := h1; have H2 : Hid (Kept q b w2 x1) := ⟨h2.os.trans HB.out.os, h2.tape.trans HB.out.tape, h2.output.trans HB.out.output, Nat.le_trans HB.out.size h2.size, fun k hk k1 k2 => (h2.block k (Nat.lt_of_lt_of_le hk HB.out.size) k1 k2).trans (HB.out.block k hk)⟩; clear h1 h2)
  go_ret
  exact ⟨rfl, H1.out, H2.out⟩
end Go.Proofs.Ytfhcbdmmckjmaaa
