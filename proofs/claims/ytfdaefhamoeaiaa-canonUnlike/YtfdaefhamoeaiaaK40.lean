/- Own texts, joined: Sd7. -/
import Derived.Test.YtfdaefhamoeaiaaK37
namespace Go.Proofs.Ytfdaefhamoeaiaa
open Go.ChangeShapes Go.WideShapes Go.ChangeAt Go.RowKit
set_option linter.unusedVariables false
theorem Tk.poke {w1 x y : World} {base q b : Nat} {L : List (Fld × Value)} {ts : List (Int × Bool)} (h : Tk w1 x base q b L ts) {k : Nat} {e : Ev} (he : EvAt x k e) (hk : w1.heap.size ≤ k) (ho : y.os = x.os ∧ y.tape = x.tape ∧ y.output = x.output) (hj : ∀ j, j ≠ k → y.heap[j]? = x.heap[j]?) (hs : y.heap.size = x.heap.size) : Tk w1 y base q b L ts := by
  obtain ⟨n, D, hm, hr⟩ := h.rd.map
  obtain ⟨es, c, hbm⟩ := map_blk hm
  have hqk : q ≠ k := by
    intro hh
    have h1 := h.rd.blk
    unfold EvAt at he
    rw [hh, he] at h1
    cases h1
  have hbk : b ≠ k := by
    intro hh
    unfold EvAt at he
    rw [hh, he] at hbm
    cases hbm
  refine ⟨⟨(hj q hqk).trans h.rd.blk, ⟨n, D, owns_same hm (hj b hbk), hr⟩, fun p hp => own_other (h.rd.byt p hp) (x := k) (y := k) (fun c hc => ?_) (fun c hc => ?_) (fun j _ j2 _ => hj j j2)⟩, ⟨ho.1.trans h.kep.os, ho.2.1.trans h.kep.tape, ho.2.2.trans h.kep.output, by rw [hs]; exact h.kep.size, fun j j1 j2 j3 => (hj j (by omega)).trans (h.kep.block j j1 j2 j3)⟩⟩
  · unfold EvAt at he; rw [he] at hc; cases hc
  · unfold EvAt at he; rw [he] at hc; cases hc
/-- while schema.Decode reads: the reader, the answer's block (nought), nothing older has turned -/
structure Dv (w w3 x : World) (base q b : Nat) (L : List (Fld × Value)) (ts : List (Int × Bool)) : Prop where
  tk : Tk w3 x base q b L ts
  res : EvAt x w.heap.size zeroE
  bel : Below w.heap.size w x
  lts : w.heap.size < q ∧ w.heap.size < b ∧ w.heap.size < w3.heap.size
theorem Dv.step {w w3 x y : World} {base q b : Nat} {L : List (Fld × Value)} {ts ts' : List (Int × Bool)} (h : Dv w w3 x base q b L ts) (ht : Tk w3 y base q b L ts') (hk : Kept q b x y) : Dv w w3 y base q b L ts' := by
  obtain ⟨l1, l2, l3⟩ := h.lts
  exact ⟨ht, h.res.kept hk (by omega) (by omega), ⟨hk.os.trans h.bel.os, hk.tape.trans h.bel.tape, hk.output.trans h.bel.output, Nat.le_trans h.bel.size hk.size, fun j hj => (hk.block j (Nat.lt_of_lt_of_le hj h.bel.size) (by omega) (by omega)).trans (h.bel.block j hj)⟩, l1, l2, l3⟩
theorem Dv.keep {w w3 x y : World} {base q b : Nat} {L : List (Fld × Value)} {ts : List (Int × Bool)} (h : Dv w w3 x base q b L ts) (hb : Below x.heap.size x y) : Dv w w3 y base q b L ts :=
  h.step (h.tk.keep hb) (Kept.of_bel hb)
theorem Dv.poke {w w3 x y : World} {base q b : Nat} {L : List (Fld × Value)} {ts : List (Int × Bool)} (h : Dv w w3 x base q b L ts) {k : Nat} {e : Ev} (he : EvAt x k e) (hk : w3.heap.size ≤ k) (ho : y.os = x.os ∧ y.tape = x.tape ∧ y.output = x.output) (hj : ∀ j, j ≠ k → y.heap[j]? = x.heap[j]?) (hs : y.heap.size = x.heap.size) : Dv w w3 y base q b L ts := by
  obtain ⟨l1, l2, l3⟩ := h.lts
  exact ⟨h.tk.poke he hk ho hj hs, (hj _ (by omega)).trans h.res, ⟨ho.1.trans h.bel.os, ho.2.1.trans h.bel.tape, ho.2.2.trans h.bel.output, by rw [hs]; exact h.bel.size, fun j hjj => (hj j (by omega)).trans (h.bel.block j hjj)⟩, l1, l2, l3⟩
theorem Dv.fin {w x y : World} (h : Below w.heap.size w x) {e2 : Ev} (hs : ∀ B a, Below B a x → B ≤ w.heap.size → Below B a y) : Below w.heap.size w y := hs _ _ h (Nat.le_refl _)
/-- what schema.Decode answers, given what the version takes -/
def sdR (v : Int) (ev : List Fld → Ev) (Q : List Fld → Int) (tgs : List (Int × Bool)) (l : List Nat) : Ev × Int :=
  if (recs l).2.2 ≠ 0 then (zeroE, (recs l).2.2)
  else if errR (tkF (recs l).1 tgs) (tkE (recs l).1 tgs) ≠ 0 then (zeroE, errR (tkF (recs l).1 tgs) (tkE (recs l).1 tgs))
  else if chk v { ev (recs l).1 with qty := Q (recs l).1 } ≠ 0 then (zeroE, chk v { ev (recs l).1 with qty := Q (recs l).1 })
  else ({ ev (recs l).1 with qty := Q (recs l).1 }, 0)
theorem tk_ne_q {w1 x : World} {base q b : Nat} {L : List (Fld × Value)} {ts : List (Int × Bool)} (h : Tk w1 x base q b L ts) {k : Nat} {e : Ev} (he : EvAt x k e) : k ≠ q := by
  intro hh
  have h1 := h.rd.blk
  unfold EvAt at he
  rw [← hh, he] at h1
  cases h1
theorem tk_ne_b {w1 x : World} {base q b : Nat} {L : List (Fld × Value)} {ts : List (Int × Bool)} (h : Tk w1 x base q b L ts) {k : Nat} {e : Ev} (he : EvAt x k e) : k ≠ b := by
  intro hh
  obtain ⟨n, D, hm, hr⟩ := h.rd.map
  obtain ⟨es, c, hbm⟩ := map_blk hm
  unfold EvAt at he
  rw [← hh, he] at hbm
  cases hbm
theorem tk_start {w3 : World} {base q b : Nat} {L : List (Fld × Value)} (h : RdAt w3 base q b L 0) : Tk w3 w3 base q b L [] := ⟨h, Kept.refl _ _ _⟩
end Go.Proofs.Ytfdaefhamoeaiaa
