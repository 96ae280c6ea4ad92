/- simfs: what holds behind a call; find, in short. -/
import Derived.Test.YtlnhhgmdajbepaaFsa
namespace Go.Proofs.Ytlnhhgmdajbepaa
open Go.ChangeShapes Go.WideShapes Go.ChangeAt Go.RowKit
set_option linter.unusedVariables false
set_option linter.unusedSimpArgs false
theorem DkAt.ob {w : World} {base q b : Nat} {D : Dk} (h : DkAt w base q b D) {k : Nat} (hk : Ob q b D.fs k) : base ≤ k ∧ k < w.heap.size := by
  rcases hk with h1 | h1 | ⟨f, hf, h1⟩
  · rw [h1]; exact ⟨h.lo.1, h.lt.1⟩
  · rw [h1]; exact ⟨h.lo.2, h.lt.2⟩
  · exact (h.dat f hf).lt h1
theorem DkAt.same {w w' : World} {base q b : Nat} {D : Dk} (h : DkAt w base q b D) (hs : ∀ k, Ob q b D.fs k → w'.heap[k]? = w.heap[k]?) : DkAt w' base q b D := by
  obtain ⟨M, hm, hr⟩ := h.map
  exact ⟨(hs q (.inl rfl)).trans h.blk, ⟨M, owns_sameS hm (hs b (.inr (.inl rfl))), hr⟩, h.srt, fun f hf => (h.dat f hf).moved (fun k _ _ ho => hs k (.inr (.inr ⟨f, hf, ho⟩))), h.dist, h.lo⟩
/-- the disk's own blocks were there at w: what is written into later ones leaves it -/
theorem DkAt.box {w x y : World} {base q b : Nat} {D D4 : Dk} (h : DkAt w base q b D) (h4 : DkAt x base q b D4) (hf : D4.fs = D.fs) (hx : ∀ j, j < w.heap.size → y.heap[j]? = x.heap[j]?) : DkAt y base q b D4 :=
  h4.same (fun k hk => hx k (h.ob (by rw [hf] at hk; exact hk)).2)
theorem Chg.low {q b : Nat} {L L1 : List Fi} {w x y : World} (h : Chg q b L L1 w x) (hb : Below w.heap.size x y) : Chg q b L L1 w y :=
  ⟨hb.os.trans h.os, hb.tape.trans h.tape, hb.output.trans h.output, Nat.le_trans h.size hb.size, fun k hk hn => (hb.block k hk).trans (h.block k hk hn), h.own⟩
theorem Chg.to_below {w x y : World} {base q b : Nat} {D : Dk} {L : List Fi} (h : DkAt x base q b D) (hc : Chg q b D.fs L x y) (hb : Below base w x) (hs : base ≤ x.heap.size) : Below base w y :=
  hb.trans ⟨hc.os, hc.tape, hc.output, hc.size, fun k hk => hc.block k (by omega) (fun e => by have := (h.ob e).1; omega)⟩
/-- behind a call the disk A lies there; nothing has turned but its own blocks -/
def To (base q b : Nat) (L : List Fi) (A : Ak) (w w' : World) : Prop := ∃ D', DkAt w' base q b D' ∧ D'.ab = A ∧ Chg q b L D'.fs w w'
theorem To.of_below {base q b : Nat} {D : Dk} {w w' : World} (h : DkAt w base q b D) (hb : Below w.heap.size w w') : To base q b D.fs D.ab w w' := ⟨D, h.keep hb, rfl, .of_below hb⟩
theorem To.mk {base q b : Nat} {D D' : Dk} {L : List Fi} {A : Ak} {w w' : World} (h : DkAt w' base q b D') (hc : Chg q b L D'.fs w w') (e : D'.ab = A) : To base q b L A w w' := ⟨D', h, e, hc⟩
theorem put_ab (D : Dk) (f : Fi) : (putD (stepD D) f).ab = (stepA D.ab).put (insA f.ab D.ab.fs) := by
  rw [step_ab]
  show Ak.mk _ _ _ _ _ ((insN f (stepD D).fs).map Fi.ab) = _
  rw [ins_ab, stepD_fs]
  rfl
theorem some_ab {D : Dk} {nm : List UInt8} {f : Fi} (h : getN D.fs nm = some f) : getA D.ab.fs nm = some f.ab := by
  show getA (D.fs.map Fi.ab) nm = _
  rw [get_ab, h]; rfl
theorem none_ab {D : Dk} {nm : List UInt8} (h : getN D.fs nm = none) : getA D.ab.fs nm = none := by
  show getA (D.fs.map Fi.ab) nm = _
  rw [get_ab, h]; rfl
theorem found_ok {R : Type} {D : Dk} {nm : List UInt8} {f : Fi} (h : getN D.fs nm = some f) (hb : barE D [nm] = 0) (bad : Nat → R) (X : Fa → R) : foundA D.ab nm bad X = X f.ab := by
  unfold foundA
  rw [some_ab h]
  simp only
  rw [bar_ab, if_neg (by omega)]
theorem found_no {R : Type} {D : Dk} {nm : List UInt8} (h : barE D [nm] ≠ 0 ∨ getN D.fs nm = none) (bad : Nat → R) (X : Fa → R) : foundA D.ab nm bad X = bad (findE D nm) ∧ findE D nm ≠ 0 := by
  unfold foundA
  rcases h with h | h
  · have e : findE D nm = barE D [nm] := if_pos h
    cases hg : getN D.fs nm with
    | some f => rw [some_ab hg]; simp only; rw [bar_ab, if_pos h, e]; exact ⟨rfl, h⟩
    | none => rw [none_ab hg]; simp only; rw [find_ab, e]; exact ⟨rfl, h⟩
  · rw [none_ab h]
    simp only
    rw [find_ab]
    refine ⟨rfl, ?_⟩
    unfold findE
    split
    · assumption
    · rw [h]; simp
theorem find_err (w : World) (base q b : Nat) (D : Dk) (h : DkAt w base q b D) (nm : List UInt8) (hl : nm.length ≤ 281474976710656) (hE : barE D [nm] ≠ 0 ∨ getN D.fs nm = none) :
    Calls Try.prog 57 #[.pointer (some ⟨q, 0, none⟩), .string (bs nm)] w fun r w' => r = .returned (.tuple #[fiV (.slice none 0 0) 0, .int .i64 (findE D nm : Nat)]) ∧ Below w.heap.size w w' := by
  by_cases h1 : barE D [nm] ≠ 0
  · rw [show findE D nm = barE D [nm] from if_pos h1]
    exact find_bar w base q b D h nm hl h1
  · have h2 : getN D.fs nm = none := hE.resolve_left h1
    have h3 : barE D [nm] = 0 := by omega
    rw [show findE D nm = 51 from by unfold findE; rw [if_neg h1, h2]; rfl]
    exact find_none w base q b D h nm hl h3 h2
end Go.Proofs.Ytlnhhgmdajbepaa
