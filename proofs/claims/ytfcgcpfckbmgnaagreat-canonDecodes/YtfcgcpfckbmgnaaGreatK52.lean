/- Own texts, joined: Sr4, Rg9, Rl9. -/
import Derived.Test.YtfcgcpfckbmgnaaGreatK48
import Derived.Test.YtfcgcpfckbmgnaaGreatK18
import Derived.Test.YtfcgcpfckbmgnaaGreatK46
import Derived.Test.YtfcgcpfckbmgnaaGreatK50
import Derived.Test.YtfcgcpfckbmgnaaGreatK24
import Derived.Deep.RegionHeld3
namespace Go.Proofs.YtfcgcpfckbmgnaaGreat
open Go.ChangeShapes Go.WideShapes Go.ChangeAt Go.RowKit
set_option linter.unusedVariables false
theorem tk_33 : ∀ (ts : List (Int × Bool)) (fs : List Fld) (e : Nat), e = 0 ∨ e = 33 → (ts.foldl (fun (S : List Fld × Nat) x => (delF S.1 x.1, errF S.1 S.2 x.1 x.2)) (fs, e)).2 = 0 ∨ (ts.foldl (fun (S : List Fld × Nat) x => (delF S.1 x.1, errF S.1 S.2 x.1 x.2)) (fs, e)).2 = 33
  | [], fs, e, h => h
  | x :: r, fs, e, h => by
    rw [List.foldl_cons]
    refine tk_33 r _ _ ?_
    show errF fs e x.1 x.2 = 0 ∨ errF fs e x.1 x.2 = 33
    unfold errF
    rcases getF fs x.1 with _ | f
    · exact h
    · simp only
      split
      · exact h
      · exact .inr rfl
/-- what the reference lays at a tag -/
def rval (v : Int) (fs : List Fld) (t : Nat) : Int := if t = 4 ∧ v ≤ 2 then zag (numF fs (t : Int) : Int) else capN (numF fs (t : Int))
def NL (v : Int) (fs : List Fld) : List Int := (List.range 11).map (rval v fs)
theorem NL_len (v : Int) (fs : List Fld) : (NL v fs).length = 11 := by simp [NL]
theorem NL_get (v : Int) (fs : List Fld) (t : Nat) (h : t < 11) : (NL v fs).getD t 0 = rval v fs t := by
  unfold NL
  rw [List.getD_eq_getElem?_getD, List.getElem?_map, List.getElem?_range h]
  rfl
theorem getF_snoc (fs : List Fld) (f : Fld) (t : Int) : getF (fs ++ [f]) t = (getF fs t).or (if f.tag = t then some f else none) := by
  unfold getF
  rw [List.find?_append]
  congr 1
  by_cases h : f.tag = t
  · simp [h]
  · simp [h]
theorem numF_snoc_other {fs : List Fld} {f : Fld} {t : Int} (h : f.tag ≠ t) : numF (fs ++ [f]) t = numF fs t := by
  unfold numF
  rw [getF_snoc, if_neg h]
  rcases getF fs t with _ | g <;> rfl
theorem numF_snoc_text {fs : List Fld} {f : Fld} (hn : getF fs f.tag = none) (hx : f.text = true) (t : Int) : numF (fs ++ [f]) t = numF fs t := by
  by_cases h : f.tag = t
  · subst h
    unfold numF
    rw [getF_snoc, hn, if_pos rfl]
    show (if f.text = false then f.num else 0) = 0
    rw [if_neg (by rw [hx]; simp)]
  · exact numF_snoc_other h
theorem numF_snoc_same {fs : List Fld} {f : Fld} (hn : getF fs f.tag = none) (hx : f.text = false) : numF (fs ++ [f]) f.tag = f.num := by
  unfold numF
  rw [getF_snoc, hn, if_pos rfl]
  show (if f.text = false then f.num else 0) = f.num
  rw [if_pos hx]
theorem txtF_snoc_other {fs : List Fld} {f : Fld} {t : Int} (h : f.tag ≠ t) : txtF (fs ++ [f]) t = txtF fs t := by
  unfold txtF
  rw [getF_snoc, if_neg h]
  rcases getF fs t with _ | g <;> rfl
theorem txtF_snoc_same {fs : List Fld} {f : Fld} (hn : getF fs f.tag = none) (hx : f.text = true) : txtF (fs ++ [f]) f.tag = f.bytes := by
  unfold txtF
  rw [getF_snoc, hn, if_pos rfl]
  show (if f.text = true then f.bytes else []) = f.bytes
  rw [if_pos hx]
/-- the event that the reference builds -/
def evN (v : Int) (fs : List Fld) : Ev := ⟨rval v fs 1, rval v fs 2, rval v fs 3, rval v fs 4, rval v fs 5, rval v fs 6, rval v fs 7, str8 (txtF fs 8), rval v fs 9, str8 (txtF fs 10)⟩
theorem evN_eq {v : Int} {fs : List Fld} (h1 : 1 ≤ v) (h5 : v ≤ 5) (h : ∀ f ∈ fs, f.tag ≤ hasV v) : ({ evV v fs with qty := qtyV v fs } : Ev) = evN v fs := by
  have off : ∀ t, hasV v < t → numF fs t = 0 ∧ txtF fs t = [] := fun t ht => by
    have hg : getF fs t = none := getF_none.2 (fun f hf e => by have := h f hf; omega)
    unfold numF txtF
    rw [hg]
    exact ⟨rfl, rfl⟩
  have hq : qtyV v fs = rval v fs 4 := by
    unfold qtyV rval
    by_cases h2 : v ≤ 2
    · rw [if_pos h2, if_pos ⟨rfl, h2⟩]; rfl
    · rw [if_neg h2, if_neg (fun h => h2 h.2)]; rfl
  have r : ∀ t : Nat, t ≠ 4 → rval v fs t = capN (numF fs (t : Int)) := fun t ht => if_neg (fun h => ht h.1)
  have r6 := r 6 (by decide)
  have r7 := r 7 (by decide)
  have r9 := r 9 (by decide)
  have z0 : capN 0 = 0 := rfl
  have hv : v = 1 ∨ v = 2 ∨ v = 3 ∨ v = 4 ∨ v = 5 := by omega
  unfold evN
  rw [hq, r 1 (by decide), r 2 (by decide), r 3 (by decide), r 5 (by decide), r6, r7, r9]
  rcases hv with rfl | rfl | rfl | rfl | rfl
  · rw [show ((6 : Nat) : Int) = 6 from rfl, show ((7 : Nat) : Int) = 7 from rfl, show ((9 : Nat) : Int) = 9 from rfl, (off 6 (by decide)).1, (off 7 (by decide)).1, (off 8 (by decide)).2, (off 9 (by decide)).1, (off 10 (by decide)).2]; rfl
  · rw [show ((7 : Nat) : Int) = 7 from rfl, show ((9 : Nat) : Int) = 9 from rfl, (off 7 (by decide)).1, (off 8 (by decide)).2, (off 9 (by decide)).1, (off 10 (by decide)).2]; rfl
  · rw [show ((9 : Nat) : Int) = 9 from rfl, (off 8 (by decide)).2, (off 9 (by decide)).1, (off 10 (by decide)).2]; rfl
  · rw [show ((9 : Nat) : Int) = 9 from rfl, (off 9 (by decide)).1, (off 10 (by decide)).2]; rfl
  · rfl
/-- a field of the version's tags has the wrong form -/
theorem sdec_wrong {v : Int} {l : List Nat} (h1 : 1 ≤ v) (h5 : v ≤ 5) (hr : (recs l).2.2 = 0) (hp : (recs l).1.Pairwise (fun f g => f.tag < g.tag)) (hb : ∀ f ∈ (recs l).1, 1 ≤ f.tag) {f : Fld} (hf : f ∈ (recs l).1) (ht : f.tag ≤ hasV v) (hx : f.text ≠ isT f.tag) : sdec v l = (zeroE, 33) := by
  have e1 : tkE (recs l).1 (tgV v) = 33 := by
    rcases tk_33 (tgV v) (recs l).1 0 (.inl rfl) with h | h
    · exfalso
      obtain ⟨x, hxm, hxt⟩ := (tgV_mem h1 h5 f.tag).2 ⟨hb f hf, ht⟩
      have := tk_right (tgV v) _ (tgV_apart h1 h5) h x hxm f (by rw [← hxt]; exact getF_of_mem hp hf)
      rw [tgV_text h1 h5 x hxm, ← hxt] at this
      exact hx this
    · exact h
  rw [show sdec v l = sdR v (evV v) (qtyV v) (tgV v) l from if_neg (by omega)]
  unfold sdR
  rw [if_neg (by simp [hr]), e1]
  rfl
theorem sdec_forms {v : Int} {l : List Nat} (h1 : 1 ≤ v) (h5 : v ≤ 5) (h : ∀ f ∈ (recs l).1, f.tag ≤ hasV v → f.text = isT f.tag) : tkE (recs l).1 (tgV v) = 0 := by
  refine tk_zero _ _ (fun x hx f hf => ?_)
  obtain ⟨m1, m2⟩ := getF_mem hf
  have h3 := (tgV_mem h1 h5 x.1).1 ⟨x, hx, rfl⟩
  rw [h f m1 (by omega), m2, tgV_text h1 h5 x hx]
theorem sdec_alien {v : Int} {l : List Nat} (h1 : 1 ≤ v) (h5 : v ≤ 5) (hr : (recs l).2.2 = 0) (h : ∀ f ∈ (recs l).1, f.tag ≤ hasV v → f.text = isT f.tag) {f : Fld} (hf : f ∈ (recs l).1) (ht : hasV v < f.tag) : sdec v l = (zeroE, 20) := by
  have e1 := sdec_forms h1 h5 h
  have e2 : errR (tkF (recs l).1 (tgV v)) (tkE (recs l).1 (tgV v)) = 20 := by
    unfold errR
    rw [if_neg (by simp [e1]), if_pos]
    refine List.length_pos_of_mem ((tkF_mem f _ _).2 ⟨hf, fun x hx e => ?_⟩)
    have h3 := (tgV_mem h1 h5 x.1).1 ⟨x, hx, rfl⟩
    omega
  rw [show sdec v l = sdR v (evV v) (qtyV v) (tgV v) l from if_neg (by omega)]
  unfold sdR
  rw [if_neg (by simp [hr]), e2]
  rfl
theorem sdec_fine {v : Int} {l : List Nat} (h1 : 1 ≤ v) (h5 : v ≤ 5) (hr : (recs l).2.2 = 0) (hb : ∀ f ∈ (recs l).1, 1 ≤ f.tag) (h : ∀ f ∈ (recs l).1, f.tag ≤ hasV v → f.text = isT f.tag) (ht : ∀ f ∈ (recs l).1, f.tag ≤ hasV v) : sdec v l = if chk v (evN v (recs l).1) ≠ 0 then (zeroE, chk v (evN v (recs l).1)) else (evN v (recs l).1, 0) := by
  have e1 := sdec_forms h1 h5 h
  have e2 : errR (tkF (recs l).1 (tgV v)) (tkE (recs l).1 (tgV v)) = 0 := errR_zero.2 ⟨e1, fun f hf => (tgV_mem h1 h5 f.tag).2 ⟨hb f hf, ht f hf⟩⟩
  rw [show sdec v l = sdR v (evV v) (qtyV v) (tgV v) l from if_neg (by omega)]
  unfold sdR
  rw [if_neg (by simp [hr]), if_neg (by simp [e2]), evN_eq h1 h5 ht]
end Go.Proofs.YtfcgcpfckbmgnaaGreat
namespace Go.Proofs.YtfcgcpfckbmgnaaGreat
open Go.ChangeShapes Go.WideShapes Go.ChangeAt Go.RowKit
set_option linter.unusedVariables false
def tx9 (P : List Fld) : List (List Nat) := txsFrom P 16 0
def nsOf (P : List Fld) : List Int := (List.range 11).map (fun t : Nat => capN (numF P (t : Int)))
def lnsOf (P : List Fld) : List Ln := (tx9 P).map (fun t => (rdLn t).1)
def okOf (P : List Fld) : Bool := (tx9 P).all (fun t => (rdLn t).2)
def gapOf (P : List Fld) : Bool := P.any (fun f => decide (11 + ((tx9 P).length : Int) < f.tag))
theorem lnsOf_len (P : List Fld) : (lnsOf P).length = (tx9 P).length := by unfold lnsOf; rw [List.length_map]
theorem tx9_len (P : List Fld) : (tx9 P).length ≤ 16 := txs_len P 16 0
/-- fields that came through -/
structure Gd (P : List Fld) : Prop where
  num : ∀ f ∈ P, f.tag ≤ 10 → f.text = false
  who : ∀ f ∈ P, f.tag = 11 → f.text = true
  gone : ∀ f ∈ P, f.tag = 12 + ((tx9 P).length : Int) → (tx9 P).length = 16
theorem Gd.nil : Gd [] := ⟨fun f h => absurd h (by simp), fun f h => absurd h (by simp), fun f h => absurd h (by simp)⟩
theorem txs_nil {fs : List Fld} (f k : Nat) (h : txtF fs (12 + (k : Int)) = []) : txsFrom fs f k = [] := by
  cases f with
  | zero => rfl
  | succ f => simp only [txsFrom]; rw [if_pos h]
theorem txs_congr {fs gs : List Fld} : ∀ (f k : Nat), (∀ j, j < f → j ≤ (txsFrom fs f k).length → txtF gs (12 + ((k + j : Nat) : Int)) = txtF fs (12 + ((k + j : Nat) : Int))) → txsFrom gs f k = txsFrom fs f k
  | 0, k, h => rfl
  | f + 1, k, h => by
    have h0 := h 0 (by omega) (by omega)
    simp only [Nat.add_zero] at h0
    by_cases e : txtF fs (12 + (k : Int)) = []
    · rw [txs_nil _ _ e, txs_nil _ _ (by rw [h0]; exact e)]
    · have ih := txs_congr (fs := fs) (gs := gs) f (k + 1) (fun j hj hl => by
        have h9 := h (j + 1) (by omega) (by simp only [txsFrom]; rw [if_neg e, List.length_cons]; omega)
        rw [show k + 1 + j = k + (j + 1) from by omega]
        exact h9)
      simp only [txsFrom]
      rw [if_neg e, if_neg (by rw [h0]; exact e), ih, h0]
theorem txt_none {fs : List Fld} {t : Int} (h : ∀ g ∈ fs, g.tag ≠ t) : txtF fs t = [] := by
  unfold txtF
  rw [getF_none.2 h]
theorem txt_mem {fs : List Fld} {t : Int} (h : txtF fs t ≠ []) : ∃ g ∈ fs, g.tag = t ∧ g.text = true := by
  unfold txtF at h
  rcases hg : getF fs t with _ | g
  · rw [hg] at h; exact absurd rfl h
  · rw [hg] at h
    obtain ⟨m1, m2⟩ := getF_mem hg
    refine ⟨g, m1, m2, ?_⟩
    by_cases e : g.text = true
    · exact e
    · simp only [if_neg e] at h; exact absurd rfl h
theorem txs_snoc {P : List Fld} {g : Fld} (hf : ∀ x ∈ P, x.tag < g.tag) (hx : g.text = true) (hb : g.bytes ≠ []) : ∀ (f k : Nat), (txsFrom P f k).length < f → g.tag = 12 + ((k + (txsFrom P f k).length : Nat) : Int) → txsFrom (P ++ [g]) f k = txsFrom P f k ++ [g.bytes]
  | 0, k, h, _ => by omega
  | f + 1, k, h, ht => by
    have hn : getF P g.tag = none := getF_none.2 (fun x hx e => by have := hf x hx; omega)
    by_cases e : txtF P (12 + (k : Int)) = []
    · rw [txs_nil _ _ e] at ht ⊢
      simp only [List.length_nil, Nat.add_zero] at ht
      have h1 : txtF (P ++ [g]) (12 + (k : Int)) = g.bytes := by rw [← ht]; exact txtF_snoc_same hn hx
      have h2 : txtF (P ++ [g]) (12 + ((k + 1 : Nat) : Int)) = [] := txt_none (fun x hx e9 => by
        rcases List.mem_append.1 hx with h3 | h3
        · have := hf x h3; omega
        · rw [List.mem_singleton.1 h3] at e9; omega)
      simp only [txsFrom]
      rw [if_neg (by rw [h1]; exact hb), txs_nil _ _ h2, h1]
      rfl
    · simp only [txsFrom] at h ht ⊢
      rw [if_neg e] at h ht ⊢
      rw [List.length_cons] at h ht
      have h1 : txtF (P ++ [g]) (12 + (k : Int)) = txtF P (12 + (k : Int)) := txtF_snoc_other (by omega)
      rw [if_neg (by rw [h1]; exact e), h1, txs_snoc hf hx hb f (k + 1) (by omega) (by rw [ht]; omega)]
      rfl
theorem tx9_at {P : List Fld} {j : Nat} (h : j < (tx9 P).length) : ∃ g ∈ P, g.tag = 12 + (j : Int) ∧ g.text = true := by
  have h1 := (txs_get 16 0 j h).2
  rw [Nat.zero_add] at h1
  exact txt_mem h1
/-- a field that is none of the lines that follow -/
theorem tx9_skip {P : List Fld} {f : Fld} (hf : ∀ x ∈ P, x.tag < f.tag) (h : f.tag ≠ 12 + ((tx9 P).length : Int) ∨ 27 < f.tag) : tx9 (P ++ [f]) = tx9 P := by
  refine txs_congr 16 0 (fun j hj hl => ?_)
  rw [Nat.zero_add]
  refine txtF_snoc_other (fun e => ?_)
  by_cases hjn : j < (tx9 P).length
  · obtain ⟨g, hg, hgt, _⟩ := tx9_at hjn
    have := hf g hg
    omega
  · have : j = (tx9 P).length := by have : j ≤ (tx9 P).length := hl; omega
    subst this
    omega
theorem tx9_line {P : List Fld} {f : Fld} (hf : ∀ x ∈ P, x.tag < f.tag) (h : f.tag = 12 + ((tx9 P).length : Int)) (h2 : f.tag ≤ 27) (hx : f.text = true) (hb : f.bytes ≠ []) : tx9 (P ++ [f]) = tx9 P ++ [f.bytes] := by
  refine txs_snoc hf hx hb 16 0 ?_ ?_
  · have : (12 : Int) + ((tx9 P).length : Int) ≤ 27 := by omega
    show (tx9 P).length < 16
    omega
  · rw [Nat.zero_add]; exact h
theorem ns_other {P : List Fld} {f : Fld} (h : ∀ t : Nat, t < 11 → f.tag ≠ (t : Int)) : nsOf (P ++ [f]) = nsOf P := by
  unfold nsOf
  refine List.map_congr_left (fun t ht => ?_)
  rw [numF_snoc_other (h t (List.mem_range.1 ht))]
theorem ns_len (P : List Fld) : (nsOf P).length = 11 := by simp [nsOf]
theorem ns_get (P : List Fld) (t : Nat) (h : t < 11) : (nsOf P).getD t 0 = capN (numF P (t : Int)) := by
  unfold nsOf
  rw [List.getD_eq_getElem?_getD, List.getElem?_map, List.getElem?_range h]
  rfl
theorem ns_put {P : List Fld} {f : Fld} {T : Nat} (hf : ∀ x ∈ P, x.tag < f.tag) (hT : f.tag = (T : Int)) (hx : f.text = false) (j : Nat) (hj : j < 11) : (nsOf (P ++ [f])).getD j 0 = if j = T then capN f.num else (nsOf P).getD j 0 := by
  have hn : getF P f.tag = none := getF_none.2 (fun x hx e => by have := hf x hx; omega)
  rw [ns_get _ _ hj]
  by_cases e : j = T
  · subst e
    rw [if_pos rfl, ← hT, numF_snoc_same hn hx]
  · rw [if_neg e, ns_get _ _ hj, numF_snoc_other (by omega)]
theorem gap_skip {P : List Fld} {f : Fld} (h : tx9 (P ++ [f]) = tx9 P) : gapOf (P ++ [f]) = (gapOf P || decide (11 + ((tx9 P).length : Int) < f.tag)) := by
  unfold gapOf
  rw [h, List.any_append]
  simp
theorem Gd.skip {P : List Fld} {f : Fld} (h : Gd P) (ht : tx9 (P ++ [f]) = tx9 P) (h1 : f.tag ≤ 10 → f.text = false) (h2 : f.tag = 11 → f.text = true) (h3 : f.tag = 12 + ((tx9 P).length : Int) → 27 < f.tag) : Gd (P ++ [f]) := by
  refine ⟨fun g hg e => ?_, fun g hg e => ?_, fun g hg e => ?_⟩
  · rcases List.mem_append.1 hg with h9 | h9
    · exact h.num g h9 e
    · rw [List.mem_singleton.1 h9] at e ⊢; exact h1 e
  · rcases List.mem_append.1 hg with h9 | h9
    · exact h.who g h9 e
    · rw [List.mem_singleton.1 h9] at e ⊢; exact h2 e
  · rw [ht] at e ⊢
    rcases List.mem_append.1 hg with h9 | h9
    · exact h.gone g h9 e
    · rw [List.mem_singleton.1 h9] at e
      have h4 := h3 e
      have h5 := tx9_len P
      omega
theorem Gd.line {P : List Fld} {f : Fld} (h : Gd P) (hf : ∀ x ∈ P, x.tag < f.tag) (ht : f.tag = 12 + ((tx9 P).length : Int)) (hL : tx9 (P ++ [f]) = tx9 P ++ [f.bytes]) : Gd (P ++ [f]) ∧ gapOf (P ++ [f]) = gapOf P := by
  have hlen : (tx9 (P ++ [f])).length = (tx9 P).length + 1 := by rw [hL, List.length_append]; rfl
  refine ⟨⟨fun g hg e => ?_, fun g hg e => ?_, fun g hg e => ?_⟩, ?_⟩
  · rcases List.mem_append.1 hg with h9 | h9
    · exact h.num g h9 e
    · rw [List.mem_singleton.1 h9] at e; omega
  · rcases List.mem_append.1 hg with h9 | h9
    · exact h.who g h9 e
    · rw [List.mem_singleton.1 h9] at e; omega
  · rw [hlen] at e
    rcases List.mem_append.1 hg with h9 | h9
    · have := hf g h9; omega
    · rw [List.mem_singleton.1 h9] at e; omega
  · have e1 : gapOf P = false := by
      unfold gapOf
      rw [List.any_eq_false]
      intro g hg
      have := hf g hg
      simp only [decide_eq_true_eq]
      omega
    have e2 : gapOf (P ++ [f]) = false := by
      unfold gapOf
      rw [List.any_eq_false, hlen]
      intro g hg
      simp only [decide_eq_true_eq]
      rcases List.mem_append.1 hg with h9 | h9
      · have := hf g h9; omega
      · rw [List.mem_singleton.1 h9]; omega
    rw [e1, e2]
theorem gap_new {P : List Fld} {f : Fld} (hf : ∀ x ∈ P, x.tag < f.tag) (h11 : 11 < f.tag) (h : f.tag ≠ 12 + ((tx9 P).length : Int) ∨ 27 < f.tag) : 11 + ((tx9 P).length : Int) < f.tag := by
  by_cases e : 11 + ((tx9 P).length : Int) < f.tag
  · exact e
  · exfalso
    obtain ⟨j, hj⟩ := Int.eq_ofNat_of_zero_le (by omega : 0 ≤ f.tag - 12)
    obtain ⟨g, hg, hgt, _⟩ := tx9_at (P := P) (j := j) (by omega)
    have := hf g hg
    omega
theorem rdAll_eq : ∀ (T : List (List Nat)), rdAll T = if T.all (fun t => (rdLn t).2) = true then (T.map (fun t => (rdLn t).1), true) else ([], false)
  | [] => rfl
  | t :: r => by
    rw [show rdAll (t :: r) = if (rdLn t).2 = true ∧ (rdAll r).2 = true then ((rdLn t).1 :: (rdAll r).1, true) else ([], false) from rfl, rdAll_eq r]
    by_cases h1 : (rdLn t).2 = true
    · by_cases h2 : r.all (fun t => (rdLn t).2) = true
      · rw [if_pos h2, if_pos ⟨h1, rfl⟩, if_pos (by simp only [List.all_cons, h1, h2, Bool.and_self])]
        rfl
      · rw [if_neg h2, if_neg (by simp), if_neg (by simp only [List.all_cons, h1, Bool.true_and]; exact h2)]
    · rw [if_neg (fun h => h1 h.1), if_neg (by simp only [List.all_cons, Bool.and_eq_true]; exact fun h => h1 h.1)]
/-- the state that was gathered -/
def stN (fs : List Fld) : St := { stOf fs with lines := lnsOf fs }
theorem ctg_at {fs : List Fld} (h : Gd fs) {x : Int × Bool} (hx : x ∈ ctg fs) : (1 ≤ x.1 ∧ x.1 ≤ 11 ∧ x.2 = decide (11 ≤ x.1)) ∨ ∃ j : Nat, j < 16 ∧ j ≤ (tx9 fs).length ∧ x = (12 + (j : Int), true) := by
  rcases List.mem_append.1 hx with h1 | h1
  · have := tg11_text x h1
    exact .inl ⟨this.2.1, this.2.2, this.1⟩
  · obtain ⟨j, hj, rfl, hall⟩ := (tgs_form 16 0 x).1 h1
    rw [Nat.zero_add]
    refine .inr ⟨j, hj, ?_, rfl⟩
    by_cases e : j ≤ (tx9 fs).length
    · exact e
    · exfalso
      have h2 := txs_end (fs := fs) 16 0 (show (tx9 fs).length < 16 by omega)
      exact hall (tx9 fs).length (by omega) h2
theorem forms9 {fs : List Fld} (h : Gd fs) : tkE fs (ctg fs) = 0 := by
  refine tk_zero _ _ (fun x hx f hf => ?_)
  obtain ⟨m1, m2⟩ := getF_mem hf
  rcases ctg_at h hx with ⟨a1, a2, a3⟩ | ⟨j, a1, a2, rfl⟩
  · rw [a3]
    by_cases e : x.1 = 11
    · rw [h.who f m1 (m2.trans e), e]; rfl
    · rw [h.num f m1 (by omega), decide_eq_false (by omega)]
  · simp only at m2 ⊢
    by_cases e : j < (tx9 fs).length
    · have h1 := (txs_get 16 0 j e).2
      rw [Nat.zero_add] at h1
      unfold txtF at h1
      rw [hf] at h1
      by_cases e2 : f.text = true
      · exact e2
      · simp only [if_neg e2] at h1; exact absurd rfl h1
    · have := h.gone f m1 (by rw [m2]; omega)
      omega
theorem cd_gap {l : List Nat} (hr : (recs l).2.2 = 0) (h : Gd (recs l).1) (hg : gapOf (recs l).1 = true) : cdec l = (zeroS, 20) := by
  have e1 := forms9 h
  obtain ⟨f, hf, hft⟩ := List.any_eq_true.1 hg
  simp only [decide_eq_true_eq] at hft
  have e2 : errR (tkF (recs l).1 (ctg (recs l).1)) (tkE (recs l).1 (ctg (recs l).1)) = 20 := by
    unfold errR
    rw [if_neg (by simp [e1]), if_pos]
    refine List.length_pos_of_mem ((tkF_mem f _ _).2 ⟨hf, fun x hx e => ?_⟩)
    rcases ctg_at h hx with ⟨a1, a2, a3⟩ | ⟨j, a1, a2, rfl⟩
    · omega
    · simp only at e
      have := h.gone f hf (by omega)
      omega
  unfold cdec
  rw [if_neg (by simp [hr]), e2]
  rfl
theorem cd_fine {l : List Nat} (hr : (recs l).2.2 = 0) (h1 : ∀ f ∈ (recs l).1, 1 ≤ f.tag) (h : Gd (recs l).1) (hg : gapOf (recs l).1 = false) : cdec l = if okOf (recs l).1 = true ∧ vldB (stN (recs l).1) = true then (stN (recs l).1, 0) else (zeroS, 40) := by
  have e2 : errR (tkF (recs l).1 (ctg (recs l).1)) (tkE (recs l).1 (ctg (recs l).1)) = 0 := errR_zero.2 ⟨forms9 h, fun f hf => by
    have h2 := List.any_eq_false.1 hg f hf
    simp only [decide_eq_true_eq] at h2
    by_cases e : f.tag ≤ 11
    · obtain ⟨x, hx, hxe⟩ := (tg11_mem f.tag).2 ⟨h1 f hf, e⟩
      exact ⟨x, List.mem_append_left _ hx, hxe⟩
    · obtain ⟨j, hj⟩ := Int.eq_ofNat_of_zero_le (by omega : 0 ≤ f.tag - 12)
      refine ⟨(12 + (j : Int), true), List.mem_append_right _ ((tgs_form 16 0 _).2 ⟨j, ?_, by rw [Nat.zero_add], fun i hi => (txs_get 16 0 i ?_).2⟩), by show f.tag = 12 + (j : Int); omega⟩
      · have := tx9_len (recs l).1; omega
      · show i < (tx9 (recs l).1).length
        omega⟩
  unfold cdec
  rw [if_neg (by simp [hr]), if_neg (by simp [e2])]
  have e3 := rdAll_eq (txsFrom (recs l).1 16 0)
  by_cases ho : okOf (recs l).1 = true
  · have e4 : rdAll (txsFrom (recs l).1 16 0) = (lnsOf (recs l).1, true) := by rw [e3]; exact if_pos ho
    have e5 : stL (recs l).1 = stN (recs l).1 := by unfold stL stN; rw [e4]
    rw [e4, e5, ho]
  · have e4 : rdAll (txsFrom (recs l).1 16 0) = ([], false) := by rw [e3]; exact if_neg ho
    rw [e4, if_neg (by simp), if_neg (fun h => ho h.1)]
theorem cd_wrong {l : List Nat} {P R : List Fld} {f : Fld} (hr : (recs l).2.2 = 0) (hp : (recs l).1.Pairwise (fun f g => f.tag < g.tag)) (h1 : 1 ≤ f.tag) (hP : (recs l).1 = P ++ f :: R) (hw : (f.tag ≤ 10 ∧ f.text = true) ∨ (f.tag = 11 ∧ f.text = false) ∨ (f.tag = 12 + ((tx9 P).length : Int) ∧ f.tag ≤ 27 ∧ f.text = false)) : cdec l = (zeroS, 33) := by
  have hfm : f ∈ (recs l).1 := by rw [hP]; simp
  have hg := getF_of_mem hp hfm
  have e1 : tkE (recs l).1 (ctg (recs l).1) = 33 := by
    rcases tk_33 (ctg (recs l).1) (recs l).1 0 (.inl rfl) with h2 | h2
    · exfalso
      have h3 := tk_right (ctg (recs l).1) _ (ctg_apart _) h2
      rcases hw with ⟨a1, a2⟩ | ⟨a1, a2⟩ | ⟨a1, a2, a3⟩
      · obtain ⟨x, hx, hxe⟩ := (tg11_mem f.tag).2 ⟨h1, by omega⟩
        have h4 := h3 x (List.mem_append_left _ hx) f (by rw [← hxe]; exact hg)
        rw [(tg11_text x hx).1, ← hxe, a2, decide_eq_false (by omega)] at h4
        cases h4
      · obtain ⟨x, hx, hxe⟩ := (tg11_mem f.tag).2 ⟨h1, by omega⟩
        have h4 := h3 x (List.mem_append_left _ hx) f (by rw [← hxe]; exact hg)
        rw [(tg11_text x hx).1, ← hxe, a2, decide_eq_true (by omega)] at h4
        cases h4
      · have h4 := h3 (12 + (((tx9 P).length : Nat) : Int), true) (List.mem_append_right _ ((tgs_form 16 0 _).2 ⟨(tx9 P).length, by omega, by rw [Nat.zero_add], fun i hi => ?_⟩)) f (by show getF _ (12 + _) = _; rw [← a1]; exact hg)
        · rw [a3] at h4; cases h4
        · have h5 := (txs_get 16 0 i hi).2
          rw [Nat.zero_add] at h5 ⊢
          intro h6
          apply h5
          unfold txtF at h6 ⊢
          rw [hP] at h6
          rcases hgg : getF P (12 + (i : Int)) with _ | g
          · rfl
          · have : getF (P ++ f :: R) (12 + (i : Int)) = some g := by
              unfold getF at hgg ⊢
              rw [List.find?_append, hgg]; rfl
            rw [this] at h6
            exact h6
    · exact h2
  unfold cdec
  rw [if_neg (by simp [hr])]
  have e2 : errR (tkF (recs l).1 (ctg (recs l).1)) (tkE (recs l).1 (ctg (recs l).1)) = 33 := by
    unfold errR
    rw [e1]
    rfl
  rw [e2]
  rfl
end Go.Proofs.YtfcgcpfckbmgnaaGreat
namespace Go.Proofs.YtfcgcpfckbmgnaaGreat
open Go.ChangeShapes Go.WideShapes Go.ChangeAt Go.RowKit
set_option linter.unusedVariables false
set_option maxRecDepth 20000 in
theorem clamp9_any (u : Nat) (w : World) : Calls Tryz.prog 13 #[.int .u64 (u : Int)] w fun r w' => r = .returned (.int .i64 (capN u)) ∧ w = w' := by
  by_cases h : u ≤ 4611686018427387904
  · have HC : Hid (capN u = (u : Int)) := if_pos h
    have hI : (u : Int) ≤ 4611686018427387904 := by omega
    have hd : decide ((4611686018427387904 : Int) < (u : Int)) = false := by simp; omega
    clear h
    go_enter Tryz.func13, Tryz.ntmps13
    go_wp2
    go_ret
    exact ⟨by rw [HC.out]; rfl, rfl⟩
  · have HC : Hid (capN u = 4611686018427387904) := if_neg h
    have hI : (4611686018427387904 : Int) < (u : Int) := by omega
    clear h
    go_enter Tryz.func13, Tryz.ntmps13
    go_wp2
    go_ret
    exact ⟨by rw [HC.out]; rfl, rfl⟩
theorem Tryz.infoI9 : (Tryz.prog.info? 3).map (fun i => (i.zero, i.size, i.bytes)) = some (some (.int .i64 0), 1, 8) := by kernel_rfl
def IL (l : List Int) : List Value := l.map fun (n : Int) => Value.int .i64 n
/-- so many numbers more, then the line -/
def lnV : Nat → List Int → List Nat → Ln × Bool
  | 0, xs, r => (⟨xs.getD 0 0, xs.getD 1 0, xs.getD 2 0, xs.getD 3 0⟩, r.isEmpty)
  | f + 1, xs, r => if (dec 0 0 r).2.2 ≠ 0 then (zeroL, false) else lnV f (xs ++ [capN (dec 0 0 r).1]) (r.drop (dec 0 0 r).2.1)
theorem lnV_ln (l : List Nat) : lnV 4 [] l = rdLn l := rfl
theorem lnV_step {f : Nat} {xs : List Int} {r : List Nat} {u k : Nat} (h : dec 0 0 r = (u, k, 0)) : lnV (f + 1) xs r = lnV f (xs ++ [capN u]) (r.drop k) := by
  show (if (dec 0 0 r).2.2 ≠ 0 then _ else _) = _
  rw [h]; rfl
theorem lnV_bad {f : Nat} {xs : List Int} {r : List Nat} {u k e : Nat} (h : dec 0 0 r = (u, k, e)) (he : e ≠ 0) : lnV (f + 1) xs r = (zeroL, false) := by
  show (if (dec 0 0 r).2.2 ≠ 0 then _ else _) = _
  rw [h, if_pos he]
theorem ils_shape {w : World} {base n : Nat} {v : Value} {xs : List Value} (h : w.ownsRow base 3 1 v n xs) : ∃ a c, v = .slice a n c := by
  rcases h.2 with ⟨h1, h2⟩ | ⟨g, cp, cur, h1, _⟩
  · exact ⟨none, 0, by rw [h1, h2]⟩
  · exact ⟨_, cp, h1⟩
theorem ils_cells {w : World} {base n : Nat} {a : Option Addr} {c : Nat} {xs : List Int} (h : w.ownsRow base 3 1 (.slice a n c) n (IL xs)) (hn : 0 < n) (hx : xs.length = n) : ∃ g, a = some ⟨g, 0, none⟩ ∧ ∀ j, j < n → w.cell? ⟨g, j, none⟩ = some (.int .i64 (xs.getD j 0)) := by
  rcases h.2 with ⟨h1, h2⟩ | ⟨g, cp, cur, h1, _⟩
  · omega
  · injection h1 with h1a
    refine ⟨g, h1a, fun j hj => ?_⟩
    rw [h1a] at h
    have h5 := World.ownsRow.cellAt h j (by omega)
    rw [h5]
    unfold IL
    rw [List.getElem?_map, List.getElem?_eq_getElem (by omega), List.getD_eq_getElem?_getD, List.getElem?_eq_getElem (by omega)]
    rfl
theorem cell_heap {x y : World} {g : Nat} (h : y.heap[g]? = x.heap[g]?) (j : Nat) : y.cell? ⟨g, j, none⟩ = x.cell? ⟨g, j, none⟩ := by
  unfold World.cell?
  simp only [h]
theorem step_store_ln {ops : Array Oper} {o : Oper} {a : Act} {w : World} {K : Act → World → Prop} {Q : Exit → Act → World → Prop} {X : Prop} (hg : o.guard = none) (x y : Operand) (ho : o.op = .store 37 x y)
    {b : Nat} {p p2 : Ln} (hL : LnAt w b p) (hx : a.eval x = .pointer (some ⟨b, 0, none⟩)) (hy : a.eval y = .agg (lnA p2))
    (hK : ∀ w2, LnAt w2 b p2 → (∀ B a, Below B a w → B ≤ b → Below B a w2) → (∀ k, k ≠ b → w2.heap[k]? = w.heap[k]?) → K (a.put o.dst undef) w2) :
    if Region.wanted o (yielded ops a.tmps) = true then Oper.wp Tryz.prog o a w K Q else X := by
  have hw : Region.wanted o (yielded ops a.tmps) = true := by simp [Region.wanted, hg]
  rw [if_pos hw]
  obtain ⟨w2, h1, h2, h3, h4, _⟩ := hL.store p2
  unfold Oper.wp execOp
  simp only [ho, hx, hy, Sem.run_bind, Sem.run_pure, Result.andThen_ok, h1]
  exact hK w2 h2 h3 h4
theorem ln_far {x y : World} {base b n : Nat} {v : Value} {xs : List Value} {p : Ln} (ho : x.ownsRow base 3 1 v n xs) (hx : b < base) (hy : LnAt x b p) (hg : x.grownBy y v.ownBlock) : LnAt y b p :=
  (hg.block b hy.lt (fun hh => by have := (row_blk ho hh.symm).1; omega)).trans hy
theorem IL_snoc (xs : List Int) (x : Int) : IL (xs ++ [x]) = IL xs ++ [.int .i64 x] := by simp [IL]
set_option maxRecDepth 20000 in
set_option maxHeartbeats 4000000 in
theorem rline_any (l : List Nat) (a : Option Addr) (n cap : Nat) (w : World) (hn : l.length = n) (hb : Bytes w a l) (hcap : n ≤ cap) (hm : n ≤ 1000000) :
    Calls Tryz.prog 14 #[.slice a n cap] w fun r w' => r = .returned (.tuple #[.agg (lnA (rdLn l).1), .bool (rdLn l).2]) ∧ Below w.heap.size w w' := by
  obtain ⟨j0, ji, jz0, jz1, jz2⟩ := info_parts Tryz.infoI9
  have HB : Hid (Bytes w a l ∧ l.length = n ∧ ∀ x ∈ l, x < 256) := ⟨hb, hn, lt_allC hb.1⟩
  obtain ⟨P, hP⟩ : ∃ P, rdLn l = P := ⟨_, rfl⟩
  have HP : Hid (lnV 4 [] (l.drop 0) = P) := (lnV_ln l).trans hP
  rw [hP]
  obtain ⟨W, hW⟩ : ∃ W, (w.alloc (.cells (lnA zeroL) 37)).alloc (.cells #[] 3) = W := ⟨_, rfl⟩
  have HWL : Hid (LnAt W w.heap.size zeroL) := by show LnAt _ _ _; rw [← hW]; exact (LnAt.new w zeroL).after ((Below.refl _ _).alloc (Nat.le_refl _) _)
  have HWB : Hid (Below w.heap.size w W) := by show Below _ _ _; rw [← hW]; exact ((Below.refl _ _).alloc (Nat.le_refl _) _).alloc (by simp) _
  have HWO : Hid (W.ownsRow (w.heap.size + 1) 3 1 (.slice (some ⟨w.heap.size + 1, 0, none⟩) 0 0) 0 (IL [])) := by
    have h := World.ownsRow_lit (w.alloc (.cells (lnA zeroL) 37)) (e := 3) (size := 1) #[] 0 (Nat.le_refl _) (by simp) rfl
    rw [hW] at h
    have h2 : W.ownsRow (w.heap.size + 1) 3 1 (.slice (some ⟨w.heap.size + 1, 0, none⟩) 0 0) 0 [] := by simpa using h
    exact h2
  have HW : Hid (_ = W) := hW
  clear hb hn hP hW
  go_enter Tryz.func14, Tryz.ntmps14
  go_wp2
  rw [show (w.alloc (.cells #[.int .i64 0, .int .i64 0, .int .i64 0, .int .i64 0] 37)).alloc (.cells #[] 3) = W from HW.out]
  go_loopw [4, 5] (fun vv vi wr => ∃ (va : Option Addr) (k vc A : Nat) (xs : List Int), vv = .slice va k vc ∧ k ≤ 4 ∧ vi = .int .i64 A ∧ A ≤ n ∧ Hid (xs.length = k ∧ lnV (4 - k) xs (l.drop A) = P ∧ wr.ownsRow (w.heap.size + 1) 3 1 (.slice va k vc) k (IL xs) ∧ Below w.heap.size w wr ∧ LnAt wr w.heap.size zeroL)) (fun vv _ _ => 4 - (match vv with | .slice _ k _ => k | _ => 0))
  case atStart => exact ⟨_, 0, 0, 0, [], rfl, by omega, rfl, Nat.zero_le _, rfl, HP.out, HWO.out, HWB.out, HWL.out⟩
  case round =>
    clear HP HWO HWB HWL HW
    obtain ⟨va, k, vc, A, xs, rfl, hk, rfl, hA, HI⟩ := hrel
    have hAI : (A : Int) ≤ (n : Int) := by omega
    by_cases hk4 : k < 4
    · have hkI : (k : Int) < 4 := by omega
      rcases hd : dec 0 0 (l.drop A) with ⟨u, z, e⟩
      have HD : Hid (dec 0 0 (l.drop A) = (u, z, e)) := hd
      have HLD : Hid ((l.drop A).length = n - A) := by show _ = _; rw [List.length_drop, HB.out.2.1]
      have hsz := HI.out.2.2.2.1.size
      have hlt := HI.out.2.2.2.2.lt
      have hck : 4 - k = (4 - (k + 1)) + 1 := by omega
      by_cases he : e = 0
      · subst he
        have hf := vdec_form (l.drop A) (fun x hx => HB.out.2.2 x (List.mem_of_mem_drop hx)) (by rw [hd])
        rw [hd] at hf
        obtain ⟨_, f2, _, f4, _⟩ := hf
        simp only at f2 f4
        rw [HLD.out] at f2
        have HN : Hid (lnV (4 - (k + 1)) (xs ++ [capN u]) (l.drop (A + z)) = P) := by
          have h := HI.out.2.1
          rw [hck, lnV_step hd, List.drop_drop] at h
          exact h
        clear hd hck
        go_wp2_with (first
          | ((with_reducible refine at_slice ?_); refine wpList_slice_l2 rfl _ _ rfl rfl rfl hA hcap HB.out.2.1 ?_; intro y hy; have HY : Hid (Bytes wr y (l.drop A)) := hy wr (HB.out.1.keep HI.out.2.2.2.1); clear hy)
          | (go_at_call 28; refine (rdec_at (l.drop A) (n - A) u z 0 y (cap - A) wr HLD.out HD.out HY.out (by rw [HLD.out]; unfold maxLen; omega)).mono ?_; rintro _ w1 ⟨rfl, rfl⟩)
          | (go_at_call 13; refine (clamp9_any u _).mono ?_; rintro _ w2 ⟨rfl, rfl⟩)
          | (at_builtin; go_loud (refine wpList_append_own _ rfl _ _ 45 rfl (w.heap.size + 1) 3 j0 (.int .i64 0) 1 8 Tryz.underlying45 ji jz0 jz1 jz2 rfl (by decide) _ _ _ rfl (World.ownsRow.alloc HI.out.2.2.1 _) ⟨wr.heap.size, 0, none⟩ 1 1 [.int .i64 (capN u)] rfl rfl (cell_new _ _ _) (one_new _) (by unfold maxLen; omega) (by omega) (by simp <;> omega) ?_; intro v6 w6 ho6 hg6 _; have HW6 : Hid (Below w.heap.size w w6) := grown_row (HI.out.2.2.2.1.alloc hsz _) (World.ownsRow.mono (World.ownsRow.alloc HI.out.2.2.1 _) (Nat.le_succ _)) (by simp <;> omega) hg6; have HL6 : Hid (LnAt w6 w.heap.size zeroL) := ln_far (World.ownsRow.alloc HI.out.2.2.1 _) (by omega) (HI.out.2.2.2.2.after ((Below.refl _ _).alloc (Nat.le_refl _) _)) hg6; obtain ⟨a6, c6, h6⟩ := ils_shape ho6; subst h6; have HE6 : Hid (w6.ownsRow (w.heap.size + 1) 3 1 (.slice a6 (k + 1) c6) (k + 1) (IL (xs ++ [capN u]))) := (by show World.ownsRow _ _ _ _ _ _ _; rw [IL_snoc]; exact ho6); clear ho6 hg6)))
        go_roundw
        case rel => exact ⟨a6, k + 1, c6, A + z, xs ++ [capN u], rfl, by omega, by go_num, by omega, by rw [List.length_append, HI.out.1]; rfl, HN.out, HE6.out, HW6.out, HL6.out⟩
        case measure => simp; omega
      · have HN : Hid (P = (zeroL, false)) := by
          have h := HI.out.2.1
          rw [hck, lnV_bad hd he] at h
          exact h.symm
        have heb : ((e : Int) != 0) = true := by simp; omega
        clear hd hck
        go_wp2_with (first
          | ((with_reducible refine at_slice ?_); refine wpList_slice_l2 rfl _ _ rfl rfl rfl hA hcap HB.out.2.1 ?_; intro y hy; have HY : Hid (Bytes wr y (l.drop A)) := hy wr (HB.out.1.keep HI.out.2.2.2.1); clear hy)
          | (go_at_call 28; refine (rdec_at (l.drop A) (n - A) u z e y (cap - A) wr HLD.out HD.out HY.out (by rw [HLD.out]; unfold maxLen; omega)).mono ?_; rintro _ w1 ⟨rfl, rfl⟩)
          | ((with_reducible refine guard_store 37 ?_); refine wpList_store_ln (p := zeroL) (p2 := zeroL) rfl _ _ rfl HI.out.2.2.2.2 rfl rfl ?_; intro w4 z1 z2 z3 z4))
        rw [HN.out]
        exact bodyPost_ret (results_ln2 rfl _ _ _ _ rfl rfl z1) rfl ⟨rfl, z2 _ _ HI.out.2.2.2.1 (Nat.le_refl _)⟩
    · obtain rfl : k = 4 := by omega
      obtain ⟨g, rfl, hc⟩ := ils_cells HI.out.2.2.1 (by omega) HI.out.1
      have c0 := hc 0 (by omega)
      have c1 := hc 1 (by omega)
      have c2 := hc 2 (by omega)
      have c3 := hc 3 (by omega)
      obtain ⟨y0, hy0⟩ : ∃ y, xs.getD 0 0 = y := ⟨_, rfl⟩
      obtain ⟨y1, hy1⟩ : ∃ y, xs.getD 1 0 = y := ⟨_, rfl⟩
      obtain ⟨y2, hy2⟩ : ∃ y, xs.getD 2 0 = y := ⟨_, rfl⟩
      obtain ⟨y3, hy3⟩ : ∃ y, xs.getD 3 0 = y := ⟨_, rfl⟩
      rw [hy0] at c0
      rw [hy1] at c1
      rw [hy2] at c2
      rw [hy3] at c3
      have HK : Hid (P = (⟨y0, y1, y2, y3⟩, ((A : Int) == (n : Int)))) := by
        show _ = _
        rw [← HI.out.2.1, show 4 - 4 = 0 from rfl]
        show ((⟨xs.getD 0 0, xs.getD 1 0, xs.getD 2 0, xs.getD 3 0⟩ : Ln), (l.drop A).isEmpty) = _
        rw [hy0, hy1, hy2, hy3]
        have e1 : (l.drop A).isEmpty = ((A : Int) == (n : Int)) := by
          have h1 : (l.drop A).length = n - A := by rw [List.length_drop, HB.out.2.1]
          by_cases h : A = n
          · subst h
            rw [List.eq_nil_of_length_eq_zero (by omega : (l.drop A).length = 0)]
            simp
          · cases hh : l.drop A with
            | nil => rw [hh] at h1; simp at h1; omega
            | cons x t =>
              have : ((A : Int) == (n : Int)) = false := by simp; omega
              rw [this]; rfl
        rw [e1]
      have HG : Hid (w.heap.size < g) := by have := (row_blk HI.out.2.2.1 (g := g) rfl).1; show _ < _; omega
      clear hc hy0 hy1 hy2 hy3 hAI hA
      go_wp2
      refine wp_region_held (S := (fun y => y.heap[g]? = wr.heap[g]?)) (by kernel_rfl) ?_
      change wpAnyH _ _ _ _ _ _ _ _ (World.drew _)
      refine wpAnyH_take (i := 0) (oi := { dst := some 32, op := Op.move (Operand.tmp 4), type := 45, pos := "ref.go:66", after := #[], guard := none }) (v := ?_) rfl (by kernel_rfl) (by kernel_rfl) (by kernel_rfl) (fun _ _ _ h => h) (Or.inl ⟨by rfl, ?_⟩) rfl ?_
      rotate_left
      · (intro y hy; go_simp; try (with_reducible rfl))
      simp only [Act.put, List.setIfInBounds_toArray, List.set_cons_zero, List.set_cons_succ]
      refine wpAnyH_take (i := 1) (oi := { dst := some 33, op := Op.indexAddr 45 (Operand.tmp 32) (Operand.const (Value.int IntKind.i64 0)), type := 0, pos := "ref.go:66", after := #[{ on := 0, ground := Ground.data }], guard := none }) (v := ?_) rfl (by kernel_rfl) (by kernel_rfl) (by kernel_rfl) (fun _ _ _ h => h) (Or.inl ⟨by rfl, ?_⟩) rfl ?_
      rotate_left
      · (intro y hy; go_simp; try (with_reducible rfl))
      simp only [Act.put, List.setIfInBounds_toArray, List.set_cons_zero, List.set_cons_succ]
      refine wpAnyH_take (i := 2) (oi := { dst := some 34, op := Op.load 3 (Operand.tmp 33), type := 3, pos := "ref.go:66", after := #[{ on := 1, ground := Ground.data }], guard := none }) (v := .int .i64 y0) rfl (by kernel_rfl) (by kernel_rfl) (by kernel_rfl) (fun _ _ _ h => h) (Or.inl ⟨by rfl, ?_⟩) rfl ?_
      · (intro y hy; have h0 := (cell_heap hy 0).trans c0; go_simp)
      simp only [Act.put, List.setIfInBounds_toArray, List.set_cons_zero, List.set_cons_succ]
      refine wpAnyH_take (i := 3) (oi := { dst := some 35, op := Op.move (Operand.tmp 4), type := 45, pos := "ref.go:66", after := #[], guard := none }) (v := ?_) rfl (by kernel_rfl) (by kernel_rfl) (by kernel_rfl) (fun _ _ _ h => h) (Or.inl ⟨by rfl, ?_⟩) rfl ?_
      rotate_left
      · (intro y hy; go_simp; try (with_reducible rfl))
      simp only [Act.put, List.setIfInBounds_toArray, List.set_cons_zero, List.set_cons_succ]
      refine wpAnyH_take (i := 4) (oi := { dst := some 36, op := Op.indexAddr 45 (Operand.tmp 35) (Operand.const (Value.int IntKind.i64 1)), type := 0, pos := "ref.go:66", after := #[{ on := 3, ground := Ground.data }], guard := none }) (v := ?_) rfl (by kernel_rfl) (by kernel_rfl) (by kernel_rfl) (fun _ _ _ h => h) (Or.inl ⟨by rfl, ?_⟩) rfl ?_
      rotate_left
      · (intro y hy; go_simp; try (with_reducible rfl))
      simp only [Act.put, List.setIfInBounds_toArray, List.set_cons_zero, List.set_cons_succ]
      refine wpAnyH_take (i := 5) (oi := { dst := some 37, op := Op.load 3 (Operand.tmp 36), type := 3, pos := "ref.go:66", after := #[{ on := 4, ground := Ground.data }], guard := none }) (v := .int .i64 y1) rfl (by kernel_rfl) (by kernel_rfl) (by kernel_rfl) (fun _ _ _ h => h) (Or.inl ⟨by rfl, ?_⟩) rfl ?_
      · (intro y hy; have h0 := (cell_heap hy 1).trans c1; go_simp)
      simp only [Act.put, List.setIfInBounds_toArray, List.set_cons_zero, List.set_cons_succ]
      refine wpAnyH_take (i := 6) (oi := { dst := some 38, op := Op.move (Operand.tmp 4), type := 45, pos := "ref.go:66", after := #[], guard := none }) (v := ?_) rfl (by kernel_rfl) (by kernel_rfl) (by kernel_rfl) (fun _ _ _ h => h) (Or.inl ⟨by rfl, ?_⟩) rfl ?_
      rotate_left
      · (intro y hy; go_simp; try (with_reducible rfl))
      simp only [Act.put, List.setIfInBounds_toArray, List.set_cons_zero, List.set_cons_succ]
      refine wpAnyH_take (i := 7) (oi := { dst := some 39, op := Op.indexAddr 45 (Operand.tmp 38) (Operand.const (Value.int IntKind.i64 2)), type := 0, pos := "ref.go:66", after := #[{ on := 6, ground := Ground.data }], guard := none }) (v := ?_) rfl (by kernel_rfl) (by kernel_rfl) (by kernel_rfl) (fun _ _ _ h => h) (Or.inl ⟨by rfl, ?_⟩) rfl ?_
      rotate_left
      · (intro y hy; go_simp; try (with_reducible rfl))
      simp only [Act.put, List.setIfInBounds_toArray, List.set_cons_zero, List.set_cons_succ]
      refine wpAnyH_take (i := 8) (oi := { dst := some 40, op := Op.load 3 (Operand.tmp 39), type := 3, pos := "ref.go:66", after := #[{ on := 7, ground := Ground.data }], guard := none }) (v := .int .i64 y2) rfl (by kernel_rfl) (by kernel_rfl) (by kernel_rfl) (fun _ _ _ h => h) (Or.inl ⟨by rfl, ?_⟩) rfl ?_
      · (intro y hy; have h0 := (cell_heap hy 2).trans c2; go_simp)
      simp only [Act.put, List.setIfInBounds_toArray, List.set_cons_zero, List.set_cons_succ]
      refine wpAnyH_take (i := 9) (oi := { dst := some 41, op := Op.move (Operand.tmp 4), type := 45, pos := "ref.go:66", after := #[], guard := none }) (v := ?_) rfl (by kernel_rfl) (by kernel_rfl) (by kernel_rfl) (fun _ _ _ h => h) (Or.inl ⟨by rfl, ?_⟩) rfl ?_
      rotate_left
      · (intro y hy; go_simp; try (with_reducible rfl))
      simp only [Act.put, List.setIfInBounds_toArray, List.set_cons_zero, List.set_cons_succ]
      refine wpAnyH_take (i := 10) (oi := { dst := some 42, op := Op.indexAddr 45 (Operand.tmp 41) (Operand.const (Value.int IntKind.i64 3)), type := 0, pos := "ref.go:66", after := #[{ on := 9, ground := Ground.data }], guard := none }) (v := ?_) rfl (by kernel_rfl) (by kernel_rfl) (by kernel_rfl) (fun _ _ _ h => h) (Or.inl ⟨by rfl, ?_⟩) rfl ?_
      rotate_left
      · (intro y hy; go_simp; try (with_reducible rfl))
      simp only [Act.put, List.setIfInBounds_toArray, List.set_cons_zero, List.set_cons_succ]
      refine wpAnyH_take (i := 11) (oi := { dst := some 43, op := Op.load 3 (Operand.tmp 42), type := 3, pos := "ref.go:66", after := #[{ on := 10, ground := Ground.data }], guard := none }) (v := .int .i64 y3) rfl (by kernel_rfl) (by kernel_rfl) (by kernel_rfl) (fun _ _ _ h => h) (Or.inl ⟨by rfl, ?_⟩) rfl ?_
      · (intro y hy; have h0 := (cell_heap hy 3).trans c3; go_simp)
      simp only [Act.put, List.setIfInBounds_toArray, List.set_cons_zero, List.set_cons_succ]
      refine wpAnyH_take (i := 12) (oi := { dst := some 44, op := Op.build 37 #[(0, Operand.tmp 34), (1, Operand.tmp 37), (2, Operand.tmp 40), (3, Operand.tmp 43)], type := 37, pos := "ref.go:66", after := #[{ on := 2, ground := Ground.data }, { on := 5, ground := Ground.data }, { on := 8, ground := Ground.data }, { on := 11, ground := Ground.data }], guard := none }) (v := ?_) rfl (by kernel_rfl) (by kernel_rfl) (by kernel_rfl) (fun _ _ _ h => h) (Or.inl ⟨by rfl, ?_⟩) rfl ?_
      rotate_left
      · (intro y hy; go_simp; try (with_reducible rfl))
      simp only [Act.put, List.setIfInBounds_toArray, List.set_cons_zero, List.set_cons_succ]
      refine wpAnyH_take (i := 13) (oi := { dst := some 45, op := Op.move (Operand.tmp 5), type := 3, pos := "ref.go:66", after := #[{ on := 17, ground := Ground.gcOnly Departure.lateStores }], guard := none }) (v := ?_) rfl (by kernel_rfl) (by kernel_rfl) (by kernel_rfl) (fun _ _ _ h => h) (Or.inl ⟨by rfl, ?_⟩) rfl ?_
      rotate_left
      · (intro y hy; go_simp; try (with_reducible rfl))
      simp only [Act.put, List.setIfInBounds_toArray, List.set_cons_zero, List.set_cons_succ]
      refine wpAnyH_take (i := 14) (oi := { dst := some 46, op := Op.move (Operand.tmp 0), type := 22, pos := "ref.go:66", after := #[], guard := none }) (v := ?_) rfl (by kernel_rfl) (by kernel_rfl) (by kernel_rfl) (fun _ _ _ h => h) (Or.inl ⟨by rfl, ?_⟩) rfl ?_
      rotate_left
      · (intro y hy; go_simp; try (with_reducible rfl))
      simp only [Act.put, List.setIfInBounds_toArray, List.set_cons_zero, List.set_cons_succ]
      refine wpAnyH_take (i := 15) (oi := { dst := some 47, op := Op.call { callee := Callee.builtin Builtin.len, args := #[Operand.tmp 46], argTypes := #[22] }, type := 3, pos := "ref.go:66", after := #[{ on := 14, ground := Ground.data }], guard := none }) (v := ?_) rfl (by kernel_rfl) (by kernel_rfl) (by kernel_rfl) (fun _ _ _ h => h) (Or.inl ⟨by rfl, ?_⟩) rfl ?_
      rotate_left
      · (intro y hy; go_simp; try (with_reducible rfl))
      simp only [Act.put, List.setIfInBounds_toArray, List.set_cons_zero, List.set_cons_succ]
      refine wpAnyH_take (i := 16) (oi := { dst := some 48, op := Op.binOp BinOp.eql 3 (Operand.tmp 45) (Operand.tmp 47) 3, type := 4, pos := "ref.go:66", after := #[{ on := 13, ground := Ground.data }, { on := 15, ground := Ground.data }, { on := 17, ground := Ground.gcOnly Departure.lateStores }], guard := none }) (v := ?_) rfl (by kernel_rfl) (by kernel_rfl) (by kernel_rfl) (fun _ _ _ h => h) (Or.inl ⟨by rfl, ?_⟩) rfl ?_
      rotate_left
      · (intro y hy; go_simp; try (with_reducible rfl))
      simp only [Act.put, List.setIfInBounds_toArray, List.set_cons_zero, List.set_cons_succ]
      refine wpAnyH_ready (rs := [17]) (by kernel_rfl) (by simp) ?_
      refine AllReadyH.cons (o := { dst := none, op := Op.store 37 (Operand.tmp 2) (Operand.tmp 44), type := 0, pos := "ref.go:66", after := #[{ on := 12, ground := Ground.data }, { on := 0, ground := Ground.phase }, { on := 1, ground := Ground.phase }, { on := 2, ground := Ground.phase }, { on := 3, ground := Ground.phase }, { on := 4, ground := Ground.phase }, { on := 5, ground := Ground.phase }, { on := 6, ground := Ground.phase }, { on := 7, ground := Ground.phase }, { on := 8, ground := Ground.phase }, { on := 9, ground := Ground.phase }, { on := 10, ground := Ground.phase }, { on := 11, ground := Ground.phase }, { on := 12, ground := Ground.phase }, { on := 13, ground := Ground.textOnly Departure.lateStores }, { on := 14, ground := Ground.textOnly Departure.lateStores }, { on := 15, ground := Ground.textOnly Departure.lateStoresUnsure }, { on := 16, ground := Ground.textOnly Departure.lateStores }], guard := none }) rfl (fun K hK => ?_) AllReadyH.nil
      refine step_store_ln (p := zeroL) (p2 := ⟨y0, y1, y2, y3⟩) rfl _ _ rfl (show LnAt wr.drew w.heap.size zeroL from HI.out.2.2.2.2) rfl rfl ?_
      intro x5 z1 z2 z3
      have HG5 : Hid (x5.heap[g]? = wr.heap[g]?) := z3 g (by have := HG.out; omega)
      (refine hK _ _ HG5.out ?_; clear hK K; intro _)
      simp only [Act.put]
      refine wpAnyH_ready (rs := [18]) (by kernel_rfl) (by simp) ?_
      refine AllReadyH.cons (o := { dst := some 3, op := Op.assign (Operand.tmp 48), type := 4, pos := "ref.go:66", after := #[{ on := 16, ground := Ground.data }, { on := 17, ground := Ground.chain }, { on := 0, ground := Ground.phase }, { on := 1, ground := Ground.phase }, { on := 2, ground := Ground.phase }, { on := 3, ground := Ground.phase }, { on := 4, ground := Ground.phase }, { on := 5, ground := Ground.phase }, { on := 6, ground := Ground.phase }, { on := 7, ground := Ground.phase }, { on := 8, ground := Ground.phase }, { on := 9, ground := Ground.phase }, { on := 10, ground := Ground.phase }, { on := 11, ground := Ground.phase }, { on := 12, ground := Ground.phase }, { on := 13, ground := Ground.phase }, { on := 14, ground := Ground.phase }, { on := 15, ground := Ground.phase }, { on := 16, ground := Ground.phase }, { on := 17, ground := Ground.phase }], guard := none }) rfl (fun K hK => ?_) AllReadyH.nil
      go_simp
      (refine hK _ _ HG5.out ?_; clear hK K; intro _)
      try simp only [Act.put, List.setIfInBounds_toArray, List.set_cons_zero, List.set_cons_succ]
      refine wpAnyH_done (by kernel_rfl) ?_ _
      go_wp2
      rw [HK.out]
      exact bodyPost_ret (results_ln2 rfl _ _ _ _ rfl rfl z1) rfl ⟨rfl, z2 _ _ HI.out.2.2.2.1.drew (Nat.le_refl _)⟩
end Go.Proofs.YtfcgcpfckbmgnaaGreat
