/- Own texts, joined: Scb0, Scb1, Sg21, Sg26. -/
import Derived.Test.YtaegmeilhdbnnaaDoorJ22
import Derived.Test.YtaegmeilhdbnnaaDoorJ25
import Derived.Test.YtaegmeilhdbnnaaDoorJ07
import Derived.Test.YtaegmeilhdbnnaaDoorJ19
namespace Go.Proofs.YtaegmeilhdbnnaaDoor
open Go.ChangeShapes Go.WideShapes Go.ChangeAt Go.RowKit Go.Shelf
set_option linter.unusedVariables false
theorem getD_more (t r : List Nat) (i : Nat) (h : i < t.length) : (t ++ r).getD i 0 = t.getD i 0 := by
  rw [List.getD_eq_getElem?_getD, List.getElem?_append_left h, ← List.getD_eq_getElem?_getD]
theorem take_app (t r : List Nat) (i : Nat) (h : i ≤ t.length) : (t ++ r).take i = t.take i := by
  rw [List.take_append, show i - t.length = 0 from by omega, List.take_zero, List.append_nil]
theorem peek_more (t r : List Nat) (h : 16 ≤ t.length) : peekE (t ++ r) = peekE t ∧ pn (t ++ r) = pn t := by
  have e0 := getD_more t r 0 (by omega)
  have e1 : pk (t ++ r) = pk t := getD_more t r 1 (by omega)
  have e2 : pn (t ++ r) = pn t := by unfold pn; rw [getD_more t r 2 (by omega), getD_more t r 3 (by omega)]
  have e3 : ps (t ++ r) = ps t := by
    unfold ps
    rw [List.drop_append, show 4 - t.length = 0 from by omega, List.drop_zero, take_app _ _ _ (by rw [List.length_drop]; omega)]
  have e4 := take_app t r 16 h
  have e5 : ¬ (t ++ r).length < 16 := by rw [List.length_append]; omega
  have e6 : ¬ t.length < 16 := by omega
  refine ⟨?_, e2⟩
  unfold peekE
  rw [e0, e1, e2, e3, e4, if_neg e5, if_neg e6]
theorem dec_more (t r : List Nat) (h : decE t = 61 ∨ decE t = 62) : decE (t ++ r) = decE t := by
  have h16 : 16 ≤ t.length := by
    apply Decidable.byContradiction
    intro hc
    have hp : peekE t = 60 := by unfold peekE; rw [if_pos (by omega)]
    unfold decE at h
    rw [hp, if_pos (by omega)] at h
    omega
  obtain ⟨e1, e2⟩ := peek_more t r h16
  unfold decE at h ⊢
  rw [e1, e2]
  by_cases hp : peekE t = 0
  · have hn0 : ¬ peekE t ≠ 0 := by omega
    rw [if_neg hn0] at h
    rw [if_neg hn0, if_neg hn0]
    by_cases hl : t.length < pn t + 20
    · rw [if_pos hl] at h; omega
    · rw [if_neg hl, if_neg (by rw [List.length_append]; omega), take_app t r _ (by omega)]
  · rw [if_pos hp, if_pos hp]
/-- what scan.All finds in laid frames of which the k-th is turned into one that is none -/
theorem scan_turned (L : List Fi) (h : ∀ f ∈ L, Fok f.k.toNat f.s.toNat f.body) (t r : List Nat) (ht : decE t = 61 ∨ decE t = 62) :
    scanL (layF L ++ (t ++ r)) = plF 0 L ∧ endZ 0 (scanL (layF L ++ (t ++ r))) = (layF L).length ∧ allE (layF L ++ (t ++ r)) = decE t := by
  have hd := dec_more t r ht
  have h0 : scanL (t ++ r) = [] := scanAt_end _ 0 (by rw [List.drop_zero, hd]; rintro ⟨_, h2⟩; omega)
  have s1 := scan_plF (t ++ r) L h
  obtain ⟨_, s2, s3⟩ := scan_lay (t ++ r) L h
  rw [h0] at s1 s2
  refine ⟨by rw [s1]; simp, by rw [s2]; simp [endZ], ?_⟩
  rw [s3]
  unfold allE
  rw [h0]
  show (if 0 = (t ++ r).length then 0 else decE ((t ++ r).drop 0)) = _
  rw [List.drop_zero, hd, if_neg]
  intro hz
  have : t = [] := by
    have : (t ++ r).length = 0 := hz.symm
    rw [List.length_append] at this
    exact List.length_eq_zero_iff.1 (by omega)
  subst this
  revert ht
  decide
theorem lay_split (L : List Fi) (k : Nat) (f : Fi) (hf : L[k]? = some f) : layF L = layF (L.take k) ++ (fL f ++ layF (L.drop (k + 1))) ∧ (layF (L.take (k + 1))).length = (layF (L.take k)).length + (fL f).length := by
  have hk := get_lt hf
  have e1 : L = L.take k ++ f :: L.drop (k + 1) := by
    have h := (List.take_append_drop k L).symm
    rw [List.drop_eq_getElem_cons hk, (List.getElem?_eq_some_iff.1 hf).2] at h
    exact h
  have e2 : L.take (k + 1) = L.take k ++ [f] := by rw [List.take_add_one, hf]; rfl
  refine ⟨?_, by rw [e2, layF_append, List.length_append]; simp [layF]⟩
  conv => lhs; rw [e1]
  rw [layF_append]
  rfl
end Go.Proofs.YtaegmeilhdbnnaaDoor
namespace Go.Proofs.YtaegmeilhdbnnaaDoor.scanBursts
open Go.ChangeShapes Go.WideShapes Go.ChangeAt Go.RowKit
set_option linter.unusedVariables false
theorem mem_getD {l : List Nat} (h : ∀ i, l.getD i 0 < 256) : ∀ x ∈ l, x < 256 := by
  intro x hx
  obtain ⟨n, hn, rfl⟩ := List.mem_iff_getElem.1 hx
  have := h n
  rw [List.getD_eq_getElem?_getD, List.getElem?_eq_getElem hn] at this
  exact this
theorem cases_of (f : Fi) (t : List Nat) (at0 P : Nat) (h : Fok f.k.toNat f.s.toNat f.body) (ht : ∀ x ∈ t, x < 256) (htl : t.length = (fL f).length) (hP : P < 4294967296) (hat : at0 < 8 * (fL f).length) (hv : Crcm.val t = Crcm.val (fL f) ^^^ turned at0 P (8 * (fL f).length - at0) 32) :
    decide (t = fL f) = true ∨ (decide (t = fL f) = false ∧ (decE t = 61 ∨ decE t = 62)) := by
  by_cases he : t = fL f
  · exact .inl (decide_eq_true he)
  · exact .inr ⟨decide_eq_false he, burst_frame _ _ f.body t at0 P h.byt h.k1 h.k7 h.len h.seq ht htl hP hat hv he⟩
theorem plc_of2 {w : World} {base N c : Nat} {a : Option Addr} {xs : List It} (h : OwnP w base (.slice a N c) xs) : PlcA w a xs := scanTorn.plc_of2 h
end Go.Proofs.YtaegmeilhdbnnaaDoor.scanBursts
namespace Go.Proofs.YtaegmeilhdbnnaaDoor
open Go.ChangeShapes Go.WideShapes Go.ChangeAt Go.RowKit
set_option linter.unusedVariables false
/-- a laid segment whose k-th event, or footer, is turned into what is none -/
theorem seg_turned (x y k : Nat) (A : Nat → Option Addr) (L : Nat → List Nat) (C : Nat → Nat) (hx1 : 1 ≤ x) (hx : x ≤ 999999) (hy1 : 1 ≤ y) (hy : y ≤ 549755813888) (hk : k ≤ 512) (hb : EvB k L) (t r : List Nat) (ht : decE t = 61 ∨ decE t = 62) (l : List Nat) (hl : l = hdrL x y ++ (layF (evF y k A L C) ++ (t ++ r))) :
    hdr l = some (x, y) ∧ hoX l = x ∧ hoY l = y ∧ sgE l = plF (hdrL x y).length (evF y k A L C) ∧ sgG l = (hdrL x y).length + (layF (evF y k A L C)).length ∧ sgF l = 0 ∧ sgN l = 0 := by
  have hh : hdr l = some (x, y) := by rw [hl]; exact hdr_back x y _ hx1 hx hy1 (by omega)
  have hX : hoX l = x := by unfold hoX; rw [hh]; rfl
  have hY : hoY l = y := by unfold hoY; rw [hh]; rfl
  obtain ⟨q1, q2⟩ := hdr_body x y hx (by omega)
  have hpn : pn l + 20 = (hdrL x y).length := by
    rw [hl, hdrL_len]
    unfold hdrL
    rw [pn_laid 2 x (nencs [x, y]) _ q1 (by omega) (by omega) (by omega) (by omega)]
  have hdrop : l.drop (pn l + 20) = layF (evF y k A L C) ++ (t ++ r) := by rw [hpn, hl, List.drop_left]
  obtain ⟨s1, s2, s3⟩ := scan_turned (evF y k A L C) (evF_ok (y := y) (A := A) (C := C) hb hk hy) t r ht
  have hE : sgE l = plF (hdrL x y).length (evF y k A L C) := by
    unfold sgE runL
    rw [hY, hdrop, s1, plF_run y A L C k hk, hpn, plF_shift, Nat.add_zero]
  have hG : sgG l = (hdrL x y).length + (layF (evF y k A L C)).length := by unfold sgG; rw [hE, hpn, plF_end]
  have hF : sgF l = 0 := by
    unfold sgF
    refine ftS_no _ _ _ _ (.inl ?_)
    have hd : l.drop (sgG l) = t ++ r := by rw [hG, ← List.drop_drop, ← hpn, hdrop, List.drop_left]
    rw [hd, dec_more t r ht]
    omega
  refine ⟨hh, hX, hY, hE, hG, hF, ?_⟩
  unfold sgN ftN
  rw [if_pos]
  exact hF
/-- the footer of a laid segment -/
theorem foot_ok (x y n : Nat) (A : Nat → Option Addr) (L : Nat → List Nat) (C : Nat → Nat) (st : Nat) (hx1 : 1 ≤ x) (hx : x ≤ 999999) (hy1 : 1 ≤ y) (hy : y ≤ 549755813888) (hn1 : 1 ≤ n) (hn : n ≤ 512) (hb : EvB n L) (hst1 : 1 ≤ st) (hst : st ≤ 64) (hl : (hdrL x y ++ layF (evF y n A L C)).length ≤ 16777216) :
    ftE (hdrL x y ++ layF (evF y n A L C)) (st : Int) = 0 ∧ ∃ E : List Fm, EvOk y E ∧ ftV (hdrL x y ++ layF (evF y n A L C)) (st : Int) = sealL x y E st := by
  obtain ⟨l, hll⟩ : ∃ l, hdrL x y ++ layF (evF y n A L C) = l := ⟨_, rfl⟩
  obtain ⟨c1, c2, c3, c4, c5, c6, c7⟩ := seg_cut x y n A L C hx1 hx hy1 hy hn hb n (layF (evF y n A L C)).length (Nat.le_refl _) (Nat.le_refl _) (.inl ⟨rfl, rfl⟩) l (by rw [List.take_of_length_le (Nat.le_refl _)]; exact hll.symm)
  rw [hll] at hl ⊢
  have hmem : ∀ z ∈ l, z < 256 := by
    intro z hz
    rw [← hll] at hz
    rcases List.mem_append.1 hz with h | h
    · obtain ⟨q1, q2⟩ := hdr_body x y hx (by omega)
      exact frameL_lt 2 x _ (by omega) q1 z h
    · have hf := evF_ok (y := y) (A := A) (C := C) hb hn hy
      have : ∀ M : List Fi, (∀ f ∈ M, Fok f.k.toNat f.s.toNat f.body) → ∀ z ∈ layF M, z < 256 := by
        intro M
        induction M with
        | nil => intro _ z hz; cases hz
        | cons f r ih =>
          intro hM z hz
          rcases List.mem_append.1 hz with h | h
          · have hfo := hM f (List.mem_cons_self ..)
            exact frameL_lt _ _ _ (by have := hfo.k7; omega) hfo.byt z h
          · exact ih (fun g hg => hM g (List.mem_cons_of_mem _ hg)) z h
      exact this _ hf z h
  obtain ⟨_, _, _, _, _, _, hY2, _, hpn⟩ := hdr_some l hmem x y c1
  have hS : stB (st : Int) = true := decide_eq_true ⟨by omega, by omega⟩
  have hE0 : ftE l (st : Int) = 0 := by
    unfold ftE
    rw [if_neg (by rw [hS]; simp), if_neg (by rw [c1]; simp), if_neg (by omega), if_neg (by rw [c5, ← hll, List.length_append]; omega), if_neg (by intro h; rw [h] at c4; simp at c4; omega)]
  refine ⟨hE0, sgE l, ?_, ?_⟩
  · unfold sgE
    rw [c3]
    exact (runL_ok l (pn l + 20) y hy1 hpn hl).1
  · unfold ftV
    rw [if_pos hE0, c2, c3]
    rfl
/-- all frames of a sealed segment -/
def segF (x y n : Nat) (A : Nat → Option Addr) (L : Nat → List Nat) (C : Nat → Nat) (fb : List Nat) : List Fi := ⟨2, (x : Int), nencs [x, y], none, 0⟩ :: (evF y n A L C ++ [⟨3, (x : Int), fb, none, 0⟩])
theorem segF_len (x y n : Nat) (A : Nat → Option Addr) (L : Nat → List Nat) (C : Nat → Nat) (fb : List Nat) : (segF x y n A L C fb).length = n + 2 := by
  simp [segF, evF_len]
theorem segF_lay (x y n : Nat) (A : Nat → Option Addr) (L : Nat → List Nat) (C : Nat → Nat) (fb : List Nat) : layF (segF x y n A L C fb) = (hdrL x y ++ layF (evF y n A L C)) ++ frameL 3 x fb := by
  unfold segF
  simp only [layF, layF_append, List.append_nil]
  rw [List.append_assoc]
  rfl
theorem segF_take (x y n : Nat) (A : Nat → Option Addr) (L : Nat → List Nat) (C : Nat → Nat) (fb : List Nat) (k : Nat) (hk : k ≤ n) : layF ((segF x y n A L C fb).take (k + 1)) = hdrL x y ++ layF (evF y k A L C) := by
  unfold segF
  rw [List.take_succ_cons, List.take_append, evF_len, show k - n = 0 from by omega, List.take_zero, List.append_nil, evF_take y n A L C k hk]
  rfl
theorem segF_ok (x y n : Nat) (A : Nat → Option Addr) (L : Nat → List Nat) (C : Nat → Nat) (fb : List Nat) (hx : x ≤ 999999) (hy : y ≤ 549755813888) (hn : n ≤ 512) (hb : EvB n L) (hf : ∀ z ∈ fb, z < 256) (hfl : fb.length ≤ 16384) : ∀ f ∈ segF x y n A L C fb, Fok f.k.toNat f.s.toNat f.body := by
  intro f hfm
  rcases List.mem_cons.1 hfm with rfl | h
  · obtain ⟨q1, q2⟩ := hdr_body x y hx (by omega)
    exact ⟨q1, by simp, by simp, by simp only; omega, by simp only [Int.toNat_natCast]; omega⟩
  · rcases List.mem_append.1 h with h | h
    · exact evF_ok hb hn hy f h
    · simp at h
      subst h
      exact ⟨hf, by simp, by simp, hfl, by simp only [Int.toNat_natCast]; omega⟩
end Go.Proofs.YtaegmeilhdbnnaaDoor
namespace Go.Proofs.YtaegmeilhdbnnaaDoor
open Go.ChangeShapes Go.WideShapes Go.ChangeAt Go.RowKit
set_option linter.unusedVariables false
theorem runN_stop (first most : Int) (i : Nat) (f : Fm) (r : List Fm) (h : f.kind ≠ 1) : runN first most i (f :: r) = [] := by
  unfold runN
  rw [if_pos (.inr (.inl h))]
/-- what Scan finds in a laid segment with its footer behind it -/
theorem seg_sealed (x y n : Nat) (A : Nat → Option Addr) (L : Nat → List Nat) (C : Nat → Nat) (st : Nat) (hx1 : 1 ≤ x) (hx : x ≤ 999999) (hy1 : 1 ≤ y) (hy : y ≤ 549755813888) (hn1 : 1 ≤ n) (hn : n ≤ 512) (hb : EvB n L) (hst1 : 1 ≤ st) (hst : st ≤ 64) (hlen : (hdrL x y ++ layF (evF y n A L C)).length + 10300 ≤ 16777216) :
    ∃ E : List Fm, E = plF (hdrL x y).length (evF y n A L C) ∧ EvOk y E ∧ ftE (hdrL x y ++ layF (evF y n A L C)) (st : Int) = 0 ∧ ftV (hdrL x y ++ layF (evF y n A L C)) (st : Int) = sealL x y E st ∧
      (∀ l, l = (hdrL x y ++ layF (evF y n A L C)) ++ sealL x y E st → hdr l = some (x, y) ∧ hoX l = x ∧ hoY l = y ∧ sgE l = E ∧ sgG l = (hdrL x y ++ layF (evF y n A L C)).length ∧ sgF l = st ∧ sgN l = (sealL x y E st).length ∧ sgM l = bldL (st : Int) (E.map evP)) := by
  obtain ⟨l0, hl0⟩ : ∃ l, hdrL x y ++ layF (evF y n A L C) = l := ⟨_, rfl⟩
  obtain ⟨c1, c2, c3, c4, c5, c6, c7⟩ := seg_cut x y n A L C hx1 hx hy1 hy hn hb n (layF (evF y n A L C)).length (Nat.le_refl _) (Nat.le_refl _) (.inl ⟨rfl, rfl⟩) l0 (by rw [List.take_of_length_le (Nat.le_refl _)]; exact hl0.symm)
  obtain ⟨q1, q2⟩ := hdr_body x y hx (by omega)
  have hok := evF_ok (y := y) (A := A) (C := C) hb hn hy
  have pnl : ∀ r, pn (hdrL x y ++ r) + 20 = (hdrL x y).length := fun r => by
    rw [hdrL_len]
    unfold hdrL
    rw [pn_laid 2 x (nencs [x, y]) _ q1 (by omega) (by omega) (by omega) (by omega)]
  have hE0 : sgE l0 = plF (hdrL x y).length (evF y n A L C) := by
    unfold sgE runL
    rw [c3, ← hl0, pnl, List.drop_left]
    have s1 := scan_plF [] (evF y n A L C) hok
    rw [List.append_nil, show scanL [] = [] from rfl, List.map_nil, List.append_nil] at s1
    rw [s1, plF_run y A L C n hn, plF_shift, Nat.add_zero]
  obtain ⟨f1, E', hE', f2⟩ := foot_ok x y n A L C st hx1 hx hy1 hy hn1 hn hb hst1 hst (by omega)
  have hS : stB (st : Int) = true := decide_eq_true ⟨by omega, by omega⟩
  have hEV : ftV l0 (st : Int) = sealL x y (sgE l0) st := by
    rw [hl0] at f1
    unfold ftV
    rw [if_pos f1, c2, c3]
    rfl
  have hmem : ∀ z ∈ l0, z < 256 := by
    intro z hz
    rw [← hl0] at hz
    rcases List.mem_append.1 hz with h | h
    · exact frameL_lt 2 x _ (by omega) q1 z h
    · have : ∀ M : List Fi, (∀ f ∈ M, Fok f.k.toNat f.s.toNat f.body) → ∀ z ∈ layF M, z < 256 := by
        intro M
        induction M with
        | nil => intro _ z hz; cases hz
        | cons f r ih =>
          intro hM z hz
          rcases List.mem_append.1 hz with h | h
          · have hfo := hM f (List.mem_cons_self ..)
            exact frameL_lt _ _ _ (by have := hfo.k7; omega) hfo.byt z h
          · exact ih (fun g hg => hM g (List.mem_cons_of_mem _ hg)) z h
      exact this _ hok z h
  have hok0 : EvOk y (sgE l0) := by
    obtain ⟨_, _, _, _, _, _, _, _, hpn⟩ := hdr_some l0 hmem x y c1
    unfold sgE
    rw [c3]
    exact (runL_ok l0 (pn l0 + 20) y hy1 hpn (by rw [← hl0]; omega)).1
  rw [hE0] at hEV hok0
  refine ⟨_, rfl, hok0, f1, by rw [hl0]; exact hEV, fun l hl => ?_⟩
  obtain ⟨E, hEE⟩ : ∃ E, plF (hdrL x y).length (evF y n A L C) = E := ⟨_, rfl⟩
  rw [hEE] at hl hok0 ⊢
  have hne : E ≠ [] := by
    intro h
    have h2 := congrArg List.length hEE
    rw [h, plF_len, evF_len] at h2
    simp at h2
    omega
  obtain ⟨ff1, ff2, _⟩ := foot_facts y E st hok0 (by omega) hst
  have hl2 : l = hdrL x y ++ (layF (evF y n A L C) ++ sealL x y E st) := by rw [hl, List.append_assoc]
  have hh : hdr l = some (x, y) := by rw [hl2]; exact hdr_back x y _ hx1 hx hy1 (by omega)
  have hX : hoX l = x := by unfold hoX; rw [hh]; rfl
  have hY : hoY l = y := by unfold hoY; rw [hh]; rfl
  have hpn : pn l + 20 = (hdrL x y).length := by rw [hl2]; exact pnl _
  have hdrop : l.drop (pn l + 20) = layF (evF y n A L C) ++ sealL x y E st := by rw [hpn, hl2, List.drop_left]
  have hfk : Fok 3 x (footB y E st) := ⟨ff1, by omega, by omega, by omega, by omega⟩
  have hsc : scanL (layF (evF y n A L C) ++ sealL x y E st) = plF 0 (evF y n A L C) ++ (scanL (sealL x y E st)).map (sh (layF (evF y n A L C)).length) := scan_plF _ _ hok
  have hss : scanL (sealL x y E st) = [⟨0, 3, x, footB y E st⟩] := by
    have h2 := scanL_frame hfk []
    rw [List.append_nil, show scanL [] = [] from rfl] at h2
    exact h2
  have hrun : runN (y : Int) 512 0 (scanL (layF (evF y n A L C) ++ sealL x y E st)) = plF 0 (evF y n A L C) := by
    rw [hsc, hss]
    have h2 := runN_acc (y : Int) 512 (plF 0 (evF y n A L C)) 0 ([(⟨0, 3, x, footB y E st⟩ : Fm)].map (sh (layF (evF y n A L C)).length)) (fun j f hf => by
      have hj : j < n := by have := get_lt hf; rw [plF_len, evF_len] at this; exact this
      obtain ⟨q, hq⟩ := plF_get (evF y n A L C) 0 j _ (evF_get y n A L C j hj)
      rw [hq] at hf
      simp only [Option.some.injEq] at hf
      subst hf
      refine ⟨by omega, by simp, ?_⟩
      simp only [Int.toNat_natCast]
      omega)
    rw [h2]
    simp only [List.map_cons, List.map_nil]
    rw [runN_stop _ _ _ _ _ (by simp [sh]), List.append_nil]
  have hE : sgE l = E := by
    unfold sgE runL
    rw [hY, hdrop, hrun, hpn, plF_shift, Nat.add_zero, hEE]
  have hG : sgG l = (hdrL x y).length + (layF (evF y n A L C)).length := by unfold sgG; rw [hE, hpn, ← hEE, plF_end]
  have hd : l.drop (sgG l) = sealL x y E st := by rw [hG, ← List.drop_drop, ← hpn, hdrop, List.drop_left]
  obtain ⟨a1, a2, a3, a4, a5⟩ := dec_laid 3 x (footB y E st) [] ff1 (by omega) (by omega) (by omega) (by omega)
  rw [List.append_nil] at a1 a2 a3 a4 a5
  have hsd : sealL x y E st = frameL 3 x (footB y E st) := rfl
  have hF : sgF l = st := by
    unfold sgF
    rw [hX, hY, hE, hd, hsd]
    refine ftS_try _ (frameL_lt 3 x _ (by omega) ff1) x y E hok0 hne (by omega) a1 ?_ ?_ st hst1 hst a5
    · unfold decK at a2; rw [if_pos a1] at a2; exact a2
    · unfold decS at a3; rw [if_pos a1] at a3; exact a3
  refine ⟨hh, hX, hY, hE, by rw [hG, List.length_append], hF, ?_, ?_⟩
  · have hN : sgN l = pn (l.drop (sgG l)) + 20 := by
      unfold sgN ftN
      rw [if_neg]
      show ¬ sgF l = 0
      omega
    rw [hN, hd, hsd, frameL_length]
    have h2 := pn_laid 3 x (footB y E st) [] ff1 (by omega) (by omega) (by omega) (by omega)
    rw [List.append_nil] at h2
    rw [h2]
  · unfold sgM
    rw [hF, if_neg (by omega), hE]
end Go.Proofs.YtaegmeilhdbnnaaDoor
