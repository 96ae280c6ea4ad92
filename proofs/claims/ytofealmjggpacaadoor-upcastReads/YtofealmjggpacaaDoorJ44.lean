/- Own texts, joined: Tles, Sr3, Sr4, Rdec. -/
import Derived.Test.YtofealmjggpacaaDoorJ43
import Derived.Test.YtofealmjggpacaaDoorJ34
import Derived.Test.YtofealmjggpacaaDoorJ36
import Derived.Test.YtofealmjggpacaaDoorJ42
import Derived.Test.YtofealmjggpacaaDoorJ41
import Derived.Test.YtofealmjggpacaaDoorJ39
import Derived.Test.YtofealmjggpacaaDoorRows
import Derived.Test.YtofealmjggpacaaDoorJ06
namespace Go.Proofs.YtofealmjggpacaaDoor
open Go.ChangeShapes Go.WideShapes Go.ChangeAt Go.RowKit
set_option linter.unusedVariables false
theorem encs_small (fs : List Fld) : (encs fs 0 []).1.length ≤ 1024 := by
  obtain ⟨r, e, h⟩ : ∃ r e, encs fs 0 [] = (r, e) := ⟨_, _, rfl⟩
  by_cases he : e = 0
  · subst he; rw [h]; exact (encs_pre _ _ _ _ h).2
  · rw [encs_err fs 0 [] (by rw [h]; exact he)]; simp
end Go.Proofs.YtofealmjggpacaaDoor
namespace Go.Proofs.YtofealmjggpacaaDoor
open Go.ChangeShapes Go.WideShapes Go.ChangeAt Go.RowKit
set_option linter.unusedVariables false
end Go.Proofs.YtofealmjggpacaaDoor
namespace Go.Proofs.YtofealmjggpacaaDoor
open Go.ChangeShapes Go.WideShapes Go.ChangeAt Go.RowKit
set_option linter.unusedVariables false
theorem tk_33 : ∀ (ts : List (Int × Bool)) (fs : List Fld) (e : Nat), e = 0 ∨ e = 33 → (ts.foldl (fun (S : List Fld × Nat) x => (delF S.1 x.1, errF S.1 S.2 x.1 x.2)) (fs, e)).2 = 0 ∨ (ts.foldl (fun (S : List Fld × Nat) x => (delF S.1 x.1, errF S.1 S.2 x.1 x.2)) (fs, e)).2 = 33
  | [], fs, e, h => h
  | x :: r, fs, e, h => by
    rw [List.foldl_cons]
    refine tk_33 r _ _ ?_
    show errF fs e x.1 x.2 = 0 ∨ errF fs e x.1 x.2 = 33
    unfold errF
    rcases getF fs x.1 with _ | f
    · exact h
    · simp only
      split
      · exact h
      · exact .inr rfl
/-- what the reference lays at a tag -/
def rval (v : Int) (fs : List Fld) (t : Nat) : Int := if t = 4 ∧ v ≤ 2 then zag (numF fs (t : Int) : Int) else capN (numF fs (t : Int))
def NL (v : Int) (fs : List Fld) : List Int := (List.range 11).map (rval v fs)
theorem NL_len (v : Int) (fs : List Fld) : (NL v fs).length = 11 := by simp [NL]
theorem NL_get (v : Int) (fs : List Fld) (t : Nat) (h : t < 11) : (NL v fs).getD t 0 = rval v fs t := by
  unfold NL
  rw [List.getD_eq_getElem?_getD, List.getElem?_map, List.getElem?_range h]
  rfl
theorem getF_snoc (fs : List Fld) (f : Fld) (t : Int) : getF (fs ++ [f]) t = (getF fs t).or (if f.tag = t then some f else none) := by
  unfold getF
  rw [List.find?_append]
  congr 1
  by_cases h : f.tag = t
  · simp [h]
  · simp [h]
theorem numF_snoc_other {fs : List Fld} {f : Fld} {t : Int} (h : f.tag ≠ t) : numF (fs ++ [f]) t = numF fs t := by
  unfold numF
  rw [getF_snoc, if_neg h]
  rcases getF fs t with _ | g <;> rfl
theorem numF_snoc_text {fs : List Fld} {f : Fld} (hn : getF fs f.tag = none) (hx : f.text = true) (t : Int) : numF (fs ++ [f]) t = numF fs t := by
  by_cases h : f.tag = t
  · subst h
    unfold numF
    rw [getF_snoc, hn, if_pos rfl]
    show (if f.text = false then f.num else 0) = 0
    rw [if_neg (by rw [hx]; simp)]
  · exact numF_snoc_other h
theorem numF_snoc_same {fs : List Fld} {f : Fld} (hn : getF fs f.tag = none) (hx : f.text = false) : numF (fs ++ [f]) f.tag = f.num := by
  unfold numF
  rw [getF_snoc, hn, if_pos rfl]
  show (if f.text = false then f.num else 0) = f.num
  rw [if_pos hx]
theorem txtF_snoc_other {fs : List Fld} {f : Fld} {t : Int} (h : f.tag ≠ t) : txtF (fs ++ [f]) t = txtF fs t := by
  unfold txtF
  rw [getF_snoc, if_neg h]
  rcases getF fs t with _ | g <;> rfl
theorem txtF_snoc_same {fs : List Fld} {f : Fld} (hn : getF fs f.tag = none) (hx : f.text = true) : txtF (fs ++ [f]) f.tag = f.bytes := by
  unfold txtF
  rw [getF_snoc, hn, if_pos rfl]
  show (if f.text = true then f.bytes else []) = f.bytes
  rw [if_pos hx]
/-- the event that the reference builds -/
def evN (v : Int) (fs : List Fld) : Ev := ⟨rval v fs 1, rval v fs 2, rval v fs 3, rval v fs 4, rval v fs 5, rval v fs 6, rval v fs 7, str8 (txtF fs 8), rval v fs 9, str8 (txtF fs 10)⟩
theorem evN_eq {v : Int} {fs : List Fld} (h1 : 1 ≤ v) (h5 : v ≤ 5) (h : ∀ f ∈ fs, f.tag ≤ hasV v) : ({ evV v fs with qty := qtyV v fs } : Ev) = evN v fs := by
  have off : ∀ t, hasV v < t → numF fs t = 0 ∧ txtF fs t = [] := fun t ht => by
    have hg : getF fs t = none := getF_none.2 (fun f hf e => by have := h f hf; omega)
    unfold numF txtF
    rw [hg]
    exact ⟨rfl, rfl⟩
  have hq : qtyV v fs = rval v fs 4 := by
    unfold qtyV rval
    by_cases h2 : v ≤ 2
    · rw [if_pos h2, if_pos ⟨rfl, h2⟩]; rfl
    · rw [if_neg h2, if_neg (fun h => h2 h.2)]; rfl
  have r : ∀ t : Nat, t ≠ 4 → rval v fs t = capN (numF fs (t : Int)) := fun t ht => if_neg (fun h => ht h.1)
  have r6 := r 6 (by decide)
  have r7 := r 7 (by decide)
  have r9 := r 9 (by decide)
  have z0 : capN 0 = 0 := rfl
  have hv : v = 1 ∨ v = 2 ∨ v = 3 ∨ v = 4 ∨ v = 5 := by omega
  unfold evN
  rw [hq, r 1 (by decide), r 2 (by decide), r 3 (by decide), r 5 (by decide), r6, r7, r9]
  rcases hv with rfl | rfl | rfl | rfl | rfl
  · rw [show ((6 : Nat) : Int) = 6 from rfl, show ((7 : Nat) : Int) = 7 from rfl, show ((9 : Nat) : Int) = 9 from rfl, (off 6 (by decide)).1, (off 7 (by decide)).1, (off 8 (by decide)).2, (off 9 (by decide)).1, (off 10 (by decide)).2]; rfl
  · rw [show ((7 : Nat) : Int) = 7 from rfl, show ((9 : Nat) : Int) = 9 from rfl, (off 7 (by decide)).1, (off 8 (by decide)).2, (off 9 (by decide)).1, (off 10 (by decide)).2]; rfl
  · rw [show ((9 : Nat) : Int) = 9 from rfl, (off 8 (by decide)).2, (off 9 (by decide)).1, (off 10 (by decide)).2]; rfl
  · rw [show ((9 : Nat) : Int) = 9 from rfl, (off 9 (by decide)).1, (off 10 (by decide)).2]; rfl
  · rfl
/-- a field of the version's tags has the wrong form -/
theorem sdec_wrong {v : Int} {l : List Nat} (h1 : 1 ≤ v) (h5 : v ≤ 5) (hr : (recs l).2.2 = 0) (hp : (recs l).1.Pairwise (fun f g => f.tag < g.tag)) (hb : ∀ f ∈ (recs l).1, 1 ≤ f.tag) {f : Fld} (hf : f ∈ (recs l).1) (ht : f.tag ≤ hasV v) (hx : f.text ≠ isT f.tag) : sdec v l = (zeroE, 33) := by
  have e1 : tkE (recs l).1 (tgV v) = 33 := by
    rcases tk_33 (tgV v) (recs l).1 0 (.inl rfl) with h | h
    · exfalso
      obtain ⟨x, hxm, hxt⟩ := (tgV_mem h1 h5 f.tag).2 ⟨hb f hf, ht⟩
      have := tk_right (tgV v) _ (tgV_apart h1 h5) h x hxm f (by rw [← hxt]; exact getF_of_mem hp hf)
      rw [tgV_text h1 h5 x hxm, ← hxt] at this
      exact hx this
    · exact h
  rw [show sdec v l = sdR v (evV v) (qtyV v) (tgV v) l from if_neg (by omega)]
  unfold sdR
  rw [if_neg (by simp [hr]), e1]
  rfl
theorem sdec_forms {v : Int} {l : List Nat} (h1 : 1 ≤ v) (h5 : v ≤ 5) (h : ∀ f ∈ (recs l).1, f.tag ≤ hasV v → f.text = isT f.tag) : tkE (recs l).1 (tgV v) = 0 := by
  refine tk_zero _ _ (fun x hx f hf => ?_)
  obtain ⟨m1, m2⟩ := getF_mem hf
  have h3 := (tgV_mem h1 h5 x.1).1 ⟨x, hx, rfl⟩
  rw [h f m1 (by omega), m2, tgV_text h1 h5 x hx]
theorem sdec_alien {v : Int} {l : List Nat} (h1 : 1 ≤ v) (h5 : v ≤ 5) (hr : (recs l).2.2 = 0) (h : ∀ f ∈ (recs l).1, f.tag ≤ hasV v → f.text = isT f.tag) {f : Fld} (hf : f ∈ (recs l).1) (ht : hasV v < f.tag) : sdec v l = (zeroE, 20) := by
  have e1 := sdec_forms h1 h5 h
  have e2 : errR (tkF (recs l).1 (tgV v)) (tkE (recs l).1 (tgV v)) = 20 := by
    unfold errR
    rw [if_neg (by simp [e1]), if_pos]
    refine List.length_pos_of_mem ((tkF_mem f _ _).2 ⟨hf, fun x hx e => ?_⟩)
    have h3 := (tgV_mem h1 h5 x.1).1 ⟨x, hx, rfl⟩
    omega
  rw [show sdec v l = sdR v (evV v) (qtyV v) (tgV v) l from if_neg (by omega)]
  unfold sdR
  rw [if_neg (by simp [hr]), e2]
  rfl
theorem sdec_fine {v : Int} {l : List Nat} (h1 : 1 ≤ v) (h5 : v ≤ 5) (hr : (recs l).2.2 = 0) (hb : ∀ f ∈ (recs l).1, 1 ≤ f.tag) (h : ∀ f ∈ (recs l).1, f.tag ≤ hasV v → f.text = isT f.tag) (ht : ∀ f ∈ (recs l).1, f.tag ≤ hasV v) : sdec v l = if chk v (evN v (recs l).1) ≠ 0 then (zeroE, chk v (evN v (recs l).1)) else (evN v (recs l).1, 0) := by
  have e1 := sdec_forms h1 h5 h
  have e2 : errR (tkF (recs l).1 (tgV v)) (tkE (recs l).1 (tgV v)) = 0 := errR_zero.2 ⟨e1, fun f hf => (tgV_mem h1 h5 f.tag).2 ⟨hb f hf, ht f hf⟩⟩
  rw [show sdec v l = sdR v (evV v) (qtyV v) (tgV v) l from if_neg (by omega)]
  unfold sdR
  rw [if_neg (by simp [hr]), if_neg (by simp [e2]), evN_eq h1 h5 ht]
end Go.Proofs.YtofealmjggpacaaDoor
namespace Go.Proofs.YtofealmjggpacaaDoor
open Go.ChangeShapes Go.WideShapes Go.ChangeAt Go.RowKit
theorem val7_append (l : List Nat) (c : Nat) : val7 (l ++ [c]) = val7 l + c % 128 * 128 ^ l.length := by
  induction l with
  | nil => simp [val7]
  | cons x r ih =>
    simp only [List.cons_append, val7, List.length_cons]
    rw [ih, Nat.pow_succ]
    grind
theorem val7_lt (l : List Nat) : val7 l < 128 ^ l.length := by
  induction l with
  | nil => simp [val7]
  | cons x r ih =>
    simp only [val7, List.length_cons]
    rw [Nat.pow_succ]
    omega
theorem val7_drop (l : List Nat) (j : Nat) : val7 (l.drop j) ≤ val7 l := by
  induction l generalizing j with
  | nil => simp
  | cons x r ih =>
    cases j with
    | zero => simp
    | succ j =>
      have := ih j
      simp only [List.drop_succ_cons, val7]
      omega
theorem take_snoc_at (l : List Nat) (k c : Nat) (h : k < l.length) (hc : c = l.getD k 0) : l.take (k + 1) = l.take k ++ [c] := by
  subst hc
  rw [List.take_succ_eq_append_getElem h, List.getD_eq_getElem?_getD, List.getElem?_eq_getElem h]; rfl
theorem dec_stop (l : List Nat) (k : Nat) (hk : k ≤ l.length) (hk9 : k ≤ 9) (h : ∀ j, j < k → 128 ≤ l.getD j 0) : dec 0 0 l = dec k (val7 (l.take k)) (l.drop k) := by
  induction k with
  | zero => simp [val7]
  | succ k ih =>
    rw [ih (by omega) (by omega) (fun j hj => h j (by omega)), drop_at l k _ (by omega) rfl, dec_cons]
    have := h k (by omega)
    rw [if_neg (by omega), if_pos this, take_snoc_at l k _ (by omega) rfl, val7_append, List.length_take, Nat.min_eq_left (by omega)]
theorem val7_top (l : List Nat) (k c : Nat) (h : k < l.length) (hc : c = l.getD k 0) (h256 : c < 256) (hk : k ≤ 8 ∨ (k = 9 ∧ c ≤ 1)) : val7 (l.take (k + 1)) ≤ 18446744073709551615 := by
  have h1 := val7_lt (l.take k)
  rw [List.length_take, Nat.min_eq_left (by omega)] at h1
  have h2 := or_step _ c k h1 h256 hk
  rw [take_snoc_at l k c h hc, val7_append, List.length_take, Nat.min_eq_left (by omega)]
  omega
theorem drop_take_step (l : List Nat) (k j c : Nat) (h : k < l.length) (hj : j ≤ k) (hc : c = l.getD j 0) : val7 ((l.take (k + 1)).drop j) = c % 128 + 128 * val7 ((l.take (k + 1)).drop (j + 1)) := by
  have h1 : j < (l.take (k + 1)).length := by rw [List.length_take]; omega
  have h2 : c = (l.take (k + 1)).getD j 0 := by
    rw [hc, List.getD_eq_getElem?_getD, List.getD_eq_getElem?_getD, List.getElem?_take, if_pos (by omega)]
  rw [drop_at _ j c h1 h2]
  rfl
set_option maxRecDepth 20000 in
set_option maxHeartbeats 2000000 in
theorem rdec_any (l : List Nat) (a : Option Addr) (cap : Nat) (w : World) (hb : Bytes w a l) (hl : l.length ≤ maxLen) :
    Calls Tryd.prog 29 #[.slice a l.length cap] w fun e w' => e = .returned (.tuple #[.int .u64 (dec 0 0 l).1, .int .i64 (dec 0 0 l).2.1, .int .i64 (dec 0 0 l).2.2]) ∧ w = w' := by
  unfold maxLen at hl
  obtain ⟨hby, rfl | ⟨b, off, rfl, hlt, hcell⟩⟩ := hb
  · go_enter Tryd.func29, Tryd.ntmps29
    go_wp2
    refine wp_loop_rounds 1 ?_
    rw [rounds_succ]
    go_wp2
    go_ret3
    exact ⟨rfl, rfl⟩
  · go_enter Tryd.func29, Tryd.ntmps29
    go_wp2
    go_loop [5] (fun i => ∃ k : Nat, k ≤ l.length ∧ k ≤ 9 ∧ i = .int .i64 k ∧ ∀ j, j < k → 128 ≤ l.getD j 0) (fun i => l.length - (intOf i).toNat)
    case atStart => exact ⟨0, Nat.zero_le _, by omega, rfl, fun j hj => by omega⟩
    case round =>
      obtain ⟨k, hk, hk9, rfl, hj⟩ := hrel
      have HJ : Hid (∀ j, j < k → 128 ≤ l.getD j 0) := hj
      have HD : Hid (_ = _) := dec_stop l k hk hk9 hj
      clear hj
      have HCELL : Hid (∀ i, i < l.length → w.cell? ⟨b, off + i, none⟩ = some (.int .u8 (l.getD i 0 : Nat))) := hcell
      have HBY : Hid (∀ i, l.getD i 0 < 256) := hby
      by_cases hkl : k < l.length
      · have hc := hcell k hkl
        have hc256 := hby k
        obtain ⟨c, hcE⟩ : ∃ c, c = l.getD k 0 := ⟨_, rfl⟩
        rw [← hcE] at hc hc256
        have HC : Hid (c = l.getD k 0) := hcE
        clear hcE hcell hby
        have HT : Hid (c < 128 → ¬ (k = 9 ∧ 1 < c) → ¬ (c = 0 ∧ 0 < k) → dec 0 0 l = (val7 (l.take (k + 1)), k + 1, 0)) := by
          show _ → _
          intro h1 h2 h3
          rw [HD.out, drop_at l k c hkl HC.out, dec_cons, if_neg h2, if_neg (by omega), if_neg h3, take_snoc_at l k c hkl HC.out, val7_append, List.length_take, Nat.min_eq_left (by omega)]
        have HV : Hid (k ≤ 8 ∨ (k = 9 ∧ c ≤ 1) → val7 (l.take (k + 1)) ≤ 18446744073709551615) := fun h => val7_top l k c hkl HC.out hc256 h
        have HDC : Hid (dec 0 0 l = if k = 9 ∧ 1 < c then (0, 0, 12) else if 128 ≤ c then dec (k + 1) (val7 (l.take k) + c % 128 * 128 ^ k) (l.drop (k + 1)) else if c = 0 ∧ 0 < k then (0, 0, 11) else (val7 (l.take k) + c % 128 * 128 ^ k, k + 1, 0)) := by
          show _ = _
          rw [HD.out, drop_at l k c hkl HC.out, dec_cons]
        clear HD
        have hkb : k < 9 ∨ k = 9 := by omega
        rcases hkb with hk8 | rfl
        · have hkn : ((k : Int) == 9) = false := by simp; omega
          have hkl2 : ((k : Int) == (l.length : Int)) = false := by simp; omega
          by_cases hc128 : 128 ≤ c
          · go_wp2
            go_round
            case rel =>
              refine ⟨k + 1, by omega, by omega, by go_num, fun j hj => ?_⟩
              by_cases hjk : j < k
              · exact HJ.out j hjk
              · obtain rfl : j = k := by omega
                rw [← HC.out]; exact hc128
            case measure => first | (simp [intOf]; done) | (simp [intOf]; omega)
          · have hc128' : (c : Int) < 128 := by omega
            have hgeq : ¬ (128 : Int) ≤ (c : Int) := by omega
            by_cases h11 : c = 0 ∧ 0 < k
            · have HE : Hid (dec 0 0 l = (0, 0, 11)) := by
                show _ = _
                rw [HDC.out, if_neg (by omega), if_neg hc128, if_pos h11]
              have hc0 : ((c : Int) == 0) = true := by simp; omega
              have hk0 : (0 : Int) < (k : Int) := by omega
              clear HDC HT HV HJ HBY HCELL HC hc128 h11
              go_wp2
              go_ret3
              exact ⟨by rw [HE.out]; rfl, rfl⟩
            · have HE : Hid (_ = _) := HT.out (by omega) (by omega) h11
              have hval := HV.out (by omega)
              clear HDC HT HV HJ HC hc128
              by_cases hk0 : 0 < k
              · have hc0 : ((c : Int) == 0) = false := by simp; omega
                have hk0' : (0 : Int) < (k : Int) := by omega
                clear h11 hk0
                go_wp2
                go_loop [6, 7] (fun vu vi => ∃ j u : Nat, j ≤ k + 1 ∧ vu = .int .u64 u ∧ u = val7 ((l.take (k + 1)).drop j) ∧ ((j = 0 ∧ vi = .int .i64 (-1)) ∨ ∃ j' : Nat, j = j' + 1 ∧ vi = .int .i64 j')) (fun _ vi => (intOf vi + 1).toNat)
                case atStart => exact ⟨k + 1, 0, Nat.le_refl _, rfl, by rw [List.drop_eq_nil_of_le (by rw [List.length_take]; omega)]; rfl, .inr ⟨k, rfl, rfl⟩⟩
                case round =>
                  obtain ⟨j, u, hjk, rfl, hu, hvi⟩ := hrel
                  have HU : Hid (u = val7 ((l.take (k + 1)).drop j)) := hu
                  clear hu
                  rcases hvi with ⟨rfl, rfl⟩ | ⟨j', rfl, rfl⟩
                  · clear HCELL HBY
                    go_wp2
                    go_ret3
                    rw [HE.out]
                    exact ⟨ret3 (by rw [HU.out]; rfl) rfl rfl, rfl⟩
                  · have hd := HCELL.out j' (by omega)
                    have hd256 := HBY.out j'
                    obtain ⟨d, hdE⟩ : ∃ d, d = l.getD j' 0 := ⟨_, rfl⟩
                    rw [← hdE] at hd hd256
                    have HS : Hid (_ = _) := drop_take_step l k j' d hkl (by omega) hdE
                    have hB1 := val7_drop (l.take (k + 1)) j'
                    rw [HS.out, ← HU.out] at hB1
                    have hB2 : (u : Int) * 128 + (d : Int) % 128 ≤ 18446744073709551615 := by omega
                    have hB3 : (u : Int) * 128 ≤ 18446744073709551615 := by omega
                    have hjl : (j' : Int) < (l.length : Int) := by omega
                    clear hB1 hdE
                    go_wp2
                    go_round
                    case rel =>
                      refine ⟨j', u * 128 + d % 128, by omega, by go_num, by rw [HS.out, ← HU.out]; omega, ?_⟩
                      cases j' with
                      | zero => exact .inl ⟨rfl, rfl⟩
                      | succ j'' => exact .inr ⟨j'', rfl, by go_num⟩
                    case measure => first | (simp [intOf]; done) | (simp [intOf]; omega)
              · have hk0' : ¬ (0 : Int) < (k : Int) := by omega
                clear h11 hk0
                go_wp2
                go_loop [6, 7] (fun vu vi => ∃ j u : Nat, j ≤ k + 1 ∧ vu = .int .u64 u ∧ u = val7 ((l.take (k + 1)).drop j) ∧ ((j = 0 ∧ vi = .int .i64 (-1)) ∨ ∃ j' : Nat, j = j' + 1 ∧ vi = .int .i64 j')) (fun _ vi => (intOf vi + 1).toNat)
                case atStart => exact ⟨k + 1, 0, Nat.le_refl _, rfl, by rw [List.drop_eq_nil_of_le (by rw [List.length_take]; omega)]; rfl, .inr ⟨k, rfl, rfl⟩⟩
                case round =>
                  obtain ⟨j, u, hjk, rfl, hu, hvi⟩ := hrel
                  have HU : Hid (u = val7 ((l.take (k + 1)).drop j)) := hu
                  clear hu
                  rcases hvi with ⟨rfl, rfl⟩ | ⟨j', rfl, rfl⟩
                  · clear HCELL HBY
                    go_wp2
                    go_ret3
                    rw [HE.out]
                    exact ⟨ret3 (by rw [HU.out]; rfl) rfl rfl, rfl⟩
                  · have hd := HCELL.out j' (by omega)
                    have hd256 := HBY.out j'
                    obtain ⟨d, hdE⟩ : ∃ d, d = l.getD j' 0 := ⟨_, rfl⟩
                    rw [← hdE] at hd hd256
                    have HS : Hid (_ = _) := drop_take_step l k j' d hkl (by omega) hdE
                    have hB1 := val7_drop (l.take (k + 1)) j'
                    rw [HS.out, ← HU.out] at hB1
                    have hB2 : (u : Int) * 128 + (d : Int) % 128 ≤ 18446744073709551615 := by omega
                    have hB3 : (u : Int) * 128 ≤ 18446744073709551615 := by omega
                    have hjl : (j' : Int) < (l.length : Int) := by omega
                    clear hB1 hdE
                    go_wp2
                    go_round
                    case rel =>
                      refine ⟨j', u * 128 + d % 128, by omega, by go_num, by rw [HS.out, ← HU.out]; omega, ?_⟩
                      cases j' with
                      | zero => exact .inl ⟨rfl, rfl⟩
                      | succ j'' => exact .inr ⟨j'', rfl, by go_num⟩
                    case measure => first | (simp [intOf]; done) | (simp [intOf]; omega)
        · have hkl2 : ((9 : Int) == (l.length : Int)) = false := by simp; omega
          by_cases hc1 : 1 < c
          · have HE : Hid (dec 0 0 l = (0, 0, 12)) := by
              show _ = _
              rw [HDC.out, if_pos ⟨rfl, hc1⟩]
            have hc1' : (1 : Int) < (c : Int) := by omega
            clear HDC HT HV HJ HBY HCELL HC hc1
            go_wp2
            go_ret3
            exact ⟨by rw [HE.out]; rfl, rfl⟩
          · have hc1' : ¬ (1 : Int) < (c : Int) := by omega
            by_cases h11 : c = 0
            · have HE : Hid (dec 0 0 l = (0, 0, 11)) := by
                show _ = _
                rw [HDC.out, if_neg (by omega), if_neg (by omega), if_pos (by omega)]
              have hc0 : ((c : Int) == 0) = true := by simp; omega
              clear HDC HT HV HJ HBY HCELL HC hc1 h11
              go_wp2
              go_ret3
              exact ⟨by rw [HE.out]; rfl, rfl⟩
            · have HE : Hid (_ = _) := HT.out (by omega) (by omega) (by omega)
              have hval := HV.out (by omega)
              have hc0 : ((c : Int) == 0) = false := by simp; omega
              clear HDC HT HV HJ HC hc1 h11
              go_wp2
              go_loop [6, 7] (fun vu vi => ∃ j u : Nat, j ≤ 9 + 1 ∧ vu = .int .u64 u ∧ u = val7 ((l.take (9 + 1)).drop j) ∧ ((j = 0 ∧ vi = .int .i64 (-1)) ∨ ∃ j' : Nat, j = j' + 1 ∧ vi = .int .i64 j')) (fun _ vi => (intOf vi + 1).toNat)
              case atStart => exact ⟨9 + 1, 0, Nat.le_refl _, rfl, by rw [List.drop_eq_nil_of_le (by rw [List.length_take]; omega)]; rfl, .inr ⟨9, rfl, rfl⟩⟩
              case round =>
                obtain ⟨j, u, hjk, rfl, hu, hvi⟩ := hrel
                have HU : Hid (u = val7 ((l.take (9 + 1)).drop j)) := hu
                clear hu
                rcases hvi with ⟨rfl, rfl⟩ | ⟨j', rfl, rfl⟩
                · clear HCELL HBY
                  go_wp2
                  go_ret3
                  rw [HE.out]
                  exact ⟨ret3 (by rw [HU.out]; rfl) rfl rfl, rfl⟩
                · have hd := HCELL.out j' (by omega)
                  have hd256 := HBY.out j'
                  obtain ⟨d, hdE⟩ : ∃ d, d = l.getD j' 0 := ⟨_, rfl⟩
                  rw [← hdE] at hd hd256
                  have HS : Hid (_ = _) := drop_take_step l 9 j' d hkl (by omega) hdE
                  have hB1 := val7_drop (l.take (9 + 1)) j'
                  rw [HS.out, ← HU.out] at hB1
                  have hB2 : (u : Int) * 128 + (d : Int) % 128 ≤ 18446744073709551615 := by omega
                  have hB3 : (u : Int) * 128 ≤ 18446744073709551615 := by omega
                  have hjl : (j' : Int) < (l.length : Int) := by omega
                  clear hB1 hdE
                  go_wp2
                  go_round
                  case rel =>
                    refine ⟨j', u * 128 + d % 128, by omega, by go_num, by rw [HS.out, ← HU.out]; omega, ?_⟩
                    cases j' with
                    | zero => exact .inl ⟨rfl, rfl⟩
                    | succ j'' => exact .inr ⟨j'', rfl, by go_num⟩
                  case measure => first | (simp [intOf]; done) | (simp [intOf]; omega)
      · have hkl2 : ((k : Int) == (l.length : Int)) = true := by simp; omega
        have HE : Hid (dec 0 0 l = (0, 0, 10)) := by
          show _ = _
          rw [HD.out, List.drop_eq_nil_of_le (by omega)]; rfl
        clear HD HJ hcell hby HBY HCELL
        go_wp2
        go_ret3
        exact ⟨by rw [HE.out]; rfl, rfl⟩
theorem rdec_at (l : List Nat) (n u k e : Nat) (a : Option Addr) (cap : Nat) (w : World) (e1 : l.length = n) (hd : dec 0 0 l = (u, k, e)) (hb : Bytes w a l) (hl : l.length ≤ maxLen) :
    Calls Tryd.prog 29 #[.slice a n cap] w fun x w' => x = .returned (.tuple #[.int .u64 u, .int .i64 k, .int .i64 e]) ∧ w = w' := by
  subst e1
  refine (rdec_any l a cap w hb hl).mono ?_
  rw [hd]
  exact fun _ _ h => h
end Go.Proofs.YtofealmjggpacaaDoor
