/- Own texts, joined: Mkn, Sg7. -/
import Derived.Test.YtfnkhpijcbpeoaaDoorK30
import Derived.Test.YtfnkhpijcbpeoaaDoorK04
import Derived.Test.YtfnkhpijcbpeoaaDoorK22
import Derived.Test.YtfnkhpijcbpeoaaDoorK28
namespace Go.Proofs.YtfnkhpijcbpeoaaDoor
open Go.ChangeShapes Go.WideShapes Go.ChangeAt Go.RowKit
set_option linter.unusedVariables false
theorem mkN_dls : ∀ (L acc : List Mk) (s a a' : Int), 0 ≤ s → 0 ≤ a → a ≤ a' + 1 → vfrom s a' L = true → mkN acc s a (dls s a L) = some (acc ++ L)
  | [], acc, s, a, a', _, _, _, _ => by simp [dls, mkN]
  | p :: r, acc, s, a, a', h0, h1, h2, hv => by
    obtain ⟨g1, g2, g3, g4, g5⟩ := vfrom_head hv
    show mkN acc s a ((p.1 - s).toNat :: (p.2 - a).toNat :: dls p.1 p.2 r) = _
    rw [mkN_cons, if_neg (by omega), show s + ((p.1 - s).toNat : Int) = p.1 from by omega, show a + ((p.2 - a).toNat : Int) = p.2 from by omega, mkN_dls r _ p.1 p.2 p.2 (by omega) (by omega) (by omega) g5]
    simp
theorem decAll_most (l r : List Nat) (most : Int) (hn : l.length ≤ 18446744073709551615) (hm : ∀ x ∈ l, x ≤ 18446744073709551615) (hmo : l.length ≤ most.toNat) : decAll (encAll l ++ r) most = (l, (encAll l).length, 0) := by
  have hd : dec 0 0 (encAll l ++ r) = (l.length, (enc l.length).length, 0) := by
    unfold encAll
    rw [List.append_assoc]
    exact dec_back _ _ hn
  unfold decAll
  rw [hd, if_neg (by simp), if_neg (by simp only; omega)]
  have h := decN_flat l hm (enc l.length) r []
  unfold encAll
  rw [List.append_assoc]
  rw [h]
  simp
theorem mDec_back (L : List Mk) (h : validB L = true) : mDec (mEnc L) = (L, 0) := by
  have hlen := valid_len h
  have hd := decAll_most (dls 0 0 L) [] 1024 (by rw [dls_length]; omega) (mEnc_le L h) (by rw [dls_length]; show _ ≤ 1024; omega)
  rw [List.append_nil] at hd
  have hk : mksR (dls 0 0 L) = (L, true) := by
    unfold mksR
    rw [dls_length, if_neg (by omega), mkN_dls L [] 0 0 (-1) (by omega) (by omega) (by omega) (valid_from h)]
    rfl
  rw [mEnc, mDec_eq hd, hk, if_neg (by simp [h])]
/-- what a list's numbers are read from -/
theorem decN_form : ∀ (c : Nat) (l : List Nat) (p : Nat) (acc R : List Nat) (q : Nat), (∀ x ∈ l, x < 256) → vdecN c l p acc = (R, q, 0) → ∃ rest : List Nat, R = acc ++ rest ∧ rest.length = c ∧ l.drop p = flat rest ++ l.drop q
  | 0, l, p, acc, R, q, hl, h => by
    have h1 : (acc, p, 0) = (R, q, 0) := h
    cases h1
    exact ⟨[], by simp, rfl, by simp [flat]⟩
  | c + 1, l, p, acc, R, q, hl, h => by
    obtain ⟨u, k, e, hd⟩ : ∃ u k e, dec 0 0 (l.drop p) = (u, k, e) := ⟨_, _, _, rfl⟩
    rw [decN_succ c l p acc u k e hd] at h
    by_cases he : e = 0
    · subst he
      rw [if_pos rfl] at h
      obtain ⟨rest, h1, h2, h3⟩ := decN_form c l (p + k) (acc ++ [u]) R q hl h
      have hf := vdec_form (l.drop p) (fun x hx => hl x (List.mem_of_mem_drop hx)) (by rw [hd])
      rw [hd] at hf
      simp only at hf
      obtain ⟨f1, f2, f3, f4, f5⟩ := hf
      refine ⟨u :: rest, by rw [h1]; simp, by simp [h2], ?_⟩
      have hsp : (l.drop p).take k ++ (l.drop p).drop k = l.drop p := List.take_append_drop k _
      rw [List.drop_drop, ← f5, h3] at hsp
      rw [← hsp]
      simp [flat]
    · rw [if_neg he] at h
      have h5 := congrArg (fun x => x.2.2) h
      exact absurd h5 he
theorem decAll_form (l U : List Nat) (q : Nat) (hl : ∀ x ∈ l, x < 256) (h : decAll l 1024 = (U, q, 0)) : l = encAll U ++ l.drop q := by
  obtain ⟨u, k, e, hd⟩ : ∃ u k e, dec 0 0 l = (u, k, e) := ⟨_, _, _, rfl⟩
  unfold decAll at h
  rw [hd] at h
  simp only at h
  by_cases he : e = 0
  · subst he
    rw [if_neg (by simp)] at h
    by_cases hb : (1024 : Int).toNat < u
    · rw [if_pos hb] at h
      cases h
    · rw [if_neg hb] at h
      obtain ⟨rest, h1, h2, h3⟩ := decN_form u l k [] U q hl h
      have hf := vdec_form l hl (by rw [hd])
      rw [hd] at hf
      simp only at hf
      obtain ⟨f1, f2, f3, f4, f5⟩ := hf
      have hsp : l.take k ++ l.drop k = l := List.take_append_drop k _
      rw [← f5, h3] at hsp
      rw [List.nil_append] at h1
      subst h1
      unfold encAll
      rw [h2, List.append_assoc]
      exact hsp.symm
  · rw [if_pos he] at h
    have h5 := congrArg (fun x => x.2.2) h
    exact absurd h5 he
theorem mkN_form : ∀ (n : Nat) (U : List Nat) (acc : List Mk) (s a : Int) (M : List Mk), U.length = 2 * n → mkN acc s a U = some M → ∃ L, M = acc ++ L ∧ dls s a L = U
  | 0, U, acc, s, a, M, hn, h => by
    have : U = [] := List.length_eq_zero_iff.1 (by omega)
    subst this
    have h1 : some acc = some M := h
    cases h1
    exact ⟨[], by simp, rfl⟩
  | n + 1, [], acc, s, a, M, hn, h => by simp at hn
  | n + 1, [x], acc, s, a, M, hn, h => by simp at hn; omega
  | n + 1, x :: y :: r, acc, s, a, M, hn, h => by
    rw [mkN_cons] at h
    split at h
    · cases h
    · obtain ⟨L, h1, h2⟩ := mkN_form n r (acc ++ [(s + x, a + y)]) (s + x) (a + y) M (by simp at hn; omega) h
      refine ⟨(s + x, a + y) :: L, by rw [h1]; simp, ?_⟩
      simp only [dls]
      rw [h2, show (s + (x : Int) - s).toNat = x from by omega, show (a + (y : Int) - a).toNat = y from by omega]
theorem mDec_ok (l : List Nat) (L : List Mk) (hl : ∀ x ∈ l, x < 256) (h : mDec l = (L, 0)) : validB L = true ∧ mEnc L = l := by
  obtain ⟨U, p, e, hd⟩ : ∃ U p e, decAll l 1024 = (U, p, e) := ⟨_, _, _, rfl⟩
  by_cases he : e = 0
  · subst he
    rw [mDec_eq hd] at h
    split at h
    · cases h
    · rename_i hno
      have hp : p = l.length := by
        by_cases hh : p = l.length
        · exact hh
        · exact absurd (.inl hh) hno
      have hok : (mksR U).2 = true := by
        cases hb : (mksR U).2 with
        | true => rfl
        | false => exact absurd (.inr (.inl hb)) hno
      have hv : validB (mksR U).1 = true := by
        cases hb : validB (mksR U).1 with
        | true => rfl
        | false => exact absurd (.inr (.inr hb)) hno
      have hL : (mksR U).1 = L := congrArg Prod.fst h
      rw [hL] at hv
      refine ⟨hv, ?_⟩
      have hev : U.length % 2 = 0 := by
        by_cases hh : U.length % 2 = 1
        · unfold mksR at hok
          rw [if_pos hh] at hok
          cases hok
        · omega
      have hmk : mkN [] 0 0 U = some L := by
        unfold mksR at hok hL
        rw [if_neg (by omega)] at hok hL
        cases hx : mkN [] 0 0 U with
        | none => rw [hx] at hok; cases hok
        | some M => rw [hx] at hL; simp only at hL; rw [hL]
      obtain ⟨M, h1, h2⟩ := mkN_form (U.length / 2) U [] 0 0 L (by omega) hmk
      rw [List.nil_append] at h1
      subst h1
      have hf := decAll_form l U p hl hd
      rw [hp, List.drop_length, List.append_nil] at hf
      unfold mEnc
      rw [h2]
      exact hf.symm
  · rw [mDec_bad hd he] at h
    have h5 := congrArg (fun x => x.2) h
    exact absurd h5 he
theorem mDec_err (l : List Nat) (h : (mDec l).2 ≠ 0) : (mDec l).1 = [] := by
  obtain ⟨U, p, e, hd⟩ : ∃ U p e, decAll l 1024 = (U, p, e) := ⟨_, _, _, rfl⟩
  by_cases he : e = 0
  · subst he
    rw [mDec_eq hd] at h ⊢
    split
    · rfl
    · rename_i hh
      rw [if_neg hh] at h
      exact absurd rfl h
  · rw [mDec_bad hd he]
theorem mEnc_len (L : List Mk) (h : validB L = true) : (mEnc L).length ≤ 10250 := by
  have h1 := flat_length (dls 0 0 L) (mEnc_le L h)
  have h2 := valid_len h
  have h3 := enc_length_le (2 * L.length) (by omega)
  unfold mEnc encAll
  rw [List.length_append, dls_length]
  rw [dls_length] at h1
  omega
end Go.Proofs.YtfnkhpijcbpeoaaDoor
namespace Go.Proofs.YtfnkhpijcbpeoaaDoor
open Go.ChangeShapes Go.WideShapes Go.ChangeAt Go.RowKit
set_option linter.unusedVariables false
/-- what an index tells of an event -/
def evP (f : Fm) : Mk := ((f.seq : Int), (f.pos : Int))
/-- events of rising numbers and places -/
structure EvOk (y : Nat) (E : List Fm) : Prop where
  len : E.length ≤ 512
  pos1 : 1 ≤ y
  nth : ∀ i f, E[i]? = some f → f.seq = y + i
  mem : ∀ f ∈ E, f.seq ≤ 1099511627776 ∧ f.pos ≤ 1099511627776 ∧ f.kind = 1
  rise : E.Pairwise (fun a b => a.pos < b.pos)
theorem bw_sub (s : Nat) : ∀ (k : Nat) (r : List Mk), (bw s k r).Sublist r
  | _, [] => by unfold bw; exact List.Sublist.refl _
  | 0, p :: r => by unfold bw; exact (bw_sub s (s - 1) r).cons_cons p
  | k + 1, p :: r => by unfold bw; exact (bw_sub s k r).cons p
theorem bldL_sub (st : Int) (P : List Mk) : (bldL st P).Sublist P := by
  unfold bldL
  split
  · exact List.nil_sublist _
  · exact bw_sub _ _ _
theorem vfrom_of : ∀ (L : List Mk) (s a : Int), (∀ p ∈ L, s < p.1 ∧ a < p.2 ∧ p.1 ≤ 1099511627776 ∧ p.2 ≤ 1099511627776) → L.Pairwise (fun p q => p.1 < q.1 ∧ p.2 < q.2) → vfrom s a L = true
  | [], _, _, _, _ => rfl
  | p :: r, s, a, h, hp => by
    obtain ⟨h1, h2, h3, h4⟩ := h p (List.mem_cons_self ..)
    rw [vfrom_cons, if_neg (by omega)]
    refine vfrom_of r p.1 p.2 (fun q hq => ?_) (List.pairwise_cons.1 hp).2
    obtain ⟨g1, g2⟩ := (List.pairwise_cons.1 hp).1 q hq
    obtain ⟨_, _, g3, g4⟩ := h q (List.mem_cons_of_mem _ hq)
    exact ⟨g1, g2, g3, g4⟩
theorem EvOk.seqs {y : Nat} {E : List Fm} (h : EvOk y E) : (E.map evP).Pairwise (fun p q => p.1 < q.1 ∧ p.2 < q.2) := by
  rw [List.pairwise_map]
  rw [List.pairwise_iff_getElem]
  intro i j hi hj hij
  have h1 := h.nth i E[i] (List.getElem?_eq_getElem hi)
  have h2 := h.nth j E[j] (List.getElem?_eq_getElem hj)
  have h3 := (List.pairwise_iff_getElem.1 h.rise) i j hi hj hij
  simp only [evP]
  omega
theorem EvOk.marks {y : Nat} {E : List Fm} (h : EvOk y E) (st : Int) : validB (bldL st (E.map evP)) = true := by
  have hs := bldL_sub st (E.map evP)
  have hl := hs.length_le
  rw [List.length_map] at hl
  have h5 := h.len
  rw [validB_short (by omega)]
  refine vfrom_of _ 0 (-1) (fun p hp => ?_) (h.seqs.sublist hs)
  obtain ⟨f, hf, rfl⟩ := List.mem_map.1 (hs.subset hp)
  obtain ⟨i, hi, rfl⟩ := List.mem_iff_getElem.1 hf
  have h1 := h.nth i E[i] (List.getElem?_eq_getElem hi)
  obtain ⟨h2, h3, _⟩ := h.mem _ hf
  have h4 := h.pos1
  simp only [evP]
  omega
theorem runN_get (first most : Int) : ∀ (L : List Fm) (i j : Nat) (f : Fm), (runN first most i L)[j]? = some f → L[j]? = some f ∧ ((i + j : Nat) : Int) < most ∧ f.kind = 1 ∧ (f.seq : Int) = first + ((i + j : Nat) : Int)
  | [], i, j, f, h => by simp [runN] at h
  | g :: L, i, j, f, h => by
    unfold runN at h
    by_cases hc : most ≤ (i : Int) ∨ g.kind ≠ 1 ∨ (g.seq : Int) ≠ first + (i : Int)
    · rw [if_pos hc] at h; simp at h
    · rw [if_neg hc] at h
      cases j with
      | zero =>
        simp only [List.getElem?_cons_zero, Option.some.injEq] at h
        subst h
        refine ⟨rfl, by omega, ?_, by omega⟩
        apply Decidable.byContradiction
        intro hk
        exact hc (.inr (.inl hk))
      | succ j =>
        simp only [List.getElem?_cons_succ] at h ⊢
        have := runN_get first most L (i + 1) j f h
        rwa [show i + 1 + j = i + (j + 1) from by omega] at this
theorem runN_pre (first most : Int) : ∀ (L : List Fm) (i : Nat), (runN first most i L).Sublist L
  | [], i => by unfold runN; exact List.Sublist.refl _
  | g :: L, i => by
    unfold runN
    split
    · exact List.nil_sublist _
    · exact (runN_pre first most L (i + 1)).cons_cons g
theorem scanN_rise (l : List Nat) : ∀ (f p : Nat), (scanN f l p).Pairwise (fun a b => a.pos < b.pos) ∧ ∀ x ∈ scanN f l p, p ≤ x.pos
  | 0, p => by unfold scanN; exact ⟨List.Pairwise.nil, fun x hx => by cases hx⟩
  | f + 1, p => by
    unfold scanN
    split
    · rename_i hc
      obtain ⟨h1, h2⟩ := scanN_rise l f (p + decN (l.drop p))
      have hd := (decN_pos hc.2).1
      refine ⟨List.pairwise_cons.2 ⟨fun x hx => ?_, h1⟩, fun x hx => ?_⟩
      · have := h2 x hx
        simp only
        omega
      · rcases List.mem_cons.1 hx with rfl | hx
        · exact Nat.le_refl _
        · have := h2 x hx
          omega
    · exact ⟨List.Pairwise.nil, fun x hx => by cases hx⟩
theorem runL_ok (l : List Nat) (d y : Nat) (hy : 1 ≤ y) (hd : d ≤ l.length) (hl : l.length ≤ 16777216) : EvOk y (runL l d (y : Int) 512) ∧ ∀ f ∈ runL l d (y : Int) 512, d ≤ f.pos ∧ f.body.length ≤ 16384 ∧ f.pos + f.body.length + 20 ≤ l.length := by
  have hfac : ∀ g ∈ runN (y : Int) 512 0 (scanL (l.drop d)), g.body.length ≤ 16384 ∧ g.pos + g.body.length + 20 ≤ (l.drop d).length := fun g hg => scanL_facts _ g ((runN_pre _ _ _ _).subset hg)
  refine ⟨⟨?_, hy, ?_, ?_, ?_⟩, ?_⟩
  · unfold runL
    rw [List.length_map]
    apply Decidable.byContradiction
    intro hc
    have hlt : 512 < (runN (y : Int) 512 0 (scanL (l.drop d))).length := by omega
    have := (runN_get (y : Int) 512 _ 0 512 _ (List.getElem?_eq_getElem hlt)).2.1
    omega
  · intro i f hf
    unfold runL at hf
    rw [List.getElem?_map] at hf
    obtain ⟨g, hg, rfl⟩ := Option.map_eq_some_iff.1 hf
    have := (runN_get (y : Int) 512 _ 0 i g hg).2.2.2
    simp only [sh]
    omega
  · intro f hf
    unfold runL at hf
    obtain ⟨g, hg, rfl⟩ := List.mem_map.1 hf
    have h1 := hfac g hg
    have h2 := scanN_seq (l.drop d) _ 0 g ((runN_pre _ _ _ _).subset hg)
    obtain ⟨i, hi, he⟩ := List.mem_iff_getElem.1 hg
    have h3 := (runN_get (y : Int) 512 _ 0 i g (by rw [List.getElem?_eq_getElem hi, he])).2.2.1
    rw [List.length_drop] at h1
    simp only [sh]
    exact ⟨h2, by omega, h3⟩
  · unfold runL
    rw [List.pairwise_map]
    refine List.Pairwise.imp ?_ ((scanN_rise (l.drop d) _ 0).1.sublist (runN_pre (y : Int) 512 _ 0))
    intro a b h
    simp only [sh]
    omega
  · intro f hf
    unfold runL at hf
    obtain ⟨g, hg, rfl⟩ := List.mem_map.1 hf
    have h1 := hfac g hg
    rw [List.length_drop] at h1
    simp only [sh]
    omega
/-- the body of a footer -/
def footB (y : Nat) (E : List Fm) (st : Nat) : List Nat := nencs [y, E.length, st] ++ mEnc (bldL (st : Int) (E.map evP))
def sealL (x y : Nat) (E : List Fm) (st : Nat) : List Nat := frameL 3 x (footB y E st)
theorem foot_facts (y : Nat) (E : List Fm) (st : Nat) (h : EvOk y E) (hy : y ≤ 1099511627777) (hst : st ≤ 64) : (∀ z ∈ footB y E st, z < 256) ∧ (footB y E st).length ≤ 10280 ∧ (∀ z ∈ [y, E.length, st], z ≤ 1099511627777) ∧ mEnc (bldL (st : Int) (E.map evP)) ≠ [] ∧ (mEnc (bldL (st : Int) (E.map evP))).length ≤ 10250 := by
  have hv := h.marks (st : Int)
  have hz : ∀ z ∈ [y, E.length, st], z ≤ 1099511627777 := by
    have := h.len
    intro z hz
    simp at hz
    omega
  have hz2 : ∀ z ∈ [y, E.length, st], z ≤ 18446744073709551615 := fun z hh => by have := hz z hh; omega
  have h1 := (nencs_len _ hz2).1
  have h2 := mEnc_len _ hv
  refine ⟨fun z hz3 => ?_, ?_, hz, ?_, h2⟩
  · rcases List.mem_append.1 hz3 with h3 | h3
    · exact nencs_lt _ hz2 z h3
    · have hl := valid_len hv
      exact encAll_lt _ (by rw [dls_length]; omega) (mEnc_le _ hv) z h3
  · unfold footB
    rw [List.length_append]
    simp only [List.length_cons, List.length_nil] at h1
    omega
  · intro he
    have hl := valid_len hv
    have h3 := (enc_length_le (dls 0 0 (bldL (st : Int) (E.map evP))).length (by rw [dls_length]; omega)).1
    unfold mEnc encAll at he
    have := congrArg List.length he
    rw [List.length_append] at this
    simp only [List.length_nil] at this
    omega
/-- the stride that the frame with which l begins tells, if it seals the events E; else 0 -/
def ftS (l : List Nat) (x y : Nat) (E : List Fm) : Nat :=
  if decE l = 0 ∧ pk l = 3 ∧ ps l = x ∧ E ≠ [] then
    match nrd 3 (decB l) with
    | some ([_, _, st], _) => if 1 ≤ st ∧ st ≤ 64 ∧ decB l = footB y E st then st else 0
    | _ => 0
  else 0
theorem nrd_three (l : List Nat) (hl : ∀ x ∈ l, x < 256) (ns r : List Nat) (h : nrd 3 l = some (ns, r)) : ∃ x y z, ns = [x, y, z] ∧ x ≤ 1099511627777 ∧ y ≤ 1099511627777 ∧ z ≤ 1099511627777 := by
  obtain ⟨h1, _, h3⟩ := nrd_form 3 l hl ns r h
  match ns, h1 with
  | [x, y, z], _ => exact ⟨x, y, z, rfl, h3 x (by simp), h3 y (by simp), h3 z (by simp)⟩
theorem foot_nrd (y : Nat) (E : List Fm) (st : Nat) (h : EvOk y E) (hy : y ≤ 1099511627777) (hst : st ≤ 64) : nrd 3 (footB y E st) = some ([y, E.length, st], mEnc (bldL (st : Int) (E.map evP))) :=
  nrd_back [y, E.length, st] _ (foot_facts y E st h hy hst).2.2.1
/-- our way: the frame is held against the bytes that would seal -/
theorem ftS_of (l : List Nat) (hl : ∀ y ∈ l, y < 256) (x y : Nat) (E : List Fm) (hE : EvOk y E) (hne : E ≠ []) (hy : y ≤ 1099511627777) (hx : x ≤ 999999) (h0 : decE l = 0) (u v st : Nat) (r : List Nat) (hr : nrd 3 (decB l) = some ([u, v, st], r)) :
    ftS l x y E = if 1 ≤ st ∧ st ≤ 64 ∧ l.take (pn l + 20) = sealL x y E st then st else 0 := by
  obtain ⟨b1, b2, b3, b4, b5, b6, b7⟩ := decB_facts hl h0
  have hf := dec_form l hl h0
  rw [← decB_eq h0] at hf
  unfold ftS
  rw [hr]
  by_cases hst : 1 ≤ st ∧ st ≤ 64
  · obtain ⟨q1, q2, _⟩ := foot_facts y E st hE hy hst.2
    by_cases hs : l.take (pn l + 20) = sealL x y E st
    · have hi := frameL_inj _ _ _ _ _ _ (hf.symm.trans hs) b1 q1 b4 b5 b2 b6 (by omega) (by omega) (by omega) (by omega)
      rw [if_pos ⟨h0, hi.1, hi.2.1, hne⟩]
      simp only
      rw [if_pos ⟨hst.1, hst.2, hi.2.2⟩, if_pos ⟨hst.1, hst.2, hs⟩]
    · have hR : (if 1 ≤ st ∧ st ≤ 64 ∧ l.take (pn l + 20) = sealL x y E st then st else 0) = 0 := if_neg (fun h => hs h.2.2)
      rw [hR]
      by_cases hc : decE l = 0 ∧ pk l = 3 ∧ ps l = x ∧ E ≠ []
      · rw [if_pos hc]
        simp only
        rw [if_neg]
        rintro ⟨_, _, h3⟩
        apply hs
        rw [hf, hc.2.1, hc.2.2.1, h3]
        rfl
      · rw [if_neg hc]
  · have hR : (if 1 ≤ st ∧ st ≤ 64 ∧ l.take (pn l + 20) = sealL x y E st then st else 0) = 0 := if_neg (fun h => hst ⟨h.1, h.2.1⟩)
    rw [hR]
    by_cases hc : decE l = 0 ∧ pk l = 3 ∧ ps l = x ∧ E ≠ []
    · rw [if_pos hc]
      simp only
      rw [if_neg (fun h => hst ⟨h.1, h.2.1⟩)]
    · rw [if_neg hc]
theorem ftS_no (l : List Nat) (x y : Nat) (E : List Fm) (h : decE l ≠ 0 ∨ pk l ≠ 3 ∨ ps l ≠ x ∨ E = []) : ftS l x y E = 0 := by
  unfold ftS
  rw [if_neg]
  rintro ⟨h1, h2, h3, h4⟩
  rcases h with h | h | h | h
  · exact h h1
  · exact h h2
  · exact h h3
  · exact h4 h
theorem ftS_none (l : List Nat) (x y : Nat) (E : List Fm) (h : nrd 3 (decB l) = none) : ftS l x y E = 0 := by
  unfold ftS
  rw [h]
  split <;> rfl
/-- the document's way: every stride is tried -/
theorem ftS_try (l : List Nat) (hl : ∀ y ∈ l, y < 256) (x y : Nat) (E : List Fm) (hE : EvOk y E) (hne : E ≠ []) (hy : y ≤ 1099511627777) (h0 : decE l = 0) (hk : pk l = 3) (hs : ps l = x) (st : Nat) (h1 : 1 ≤ st) (h64 : st ≤ 64) (hb : decB l = footB y E st) : ftS l x y E = st := by
  unfold ftS
  rw [if_pos ⟨h0, hk, hs, hne⟩, hb, foot_nrd y E st hE hy h64]
  simp only
  rw [if_pos ⟨h1, h64, trivial⟩]
theorem ftS_all (l : List Nat) (x y : Nat) (E : List Fm) (h : ∀ st, 1 ≤ st → st ≤ 64 → decB l ≠ footB y E st) : ftS l x y E = 0 := by
  unfold ftS
  split
  · split
    · rw [if_neg]
      rintro ⟨h1, h2, h3⟩
      exact h _ h1 h2 h3
    · rfl
  · rfl
theorem ftS_le (l : List Nat) (x y : Nat) (E : List Fm) : ftS l x y E ≤ 64 := by
  unfold ftS
  split
  · split
    · split
      · omega
      · omega
    · omega
  · omega
theorem ftS_pos (l : List Nat) (x y : Nat) (E : List Fm) (h : 0 < ftS l x y E) : decE l = 0 := by
  apply Decidable.byContradiction
  intro hc
  rw [ftS_no l x y E (.inl hc)] at h
  omega
end Go.Proofs.YtfnkhpijcbpeoaaDoor
