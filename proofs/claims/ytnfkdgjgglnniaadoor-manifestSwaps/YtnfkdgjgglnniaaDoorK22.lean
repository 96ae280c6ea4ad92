/- Own texts, joined: Lmat, Mfm. -/
import Derived.Test.YtnfkdgjgglnniaaDoorK11
import Derived.Test.YtnfkdgjgglnniaaDoorK13
import Derived.Test.YtnfkdgjgglnniaaDoorK19
namespace Go.Proofs.YtnfkdgjgglnniaaDoor
open Go.ChangeShapes Go.WideShapes Go.ChangeAt Go.RowKit
theorem decN_flat (rest : List Nat) (hm : ∀ x ∈ rest, x ≤ 18446744073709551615) (pre r acc : List Nat) :
    vdecN rest.length (pre ++ (flat rest ++ r)) pre.length acc = (acc ++ rest, pre.length + (flat rest).length, 0) := by
  induction rest generalizing pre acc with
  | nil => simp [vdecN, flat]
  | cons u rest ih =>
    have hd : dec 0 0 ((pre ++ (flat (u :: rest) ++ r)).drop pre.length) = (u, (enc u).length, 0) := by
      rw [List.drop_left, show flat (u :: rest) ++ r = enc u ++ (flat rest ++ r) from by simp [flat]]
      exact dec_back u _ (hm u (by simp))
    rw [List.length_cons, decN_succ _ _ _ _ _ _ _ hd, if_pos rfl]
    have h := ih (fun x hx => hm x (by simp [hx])) (pre ++ enc u) (acc ++ [u])
    rw [List.length_append, show pre ++ enc u ++ (flat rest ++ r) = pre ++ (flat (u :: rest) ++ r) from by simp [flat]] at h
    rw [h]
    simp [flat, Nat.add_assoc]
theorem decAll_back (l r : List Nat) (hn : l.length ≤ 18446744073709551615) (hm : ∀ x ∈ l, x ≤ 18446744073709551615) : decAll (encAll l ++ r) (l.length : Int) = (l, (encAll l).length, 0) := by
  have hd : dec 0 0 (encAll l ++ r) = (l.length, (enc l.length).length, 0) := by
    unfold encAll
    rw [List.append_assoc]
    exact dec_back _ _ hn
  unfold decAll
  rw [hd, if_neg (by simp), if_neg (by simp)]
  have h := decN_flat l hm (enc l.length) r []
  unfold encAll
  rw [List.append_assoc]
  rw [h]
  simp
theorem decAll_low (l : List Nat) (most : Int) (hn : l.length ≤ 18446744073709551615) (h : most.toNat < l.length) : decAll (encAll l) most = ([], 0, 24) := by
  have hd : dec 0 0 (encAll l) = (l.length, (enc l.length).length, 0) := dec_back _ _ hn
  unfold decAll
  rw [hd, if_neg (by simp), if_pos h]
theorem nums_cells {w : World} {x : Addr} {m : List Nat} (h : Nums w (some x) m) : ∀ j u, (B64 m)[j]? = some u → w.cell? (x.add j) = some u := by
  intro j u hj
  have hlt : j < m.length := by
    by_cases hh : j < m.length
    · exact hh
    · rw [List.getElem?_eq_none (by simp [B64]; omega)] at hj; cases hj
  rw [B64_get m j hlt] at hj
  rcases h.2 with rfl | ⟨b, off, hx, _, hc⟩
  · simp at hlt
  · cases hx
    rw [← hj, show (⟨b, off, none⟩ : Addr).add j = ⟨b, off + j, none⟩ from by simp [Addr.add]]
    exact hc j hlt
theorem B64_one (m : List Nat) : ∀ u ∈ B64 m, u.oneCell' = true := by
  intro u hu
  simp only [B64, List.mem_map] at hu
  obtain ⟨n, _, rfl⟩ := hu
  rfl
theorem B64_length (m : List Nat) : (B64 m).length = m.length * 1 := by simp [B64]
theorem encAll_length (l : List Nat) (hn : l.length ≤ 1048576) (hm : ∀ x ∈ l, x ≤ 18446744073709551615) : (encAll l).length ≤ 10485770 ∧ encAll l ≠ [] := by
  have h1 := enc_length_le l.length (by omega)
  have h2 := flat_length l hm
  unfold encAll
  refine ⟨by rw [List.length_append]; omega, fun h => ?_⟩
  have h3 := congrArg List.length h
  rw [List.length_append, List.length_nil] at h3
  omega
end Go.Proofs.YtnfkdgjgglnniaaDoor
namespace Go.Proofs.YtnfkdgjgglnniaaDoor
open Go.ChangeShapes Go.WideShapes Go.ChangeAt Go.RowKit
set_option linter.unusedVariables false
theorem decAll_mostM (l r : List Nat) (most : Int) (hn : l.length ≤ 18446744073709551615) (hm : ∀ x ∈ l, x ≤ 18446744073709551615) (hmo : l.length ≤ most.toNat) : decAll (encAll l ++ r) most = (l, (encAll l).length, 0) := by
  have hd : dec 0 0 (encAll l ++ r) = (l.length, (enc l.length).length, 0) := by
    unfold encAll
    rw [List.append_assoc]
    exact dec_back _ _ hn
  unfold decAll
  rw [hd, if_neg (by simp), if_neg (by simp only; omega)]
  have h := decN_flat l hm (enc l.length) r []
  unfold encAll
  rw [List.append_assoc]
  rw [h]
  simp
theorem decN_formM : ∀ (c : Nat) (l : List Nat) (p : Nat) (acc R : List Nat) (q : Nat), (∀ x ∈ l, x < 256) → vdecN c l p acc = (R, q, 0) → ∃ rest : List Nat, R = acc ++ rest ∧ rest.length = c ∧ l.drop p = flat rest ++ l.drop q
  | 0, l, p, acc, R, q, hl, h => by
    have h1 : (acc, p, 0) = (R, q, 0) := h
    cases h1
    exact ⟨[], by simp, rfl, by simp [flat]⟩
  | c + 1, l, p, acc, R, q, hl, h => by
    obtain ⟨u, k, e, hd⟩ : ∃ u k e, dec 0 0 (l.drop p) = (u, k, e) := ⟨_, _, _, rfl⟩
    rw [decN_succ c l p acc u k e hd] at h
    by_cases he : e = 0
    · subst he
      rw [if_pos rfl] at h
      obtain ⟨rest, h1, h2, h3⟩ := decN_formM c l (p + k) (acc ++ [u]) R q hl h
      have hf := vdec_form (l.drop p) (fun x hx => hl x (List.mem_of_mem_drop hx)) (by rw [hd])
      rw [hd] at hf
      simp only at hf
      obtain ⟨f1, f2, f3, f4, f5⟩ := hf
      refine ⟨u :: rest, by rw [h1]; simp, by simp [h2], ?_⟩
      have hsp : (l.drop p).take k ++ (l.drop p).drop k = l.drop p := List.take_append_drop k _
      rw [List.drop_drop, ← f5, h3] at hsp
      rw [← hsp]
      simp [flat]
    · rw [if_neg he] at h
      have h5 := congrArg (fun x => x.2.2) h
      exact absurd h5 he
theorem decAll_formM (l U : List Nat) (q : Nat) (hl : ∀ x ∈ l, x < 256) (most : Int) (h : decAll l most = (U, q, 0)) : l = encAll U ++ l.drop q := by
  obtain ⟨u, k, e, hd⟩ : ∃ u k e, dec 0 0 l = (u, k, e) := ⟨_, _, _, rfl⟩
  unfold decAll at h
  rw [hd] at h
  simp only at h
  by_cases he : e = 0
  · subst he
    rw [if_neg (by simp)] at h
    by_cases hb : most.toNat < u
    · rw [if_pos hb] at h
      cases h
    · rw [if_neg hb] at h
      obtain ⟨rest, h1, h2, h3⟩ := decN_formM u l k [] U q hl h
      have hf := vdec_form l hl (by rw [hd])
      rw [hd] at hf
      simp only at hf
      obtain ⟨f1, f2, f3, f4, f5⟩ := hf
      have hsp : l.take k ++ l.drop k = l := List.take_append_drop k _
      rw [← f5, h3] at hsp
      rw [List.nil_append] at h1
      subst h1
      unfold encAll
      rw [h2, List.append_assoc]
      exact hsp.symm
  · rw [if_pos he] at h
    have h5 := congrArg (fun x => x.2.2) h
    exact absurd h5 he
theorem toI_of {u : Nat} (h : u < 9223372036854775808) : toI u = (u : Int) := by unfold toI wrap64; omega
theorem toI_nat (u : Nat) (hu : u < 18446744073709551616) (h : 0 ≤ toI u) : u < 9223372036854775808 ∧ (toI u).toNat = u := by
  unfold toI wrap64 at h ⊢
  omega
theorem smsOf_smN (L : List Sm) (h : ∀ s ∈ L, 0 ≤ s.num ∧ s.num ≤ 999999 ∧ 0 ≤ s.first ∧ s.first ≤ 1099511758849 ∧ 0 ≤ s.count ∧ s.count ≤ 512 ∧ 0 ≤ s.foot ∧ s.foot ≤ 1099511627776) : smsOf (smN L) = L := by
  induction L with
  | nil => rfl
  | cons p r ih =>
    obtain ⟨x, y, c, f⟩ := p
    obtain ⟨h1, h2, h3, h4, h5, h6, h7, h8⟩ := h ⟨x, y, c, f⟩ (by simp)
    simp only at h1 h2 h3 h4 h5 h6 h7 h8
    simp only [smN, smsOf]
    rw [ih (fun s hs => h s (by simp [hs])), toI_of (u := x.toNat) (by omega), toI_of (u := y.toNat) (by omega), toI_of (u := c.toNat) (by omega), toI_of (u := f.toNat) (by omega)]
    congr 2 <;> omega
theorem dec_partsM (k s : Nat) (body : List Nat) (hb : ∀ y ∈ body, y < 256) (hk1 : 1 ≤ k) (hk7 : k ≤ 7) (hn : body.length ≤ 16384) (hs : s ≤ 1099511627776) :
    decE (frameL k s body) = 0 ∧ pk (frameL k s body) = k ∧ ps (frameL k s body) = s ∧ pn (frameL k s body) = body.length ∧ decB (frameL k s body) = body := by
  obtain ⟨a1, _, _, _, a5⟩ := dec_laid k s body [] hb hk1 hk7 hn hs
  rw [List.append_nil] at a1 a5
  obtain ⟨h1, h2, h3, _, _⟩ := head_parts k body.length s (body ++ Crcm.four (Crcm.sum body)) (by omega) (by omega)
  exact ⟨a1, h1, h3, h2, a5⟩
theorem encAll_bytes {m : Mf} (h : mvB m = true) : ∀ y ∈ encAll (mfN m), y < 256 := encAll_lt (mfN m) (by rw [mfN_length]; have := (mv_parts h).2.2.1; omega) (fun x hx => by have := mfN_le h x hx; omega)
theorem mdC_of {l : List Nat} {u0 u1 u2 u3 : Nat} {r : List Nat} (h : (decAll (decB l) 1028).1 = u0 :: u1 :: u2 :: u3 :: r) : mdC l = ⟨(ps l : Int), toI u0, toI u1, toI u2, toI u3, smsOf r⟩ := by
  unfold mdC
  rw [h]
/-- what is written is read -/
theorem md_back (m : Mf) (h : mvB m = true) : mdO (mfL m) = some m := by
  obtain ⟨h1, h2, h3, h4⟩ := mv_parts h
  have hh := headB_facts h1
  have hb := encAll_bytes h
  have hl := mf_body h
  have hf : mfL m = frameL 4 m.gen.toNat (encAll (mfN m)) := if_pos h
  obtain ⟨e1, e2, e3, e4, e5⟩ := dec_partsM 4 m.gen.toNat (encAll (mfN m)) hb (by omega) (by omega) (by omega) (by omega)
  have hd := decAll_mostM (mfN m) [] 1028 (by rw [mfN_length]; omega) (fun x hx => by have := mfN_le h x hx; omega) (by rw [mfN_length]; show _ ≤ 1028; omega)
  rw [List.append_nil] at hd
  have hw : whE (mfL m) 4 = 0 := by
    rw [hf]
    unfold whE
    rw [if_neg (by rw [e1]; simp), e2, e4, frameL_length, if_neg (by simp)]
  have hn : nbB (decB (mfL m)) = true := by
    rw [hf, e5]
    unfold nbB
    rw [hd]
    simp only [mfN_length]
    exact decide_eq_true ⟨trivial, trivial, by omega, by omega⟩
  have hc : mdC (mfL m) = m := by
    have hL := smsOf_smN m.segs (mv_segs h)
    obtain ⟨g, nx, fl, sn, sq, L⟩ := m
    rw [mdC_of (u0 := nx.toNat) (u1 := fl.toNat) (u2 := sn.toNat) (u3 := sq.toNat) (r := smN L) (by rw [hf, e5, hd]; rfl)]
    rw [hf, e3]
    simp only at hh hL
    rw [hL, toI_of (u := nx.toNat) (by omega), toI_of (u := fl.toNat) (by omega), toI_of (u := sn.toNat) (by omega), toI_of (u := sq.toNat) (by omega)]
    simp only [Mf.mk.injEq, and_true]
    omega
  unfold mdO
  rw [hc, if_pos ⟨hw, hn, h⟩]
theorem smN_smsOf : ∀ (q : List Nat), q.length % 4 = 0 → (∀ u ∈ q, u < 18446744073709551616) → (∀ s ∈ smsOf q, 0 ≤ s.num ∧ 0 ≤ s.first ∧ 0 ≤ s.count ∧ 0 ≤ s.foot) → smN (smsOf q) = q
  | [], _, _, _ => rfl
  | [_], h, _, _ => by simp at h
  | [_, _], h, _, _ => by simp at h
  | [_, _, _], h, _, _ => by simp at h
  | a :: b :: c :: d :: r, h, hu, hs => by
    have h0 := hs ⟨toI a, toI b, toI c, toI d⟩ (by simp [smsOf])
    simp only at h0
    simp only [smsOf, smN]
    rw [(toI_nat a (hu a (by simp)) h0.1).2, (toI_nat b (hu b (by simp)) h0.2.1).2, (toI_nat c (hu c (by simp)) h0.2.2.1).2, (toI_nat d (hu d (by simp)) h0.2.2.2).2, smN_smsOf r (by simp only [List.length_cons] at h; omega) (fun u h => hu u (by simp [h])) (fun s h => hs s (by simp [smsOf, h]))]
theorem vdecN_lt : ∀ (c : Nat) (l : List Nat) (p : Nat) (acc : List Nat), (∀ x ∈ l, x < 256) → (∀ u ∈ acc, u < 18446744073709551616) → ∀ u ∈ (vdecN c l p acc).1, u < 18446744073709551616
  | 0, l, p, acc, hl, ha, u, hu => ha u hu
  | c + 1, l, p, acc, hl, ha, u, hu => by
    obtain ⟨x, k, e, hd⟩ : ∃ x k e, dec 0 0 (l.drop p) = (x, k, e) := ⟨_, _, _, rfl⟩
    rw [decN_succ c l p acc x k e hd] at hu
    by_cases he : e = 0
    · subst he
      rw [if_pos rfl] at hu
      have hf := vdec_form (l.drop p) (fun x hx => hl x (List.mem_of_mem_drop hx)) (by rw [hd])
      rw [hd] at hf
      simp only at hf
      refine vdecN_lt c l (p + k) (acc ++ [x]) hl (fun z hz => ?_) u hu
      rcases List.mem_append.1 hz with hz | hz
      · exact ha z hz
      · have hzx : z = x := by simpa using hz
        rw [hzx]
        omega
    · rw [if_neg he] at hu
      cases hu
theorem nbB_facts {l : List Nat} (h : nbB l = true) : (decAll l 1028).2.2 = 0 ∧ (decAll l 1028).2.1 = l.length ∧ 4 ≤ (decAll l 1028).1.length ∧ ((decAll l 1028).1.length - 4) % 4 = 0 := by
  unfold nbB at h
  exact of_decide_eq_true h
theorem decAll_ult (l : List Nat) (most : Int) (hl : ∀ y ∈ l, y < 256) : ∀ u ∈ (decAll l most).1, u < 18446744073709551616 := by
  intro u hu
  unfold decAll at hu
  by_cases h1 : (dec 0 0 l).2.2 ≠ 0
  · rw [if_pos h1] at hu; cases hu
  · rw [if_neg h1] at hu
    by_cases h2 : most.toNat < (dec 0 0 l).1
    · rw [if_pos h2] at hu; cases hu
    · rw [if_neg h2] at hu
      exact vdecN_lt _ _ _ _ hl (fun u hu => by cases hu) u hu
theorem mfN_of {S : Int} {u0 u1 u2 u3 : Nat} {r : List Nat} (h : mvB ⟨S, toI u0, toI u1, toI u2, toI u3, smsOf r⟩ = true) (hu : ∀ u ∈ u0 :: u1 :: u2 :: u3 :: r, u < 18446744073709551616) (h4 : r.length % 4 = 0) : mfN ⟨S, toI u0, toI u1, toI u2, toI u3, smsOf r⟩ = u0 :: u1 :: u2 :: u3 :: r := by
  obtain ⟨_, _, g1, _, g2, _, g3, _, g4, _⟩ := headB_facts (mv_parts h).1
  have hs := mv_segs h
  simp only at g1 g2 g3 g4 hs
  have k0 := (toI_nat u0 (hu u0 (by simp)) (by omega)).2
  have k1 := (toI_nat u1 (hu u1 (by simp)) g3).2
  have k2 := (toI_nat u2 (hu u2 (by simp)) g4).2
  have k3 := (toI_nat u3 (hu u3 (by simp)) g2).2
  have k4 := smN_smsOf r h4 (fun u h => hu u (by simp [h])) (fun s h => ⟨(hs s h).1, (hs s h).2.2.1, (hs s h).2.2.2.2.1, (hs s h).2.2.2.2.2.2.1⟩)
  simp only [mfN, List.cons_append, List.nil_append]
  rw [k0, k1, k2, k3, k4]
/-- what is read is what would be written -/
theorem md_form (l : List Nat) (m : Mf) (hl : ∀ y ∈ l, y < 256) (h : mdO l = some m) : mvB m = true ∧ mfL m = l := by
  unfold mdO at h
  split at h
  · rename_i hc
    obtain ⟨c1, c2, c3⟩ := hc
    cases h
    refine ⟨c3, ?_⟩
    have hE : decE l = 0 := by
      by_cases hz : decE l = 0
      · exact hz
      · unfold whE at c1; rw [if_pos hz] at c1; exact absurd c1 hz
    have hW : (pk l : Int) = 4 ∧ pn l + 20 = l.length := by
      unfold whE at c1
      rw [if_neg (by rw [hE]; simp)] at c1
      split at c1
      · cases c1
      · rename_i hh
        exact ⟨Decidable.byContradiction fun h => hh (.inl h), Decidable.byContradiction fun h => hh (.inr h)⟩
    obtain ⟨n1, n2, n3, n4⟩ := nbB_facts c2
    have hform := dec_form l hl hE
    have hDB : decB l = (l.drop 16).take (pn l) := if_pos hE
    rw [List.take_of_length_le (by omega), ← hDB, show pk l = 4 from by omega] at hform
    have hbl : ∀ y ∈ decB l, y < 256 := by
      rw [hDB]
      exact fun y hy => hl y (List.mem_of_mem_drop (List.mem_of_mem_take hy))
    obtain ⟨U, q, e, hd⟩ : ∃ U q e, decAll (decB l) 1028 = (U, q, e) := ⟨_, _, _, rfl⟩
    have hult : ∀ u ∈ U, u < 18446744073709551616 := by
      have hx := decAll_ult (decB l) 1028 hbl
      rw [hd] at hx
      exact hx
    rw [hd] at n1 n2 n3 n4
    simp only at n1 n2 n3 n4
    subst n1
    have hb2 := decAll_formM (decB l) U q hbl 1028 hd
    rw [n2, List.drop_length, List.append_nil] at hb2
    obtain ⟨u0, u1, u2, u3, r, rfl⟩ := four_of n3
    have hmc : mdC l = ⟨(ps l : Int), toI u0, toI u1, toI u2, toI u3, smsOf r⟩ := mdC_of (by rw [hd])
    have hr4 : r.length % 4 = 0 := by simp only [List.length_cons] at n4; clear c1 c2 c3 hE hW hform n2 n3; omega
    have hN : mfN (mdC l) = u0 :: u1 :: u2 :: u3 :: r := by
      rw [hmc] at c3 ⊢
      exact mfN_of c3 hult hr4
    have hg : (mdC l).gen.toNat = ps l := by rw [hmc]; simp
    unfold mfL
    rw [if_pos c3, hN, hg, ← hb2]
    exact hform.symm
  · cases h
end Go.Proofs.YtnfkdgjgglnniaaDoor
