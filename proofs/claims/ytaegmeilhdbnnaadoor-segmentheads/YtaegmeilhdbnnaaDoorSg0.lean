/- Segments, as lists: numbers behind one another, headers. -/
import Derived.Test.YtaegmeilhdbnnaaDoorVmath
import Derived.Test.YtaegmeilhdbnnaaDoorFrm
namespace Go.Proofs.YtaegmeilhdbnnaaDoor
open Go.ChangeShapes Go.WideShapes Go.ChangeAt Go.RowKit
set_option linter.unusedVariables false
/-- numbers behind one another -/
def nencs : List Nat → List Nat
  | [] => []
  | x :: r => enc x ++ nencs r
theorem nencs_append : ∀ (l m : List Nat), nencs (l ++ m) = nencs l ++ nencs m
  | [], m => rfl
  | x :: l, m => by simp only [List.cons_append, nencs, nencs_append l m, List.append_assoc]
theorem nencs_lt : ∀ (l : List Nat), (∀ x ∈ l, x ≤ 18446744073709551615) → ∀ y ∈ nencs l, y < 256
  | [], _, y, hy => by cases hy
  | x :: l, h, y, hy => by
    rcases List.mem_append.1 hy with h1 | h1
    · exact enc_lt 9 x (lt_pow10 x (h x (List.mem_cons_self ..))) y h1
    · exact nencs_lt l (fun z hz => h z (List.mem_cons_of_mem _ hz)) y h1
theorem nencs_len : ∀ (l : List Nat), (∀ x ∈ l, x ≤ 18446744073709551615) → (nencs l).length ≤ 10 * l.length ∧ l.length ≤ (nencs l).length
  | [], _ => by simp [nencs]
  | x :: l, h => by
    have h1 := enc_length_le x (h x (List.mem_cons_self ..))
    have h2 := nencs_len l (fun z hz => h z (List.mem_cons_of_mem _ hz))
    simp only [nencs, List.length_append, List.length_cons]
    omega
/-- so many numbers off the beginning, none above 2^40 + 1 -/
def nrd : Nat → List Nat → Option (List Nat × List Nat)
  | 0, l => some ([], l)
  | c + 1, l => if (dec 0 0 l).2.2 = 0 ∧ (dec 0 0 l).1 ≤ 1099511627777 then (nrd c (l.drop (dec 0 0 l).2.1)).map (fun p => ((dec 0 0 l).1 :: p.1, p.2)) else none
theorem nrd_form : ∀ (c : Nat) (l : List Nat), (∀ x ∈ l, x < 256) → ∀ ns r, nrd c l = some (ns, r) → ns.length = c ∧ l = nencs ns ++ r ∧ ∀ x ∈ ns, x ≤ 1099511627777
  | 0, l, hl, ns, r, h => by
    simp only [nrd, Option.some.injEq, Prod.mk.injEq] at h
    obtain ⟨rfl, rfl⟩ := h
    exact ⟨rfl, rfl, fun x hx => by cases hx⟩
  | c + 1, l, hl, ns, r, h => by
    unfold nrd at h
    by_cases hc : (dec 0 0 l).2.2 = 0 ∧ (dec 0 0 l).1 ≤ 1099511627777
    · rw [if_pos hc] at h
      obtain ⟨p, hp, he⟩ := Option.map_eq_some_iff.1 h
      obtain ⟨h1, h2, h3⟩ := nrd_form c _ (fun x hx => hl x (List.mem_of_mem_drop hx)) p.1 p.2 hp
      simp only [Prod.mk.injEq] at he
      obtain ⟨rfl, rfl⟩ := he
      obtain ⟨_, _, _, _, g5⟩ := vdec_form l hl hc.1
      refine ⟨by rw [List.length_cons, h1], ?_, fun x hx => ?_⟩
      · simp only [nencs]
        rw [List.append_assoc, ← h2, g5, List.take_append_drop]
      · rcases List.mem_cons.1 hx with rfl | hx
        · exact hc.2
        · exact h3 x hx
    · rw [if_neg hc] at h; cases h
theorem nrd_back : ∀ (ns r : List Nat), (∀ x ∈ ns, x ≤ 1099511627777) → nrd ns.length (nencs ns ++ r) = some (ns, r)
  | [], r, _ => rfl
  | x :: ns, r, h => by
    have hx := h x (List.mem_cons_self ..)
    simp only [nencs, List.length_cons, List.append_assoc]
    unfold nrd
    rw [dec_back x _ (by omega)]
    simp only
    rw [if_pos ⟨trivial, hx⟩, List.drop_left, nrd_back ns r (fun z hz => h z (List.mem_cons_of_mem _ hz))]
    rfl
theorem nrd_step (c : Nat) (l : List Nat) (u k e : Nat) (hd : dec 0 0 l = (u, k, e)) : nrd (c + 1) l = if e = 0 ∧ u ≤ 1099511627777 then (nrd c (l.drop k)).map (fun p => (u :: p.1, p.2)) else none := by
  conv => lhs; unfold nrd
  rw [hd]
/-- the header's frame -/
def hdrL (x y : Nat) : List Nat := frameL 2 x (nencs [x, y])
theorem hdr_body (x y : Nat) (hx : x ≤ 999999) (hy : y ≤ 1099511627777) : (∀ z ∈ nencs [x, y], z < 256) ∧ (nencs [x, y]).length ≤ 20 := by
  have h : ∀ z ∈ [x, y], z ≤ 18446744073709551615 := by
    intro z hz
    simp at hz
    omega
  exact ⟨nencs_lt _ h, by have := (nencs_len [x, y] h).1; simpa using this⟩
/-- what a header's bytes tell -/
def hdr (l : List Nat) : Option (Nat × Nat) :=
  if decE l = 0 ∧ pk l = 2 then
    match nrd 2 (decB l) with
    | some ([x, y], []) => if ps l = x ∧ 1 ≤ x ∧ x ≤ 999999 ∧ 1 ≤ y then some (x, y) else none
    | _ => none
  else none
theorem frameL_inj (k s k' s' : Nat) (b b' : List Nat) (h : frameL k s b = frameL k' s' b') (hb : ∀ y ∈ b, y < 256) (hb' : ∀ y ∈ b', y < 256) (hk1 : 1 ≤ k) (hk7 : k ≤ 7) (hn : b.length ≤ 16384) (hs : s ≤ 1099511627776) (hk1' : 1 ≤ k') (hk7' : k' ≤ 7) (hn' : b'.length ≤ 16384) (hs' : s' ≤ 1099511627776) : k = k' ∧ s = s' ∧ b = b' := by
  obtain ⟨_, a2, a3, _, a5⟩ := dec_laid k s b [] hb hk1 hk7 hn hs
  obtain ⟨_, c2, c3, _, c5⟩ := dec_laid k' s' b' [] hb' hk1' hk7' hn' hs'
  rw [h] at a2 a3 a5
  exact ⟨a2.symm.trans c2, a3.symm.trans c3, a5.symm.trans c5⟩
theorem decB_eq {l : List Nat} (h : decE l = 0) : decB l = (l.drop 16).take (pn l) := by unfold decB; rw [if_pos h]
theorem decB_facts {l : List Nat} (hl : ∀ y ∈ l, y < 256) (h : decE l = 0) : (∀ y ∈ decB l, y < 256) ∧ (decB l).length ≤ 16384 ∧ (decB l).length = pn l ∧ 1 ≤ pk l ∧ pk l ≤ 7 ∧ ps l ≤ 1099511627776 ∧ pn l + 20 ≤ l.length := by
  obtain ⟨h1, h2, h3⟩ := decE_zero h
  obtain ⟨_, _, _, g1, g2, g3, g4⟩ := peekE_zero h1
  have e := decB_eq h
  have hlen : (decB l).length = pn l := by rw [e, List.length_take, List.length_drop]; omega
  refine ⟨fun y hy => ?_, by omega, hlen, g2, g3, g4, h2⟩
  rw [e] at hy
  exact hl y (List.mem_of_mem_drop (List.mem_of_mem_take hy))
/-- the document's way: the header's frame must be the very bytes -/
theorem hdr_ref (l : List Nat) (hl : ∀ y ∈ l, y < 256) (h0 : decE l = 0) (hK : pk l = 2) (x k y k2 : Nat) (h1 : dec 0 0 (decB l) = (x, k, 0)) (h2 : dec 0 0 ((decB l).drop k) = (y, k2, 0)) (hx1 : 1 ≤ x) (hx : x ≤ 999999) (hy1 : 1 ≤ y) (hy : y ≤ 1099511627777) :
    hdr l = if hdrL x y = l.take (pn l + 20) then some (x, y) else none := by
  obtain ⟨b1, b2, b3, b4, b5, b6, b7⟩ := decB_facts hl h0
  have hf := dec_form l hl h0
  rw [← decB_eq h0, hK] at hf
  obtain ⟨r, hr⟩ : ∃ r, ((decB l).drop k).drop k2 = r := ⟨_, rfl⟩
  have hrd : nrd 2 (decB l) = some ([x, y], r) := by
    rw [nrd_step 1 _ x k 0 h1, if_pos ⟨rfl, by omega⟩, nrd_step 0 _ y k2 0 h2, if_pos ⟨rfl, hy⟩, hr]
    rfl
  obtain ⟨_, hbd, _⟩ := nrd_form 2 _ b1 _ _ hrd
  obtain ⟨q1, q2⟩ := hdr_body x y hx hy
  unfold hdr
  rw [if_pos ⟨h0, hK⟩, hrd]
  by_cases hr0 : r = []
  · subst hr0
    simp only
    by_cases hs : ps l = x
    · rw [if_pos ⟨hs, hx1, hx, hy1⟩, if_pos]
      rw [hf, hs, hbd, List.append_nil]
      rfl
    · rw [if_neg (fun h => hs h.1), if_neg]
      intro h
      rw [hf] at h
      exact hs (frameL_inj _ _ _ _ _ _ h q1 b1 (by omega) (by omega) (by omega) (by omega) (by omega) (by omega) (by omega) (by omega)).2.1.symm
  · rw [if_neg]
    · cases r with
      | nil => exact absurd rfl hr0
      | cons c r => rfl
    · intro h
      rw [hf] at h
      have := (frameL_inj _ _ _ _ _ _ h q1 b1 (by omega) (by omega) (by omega) (by omega) (by omega) (by omega) (by omega) (by omega)).2.2
      rw [hbd] at this
      have h2 := congrArg List.length this
      rw [List.length_append] at h2
      exact hr0 (List.length_eq_zero_iff.1 (by omega))
theorem hdr_none_e (l : List Nat) (h : decE l ≠ 0 ∨ pk l ≠ 2) : hdr l = none := by
  unfold hdr
  rw [if_neg]
  rintro ⟨h1, h2⟩
  rcases h with h | h
  · exact h h1
  · exact h h2
theorem hdr_none_rd (l : List Nat) (h : nrd 2 (decB l) = none) : hdr l = none := by
  unfold hdr
  rw [h]
  split <;> rfl
theorem hdr_of (l : List Nat) (h0 : decE l = 0) (hK : pk l = 2) (x y : Nat) (r : List Nat) (h : nrd 2 (decB l) = some ([x, y], r)) : hdr l = if r = [] ∧ ps l = x ∧ 1 ≤ x ∧ x ≤ 999999 ∧ 1 ≤ y then some (x, y) else none := by
  unfold hdr
  rw [if_pos ⟨h0, hK⟩, h]
  cases r with
  | nil => simp
  | cons c r => simp
theorem nrd_two (l : List Nat) (hl : ∀ x ∈ l, x < 256) (ns r : List Nat) (h : nrd 2 l = some (ns, r)) : ∃ x y, ns = [x, y] ∧ x ≤ 1099511627777 ∧ y ≤ 1099511627777 := by
  obtain ⟨h1, _, h3⟩ := nrd_form 2 l hl ns r h
  match ns, h1 with
  | [x, y], _ => exact ⟨x, y, rfl, h3 x (by simp), h3 y (by simp)⟩
theorem hdr_some (l : List Nat) (hl : ∀ y ∈ l, y < 256) (x y : Nat) (h : hdr l = some (x, y)) : decE l = 0 ∧ pk l = 2 ∧ ps l = x ∧ 1 ≤ x ∧ x ≤ 999999 ∧ 1 ≤ y ∧ y ≤ 1099511627777 ∧ decB l = nencs [x, y] ∧ pn l + 20 ≤ l.length := by
  unfold hdr at h
  by_cases hc : decE l = 0 ∧ pk l = 2
  · rw [if_pos hc] at h
    obtain ⟨b1, _, _, _, _, _, b7⟩ := decB_facts hl hc.1
    split at h
    · rename_i x' y' hn
      obtain ⟨_, q2, q3⟩ := nrd_form 2 _ b1 _ _ hn
      by_cases hd : ps l = x' ∧ 1 ≤ x' ∧ x' ≤ 999999 ∧ 1 ≤ y'
      · rw [if_pos hd] at h
        simp only [Option.some.injEq, Prod.mk.injEq] at h
        obtain ⟨rfl, rfl⟩ := h
        exact ⟨hc.1, hc.2, hd.1, hd.2.1, hd.2.2.1, hd.2.2.2, q3 _ (by simp), by rw [q2, List.append_nil], b7⟩
      · rw [if_neg hd] at h; cases h
    · cases h
  · rw [if_neg hc] at h; cases h
/-- a laid header, read -/
theorem hdr_back (x y : Nat) (r : List Nat) (hx1 : 1 ≤ x) (hx : x ≤ 999999) (hy1 : 1 ≤ y) (hy : y ≤ 1099511627777) : hdr (hdrL x y ++ r) = some (x, y) := by
  obtain ⟨q1, q2⟩ := hdr_body x y hx hy
  obtain ⟨a1, a2, a3, a4, a5⟩ := dec_laid 2 x (nencs [x, y]) r q1 (by omega) (by omega) (by omega) (by omega)
  unfold hdrL
  have hpk : pk (frameL 2 x (nencs [x, y]) ++ r) = 2 := by unfold decK at a2; rw [if_pos a1] at a2; exact a2
  have hps : ps (frameL 2 x (nencs [x, y]) ++ r) = x := by unfold decS at a3; rw [if_pos a1] at a3; exact a3
  rw [hdr_of _ a1 hpk x y [] (by rw [a5]; have := nrd_back [x, y] [] (by intro z hz; simp at hz; omega); rw [List.append_nil] at this; exact this), hps, if_pos ⟨rfl, rfl, hx1, hx, hy1⟩]
end Go.Proofs.YtaegmeilhdbnnaaDoor
