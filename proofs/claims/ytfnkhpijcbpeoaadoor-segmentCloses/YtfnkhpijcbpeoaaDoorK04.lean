/- Own texts, joined: Frm, Sg0. -/
import Derived.Test.YtfnkhpijcbpeoaaDoorK03
import Derived.Test.YtfnkhpijcbpeoaaDoorK00
namespace Go.Proofs.YtfnkhpijcbpeoaaDoor
set_option linter.unusedVariables false
/-- so many bytes of a number, the lowest first -/
def le : Nat → Nat → List Nat
  | 0, _ => []
  | k + 1, x => x % 256 :: le k (x / 256)
theorem le_length (k x : Nat) : (le k x).length = k := by
  induction k generalizing x with
  | zero => rfl
  | succ k ih => simp [le, ih]
theorem le_lt (k x : Nat) : ∀ y ∈ le k x, y < 256 := by
  induction k generalizing x with
  | zero => intro y hy; cases hy
  | succ k ih =>
    intro y hy
    simp only [le, List.mem_cons] at hy
    rcases hy with rfl | hy
    · omega
    · exact ih _ y hy
theorem le_val (k x : Nat) (h : x < 256 ^ k) : Crcm.val (le k x) = x := by
  induction k generalizing x with
  | zero => simp at h; subst h; rfl
  | succ k ih =>
    have h2 : x / 256 < 256 ^ k := Nat.div_lt_of_lt_mul (by rw [Nat.pow_succ, Nat.mul_comm] at h; exact h)
    simp only [le, Crcm.val]
    rw [ih _ h2]
    omega
theorem val_le (l : List Nat) (hl : ∀ x ∈ l, x < 256) : le l.length (Crcm.val l) = l := by
  induction l with
  | nil => rfl
  | cons c r ih =>
    have hc := hl c (List.mem_cons_self ..)
    have e1 : Crcm.val (c :: r) = c + 256 * Crcm.val r := rfl
    simp only [List.length_cons, le]
    rw [e1, show (c + 256 * Crcm.val r) % 256 = c from by omega, show (c + 256 * Crcm.val r) / 256 = Crcm.val r from by omega, ih (fun x hx => hl x (List.mem_cons_of_mem _ hx))]
theorem le_snoc (k x : Nat) : le (k + 1) x = le k x ++ [x / 256 ^ k % 256] := by
  induction k generalizing x with
  | zero => simp [le]
  | succ k ih =>
    show x % 256 :: le (k + 1) (x / 256) = (x % 256 :: le k (x / 256)) ++ _
    rw [ih, List.cons_append, Nat.div_div_eq_div_mul, Nat.pow_succ, Nat.mul_comm 256]
def head12 (k n s : Nat) : List Nat := 165 :: k :: (le 2 n ++ le 8 s)
def headL (k n s : Nat) : List Nat := head12 k n s ++ Crcm.four (Crcm.sum (head12 k n s))
def frameL (k s : Nat) (body : List Nat) : List Nat := headL k body.length s ++ (body ++ Crcm.four (Crcm.sum body))
theorem head12_length (k n s : Nat) : (head12 k n s).length = 12 := by simp [head12, le_length]
theorem four_length (s : Nat) : (Crcm.four s).length = 4 := rfl
theorem headL_length (k n s : Nat) : (headL k n s).length = 16 := by simp [headL, head12_length, four_length]
theorem frameL_length (k s : Nat) (body : List Nat) : (frameL k s body).length = body.length + 20 := by
  simp only [frameL, List.length_append, headL_length, four_length]; omega
theorem head12_lt (k n s : Nat) (hk : k < 256) : ∀ y ∈ head12 k n s, y < 256 := by
  intro y hy
  simp only [head12, List.mem_cons, List.mem_append] at hy
  rcases hy with rfl | rfl | hy | hy
  · omega
  · omega
  · exact le_lt _ _ y hy
  · exact le_lt _ _ y hy
theorem headL_lt (k n s : Nat) (hk : k < 256) : ∀ y ∈ headL k n s, y < 256 := by
  intro y hy
  rcases List.mem_append.1 hy with h | h
  · exact head12_lt k n s hk y h
  · exact Crcm.four_lt _ (Crcm.sum_lt _ (head12_lt k n s hk)) y h
theorem foot_lt (body : List Nat) (hb : ∀ y ∈ body, y < 256) : ∀ y ∈ body ++ Crcm.four (Crcm.sum body), y < 256 := by
  intro y hy
  rcases List.mem_append.1 hy with h | h
  · exact hb y h
  · exact Crcm.four_lt _ (Crcm.sum_lt _ hb) y h
theorem frameL_lt (k s : Nat) (body : List Nat) (hk : k < 256) (hb : ∀ y ∈ body, y < 256) : ∀ y ∈ frameL k s body, y < 256 := by
  intro y hy
  rcases List.mem_append.1 hy with h | h
  · exact headL_lt _ _ _ hk y h
  · exact foot_lt body hb y h
/-- the kind, the body's length and the number that a head tells -/
def pk (l : List Nat) : Nat := l.getD 1 0
def pn (l : List Nat) : Nat := l.getD 2 0 + 256 * l.getD 3 0
def ps (l : List Nat) : Nat := Crcm.val ((l.drop 4).take 8)
def peekE (l : List Nat) : Nat :=
  if l.length < 16 then 60 else if l.getD 0 0 ≠ 165 then 61 else if closedB (l.take 16) = false then 62
  else if pn l ≤ 16384 ∧ 1 ≤ pk l ∧ pk l ≤ 7 ∧ ps l ≤ 1099511627776 then 0 else 63
def peekK (l : List Nat) : Nat := if peekE l = 0 then pk l else 0
def peekS (l : List Nat) : Nat := if peekE l = 0 then ps l else 0
def peekN (l : List Nat) : Nat := if peekE l = 0 then pn l + 20 else 0
def decE (l : List Nat) : Nat :=
  if peekE l ≠ 0 then peekE l else if l.length < pn l + 20 then 60 else if closedB ((l.take (pn l + 20)).drop 16) = false then 62 else 0
def decK (l : List Nat) : Nat := if decE l = 0 then pk l else 0
def decS (l : List Nat) : Nat := if decE l = 0 then ps l else 0
def decN (l : List Nat) : Nat := if decE l = 0 then pn l + 20 else 0
def decB (l : List Nat) : List Nat := if decE l = 0 then (l.drop 16).take (pn l) else []
theorem decE_zero {l : List Nat} (h : decE l = 0) : peekE l = 0 ∧ pn l + 20 ≤ l.length ∧ closedB ((l.take (pn l + 20)).drop 16) = true := by
  unfold decE at h
  by_cases h1 : peekE l = 0
  · rw [if_neg (by omega)] at h
    by_cases h2 : l.length < pn l + 20
    · rw [if_pos h2] at h; omega
    · rw [if_neg h2] at h
      by_cases h3 : closedB ((l.take (pn l + 20)).drop 16) = false
      · rw [if_pos h3] at h; omega
      · exact ⟨h1, by omega, by simpa using h3⟩
  · rw [if_pos h1] at h; exact absurd h h1
theorem peekE_zero {l : List Nat} (h : peekE l = 0) : 16 ≤ l.length ∧ l.getD 0 0 = 165 ∧ closedB (l.take 16) = true ∧ pn l ≤ 16384 ∧ 1 ≤ pk l ∧ pk l ≤ 7 ∧ ps l ≤ 1099511627776 := by
  unfold peekE at h
  by_cases h1 : l.length < 16
  · rw [if_pos h1] at h; omega
  rw [if_neg h1] at h
  by_cases h2 : l.getD 0 0 ≠ 165
  · rw [if_pos h2] at h; omega
  rw [if_neg h2] at h
  by_cases h3 : closedB (l.take 16) = false
  · rw [if_pos h3] at h; omega
  rw [if_neg h3] at h
  by_cases h4 : pn l ≤ 16384 ∧ 1 ≤ pk l ∧ pk l ≤ 7 ∧ ps l ≤ 1099511627776
  · exact ⟨by omega, by omega, by simpa using h3, h4⟩
  · rw [if_neg h4] at h; omega
/-- a head of 16 bytes, laid and read -/
theorem closed_whole (l : List Nat) (hl : ∀ x ∈ l, x < 256) : closedB (l ++ Crcm.four (Crcm.sum l)) = true := by
  unfold closedB
  have hn : (l ++ Crcm.four (Crcm.sum l)).length = l.length + 4 := by rw [List.length_append]; rfl
  rw [hn, show l.length + 4 - 4 = l.length from by omega, List.drop_left, List.take_left]
  simp
theorem closed_form (l : List Nat) (h : closedB l = true) : 4 ≤ l.length ∧ l = l.take (l.length - 4) ++ Crcm.four (Crcm.sum (l.take (l.length - 4))) := by
  unfold closedB at h
  have h2 := of_decide_eq_true h
  refine ⟨h2.1, ?_⟩
  conv => lhs; rw [← List.take_append_drop (l.length - 4) l]
  rw [h2.2]
theorem le2 (n : Nat) : le 2 n = [n % 256, n / 256 % 256] := rfl
theorem head_parts (k n s : Nat) (r : List Nat) (hn : n < 65536) (hs : s < 18446744073709551616) :
    pk (headL k n s ++ r) = k ∧ pn (headL k n s ++ r) = n ∧ ps (headL k n s ++ r) = s ∧ (headL k n s ++ r).getD 0 0 = 165 ∧ (headL k n s ++ r).take 16 = headL k n s := by
  refine ⟨rfl, ?_, ?_, rfl, ?_⟩
  · show n % 256 + 256 * (n / 256 % 256) = n
    omega
  · unfold ps
    have e : (headL k n s ++ r).drop 4 = le 8 s ++ (Crcm.four (Crcm.sum (head12 k n s)) ++ r) := by
      unfold headL head12
      rw [le2]
      simp
    rw [e, List.take_left' (le_length 8 s), le_val 8 s (by rw [show (256 : Nat) ^ 8 = 18446744073709551616 from by decide]; exact hs)]
  · rw [List.take_left' (headL_length k n s)]
theorem peek_laid (k n s : Nat) (r : List Nat) (hk1 : 1 ≤ k) (hk7 : k ≤ 7) (hn : n ≤ 16384) (hs : s ≤ 1099511627776) : peekE (headL k n s ++ r) = 0 := by
  obtain ⟨h1, h2, h3, h4, h5⟩ := head_parts k n s r (by omega) (by omega)
  unfold peekE
  rw [h1, h2, h3, h4, h5, if_neg (by rw [List.length_append, headL_length]; omega), if_neg (by omega), if_neg, if_pos ⟨hn, hk1, hk7, hs⟩]
  unfold headL
  rw [closed_whole _ (head12_lt k n s (by omega))]
  simp
theorem dec_laid (k s : Nat) (body r : List Nat) (hb : ∀ y ∈ body, y < 256) (hk1 : 1 ≤ k) (hk7 : k ≤ 7) (hn : body.length ≤ 16384) (hs : s ≤ 1099511627776) :
    decE (frameL k s body ++ r) = 0 ∧ decK (frameL k s body ++ r) = k ∧ decS (frameL k s body ++ r) = s ∧ decN (frameL k s body ++ r) = body.length + 20 ∧ decB (frameL k s body ++ r) = body := by
  have e0 : frameL k s body ++ r = headL k body.length s ++ (body ++ Crcm.four (Crcm.sum body) ++ r) := by unfold frameL; rw [List.append_assoc]
  obtain ⟨h1, h2, h3, h4, h5⟩ := head_parts k body.length s (body ++ Crcm.four (Crcm.sum body) ++ r) (by omega) (by omega)
  have h0 := peek_laid k body.length s (body ++ Crcm.four (Crcm.sum body) ++ r) hk1 hk7 hn hs
  rw [← e0] at h0 h1 h2 h3 h4 h5
  have hE : decE (frameL k s body ++ r) = 0 := by
    unfold decE
    rw [h0, h2, if_neg (by omega), if_neg (by rw [List.length_append, frameL_length]; omega), if_neg]
    rw [List.take_left' (frameL_length k s body)]
    unfold frameL
    rw [List.drop_left' (headL_length k body.length s), closed_whole _ hb]
    simp
  refine ⟨hE, ?_, ?_, ?_, ?_⟩
  · unfold decK; rw [if_pos hE, h1]
  · unfold decS; rw [if_pos hE, h3]
  · unfold decN; rw [if_pos hE, h2]
  · unfold decB
    rw [if_pos hE, h2, e0, List.drop_left' (headL_length k body.length s), List.append_assoc, List.take_left' rfl]
theorem dec_short (k s m : Nat) (body : List Nat) (hb : ∀ y ∈ body, y < 256) (hk1 : 1 ≤ k) (hk7 : k ≤ 7) (hn : body.length ≤ 16384) (hs : s ≤ 1099511627776) (hm : m < body.length + 20) : decE ((frameL k s body).take m) = 60 := by
  by_cases h16 : m < 16
  · unfold decE
    have hp : peekE ((frameL k s body).take m) = 60 := by
      unfold peekE
      rw [if_pos (by rw [List.length_take]; omega)]
    rw [hp, if_pos (by omega)]
  · have e0 : (frameL k s body).take m = headL k body.length s ++ (body ++ Crcm.four (Crcm.sum body)).take (m - 16) := by
      unfold frameL
      rw [List.take_append, headL_length, List.take_of_length_le (by rw [headL_length]; omega)]
    obtain ⟨h1, h2, h3, h4, h5⟩ := head_parts k body.length s ((body ++ Crcm.four (Crcm.sum body)).take (m - 16)) (by omega) (by omega)
    have h0 := peek_laid k body.length s ((body ++ Crcm.four (Crcm.sum body)).take (m - 16)) hk1 hk7 hn hs
    rw [← e0] at h0 h2
    unfold decE
    rw [h0, h2, if_neg (by omega), if_pos (by rw [List.length_take, frameL_length]; omega)]
/-- what is read is what would be laid -/
theorem head_form (l : List Nat) (hl : ∀ y ∈ l, y < 256) (h : peekE l = 0) : l.take 16 = headL (pk l) (pn l) (ps l) := by
  obtain ⟨h1, h2, h3, h4, h5, h6, h7⟩ := peekE_zero h
  obtain ⟨_, hf⟩ := closed_form _ h3
  have hlen : (l.take 16).length = 16 := by rw [List.length_take]; omega
  rw [hlen, List.take_take, show min (16 - 4) 16 = 12 from rfl] at hf
  have e12 : l.take 12 = head12 (pk l) (pn l) (ps l) := by
    have e1 := drop_at l 0 _ (by omega) rfl
    have e2 := drop_at l 1 _ (by omega) rfl
    have e3 := drop_at l 2 _ (by omega) rfl
    have e4 := drop_at l 3 _ (by omega) rfl
    rw [List.drop_zero] at e1
    have b2 := getD_lt hl 2
    have b3 := getD_lt hl 3
    have e5 : l.take 12 = l.getD 0 0 :: l.getD 1 0 :: l.getD 2 0 :: l.getD 3 0 :: (l.drop 4).take 8 := by
      conv => lhs; rw [e1, e2, e3, e4]
      rfl
    have e6 : le 8 (ps l) = (l.drop 4).take 8 := by
      have h8 : ((l.drop 4).take 8).length = 8 := by rw [List.length_take, List.length_drop]; omega
      have := val_le ((l.drop 4).take 8) (fun x hx => hl x (List.mem_of_mem_drop (List.mem_of_mem_take hx)))
      rw [h8] at this
      exact this
    unfold head12
    rw [e5, e6, le2, h2]
    unfold pk pn
    rw [show (l.getD 2 0 + 256 * l.getD 3 0) % 256 = l.getD 2 0 from by omega, show (l.getD 2 0 + 256 * l.getD 3 0) / 256 % 256 = l.getD 3 0 from by omega]
    rfl
  rw [hf, e12]
  rfl
theorem dec_form (l : List Nat) (hl : ∀ y ∈ l, y < 256) (h : decE l = 0) : l.take (pn l + 20) = frameL (pk l) (ps l) ((l.drop 16).take (pn l)) := by
  obtain ⟨h1, h2, h3⟩ := decE_zero h
  obtain ⟨_, hf⟩ := closed_form _ h3
  have hlen : ((l.take (pn l + 20)).drop 16).length = pn l + 4 := by rw [List.length_drop, List.length_take]; omega
  rw [hlen, show pn l + 4 - 4 = pn l from by omega] at hf
  have e1 : ((l.take (pn l + 20)).drop 16).take (pn l) = (l.drop 16).take (pn l) := by
    rw [List.drop_take, List.take_take, Nat.min_eq_left (by omega)]
  rw [e1] at hf
  have hbl : ((l.drop 16).take (pn l)).length = pn l := by rw [List.length_take, List.length_drop]; omega
  unfold frameL
  rw [hbl, ← hf, ← head_form l hl h1]
  have e2 : l.take 16 = (l.take (pn l + 20)).take 16 := by rw [List.take_take, Nat.min_eq_left (by omega)]
  rw [e2, List.take_append_drop]
end Go.Proofs.YtfnkhpijcbpeoaaDoor
namespace Go.Proofs.YtfnkhpijcbpeoaaDoor
open Go.ChangeShapes Go.WideShapes Go.ChangeAt Go.RowKit
set_option linter.unusedVariables false
/-- numbers behind one another -/
def nencs : List Nat → List Nat
  | [] => []
  | x :: r => enc x ++ nencs r
theorem nencs_append : ∀ (l m : List Nat), nencs (l ++ m) = nencs l ++ nencs m
  | [], m => rfl
  | x :: l, m => by simp only [List.cons_append, nencs, nencs_append l m, List.append_assoc]
theorem nencs_lt : ∀ (l : List Nat), (∀ x ∈ l, x ≤ 18446744073709551615) → ∀ y ∈ nencs l, y < 256
  | [], _, y, hy => by cases hy
  | x :: l, h, y, hy => by
    rcases List.mem_append.1 hy with h1 | h1
    · exact enc_lt 9 x (lt_pow10 x (h x (List.mem_cons_self ..))) y h1
    · exact nencs_lt l (fun z hz => h z (List.mem_cons_of_mem _ hz)) y h1
theorem nencs_len : ∀ (l : List Nat), (∀ x ∈ l, x ≤ 18446744073709551615) → (nencs l).length ≤ 10 * l.length ∧ l.length ≤ (nencs l).length
  | [], _ => by simp [nencs]
  | x :: l, h => by
    have h1 := enc_length_le x (h x (List.mem_cons_self ..))
    have h2 := nencs_len l (fun z hz => h z (List.mem_cons_of_mem _ hz))
    simp only [nencs, List.length_append, List.length_cons]
    omega
/-- so many numbers off the beginning, none above 2^40 + 1 -/
def nrd : Nat → List Nat → Option (List Nat × List Nat)
  | 0, l => some ([], l)
  | c + 1, l => if (dec 0 0 l).2.2 = 0 ∧ (dec 0 0 l).1 ≤ 1099511627777 then (nrd c (l.drop (dec 0 0 l).2.1)).map (fun p => ((dec 0 0 l).1 :: p.1, p.2)) else none
theorem nrd_form : ∀ (c : Nat) (l : List Nat), (∀ x ∈ l, x < 256) → ∀ ns r, nrd c l = some (ns, r) → ns.length = c ∧ l = nencs ns ++ r ∧ ∀ x ∈ ns, x ≤ 1099511627777
  | 0, l, hl, ns, r, h => by
    simp only [nrd, Option.some.injEq, Prod.mk.injEq] at h
    obtain ⟨rfl, rfl⟩ := h
    exact ⟨rfl, rfl, fun x hx => by cases hx⟩
  | c + 1, l, hl, ns, r, h => by
    unfold nrd at h
    by_cases hc : (dec 0 0 l).2.2 = 0 ∧ (dec 0 0 l).1 ≤ 1099511627777
    · rw [if_pos hc] at h
      obtain ⟨p, hp, he⟩ := Option.map_eq_some_iff.1 h
      obtain ⟨h1, h2, h3⟩ := nrd_form c _ (fun x hx => hl x (List.mem_of_mem_drop hx)) p.1 p.2 hp
      simp only [Prod.mk.injEq] at he
      obtain ⟨rfl, rfl⟩ := he
      obtain ⟨_, _, _, _, g5⟩ := vdec_form l hl hc.1
      refine ⟨by rw [List.length_cons, h1], ?_, fun x hx => ?_⟩
      · simp only [nencs]
        rw [List.append_assoc, ← h2, g5, List.take_append_drop]
      · rcases List.mem_cons.1 hx with rfl | hx
        · exact hc.2
        · exact h3 x hx
    · rw [if_neg hc] at h; cases h
theorem nrd_back : ∀ (ns r : List Nat), (∀ x ∈ ns, x ≤ 1099511627777) → nrd ns.length (nencs ns ++ r) = some (ns, r)
  | [], r, _ => rfl
  | x :: ns, r, h => by
    have hx := h x (List.mem_cons_self ..)
    simp only [nencs, List.length_cons, List.append_assoc]
    unfold nrd
    rw [dec_back x _ (by omega)]
    simp only
    rw [if_pos ⟨trivial, hx⟩, List.drop_left, nrd_back ns r (fun z hz => h z (List.mem_cons_of_mem _ hz))]
    rfl
theorem nrd_step (c : Nat) (l : List Nat) (u k e : Nat) (hd : dec 0 0 l = (u, k, e)) : nrd (c + 1) l = if e = 0 ∧ u ≤ 1099511627777 then (nrd c (l.drop k)).map (fun p => (u :: p.1, p.2)) else none := by
  conv => lhs; unfold nrd
  rw [hd]
/-- the header's frame -/
def hdrL (x y : Nat) : List Nat := frameL 2 x (nencs [x, y])
theorem hdr_body (x y : Nat) (hx : x ≤ 999999) (hy : y ≤ 1099511627777) : (∀ z ∈ nencs [x, y], z < 256) ∧ (nencs [x, y]).length ≤ 20 := by
  have h : ∀ z ∈ [x, y], z ≤ 18446744073709551615 := by
    intro z hz
    simp at hz
    omega
  exact ⟨nencs_lt _ h, by have := (nencs_len [x, y] h).1; simpa using this⟩
/-- what a header's bytes tell -/
def hdr (l : List Nat) : Option (Nat × Nat) :=
  if decE l = 0 ∧ pk l = 2 then
    match nrd 2 (decB l) with
    | some ([x, y], []) => if ps l = x ∧ 1 ≤ x ∧ x ≤ 999999 ∧ 1 ≤ y then some (x, y) else none
    | _ => none
  else none
theorem frameL_inj (k s k' s' : Nat) (b b' : List Nat) (h : frameL k s b = frameL k' s' b') (hb : ∀ y ∈ b, y < 256) (hb' : ∀ y ∈ b', y < 256) (hk1 : 1 ≤ k) (hk7 : k ≤ 7) (hn : b.length ≤ 16384) (hs : s ≤ 1099511627776) (hk1' : 1 ≤ k') (hk7' : k' ≤ 7) (hn' : b'.length ≤ 16384) (hs' : s' ≤ 1099511627776) : k = k' ∧ s = s' ∧ b = b' := by
  obtain ⟨_, a2, a3, _, a5⟩ := dec_laid k s b [] hb hk1 hk7 hn hs
  obtain ⟨_, c2, c3, _, c5⟩ := dec_laid k' s' b' [] hb' hk1' hk7' hn' hs'
  rw [h] at a2 a3 a5
  exact ⟨a2.symm.trans c2, a3.symm.trans c3, a5.symm.trans c5⟩
theorem decB_eq {l : List Nat} (h : decE l = 0) : decB l = (l.drop 16).take (pn l) := by unfold decB; rw [if_pos h]
theorem decB_facts {l : List Nat} (hl : ∀ y ∈ l, y < 256) (h : decE l = 0) : (∀ y ∈ decB l, y < 256) ∧ (decB l).length ≤ 16384 ∧ (decB l).length = pn l ∧ 1 ≤ pk l ∧ pk l ≤ 7 ∧ ps l ≤ 1099511627776 ∧ pn l + 20 ≤ l.length := by
  obtain ⟨h1, h2, h3⟩ := decE_zero h
  obtain ⟨_, _, _, g1, g2, g3, g4⟩ := peekE_zero h1
  have e := decB_eq h
  have hlen : (decB l).length = pn l := by rw [e, List.length_take, List.length_drop]; omega
  refine ⟨fun y hy => ?_, by omega, hlen, g2, g3, g4, h2⟩
  rw [e] at hy
  exact hl y (List.mem_of_mem_drop (List.mem_of_mem_take hy))
/-- the document's way: the header's frame must be the very bytes -/
theorem hdr_ref (l : List Nat) (hl : ∀ y ∈ l, y < 256) (h0 : decE l = 0) (hK : pk l = 2) (x k y k2 : Nat) (h1 : dec 0 0 (decB l) = (x, k, 0)) (h2 : dec 0 0 ((decB l).drop k) = (y, k2, 0)) (hx1 : 1 ≤ x) (hx : x ≤ 999999) (hy1 : 1 ≤ y) (hy : y ≤ 1099511627777) :
    hdr l = if hdrL x y = l.take (pn l + 20) then some (x, y) else none := by
  obtain ⟨b1, b2, b3, b4, b5, b6, b7⟩ := decB_facts hl h0
  have hf := dec_form l hl h0
  rw [← decB_eq h0, hK] at hf
  obtain ⟨r, hr⟩ : ∃ r, ((decB l).drop k).drop k2 = r := ⟨_, rfl⟩
  have hrd : nrd 2 (decB l) = some ([x, y], r) := by
    rw [nrd_step 1 _ x k 0 h1, if_pos ⟨rfl, by omega⟩, nrd_step 0 _ y k2 0 h2, if_pos ⟨rfl, hy⟩, hr]
    rfl
  obtain ⟨_, hbd, _⟩ := nrd_form 2 _ b1 _ _ hrd
  obtain ⟨q1, q2⟩ := hdr_body x y hx hy
  unfold hdr
  rw [if_pos ⟨h0, hK⟩, hrd]
  by_cases hr0 : r = []
  · subst hr0
    simp only
    by_cases hs : ps l = x
    · rw [if_pos ⟨hs, hx1, hx, hy1⟩, if_pos]
      rw [hf, hs, hbd, List.append_nil]
      rfl
    · rw [if_neg (fun h => hs h.1), if_neg]
      intro h
      rw [hf] at h
      exact hs (frameL_inj _ _ _ _ _ _ h q1 b1 (by omega) (by omega) (by omega) (by omega) (by omega) (by omega) (by omega) (by omega)).2.1.symm
  · rw [if_neg]
    · cases r with
      | nil => exact absurd rfl hr0
      | cons c r => rfl
    · intro h
      rw [hf] at h
      have := (frameL_inj _ _ _ _ _ _ h q1 b1 (by omega) (by omega) (by omega) (by omega) (by omega) (by omega) (by omega) (by omega)).2.2
      rw [hbd] at this
      have h2 := congrArg List.length this
      rw [List.length_append] at h2
      exact hr0 (List.length_eq_zero_iff.1 (by omega))
theorem hdr_none_e (l : List Nat) (h : decE l ≠ 0 ∨ pk l ≠ 2) : hdr l = none := by
  unfold hdr
  rw [if_neg]
  rintro ⟨h1, h2⟩
  rcases h with h | h
  · exact h h1
  · exact h h2
theorem hdr_none_rd (l : List Nat) (h : nrd 2 (decB l) = none) : hdr l = none := by
  unfold hdr
  rw [h]
  split <;> rfl
theorem hdr_of (l : List Nat) (h0 : decE l = 0) (hK : pk l = 2) (x y : Nat) (r : List Nat) (h : nrd 2 (decB l) = some ([x, y], r)) : hdr l = if r = [] ∧ ps l = x ∧ 1 ≤ x ∧ x ≤ 999999 ∧ 1 ≤ y then some (x, y) else none := by
  unfold hdr
  rw [if_pos ⟨h0, hK⟩, h]
  cases r with
  | nil => simp
  | cons c r => simp
theorem nrd_two (l : List Nat) (hl : ∀ x ∈ l, x < 256) (ns r : List Nat) (h : nrd 2 l = some (ns, r)) : ∃ x y, ns = [x, y] ∧ x ≤ 1099511627777 ∧ y ≤ 1099511627777 := by
  obtain ⟨h1, _, h3⟩ := nrd_form 2 l hl ns r h
  match ns, h1 with
  | [x, y], _ => exact ⟨x, y, rfl, h3 x (by simp), h3 y (by simp)⟩
theorem hdr_some (l : List Nat) (hl : ∀ y ∈ l, y < 256) (x y : Nat) (h : hdr l = some (x, y)) : decE l = 0 ∧ pk l = 2 ∧ ps l = x ∧ 1 ≤ x ∧ x ≤ 999999 ∧ 1 ≤ y ∧ y ≤ 1099511627777 ∧ decB l = nencs [x, y] ∧ pn l + 20 ≤ l.length := by
  unfold hdr at h
  by_cases hc : decE l = 0 ∧ pk l = 2
  · rw [if_pos hc] at h
    obtain ⟨b1, _, _, _, _, _, b7⟩ := decB_facts hl hc.1
    split at h
    · rename_i x' y' hn
      obtain ⟨_, q2, q3⟩ := nrd_form 2 _ b1 _ _ hn
      by_cases hd : ps l = x' ∧ 1 ≤ x' ∧ x' ≤ 999999 ∧ 1 ≤ y'
      · rw [if_pos hd] at h
        simp only [Option.some.injEq, Prod.mk.injEq] at h
        obtain ⟨rfl, rfl⟩ := h
        exact ⟨hc.1, hc.2, hd.1, hd.2.1, hd.2.2.1, hd.2.2.2, q3 _ (by simp), by rw [q2, List.append_nil], b7⟩
      · rw [if_neg hd] at h; cases h
    · cases h
  · rw [if_neg hc] at h; cases h
/-- a laid header, read -/
theorem hdr_back (x y : Nat) (r : List Nat) (hx1 : 1 ≤ x) (hx : x ≤ 999999) (hy1 : 1 ≤ y) (hy : y ≤ 1099511627777) : hdr (hdrL x y ++ r) = some (x, y) := by
  obtain ⟨q1, q2⟩ := hdr_body x y hx hy
  obtain ⟨a1, a2, a3, a4, a5⟩ := dec_laid 2 x (nencs [x, y]) r q1 (by omega) (by omega) (by omega) (by omega)
  unfold hdrL
  have hpk : pk (frameL 2 x (nencs [x, y]) ++ r) = 2 := by unfold decK at a2; rw [if_pos a1] at a2; exact a2
  have hps : ps (frameL 2 x (nencs [x, y]) ++ r) = x := by unfold decS at a3; rw [if_pos a1] at a3; exact a3
  rw [hdr_of _ a1 hpk x y [] (by rw [a5]; have := nrd_back [x, y] [] (by intro z hz; simp at hz; omega); rw [List.append_nil] at this; exact this), hps, if_pos ⟨rfl, rfl, hx1, hx, hy1⟩]
end Go.Proofs.YtfnkhpijcbpeoaaDoor
