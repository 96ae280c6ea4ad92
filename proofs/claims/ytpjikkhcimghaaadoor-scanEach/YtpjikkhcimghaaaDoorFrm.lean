/- Frames as lists of bytes: how they are laid and read. -/
import Derived.Test.YtpjikkhcimghaaaDoorClosed
namespace Go.Proofs.YtpjikkhcimghaaaDoor
set_option linter.unusedVariables false
/-- so many bytes of a number, the lowest first -/
def le : Nat → Nat → List Nat
  | 0, _ => []
  | k + 1, x => x % 256 :: le k (x / 256)
theorem le_length (k x : Nat) : (le k x).length = k := by
  induction k generalizing x with
  | zero => rfl
  | succ k ih => simp [le, ih]
theorem le_lt (k x : Nat) : ∀ y ∈ le k x, y < 256 := by
  induction k generalizing x with
  | zero => intro y hy; cases hy
  | succ k ih =>
    intro y hy
    simp only [le, List.mem_cons] at hy
    rcases hy with rfl | hy
    · omega
    · exact ih _ y hy
theorem le_val (k x : Nat) (h : x < 256 ^ k) : Crcm.val (le k x) = x := by
  induction k generalizing x with
  | zero => simp at h; subst h; rfl
  | succ k ih =>
    have h2 : x / 256 < 256 ^ k := Nat.div_lt_of_lt_mul (by rw [Nat.pow_succ, Nat.mul_comm] at h; exact h)
    simp only [le, Crcm.val]
    rw [ih _ h2]
    omega
theorem val_le (l : List Nat) (hl : ∀ x ∈ l, x < 256) : le l.length (Crcm.val l) = l := by
  induction l with
  | nil => rfl
  | cons c r ih =>
    have hc := hl c (List.mem_cons_self ..)
    have e1 : Crcm.val (c :: r) = c + 256 * Crcm.val r := rfl
    simp only [List.length_cons, le]
    rw [e1, show (c + 256 * Crcm.val r) % 256 = c from by omega, show (c + 256 * Crcm.val r) / 256 = Crcm.val r from by omega, ih (fun x hx => hl x (List.mem_cons_of_mem _ hx))]
theorem le_snoc (k x : Nat) : le (k + 1) x = le k x ++ [x / 256 ^ k % 256] := by
  induction k generalizing x with
  | zero => simp [le]
  | succ k ih =>
    show x % 256 :: le (k + 1) (x / 256) = (x % 256 :: le k (x / 256)) ++ _
    rw [ih, List.cons_append, Nat.div_div_eq_div_mul, Nat.pow_succ, Nat.mul_comm 256]
def head12 (k n s : Nat) : List Nat := 165 :: k :: (le 2 n ++ le 8 s)
def headL (k n s : Nat) : List Nat := head12 k n s ++ Crcm.four (Crcm.sum (head12 k n s))
def frameL (k s : Nat) (body : List Nat) : List Nat := headL k body.length s ++ (body ++ Crcm.four (Crcm.sum body))
theorem head12_length (k n s : Nat) : (head12 k n s).length = 12 := by simp [head12, le_length]
theorem four_length (s : Nat) : (Crcm.four s).length = 4 := rfl
theorem headL_length (k n s : Nat) : (headL k n s).length = 16 := by simp [headL, head12_length, four_length]
theorem frameL_length (k s : Nat) (body : List Nat) : (frameL k s body).length = body.length + 20 := by
  simp only [frameL, List.length_append, headL_length, four_length]; omega
theorem head12_lt (k n s : Nat) (hk : k < 256) : ∀ y ∈ head12 k n s, y < 256 := by
  intro y hy
  simp only [head12, List.mem_cons, List.mem_append] at hy
  rcases hy with rfl | rfl | hy | hy
  · omega
  · omega
  · exact le_lt _ _ y hy
  · exact le_lt _ _ y hy
theorem headL_lt (k n s : Nat) (hk : k < 256) : ∀ y ∈ headL k n s, y < 256 := by
  intro y hy
  rcases List.mem_append.1 hy with h | h
  · exact head12_lt k n s hk y h
  · exact Crcm.four_lt _ (Crcm.sum_lt _ (head12_lt k n s hk)) y h
theorem foot_lt (body : List Nat) (hb : ∀ y ∈ body, y < 256) : ∀ y ∈ body ++ Crcm.four (Crcm.sum body), y < 256 := by
  intro y hy
  rcases List.mem_append.1 hy with h | h
  · exact hb y h
  · exact Crcm.four_lt _ (Crcm.sum_lt _ hb) y h
theorem frameL_lt (k s : Nat) (body : List Nat) (hk : k < 256) (hb : ∀ y ∈ body, y < 256) : ∀ y ∈ frameL k s body, y < 256 := by
  intro y hy
  rcases List.mem_append.1 hy with h | h
  · exact headL_lt _ _ _ hk y h
  · exact foot_lt body hb y h
/-- the kind, the body's length and the number that a head tells -/
def pk (l : List Nat) : Nat := l.getD 1 0
def pn (l : List Nat) : Nat := l.getD 2 0 + 256 * l.getD 3 0
def ps (l : List Nat) : Nat := Crcm.val ((l.drop 4).take 8)
def peekE (l : List Nat) : Nat :=
  if l.length < 16 then 60 else if l.getD 0 0 ≠ 165 then 61 else if closedB (l.take 16) = false then 62
  else if pn l ≤ 16384 ∧ 1 ≤ pk l ∧ pk l ≤ 7 ∧ ps l ≤ 1099511627776 then 0 else 63
def peekK (l : List Nat) : Nat := if peekE l = 0 then pk l else 0
def peekS (l : List Nat) : Nat := if peekE l = 0 then ps l else 0
def peekN (l : List Nat) : Nat := if peekE l = 0 then pn l + 20 else 0
def decE (l : List Nat) : Nat :=
  if peekE l ≠ 0 then peekE l else if l.length < pn l + 20 then 60 else if closedB ((l.take (pn l + 20)).drop 16) = false then 62 else 0
def decK (l : List Nat) : Nat := if decE l = 0 then pk l else 0
def decS (l : List Nat) : Nat := if decE l = 0 then ps l else 0
def decN (l : List Nat) : Nat := if decE l = 0 then pn l + 20 else 0
def decB (l : List Nat) : List Nat := if decE l = 0 then (l.drop 16).take (pn l) else []
theorem decE_zero {l : List Nat} (h : decE l = 0) : peekE l = 0 ∧ pn l + 20 ≤ l.length ∧ closedB ((l.take (pn l + 20)).drop 16) = true := by
  unfold decE at h
  by_cases h1 : peekE l = 0
  · rw [if_neg (by omega)] at h
    by_cases h2 : l.length < pn l + 20
    · rw [if_pos h2] at h; omega
    · rw [if_neg h2] at h
      by_cases h3 : closedB ((l.take (pn l + 20)).drop 16) = false
      · rw [if_pos h3] at h; omega
      · exact ⟨h1, by omega, by simpa using h3⟩
  · rw [if_pos h1] at h; exact absurd h h1
theorem peekE_zero {l : List Nat} (h : peekE l = 0) : 16 ≤ l.length ∧ l.getD 0 0 = 165 ∧ closedB (l.take 16) = true ∧ pn l ≤ 16384 ∧ 1 ≤ pk l ∧ pk l ≤ 7 ∧ ps l ≤ 1099511627776 := by
  unfold peekE at h
  by_cases h1 : l.length < 16
  · rw [if_pos h1] at h; omega
  rw [if_neg h1] at h
  by_cases h2 : l.getD 0 0 ≠ 165
  · rw [if_pos h2] at h; omega
  rw [if_neg h2] at h
  by_cases h3 : closedB (l.take 16) = false
  · rw [if_pos h3] at h; omega
  rw [if_neg h3] at h
  by_cases h4 : pn l ≤ 16384 ∧ 1 ≤ pk l ∧ pk l ≤ 7 ∧ ps l ≤ 1099511627776
  · exact ⟨by omega, by omega, by simpa using h3, h4⟩
  · rw [if_neg h4] at h; omega
/-- a head of 16 bytes, laid and read -/
theorem closed_whole (l : List Nat) (hl : ∀ x ∈ l, x < 256) : closedB (l ++ Crcm.four (Crcm.sum l)) = true := by
  unfold closedB
  have hn : (l ++ Crcm.four (Crcm.sum l)).length = l.length + 4 := by rw [List.length_append]; rfl
  rw [hn, show l.length + 4 - 4 = l.length from by omega, List.drop_left, List.take_left]
  simp
theorem closed_form (l : List Nat) (h : closedB l = true) : 4 ≤ l.length ∧ l = l.take (l.length - 4) ++ Crcm.four (Crcm.sum (l.take (l.length - 4))) := by
  unfold closedB at h
  have h2 := of_decide_eq_true h
  refine ⟨h2.1, ?_⟩
  conv => lhs; rw [← List.take_append_drop (l.length - 4) l]
  rw [h2.2]
theorem le2 (n : Nat) : le 2 n = [n % 256, n / 256 % 256] := rfl
theorem head_parts (k n s : Nat) (r : List Nat) (hn : n < 65536) (hs : s < 18446744073709551616) :
    pk (headL k n s ++ r) = k ∧ pn (headL k n s ++ r) = n ∧ ps (headL k n s ++ r) = s ∧ (headL k n s ++ r).getD 0 0 = 165 ∧ (headL k n s ++ r).take 16 = headL k n s := by
  refine ⟨rfl, ?_, ?_, rfl, ?_⟩
  · show n % 256 + 256 * (n / 256 % 256) = n
    omega
  · unfold ps
    have e : (headL k n s ++ r).drop 4 = le 8 s ++ (Crcm.four (Crcm.sum (head12 k n s)) ++ r) := by
      unfold headL head12
      rw [le2]
      simp
    rw [e, List.take_left' (le_length 8 s), le_val 8 s (by rw [show (256 : Nat) ^ 8 = 18446744073709551616 from by decide]; exact hs)]
  · rw [List.take_left' (headL_length k n s)]
theorem peek_laid (k n s : Nat) (r : List Nat) (hk1 : 1 ≤ k) (hk7 : k ≤ 7) (hn : n ≤ 16384) (hs : s ≤ 1099511627776) : peekE (headL k n s ++ r) = 0 := by
  obtain ⟨h1, h2, h3, h4, h5⟩ := head_parts k n s r (by omega) (by omega)
  unfold peekE
  rw [h1, h2, h3, h4, h5, if_neg (by rw [List.length_append, headL_length]; omega), if_neg (by omega), if_neg, if_pos ⟨hn, hk1, hk7, hs⟩]
  unfold headL
  rw [closed_whole _ (head12_lt k n s (by omega))]
  simp
theorem dec_laid (k s : Nat) (body r : List Nat) (hb : ∀ y ∈ body, y < 256) (hk1 : 1 ≤ k) (hk7 : k ≤ 7) (hn : body.length ≤ 16384) (hs : s ≤ 1099511627776) :
    decE (frameL k s body ++ r) = 0 ∧ decK (frameL k s body ++ r) = k ∧ decS (frameL k s body ++ r) = s ∧ decN (frameL k s body ++ r) = body.length + 20 ∧ decB (frameL k s body ++ r) = body := by
  have e0 : frameL k s body ++ r = headL k body.length s ++ (body ++ Crcm.four (Crcm.sum body) ++ r) := by unfold frameL; rw [List.append_assoc]
  obtain ⟨h1, h2, h3, h4, h5⟩ := head_parts k body.length s (body ++ Crcm.four (Crcm.sum body) ++ r) (by omega) (by omega)
  have h0 := peek_laid k body.length s (body ++ Crcm.four (Crcm.sum body) ++ r) hk1 hk7 hn hs
  rw [← e0] at h0 h1 h2 h3 h4 h5
  have hE : decE (frameL k s body ++ r) = 0 := by
    unfold decE
    rw [h0, h2, if_neg (by omega), if_neg (by rw [List.length_append, frameL_length]; omega), if_neg]
    rw [List.take_left' (frameL_length k s body)]
    unfold frameL
    rw [List.drop_left' (headL_length k body.length s), closed_whole _ hb]
    simp
  refine ⟨hE, ?_, ?_, ?_, ?_⟩
  · unfold decK; rw [if_pos hE, h1]
  · unfold decS; rw [if_pos hE, h3]
  · unfold decN; rw [if_pos hE, h2]
  · unfold decB
    rw [if_pos hE, h2, e0, List.drop_left' (headL_length k body.length s), List.append_assoc, List.take_left' rfl]
theorem dec_short (k s m : Nat) (body : List Nat) (hb : ∀ y ∈ body, y < 256) (hk1 : 1 ≤ k) (hk7 : k ≤ 7) (hn : body.length ≤ 16384) (hs : s ≤ 1099511627776) (hm : m < body.length + 20) : decE ((frameL k s body).take m) = 60 := by
  by_cases h16 : m < 16
  · unfold decE
    have hp : peekE ((frameL k s body).take m) = 60 := by
      unfold peekE
      rw [if_pos (by rw [List.length_take]; omega)]
    rw [hp, if_pos (by omega)]
  · have e0 : (frameL k s body).take m = headL k body.length s ++ (body ++ Crcm.four (Crcm.sum body)).take (m - 16) := by
      unfold frameL
      rw [List.take_append, headL_length, List.take_of_length_le (by rw [headL_length]; omega)]
    obtain ⟨h1, h2, h3, h4, h5⟩ := head_parts k body.length s ((body ++ Crcm.four (Crcm.sum body)).take (m - 16)) (by omega) (by omega)
    have h0 := peek_laid k body.length s ((body ++ Crcm.four (Crcm.sum body)).take (m - 16)) hk1 hk7 hn hs
    rw [← e0] at h0 h2
    unfold decE
    rw [h0, h2, if_neg (by omega), if_pos (by rw [List.length_take, frameL_length]; omega)]
/-- what is read is what would be laid -/
theorem head_form (l : List Nat) (hl : ∀ y ∈ l, y < 256) (h : peekE l = 0) : l.take 16 = headL (pk l) (pn l) (ps l) := by
  obtain ⟨h1, h2, h3, h4, h5, h6, h7⟩ := peekE_zero h
  obtain ⟨_, hf⟩ := closed_form _ h3
  have hlen : (l.take 16).length = 16 := by rw [List.length_take]; omega
  rw [hlen, List.take_take, show min (16 - 4) 16 = 12 from rfl] at hf
  have e12 : l.take 12 = head12 (pk l) (pn l) (ps l) := by
    have e1 := drop_at l 0 _ (by omega) rfl
    have e2 := drop_at l 1 _ (by omega) rfl
    have e3 := drop_at l 2 _ (by omega) rfl
    have e4 := drop_at l 3 _ (by omega) rfl
    rw [List.drop_zero] at e1
    have b2 := getD_lt hl 2
    have b3 := getD_lt hl 3
    have e5 : l.take 12 = l.getD 0 0 :: l.getD 1 0 :: l.getD 2 0 :: l.getD 3 0 :: (l.drop 4).take 8 := by
      conv => lhs; rw [e1, e2, e3, e4]
      rfl
    have e6 : le 8 (ps l) = (l.drop 4).take 8 := by
      have h8 : ((l.drop 4).take 8).length = 8 := by rw [List.length_take, List.length_drop]; omega
      have := val_le ((l.drop 4).take 8) (fun x hx => hl x (List.mem_of_mem_drop (List.mem_of_mem_take hx)))
      rw [h8] at this
      exact this
    unfold head12
    rw [e5, e6, le2, h2]
    unfold pk pn
    rw [show (l.getD 2 0 + 256 * l.getD 3 0) % 256 = l.getD 2 0 from by omega, show (l.getD 2 0 + 256 * l.getD 3 0) / 256 % 256 = l.getD 3 0 from by omega]
    rfl
  rw [hf, e12]
  rfl
theorem dec_form (l : List Nat) (hl : ∀ y ∈ l, y < 256) (h : decE l = 0) : l.take (pn l + 20) = frameL (pk l) (ps l) ((l.drop 16).take (pn l)) := by
  obtain ⟨h1, h2, h3⟩ := decE_zero h
  obtain ⟨_, hf⟩ := closed_form _ h3
  have hlen : ((l.take (pn l + 20)).drop 16).length = pn l + 4 := by rw [List.length_drop, List.length_take]; omega
  rw [hlen, show pn l + 4 - 4 = pn l from by omega] at hf
  have e1 : ((l.take (pn l + 20)).drop 16).take (pn l) = (l.drop 16).take (pn l) := by
    rw [List.drop_take, List.take_take, Nat.min_eq_left (by omega)]
  rw [e1] at hf
  have hbl : ((l.drop 16).take (pn l)).length = pn l := by rw [List.length_take, List.length_drop]; omega
  unfold frameL
  rw [hbl, ← hf, ← head_form l hl h1]
  have e2 : l.take 16 = (l.take (pn l + 20)).take 16 := by rw [List.take_take, Nat.min_eq_left (by omega)]
  rw [e2, List.take_append_drop]
end Go.Proofs.YtpjikkhcimghaaaDoor
