/- Own texts, joined: Frm, Fr1. -/
import Derived.Test.YtnfkdgjgglnniaaDoorK03
import Derived.Test.YtnfkdgjgglnniaaDoorK00
namespace Go.Proofs.YtnfkdgjgglnniaaDoor
set_option linter.unusedVariables false
/-- so many bytes of a number, the lowest first -/
def le : Nat → Nat → List Nat
  | 0, _ => []
  | k + 1, x => x % 256 :: le k (x / 256)
theorem le_length (k x : Nat) : (le k x).length = k := by
  induction k generalizing x with
  | zero => rfl
  | succ k ih => simp [le, ih]
theorem le_lt (k x : Nat) : ∀ y ∈ le k x, y < 256 := by
  induction k generalizing x with
  | zero => intro y hy; cases hy
  | succ k ih =>
    intro y hy
    simp only [le, List.mem_cons] at hy
    rcases hy with rfl | hy
    · omega
    · exact ih _ y hy
theorem le_val (k x : Nat) (h : x < 256 ^ k) : Crcm.val (le k x) = x := by
  induction k generalizing x with
  | zero => simp at h; subst h; rfl
  | succ k ih =>
    have h2 : x / 256 < 256 ^ k := Nat.div_lt_of_lt_mul (by rw [Nat.pow_succ, Nat.mul_comm] at h; exact h)
    simp only [le, Crcm.val]
    rw [ih _ h2]
    omega
theorem val_le (l : List Nat) (hl : ∀ x ∈ l, x < 256) : le l.length (Crcm.val l) = l := by
  induction l with
  | nil => rfl
  | cons c r ih =>
    have hc := hl c (List.mem_cons_self ..)
    have e1 : Crcm.val (c :: r) = c + 256 * Crcm.val r := rfl
    simp only [List.length_cons, le]
    rw [e1, show (c + 256 * Crcm.val r) % 256 = c from by omega, show (c + 256 * Crcm.val r) / 256 = Crcm.val r from by omega, ih (fun x hx => hl x (List.mem_cons_of_mem _ hx))]
theorem le_snoc (k x : Nat) : le (k + 1) x = le k x ++ [x / 256 ^ k % 256] := by
  induction k generalizing x with
  | zero => simp [le]
  | succ k ih =>
    show x % 256 :: le (k + 1) (x / 256) = (x % 256 :: le k (x / 256)) ++ _
    rw [ih, List.cons_append, Nat.div_div_eq_div_mul, Nat.pow_succ, Nat.mul_comm 256]
def head12 (k n s : Nat) : List Nat := 165 :: k :: (le 2 n ++ le 8 s)
def headL (k n s : Nat) : List Nat := head12 k n s ++ Crcm.four (Crcm.sum (head12 k n s))
def frameL (k s : Nat) (body : List Nat) : List Nat := headL k body.length s ++ (body ++ Crcm.four (Crcm.sum body))
theorem head12_length (k n s : Nat) : (head12 k n s).length = 12 := by simp [head12, le_length]
theorem four_length (s : Nat) : (Crcm.four s).length = 4 := rfl
theorem headL_length (k n s : Nat) : (headL k n s).length = 16 := by simp [headL, head12_length, four_length]
theorem frameL_length (k s : Nat) (body : List Nat) : (frameL k s body).length = body.length + 20 := by
  simp only [frameL, List.length_append, headL_length, four_length]; omega
theorem head12_lt (k n s : Nat) (hk : k < 256) : ∀ y ∈ head12 k n s, y < 256 := by
  intro y hy
  simp only [head12, List.mem_cons, List.mem_append] at hy
  rcases hy with rfl | rfl | hy | hy
  · omega
  · omega
  · exact le_lt _ _ y hy
  · exact le_lt _ _ y hy
theorem headL_lt (k n s : Nat) (hk : k < 256) : ∀ y ∈ headL k n s, y < 256 := by
  intro y hy
  rcases List.mem_append.1 hy with h | h
  · exact head12_lt k n s hk y h
  · exact Crcm.four_lt _ (Crcm.sum_lt _ (head12_lt k n s hk)) y h
theorem foot_lt (body : List Nat) (hb : ∀ y ∈ body, y < 256) : ∀ y ∈ body ++ Crcm.four (Crcm.sum body), y < 256 := by
  intro y hy
  rcases List.mem_append.1 hy with h | h
  · exact hb y h
  · exact Crcm.four_lt _ (Crcm.sum_lt _ hb) y h
theorem frameL_lt (k s : Nat) (body : List Nat) (hk : k < 256) (hb : ∀ y ∈ body, y < 256) : ∀ y ∈ frameL k s body, y < 256 := by
  intro y hy
  rcases List.mem_append.1 hy with h | h
  · exact headL_lt _ _ _ hk y h
  · exact foot_lt body hb y h
/-- the kind, the body's length and the number that a head tells -/
def pk (l : List Nat) : Nat := l.getD 1 0
def pn (l : List Nat) : Nat := l.getD 2 0 + 256 * l.getD 3 0
def ps (l : List Nat) : Nat := Crcm.val ((l.drop 4).take 8)
def peekE (l : List Nat) : Nat :=
  if l.length < 16 then 60 else if l.getD 0 0 ≠ 165 then 61 else if closedB (l.take 16) = false then 62
  else if pn l ≤ 16384 ∧ 1 ≤ pk l ∧ pk l ≤ 7 ∧ ps l ≤ 1099511627776 then 0 else 63
def peekK (l : List Nat) : Nat := if peekE l = 0 then pk l else 0
def peekS (l : List Nat) : Nat := if peekE l = 0 then ps l else 0
def peekN (l : List Nat) : Nat := if peekE l = 0 then pn l + 20 else 0
def decE (l : List Nat) : Nat :=
  if peekE l ≠ 0 then peekE l else if l.length < pn l + 20 then 60 else if closedB ((l.take (pn l + 20)).drop 16) = false then 62 else 0
def decK (l : List Nat) : Nat := if decE l = 0 then pk l else 0
def decS (l : List Nat) : Nat := if decE l = 0 then ps l else 0
def decN (l : List Nat) : Nat := if decE l = 0 then pn l + 20 else 0
def decB (l : List Nat) : List Nat := if decE l = 0 then (l.drop 16).take (pn l) else []
theorem decE_zero {l : List Nat} (h : decE l = 0) : peekE l = 0 ∧ pn l + 20 ≤ l.length ∧ closedB ((l.take (pn l + 20)).drop 16) = true := by
  unfold decE at h
  by_cases h1 : peekE l = 0
  · rw [if_neg (by omega)] at h
    by_cases h2 : l.length < pn l + 20
    · rw [if_pos h2] at h; omega
    · rw [if_neg h2] at h
      by_cases h3 : closedB ((l.take (pn l + 20)).drop 16) = false
      · rw [if_pos h3] at h; omega
      · exact ⟨h1, by omega, by simpa using h3⟩
  · rw [if_pos h1] at h; exact absurd h h1
theorem peekE_zero {l : List Nat} (h : peekE l = 0) : 16 ≤ l.length ∧ l.getD 0 0 = 165 ∧ closedB (l.take 16) = true ∧ pn l ≤ 16384 ∧ 1 ≤ pk l ∧ pk l ≤ 7 ∧ ps l ≤ 1099511627776 := by
  unfold peekE at h
  by_cases h1 : l.length < 16
  · rw [if_pos h1] at h; omega
  rw [if_neg h1] at h
  by_cases h2 : l.getD 0 0 ≠ 165
  · rw [if_pos h2] at h; omega
  rw [if_neg h2] at h
  by_cases h3 : closedB (l.take 16) = false
  · rw [if_pos h3] at h; omega
  rw [if_neg h3] at h
  by_cases h4 : pn l ≤ 16384 ∧ 1 ≤ pk l ∧ pk l ≤ 7 ∧ ps l ≤ 1099511627776
  · exact ⟨by omega, by omega, by simpa using h3, h4⟩
  · rw [if_neg h4] at h; omega
/-- a head of 16 bytes, laid and read -/
theorem closed_whole (l : List Nat) (hl : ∀ x ∈ l, x < 256) : closedB (l ++ Crcm.four (Crcm.sum l)) = true := by
  unfold closedB
  have hn : (l ++ Crcm.four (Crcm.sum l)).length = l.length + 4 := by rw [List.length_append]; rfl
  rw [hn, show l.length + 4 - 4 = l.length from by omega, List.drop_left, List.take_left]
  simp
theorem closed_form (l : List Nat) (h : closedB l = true) : 4 ≤ l.length ∧ l = l.take (l.length - 4) ++ Crcm.four (Crcm.sum (l.take (l.length - 4))) := by
  unfold closedB at h
  have h2 := of_decide_eq_true h
  refine ⟨h2.1, ?_⟩
  conv => lhs; rw [← List.take_append_drop (l.length - 4) l]
  rw [h2.2]
theorem le2 (n : Nat) : le 2 n = [n % 256, n / 256 % 256] := rfl
theorem head_parts (k n s : Nat) (r : List Nat) (hn : n < 65536) (hs : s < 18446744073709551616) :
    pk (headL k n s ++ r) = k ∧ pn (headL k n s ++ r) = n ∧ ps (headL k n s ++ r) = s ∧ (headL k n s ++ r).getD 0 0 = 165 ∧ (headL k n s ++ r).take 16 = headL k n s := by
  refine ⟨rfl, ?_, ?_, rfl, ?_⟩
  · show n % 256 + 256 * (n / 256 % 256) = n
    omega
  · unfold ps
    have e : (headL k n s ++ r).drop 4 = le 8 s ++ (Crcm.four (Crcm.sum (head12 k n s)) ++ r) := by
      unfold headL head12
      rw [le2]
      simp
    rw [e, List.take_left' (le_length 8 s), le_val 8 s (by rw [show (256 : Nat) ^ 8 = 18446744073709551616 from by decide]; exact hs)]
  · rw [List.take_left' (headL_length k n s)]
theorem peek_laid (k n s : Nat) (r : List Nat) (hk1 : 1 ≤ k) (hk7 : k ≤ 7) (hn : n ≤ 16384) (hs : s ≤ 1099511627776) : peekE (headL k n s ++ r) = 0 := by
  obtain ⟨h1, h2, h3, h4, h5⟩ := head_parts k n s r (by omega) (by omega)
  unfold peekE
  rw [h1, h2, h3, h4, h5, if_neg (by rw [List.length_append, headL_length]; omega), if_neg (by omega), if_neg, if_pos ⟨hn, hk1, hk7, hs⟩]
  unfold headL
  rw [closed_whole _ (head12_lt k n s (by omega))]
  simp
theorem dec_laid (k s : Nat) (body r : List Nat) (hb : ∀ y ∈ body, y < 256) (hk1 : 1 ≤ k) (hk7 : k ≤ 7) (hn : body.length ≤ 16384) (hs : s ≤ 1099511627776) :
    decE (frameL k s body ++ r) = 0 ∧ decK (frameL k s body ++ r) = k ∧ decS (frameL k s body ++ r) = s ∧ decN (frameL k s body ++ r) = body.length + 20 ∧ decB (frameL k s body ++ r) = body := by
  have e0 : frameL k s body ++ r = headL k body.length s ++ (body ++ Crcm.four (Crcm.sum body) ++ r) := by unfold frameL; rw [List.append_assoc]
  obtain ⟨h1, h2, h3, h4, h5⟩ := head_parts k body.length s (body ++ Crcm.four (Crcm.sum body) ++ r) (by omega) (by omega)
  have h0 := peek_laid k body.length s (body ++ Crcm.four (Crcm.sum body) ++ r) hk1 hk7 hn hs
  rw [← e0] at h0 h1 h2 h3 h4 h5
  have hE : decE (frameL k s body ++ r) = 0 := by
    unfold decE
    rw [h0, h2, if_neg (by omega), if_neg (by rw [List.length_append, frameL_length]; omega), if_neg]
    rw [List.take_left' (frameL_length k s body)]
    unfold frameL
    rw [List.drop_left' (headL_length k body.length s), closed_whole _ hb]
    simp
  refine ⟨hE, ?_, ?_, ?_, ?_⟩
  · unfold decK; rw [if_pos hE, h1]
  · unfold decS; rw [if_pos hE, h3]
  · unfold decN; rw [if_pos hE, h2]
  · unfold decB
    rw [if_pos hE, h2, e0, List.drop_left' (headL_length k body.length s), List.append_assoc, List.take_left' rfl]
theorem dec_short (k s m : Nat) (body : List Nat) (hb : ∀ y ∈ body, y < 256) (hk1 : 1 ≤ k) (hk7 : k ≤ 7) (hn : body.length ≤ 16384) (hs : s ≤ 1099511627776) (hm : m < body.length + 20) : decE ((frameL k s body).take m) = 60 := by
  by_cases h16 : m < 16
  · unfold decE
    have hp : peekE ((frameL k s body).take m) = 60 := by
      unfold peekE
      rw [if_pos (by rw [List.length_take]; omega)]
    rw [hp, if_pos (by omega)]
  · have e0 : (frameL k s body).take m = headL k body.length s ++ (body ++ Crcm.four (Crcm.sum body)).take (m - 16) := by
      unfold frameL
      rw [List.take_append, headL_length, List.take_of_length_le (by rw [headL_length]; omega)]
    obtain ⟨h1, h2, h3, h4, h5⟩ := head_parts k body.length s ((body ++ Crcm.four (Crcm.sum body)).take (m - 16)) (by omega) (by omega)
    have h0 := peek_laid k body.length s ((body ++ Crcm.four (Crcm.sum body)).take (m - 16)) hk1 hk7 hn hs
    rw [← e0] at h0 h2
    unfold decE
    rw [h0, h2, if_neg (by omega), if_pos (by rw [List.length_take, frameL_length]; omega)]
/-- what is read is what would be laid -/
theorem head_form (l : List Nat) (hl : ∀ y ∈ l, y < 256) (h : peekE l = 0) : l.take 16 = headL (pk l) (pn l) (ps l) := by
  obtain ⟨h1, h2, h3, h4, h5, h6, h7⟩ := peekE_zero h
  obtain ⟨_, hf⟩ := closed_form _ h3
  have hlen : (l.take 16).length = 16 := by rw [List.length_take]; omega
  rw [hlen, List.take_take, show min (16 - 4) 16 = 12 from rfl] at hf
  have e12 : l.take 12 = head12 (pk l) (pn l) (ps l) := by
    have e1 := drop_at l 0 _ (by omega) rfl
    have e2 := drop_at l 1 _ (by omega) rfl
    have e3 := drop_at l 2 _ (by omega) rfl
    have e4 := drop_at l 3 _ (by omega) rfl
    rw [List.drop_zero] at e1
    have b2 := getD_lt hl 2
    have b3 := getD_lt hl 3
    have e5 : l.take 12 = l.getD 0 0 :: l.getD 1 0 :: l.getD 2 0 :: l.getD 3 0 :: (l.drop 4).take 8 := by
      conv => lhs; rw [e1, e2, e3, e4]
      rfl
    have e6 : le 8 (ps l) = (l.drop 4).take 8 := by
      have h8 : ((l.drop 4).take 8).length = 8 := by rw [List.length_take, List.length_drop]; omega
      have := val_le ((l.drop 4).take 8) (fun x hx => hl x (List.mem_of_mem_drop (List.mem_of_mem_take hx)))
      rw [h8] at this
      exact this
    unfold head12
    rw [e5, e6, le2, h2]
    unfold pk pn
    rw [show (l.getD 2 0 + 256 * l.getD 3 0) % 256 = l.getD 2 0 from by omega, show (l.getD 2 0 + 256 * l.getD 3 0) / 256 % 256 = l.getD 3 0 from by omega]
    rfl
  rw [hf, e12]
  rfl
theorem dec_form (l : List Nat) (hl : ∀ y ∈ l, y < 256) (h : decE l = 0) : l.take (pn l + 20) = frameL (pk l) (ps l) ((l.drop 16).take (pn l)) := by
  obtain ⟨h1, h2, h3⟩ := decE_zero h
  obtain ⟨_, hf⟩ := closed_form _ h3
  have hlen : ((l.take (pn l + 20)).drop 16).length = pn l + 4 := by rw [List.length_drop, List.length_take]; omega
  rw [hlen, show pn l + 4 - 4 = pn l from by omega] at hf
  have e1 : ((l.take (pn l + 20)).drop 16).take (pn l) = (l.drop 16).take (pn l) := by
    rw [List.drop_take, List.take_take, Nat.min_eq_left (by omega)]
  rw [e1] at hf
  have hbl : ((l.drop 16).take (pn l)).length = pn l := by rw [List.length_take, List.length_drop]; omega
  unfold frameL
  rw [hbl, ← hf, ← head_form l hl h1]
  have e2 : l.take 16 = (l.take (pn l + 20)).take 16 := by rw [List.take_take, Nat.min_eq_left (by omega)]
  rw [e2, List.take_append_drop]
end Go.Proofs.YtnfkdgjgglnniaaDoor
namespace Go.Proofs.YtnfkdgjgglnniaaDoor
open Go.ChangeShapes Go.WideShapes Go.ChangeAt Go.RowKit
set_option linter.unusedVariables false
/-- the size of a frame whose body has n bytes -/
def fsz (n : Int) : Int := if n < 0 ∨ 16384 < n then 0 else n + 20
def inB (k s : Int) : Bool := decide (1 ≤ k ∧ k ≤ 7 ∧ 0 ≤ s ∧ s ≤ 1099511627776)
set_option maxRecDepth 20000 in
set_option maxHeartbeats 400000 in
theorem fsize_any (n : Int) (w : World) : Calls Tryd.prog 47 #[.int .i64 n] w fun e w' => e = .returned (.int .i64 (fsz n)) ∧ w = w' := by
  by_cases h1 : n < 0
  · have HF : Hid (fsz n = 0) := by show _ = _; unfold fsz; rw [if_pos (.inl h1)]
    go_enter Tryd.func47, Tryd.ntmps47
    go_wp2
    go_ret
    exact ⟨by rw [HF.out]; rfl, rfl⟩
  by_cases h2 : 16384 < n
  · have HF : Hid (fsz n = 0) := by show _ = _; unfold fsz; rw [if_pos (.inr h2)]
    go_enter Tryd.func47, Tryd.ntmps47
    go_wp2
    go_ret
    exact ⟨by rw [HF.out]; rfl, rfl⟩
  · have HF : Hid (fsz n = n + 20) := by show _ = _; unfold fsz; rw [if_neg (by omega)]
    go_enter Tryd.func47, Tryd.ntmps47
    go_wp2
    go_ret
    exact ⟨ret_int (by rw [HF.out]; omega), rfl⟩
set_option maxRecDepth 20000 in
set_option maxHeartbeats 400000 in
theorem inb_any (k s : Int) (w : World) : Calls Tryd.prog 46 #[.int .i64 k, .int .i64 s] w fun e w' => e = .returned (.bool (inB k s)) ∧ w = w' := by
  by_cases h1 : 1 ≤ k
  · by_cases h2 : k ≤ 7
    · by_cases h3 : 0 ≤ s
      · by_cases h4 : s ≤ 1099511627776
        · have HF : Hid (inB k s = true) := by show _ = _; simp [inB]; omega
          go_enter Tryd.func46, Tryd.ntmps46
          go_wp2
          go_ret
          exact ⟨by rw [HF.out]; rfl, rfl⟩
        · have HF : Hid (inB k s = false) := by show _ = _; simp [inB]; omega
          go_enter Tryd.func46, Tryd.ntmps46
          go_wp2
          go_ret
          exact ⟨by rw [HF.out]; rfl, rfl⟩
      · have HF : Hid (inB k s = false) := by show _ = _; simp [inB]; omega
        go_enter Tryd.func46, Tryd.ntmps46
        go_wp2
        go_ret
        exact ⟨by rw [HF.out]; rfl, rfl⟩
    · have HF : Hid (inB k s = false) := by show _ = _; simp [inB]; omega
      go_enter Tryd.func46, Tryd.ntmps46
      go_wp2
      go_ret
      exact ⟨by rw [HF.out]; rfl, rfl⟩
  · have HF : Hid (inB k s = false) := by show _ = _; simp [inB]; omega
    go_enter Tryd.func46, Tryd.ntmps46
    go_wp2
    go_ret
    exact ⟨by rw [HF.out]; rfl, rfl⟩
theorem Tryd.info5f : (Tryd.prog.info? 5).map (fun i => (i.zero, i.size, i.bytes)) = some (some (.int .u8 0), 1, 1) := by kernel_rfl
set_option maxRecDepth 20000 in
set_option maxHeartbeats 1000000 in
theorem alow_any (x K : Nat) (base : Nat) (v : Value) (n : Nat) (xs : List Value) (w : World) (hx : x ≤ 9223372036854775807) (hK : K ≤ 8) (hown : w.ownsRow base 5 1 v n xs) (hbase : base ≤ w.heap.size) (hn : n + 10 ≤ 140737488355328) :
    Calls Tryd.prog 48 #[v, .int .i64 x, .int .i64 K] w fun e w' => ∃ v', e = .returned v' ∧ w'.ownsRow base 5 1 v' (n + K) (xs ++ B8 (le K x)) ∧ Below base w w' ∧ NB w w' := by
  obtain ⟨i0, hi, hz0, hz1, hz2⟩ := info_parts Tryd.info5f
  go_enter Tryd.func48, Tryd.ntmps48
  go_wp2
  go_loopw [0, 1, 8] (fun vb vu vi wr => ∃ (j y : Nat), vi = .int .i64 j ∧ vu = .int .i64 y ∧ y = x / 256 ^ j ∧ y ≤ 9223372036854775807 ∧ j ≤ K ∧ wr.ownsRow base 5 1 vb (n + j) (xs ++ B8 (le j x)) ∧ Below base w wr ∧ NB w wr) (fun _ _ vi _ => K - (intOf vi).toNat)
  case atStart => exact ⟨0, x, rfl, rfl, by simp, hx, Nat.zero_le _, by simpa [B8, le] using hown, Below.refl _ _, NB.refl _⟩
  case round =>
    obtain ⟨j, y, rfl, rfl, hy, hyl, hj, ho, hbe, hnb⟩ := hrel
    have HY : Hid (y = x / 256 ^ j) := hy
    have HNB : Hid (NB w wr) := hnb
    have HHOWN := hown
    clear hy hown hnb HHOWN
    have hsz := hbe.size
    by_cases hlt : j < K
    · have HU : Hid (IntKind.u8.wrap (y : Int) = ((x / 256 ^ j % 256 : Nat) : Int)) := by show _ = _; rw [IntKind.wrap_u8', HY.out]; omega
      go_wp2_with (at_builtin; refine wpList_append_own _ rfl _ _ 40 rfl base 5 i0 (.int .u8 0) 1 1 Tryd.underlying40 hi hz0 hz1 hz2 rfl (by decide) _ _ _ rfl (ho.alloc _) ⟨wr.heap.size, 0, none⟩ 1 1 [.int .u8 (IntKind.u8.wrap (y : Int))] rfl rfl (cell_new _ _ _) (one_new _) (by unfold maxLen; omega) (by omega) (by simp; omega) ?_)
      intro v' w1 hown' hgrow _
      have hb1 := grown_row (hbe.alloc (by omega) _) (ho.alloc _) (by simp; omega) hgrow
      have hq1 : NB w w1 := HNB.out.trans ((NB.of_below ((Below.refl wr.heap.size wr).alloc (Nat.le_refl _) _)).trans (NB.of_grown (ho.alloc _) hgrow))
      have HQ1 : Hid (NB w w1) := hq1
      clear hgrow ho hbe hq1
      go_wp2
      go_roundw
      case rel =>
        refine ⟨j + 1, y / 256, by go_num, by go_num, ?_, by omega, by omega, ?_, hb1, HQ1.out⟩
        · rw [HY.out, Nat.div_div_eq_div_mul, Nat.pow_succ]
        · rw [HU.out] at hown'
          rw [le_snoc, B8_append, ← Nat.add_assoc]
          exact hown'
      case measure => simp [intOf]; omega
    · obtain rfl : j = K := by omega
      have HO : Hid (_) := ho
      go_wp2
      go_ret
      exact ⟨_, rfl, HO.out, hbe, HNB.out⟩
theorem wrap64_nil : wrap64 ((Crcm.val [] : Nat) : Int) = 0 := by unfold wrap64; rw [show Crcm.val [] = 0 from rfl]; omega
theorem i64_or_raw (a b : Int) : bits .or .i64 a b = IntKind.i64.wrap (((a % 18446744073709551616).toNat ||| (b % 18446744073709551616).toNat : Nat) : Int) := by
  show IntKind.i64.wrap ((BitVec.ofInt 64 a ||| BitVec.ofInt 64 b).toNat : Int) = _
  rw [BitVec.toNat_or, BitVec.toNat_ofInt, BitVec.toNat_ofInt]
  rfl
theorem wrap64_nat (a : Nat) (h : a < 18446744073709551616) : (wrap64 (a : Int) % 18446744073709551616).toNat = a := by
  unfold wrap64
  omega
theorem or_low (a c k : Nat) (ha : a < 2 ^ (8 * k)) (hc : c < 256) (hk : k ≤ 7) : bits .or .i64 (wrap64 (a : Int)) (wrap64 ((c : Int) * 2 ^ (8 * k))) = wrap64 ((a + c * 2 ^ (8 * k) : Nat) : Int) := by
  have h1 : 2 ^ (8 * k) ≤ 72057594037927936 := by
    have : 2 ^ (8 * k) ≤ 2 ^ 56 := Nat.pow_le_pow_right (by omega) (by omega)
    rw [show (2 : Nat) ^ 56 = 72057594037927936 from by decide] at this
    exact this
  have h2 : c * 2 ^ (8 * k) + 2 ^ (8 * k) ≤ 256 * 2 ^ (8 * k) := by
    rw [← Nat.succ_mul]; exact Nat.mul_le_mul_right _ hc
  have e1 : ((c : Int) * 2 ^ (8 * k)) = ((c * 2 ^ (8 * k) : Nat) : Int) := by simp
  have e3 := nat_join (8 * k) (c * 2 ^ (8 * k)) a (Nat.mul_mod_left _ _) ha
  rw [e1, i64_or_raw]
  generalize c * 2 ^ (8 * k) = M at *
  generalize 2 ^ (8 * k) = S at *
  rw [wrap64_nat a (by omega), wrap64_nat M (by omega), Nat.or_comm, e3, wrap_i64, Nat.add_comm]
  unfold wrap64
  rfl
set_option maxRecDepth 20000 in
set_option maxHeartbeats 400000 in
theorem low_any (l : List Nat) (n : Nat) (b off cap : Nat) (w : World) (hn : l.length = n) (h8 : n ≤ 8) (hb : Bytes w (some ⟨b, off, none⟩) l) :
    Calls Tryd.prog 70 #[.slice (some ⟨b, off, none⟩) n cap] w fun e w' => e = .returned (.int .i64 (wrap64 (Crcm.val l))) ∧ w = w' := by
  subst hn
  obtain ⟨hby, rfl | ⟨b', off', hE, hlt, hcell⟩⟩ := hb
  · go_enter Tryd.func70, Tryd.ntmps70
    go_wp2
    refine wp_loop_rounds 1 ?_
    rw [rounds_succ]
    go_wp2
    go_ret
    exact ⟨ret_int (show (0 : Int) = wrap64 ((Crcm.val [] : Nat) : Int) from wrap64_nil.symm), rfl⟩
  · cases hE
    have HBY : Hid (∀ i, l.getD i 0 < 256) := hby
    have HCELL : Hid (∀ i, i < l.length → w.cell? ⟨b, off + i, none⟩ = some (.int .u8 (l.getD i 0 : Nat))) := hcell
    clear hby hcell
    go_enter Tryd.func70, Tryd.ntmps70
    go_wp2
    go_loop [3, 8] (fun vr vi => ∃ k : Nat, ∃ r : Int, k ≤ l.length ∧ vi = .int .i64 k ∧ vr = .int .i64 r ∧ r = wrap64 (Crcm.val (l.take k))) (fun _ vi => l.length - (intOf vi).toNat)
    case atStart => exact ⟨0, 0, Nat.zero_le _, rfl, rfl, by rw [List.take_zero]; exact wrap64_nil.symm⟩
    case round =>
      obtain ⟨k, r, hk, rfl, rfl, hr⟩ := hrel
      have HR : Hid (r = wrap64 (Crcm.val (l.take k))) := hr
      clear hr
      by_cases hkl : k < l.length
      · have hc := HCELL.out k hkl
        have hc256 := HBY.out k
        obtain ⟨c, hcE⟩ : ∃ c, c = l.getD k 0 := ⟨_, rfl⟩
        rw [← hcE] at hc hc256
        have HN : Hid (bits .or .i64 r (wrap64 ((c : Int) * 2 ^ (8 * k))) = wrap64 ((Crcm.val (l.take (k + 1)) : Nat) : Int)) := by
          show _ = _
          rw [HR.out, or_low _ c k ?_ hc256 (by omega), take_snoc_nat l k c hkl hcE, Crcm.val_append, List.length_take, Nat.min_eq_left (by omega)]
          · rw [show Crcm.val [c] = c from rfl, Nat.mul_comm c]
          · have := Crcm.val_lt (l.take k) (fun x hx => by obtain ⟨i, hi, rfl⟩ := List.getElem_of_mem (List.mem_of_mem_take hx); have := HBY.out i; simpa [List.getD_eq_getElem?_getD, List.getElem?_eq_getElem hi] using this)
            rw [List.length_take, Nat.min_eq_left (by omega)] at this
            exact this
        clear hcE HCELL HBY
        go_wp2
        go_round
        case rel => exact ⟨k + 1, _, by omega, by go_num, rfl, HN.out⟩
        case measure => simp [intOf]; omega
      · go_wp2
        go_ret
        exact ⟨ret_int (by rw [HR.out, List.take_of_length_le (by omega)]), rfl⟩
end Go.Proofs.YtnfkdgjgglnniaaDoor
