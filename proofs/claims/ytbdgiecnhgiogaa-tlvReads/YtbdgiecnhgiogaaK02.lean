/- Own texts, joined: Tlm, Nb. -/
import Derived.Test.YtbdgiecnhgiogaaK01
import Derived.Test.YtbdgiecnhgiogaaK00
namespace Go.Proofs.Ytbdgiecnhgiogaa
open Go.ChangeShapes Go.WideShapes Go.ChangeAt Go.RowKit
structure Fld where
  tag : Int
  text : Bool
  num : Nat
  bytes : List Nat
/-- what is wrong with a field behind one of the tag last -/
def flt (f : Fld) (last : Int) : Nat :=
  if f.tag < 1 ∨ 31 < f.tag then 20 else if f.tag ≤ last then 21 else if f.text = true then (if f.bytes = [] then 22 else if 200 < f.bytes.length then 23 else 0) else if f.num = 0 then 22 else 0
/-- the bytes of a right field -/
def one (f : Fld) : List Nat := if f.text = true then enc (2 * f.tag.toNat + 1) ++ (enc f.bytes.length ++ f.bytes) else enc (2 * f.tag.toNat) ++ enc f.num
/-- what means nothing is nothing -/
def norm (f : Fld) : Fld := if f.text = true then { f with num := 0 } else { f with bytes := [] }
def fail (e : Nat) : Fld × Nat × Nat := (⟨0, false, 0, []⟩, 0, e)
/-- the field with which l begins: itself, how many bytes, the error -/
def next (l : List Nat) (last : Int) : Fld × Nat × Nat :=
  if (dec 0 0 l).2.2 ≠ 0 then fail (dec 0 0 l).2.2
  else if (dec 0 0 l).1 < 2 ∨ 63 < (dec 0 0 l).1 then fail 20
  else if ((dec 0 0 l).1 / 2 : Nat) ≤ last then fail 21
  else if (dec 0 0 (l.drop (dec 0 0 l).2.1)).2.2 ≠ 0 then fail (dec 0 0 (l.drop (dec 0 0 l).2.1)).2.2
  else if (dec 0 0 (l.drop (dec 0 0 l).2.1)).1 = 0 then fail 22
  else if (dec 0 0 l).1 % 2 = 0 then (⟨((dec 0 0 l).1 / 2 : Nat), false, (dec 0 0 (l.drop (dec 0 0 l).2.1)).1, []⟩, (dec 0 0 l).2.1 + (dec 0 0 (l.drop (dec 0 0 l).2.1)).2.1, 0)
  else if 200 < (dec 0 0 (l.drop (dec 0 0 l).2.1)).1 then fail 23
  else if l.length < (dec 0 0 l).2.1 + (dec 0 0 (l.drop (dec 0 0 l).2.1)).2.1 + (dec 0 0 (l.drop (dec 0 0 l).2.1)).1 then fail 10
  else (⟨((dec 0 0 l).1 / 2 : Nat), true, 0, (l.drop ((dec 0 0 l).2.1 + (dec 0 0 (l.drop (dec 0 0 l).2.1)).2.1)).take (dec 0 0 (l.drop (dec 0 0 l).2.1)).1⟩, (dec 0 0 l).2.1 + (dec 0 0 (l.drop (dec 0 0 l).2.1)).2.1 + (dec 0 0 (l.drop (dec 0 0 l).2.1)).1, 0)
/-- next, the two numbers read -/
def nextR (l : List Nat) (last : Int) (k n u m e2 : Nat) : Fld × Nat × Nat :=
  if k < 2 ∨ 63 < k then fail 20
  else if (k / 2 : Nat) ≤ last then fail 21
  else if e2 ≠ 0 then fail e2
  else if u = 0 then fail 22
  else if k % 2 = 0 then (⟨(k / 2 : Nat), false, u, []⟩, n + m, 0)
  else if 200 < u then fail 23
  else if l.length < n + m + u then fail 10
  else (⟨(k / 2 : Nat), true, 0, (l.drop (n + m)).take u⟩, n + m + u, 0)
theorem next_bad (l : List Nat) (last : Int) (k n e : Nat) (h : dec 0 0 l = (k, n, e)) (he : e ≠ 0) : next l last = fail e := by
  unfold next; rw [h, if_pos he]
theorem next_two (l : List Nat) (last : Int) (k n u m e2 : Nat) (h : dec 0 0 l = (k, n, 0)) (h2 : dec 0 0 (l.drop n) = (u, m, e2)) : next l last = nextR l last k n u m e2 := by
  unfold next nextR; rw [h]; simp only [ne_eq, not_true_eq_false, if_false]; rw [h2]
/-- what is read is a right field, and its bytes are those that would be written -/
theorem next_right (l : List Nat) (hl : ∀ x ∈ l, x < 256) (last : Int) (f : Fld) (n : Nat) (h : next l last = (f, n, 0)) :
    flt f last = 0 ∧ norm f = f ∧ one f = l.take n ∧ n ≤ l.length ∧ 2 ≤ n ∧ f.num ≤ 18446744073709551615 ∧ (∀ x ∈ f.bytes, x < 256) ∧ 1 ≤ f.tag ∧ f.tag ≤ 31 ∧ last < f.tag ∧ f.bytes.length ≤ 200 := by
  rcases hd : dec 0 0 l with ⟨k, n1, e1⟩
  by_cases he1 : e1 = 0
  · subst he1
    have d1 := vdec_form l hl (by rw [hd])
    rw [hd] at d1
    obtain ⟨a1, a2, a3, a4, a5⟩ := d1
    simp only at a1 a2 a3 a4 a5
    rcases hd2 : dec 0 0 (l.drop n1) with ⟨u, m, e2⟩
    rw [next_two l last k n1 u m e2 hd hd2] at h
    unfold nextR at h
    by_cases c1 : k < 2 ∨ 63 < k
    · rw [if_pos c1] at h; simp [fail] at h
    rw [if_neg c1] at h
    by_cases c2 : (k / 2 : Nat) ≤ last
    · rw [if_pos c2] at h; simp [fail] at h
    rw [if_neg c2] at h
    by_cases c3 : e2 = 0
    · subst c3
      rw [if_neg (by simp)] at h
      have hl2 : ∀ x ∈ l.drop n1, x < 256 := fun x hx => hl x (List.mem_of_mem_drop hx)
      have d2 := vdec_form (l.drop n1) hl2 (by rw [hd2])
      rw [hd2] at d2
      obtain ⟨b1, b2, b3, b4, b5⟩ := d2
      simp only [List.length_drop] at b1 b2 b3 b4 b5
      by_cases c4 : u = 0
      · rw [if_pos c4] at h; simp [fail] at h
      rw [if_neg c4] at h
      by_cases c5 : k % 2 = 0
      · rw [if_pos c5] at h
        obtain ⟨rfl, h'⟩ := Prod.mk.inj h
        obtain ⟨rfl, _⟩ := Prod.mk.inj h'
        refine ⟨?_, rfl, ?_, by omega, by omega, b4, by simp, by show (1 : Int) ≤ ((k / 2 : Nat) : Int); omega, by show ((k / 2 : Nat) : Int) ≤ 31; omega, by show last < ((k / 2 : Nat) : Int); omega, by simp⟩
        · unfold flt
          rw [if_neg (by show ¬ (((k / 2 : Nat) : Int) < 1 ∨ 31 < ((k / 2 : Nat) : Int)); omega), if_neg c2, if_neg (by simp), if_neg c4]
        · unfold one
          rw [if_neg (by simp)]
          show enc (2 * (((k / 2 : Nat) : Int)).toNat) ++ enc u = _
          rw [Int.toNat_natCast, show 2 * (k / 2) = k from by omega, a5, b5, ← List.take_add]
      · rw [if_neg c5] at h
        by_cases c6 : 200 < u
        · rw [if_pos c6] at h; simp [fail] at h
        rw [if_neg c6] at h
        by_cases c7 : l.length < n1 + m + u
        · rw [if_pos c7] at h; simp [fail] at h
        rw [if_neg c7] at h
        obtain ⟨rfl, h'⟩ := Prod.mk.inj h
        obtain ⟨rfl, _⟩ := Prod.mk.inj h'
        have hlen : ((l.drop (n1 + m)).take u).length = u := by simp; omega
        refine ⟨?_, rfl, ?_, by omega, by omega, by simp, fun x hx => hl x (List.mem_of_mem_drop (List.mem_of_mem_take hx)), by show (1 : Int) ≤ ((k / 2 : Nat) : Int); omega, by show ((k / 2 : Nat) : Int) ≤ 31; omega, by show last < ((k / 2 : Nat) : Int); omega, by show ((l.drop (n1 + m)).take u).length ≤ 200; omega⟩
        · unfold flt
          rw [if_neg (by show ¬ (((k / 2 : Nat) : Int) < 1 ∨ 31 < ((k / 2 : Nat) : Int)); omega), if_neg c2, if_pos rfl]
          show (if (l.drop (n1 + m)).take u = [] then 22 else if 200 < ((l.drop (n1 + m)).take u).length then 23 else 0) = 0
          rw [if_neg (by intro h0; rw [h0] at hlen; simp at hlen; omega), if_neg (by omega)]
        · unfold one
          rw [if_pos rfl]
          show enc (2 * (((k / 2 : Nat) : Int)).toNat + 1) ++ (enc ((l.drop (n1 + m)).take u).length ++ (l.drop (n1 + m)).take u) = _
          rw [hlen, Int.toNat_natCast, show 2 * (k / 2) + 1 = k from by omega, a5, b5, show n1 + m + u = n1 + (m + u) from by omega, List.take_add, List.take_add, List.drop_drop]
    · rw [if_pos c3] at h; simp [fail] at h; omega
  · rw [next_bad l last k n1 e1 hd he1] at h
    simp [fail] at h; omega
/-- what is written is read -/
theorem next_one (f : Fld) (last : Int) (r : List Nat) (hn : f.num ≤ 18446744073709551615) (h : flt f last = 0) : next (one f ++ r) last = (norm f, (one f).length, 0) := by
  have h1 : ¬ (f.tag < 1 ∨ 31 < f.tag) := fun hc => by unfold flt at h; rw [if_pos hc] at h; cases h
  have h2 : ¬ (f.tag ≤ last) := fun hc => by unfold flt at h; rw [if_neg h1, if_pos hc] at h; cases h
  obtain ⟨T, hT⟩ : ∃ T : Nat, f.tag = T := ⟨f.tag.toNat, by omega⟩
  unfold flt at h
  rw [if_neg h1, if_neg h2] at h
  obtain ⟨tag, text, num, bytes⟩ := f
  simp only at hT h1 h2 h hn
  subst hT
  cases text with
  | true =>
    rw [if_pos rfl] at h
    have h3 : bytes ≠ [] := fun hc => by rw [if_pos hc] at h; cases h
    rw [if_neg h3] at h
    have h4 : ¬ 200 < bytes.length := fun hc => by rw [if_pos hc] at h; cases h
    have h5 : 0 < bytes.length := List.length_pos_iff.2 h3
    have e0 : one ⟨(T : Int), true, num, bytes⟩ = enc (2 * T + 1) ++ (enc bytes.length ++ bytes) := by unfold one; rw [if_pos rfl]; simp only [Int.toNat_natCast]
    rw [e0, List.append_assoc, List.append_assoc]
    have d1 := dec_back (2 * T + 1) (enc bytes.length ++ (bytes ++ r)) (by omega)
    have d2 : dec 0 0 ((enc (2 * T + 1) ++ (enc bytes.length ++ (bytes ++ r))).drop (enc (2 * T + 1)).length) = (bytes.length, (enc bytes.length).length, 0) := by
      rw [List.drop_left]; exact dec_back _ _ (by omega)
    rw [next_two _ last _ _ _ _ _ d1 d2]
    unfold nextR
    rw [if_neg (by omega), if_neg (by rw [show (2 * T + 1) / 2 = T from by omega]; exact h2), if_neg (by simp), if_neg (by omega), if_neg (by omega), if_neg (by omega), if_neg (by simp; omega)]
    simp only [norm, if_true]
    rw [show (2 * T + 1) / 2 = T from by omega]
    refine Prod.ext ?_ (Prod.ext (by simp; omega) rfl)
    show Fld.mk _ _ _ _ = Fld.mk _ _ _ _
    congr 1
    rw [show (enc (2 * T + 1)).length + (enc bytes.length).length = (enc (2 * T + 1) ++ enc bytes.length).length from by simp, ← List.append_assoc, List.drop_left, List.take_left]
  | false =>
    rw [if_neg (by simp)] at h
    have h3 : num ≠ 0 := fun hc => by rw [if_pos hc] at h; cases h
    have e0 : one ⟨(T : Int), false, num, bytes⟩ = enc (2 * T) ++ enc num := by unfold one; rw [if_neg (by simp)]; simp only [Int.toNat_natCast]
    rw [e0, List.append_assoc]
    have d1 := dec_back (2 * T) (enc num ++ r) (by omega)
    have d2 : dec 0 0 ((enc (2 * T) ++ (enc num ++ r)).drop (enc (2 * T)).length) = (num, (enc num).length, 0) := by
      rw [List.drop_left]; exact dec_back _ _ hn
    rw [next_two _ last _ _ _ _ _ d1 d2]
    unfold nextR
    rw [if_neg (by omega), if_neg (by rw [show 2 * T / 2 = T from by omega]; exact h2), if_neg (by simp), if_neg h3, if_pos (by omega)]
    simp only [norm, Bool.false_eq_true, if_false]
    rw [show 2 * T / 2 = T from by omega]
    exact Prod.ext rfl (Prod.ext (by simp) rfl)
theorem one_len (f : Fld) (last : Int) (hn : f.num ≤ 18446744073709551615) (h : flt f last = 0) : 2 ≤ (one f).length ∧ (one f).length ≤ 220 := by
  have h1 : ¬ (f.tag < 1 ∨ 31 < f.tag) := fun hc => by unfold flt at h; rw [if_pos hc] at h; cases h
  have h2 : ¬ (f.tag ≤ last) := fun hc => by unfold flt at h; rw [if_neg h1, if_pos hc] at h; cases h
  unfold flt at h
  rw [if_neg h1, if_neg h2] at h
  have g1 := enc_length_le (2 * f.tag.toNat + 1) (by omega)
  have g2 := enc_length_le (2 * f.tag.toNat) (by omega)
  have g3 := enc_length_le f.num hn
  unfold one
  by_cases ht : f.text = true
  · rw [if_pos ht] at h ⊢
    have h3 : f.bytes ≠ [] := fun hc => by rw [if_pos hc] at h; cases h
    rw [if_neg h3] at h
    have h4 : ¬ 200 < f.bytes.length := fun hc => by rw [if_pos hc] at h; cases h
    have g4 := enc_length_le f.bytes.length (by omega)
    simp only [List.length_append]; omega
  · rw [if_neg ht]
    simp only [List.length_append]; omega
theorem flt_tag {f : Fld} {last : Int} (h : flt f last = 0) : 1 ≤ f.tag ∧ f.tag ≤ 31 ∧ last < f.tag := by
  have h1 : ¬ (f.tag < 1 ∨ 31 < f.tag) := fun hc => by unfold flt at h; rw [if_pos hc] at h; cases h
  have h2 : ¬ (f.tag ≤ last) := fun hc => by unfold flt at h; rw [if_neg h1, if_pos hc] at h; cases h
  omega
/-- Encode, from a state on -/
def encs : List Fld → Int → List Nat → List Nat × Nat
  | [], _, b => if 1024 < b.length then ([], 24) else (b, 0)
  | f :: r, last, b => if flt f last ≠ 0 then ([], flt f last) else encs r f.tag (b ++ one f)
/-- Decode, from a state on -/
def decs : Nat → List Nat → Int → Nat → List Fld → List Fld × Nat × Nat
  | 0, _, _, _, acc => (acc, 0, 0)
  | fuel + 1, l, last, i, acc =>
    if l.length ≤ i then (acc, 0, 0)
    else if (next (l.drop i) last).2.2 ≠ 0 then ([], i, (next (l.drop i) last).2.2)
    else decs fuel l (next (l.drop i) last).1.tag (i + (next (l.drop i) last).2.1) (acc ++ [(next (l.drop i) last).1])
def recs (l : List Nat) : List Fld × Nat × Nat := if 1024 < l.length then ([], 0, 24) else decs (l.length + 1) l 0 0 []
end Go.Proofs.Ytbdgiecnhgiogaa
namespace Go.Proofs.Ytbdgiecnhgiogaa
open Go.ChangeShapes Go.WideShapes Go.ChangeAt Go.RowKit
set_option linter.unusedVariables false
theorem below_next {w a b : World} (h : Below w.heap.size w a) (k : Below a.heap.size a b) : Below w.heap.size w b := h.trans (k.mono h.size)
theorem lt_of_heap {w : World} {k : Nat} {o : Obj} (h : w.heap[k]? = some o) : k < w.heap.size := by
  by_cases hh : k < w.heap.size
  · exact hh
  · rw [Array.getElem?_eq_none (by omega)] at h; cases h
theorem own_below {w w' : World} {base : Nat} {e : TypeId} {size : Nat} {v : Value} {n : Nat} {xs : List Value} (h : w.ownsRow base e size v n xs) (hb : Below w.heap.size w w') : w'.ownsRow base e size v n xs := by
  refine ⟨h.1, ?_⟩
  rcases h.2 with h2 | ⟨g, cap, cur, h3, h4, h5, h6⟩
  · exact .inl h2
  · refine .inr ⟨g, cap, cur, h3, h4, ?_, h6⟩
    have hlt : g < w.heap.size := by
      by_cases hh : g < w.heap.size
      · exact hh
      · rw [Array.getElem?_eq_none (by omega)] at h5; cases h5
    rw [hb.block g hlt]; exact h5
theorem grown_other {w w' : World} {base n k T : Nat} {v : Value} {xs : List Value} {c : Array Value} {m : Nat × Nat} (ho : w.ownsRow base 5 1 v n xs) (hg : w.grownBy w' v.ownBlock) (hk : w.heap[k]? = some (.cells c T m)) (hT : T ≠ 5) : w'.heap[k]? = some (.cells c T m) := by
  rw [hg.block k (lt_of_heap hk) (fun h => ?_)]
  · exact hk
  · rcases ho.2 with ⟨rfl, _⟩ | ⟨g, cap, cur, rfl, _, hh, _⟩
    · simp [Value.ownBlock] at h
    · have : k = g := by simpa [Value.ownBlock] using h
      subst this
      rw [hk] at hh
      cases hh
      exact hT rfl
/-- blocks that hold no bytes are as they were -/
def NB (w w' : World) : Prop := ∀ (k : Nat) (c : Array Value) (T : TypeId) (m : Nat × Nat), w.heap[k]? = some (Obj.cells c T m) → T ≠ 5 → w'.heap[k]? = some (Obj.cells c T m)
theorem NB.trans {a b c : World} (h : NB a b) (k : NB b c) : NB a c := fun j x T m h1 h2 => k j x T m (h j x T m h1 h2) h2
theorem NB.of_below {w w' : World} (h : Below w.heap.size w w') : NB w w' := fun j x T m h1 _ => (h.block j (lt_of_heap h1)).trans h1
theorem NB.of_grown {w w' : World} {base n : Nat} {v : Value} {xs : List Value} (ho : w.ownsRow base 5 1 v n xs) (hg : w.grownBy w' v.ownBlock) : NB w w' := fun j x T m h1 h2 => grown_other ho hg h1 h2
theorem NB.refl (w : World) : NB w w := fun _ _ _ _ h _ => h
end Go.Proofs.Ytbdgiecnhgiogaa
