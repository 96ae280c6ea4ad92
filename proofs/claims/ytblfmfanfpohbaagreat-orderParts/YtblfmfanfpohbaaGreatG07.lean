/- Own texts, joined: Od0, Od1. -/
import Derived.Test.YtblfmfanfpohbaaGreatG05
namespace Go.Proofs.YtblfmfanfpohbaaGreat
open Go.ChangeShapes Go.WideShapes Go.ChangeAt Go.RowKit
set_option linter.unusedVariables false
/-- how many lines stand ahead of an item -/
def lbI : List Ln → Int → Nat
  | [], _ => 0
  | p :: r, i => if p.item < i then lbI r i + 1 else 0
/-- the line of an item -/
def lnAt (L : List Ln) (i : Int) : Option Ln := match L[lbI L i]? with
  | some p => if p.item = i then some p else none
  | none => none
/-- a kind for which the order has a use -/
def useB (s : St) (k : Int) : Bool :=
  if k = 1 then s.status == 0
  else if k = 2 then s.status == 1 && s.paid == 0
  else if k = 3 then s.status == 1
  else if k = 4 then s.status == 3
  else if k = 5 then (s.status == 1 || (s.status == 2 || s.status == 3)) && unshB s.lines
  else if k = 6 then s.status == 1 && s.paid == 0
  else if k = 7 then s.status == 3 || (s.status == 4 || s.status == 5)
  else if k = 8 then s.status == 1 || s.status == 3
  else if k = 9 then s.status == 2
  else if k = 10 then s.status == 3
  else false
def refAdd (s : St) (e : Ev) : Int := if e.qty = 0 then 6 else match lnAt s.lines e.item with
  | some p => if p.price ≠ e.price then 8 else if 100000 < p.qty + e.qty then 10 else 0
  | none => if s.lines.length = 16 then 9 else 0
/-- of a line: what may be taken -/
def refTake (left : Ln → Int) (s : St) (e : Ev) : Int := if e.qty = 0 then 6 else match lnAt s.lines e.item with
  | some p => if left p < e.qty then 10 else 0
  | none => 7
def refMoney (left : Int) (e : Ev) : Int := if e.price = 0 then 6 else if left < e.price then 10 else 0
def refR (s : St) (e : Ev) : Int :=
  if e.kind = 2 then refAdd s e
  else if e.kind = 3 then refMoney (dueS s - s.paid) e
  else if e.kind = 4 then refTake (fun p => p.qty - p.shipped) s e
  else if e.kind = 6 then refTake (fun p => p.qty) s e
  else if e.kind = 7 then refMoney (s.paid - s.refunded) e
  else 0
/-- as the order stands -/
def stdR (s : St) (k : Int) : Int := if s.status = 0 ∧ k ≠ 1 then 3 else if s.status ≠ 0 ∧ k = 1 then 4 else if useB s k = false then 5 else 0
def judS (s : St) (e : Ev) : Int :=
  if vldB s = false ∨ chk 5 e ≠ 0 ∨ s.events = 1099511627776 then 1
  else if e.order ≠ s.order then 2
  else if stdR s e.kind ≠ 0 then stdR s e.kind else refR s e
def addL (L : List Ln) (e : Ev) : List Ln := match lnAt L e.item with
  | some p => L.set (lbI L e.item) { p with qty := p.qty + e.qty }
  | none => L.take (lbI L e.item) ++ ⟨e.item, e.price, e.qty, 0⟩ :: L.drop (lbI L e.item)
def dropL (L : List Ln) (e : Ev) : List Ln := match lnAt L e.item with
  | some p => if p.qty - e.qty = 0 then L.eraseIdx (lbI L e.item) else L.set (lbI L e.item) { p with qty := p.qty - e.qty }
  | none => L
def shipL (L : List Ln) (e : Ev) : List Ln := match lnAt L e.item with
  | some p => L.set (lbI L e.item) { p with shipped := p.shipped + e.qty }
  | none => L
def clrL (L : List Ln) : List Ln := L.map fun l => { l with shipped := l.qty }
def payS (s : St) (e : Ev) : St := { s with paid := s.paid + e.price, status := if paidB { s with paid := s.paid + e.price } = true then 3 else s.status }
def shipS (s : St) (e : Ev) : St := { s with lines := shipL s.lines e, status := if wholeB (shipL s.lines e) = true then 4 else s.status }
def doS (s : St) (e : Ev) : St :=
  if e.kind = 1 then { s with status := 1, cur := e.cur, tax := e.tax }
  else if e.kind = 2 then { s with lines := addL s.lines e }
  else if e.kind = 3 then payS s e
  else if e.kind = 4 then shipS s e
  else if e.kind = 5 then { s with status := 5, prior := 0 }
  else if e.kind = 6 then { s with lines := dropL s.lines e }
  else if e.kind = 7 then { s with refunded := s.refunded + e.price }
  else if e.kind = 8 then { s with status := 2, prior := s.status }
  else if e.kind = 9 then { s with status := s.prior, prior := 0 }
  else { s with lines := clrL s.lines, status := 4 }
/-- the state behind an event that was taken -/
def fineS (s : St) (e : Ev) : St := { doS s e with stamp := if s.stamp < e.stamp then e.stamp else s.stamp, who := if (e.who.toList == []) = true then s.who else e.who, events := s.events + 1 }
def nextS (s : St) (e : Ev) : St := if judS s e = 1 ∨ judS s e = 2 then s else if judS s e = 0 then fineS s e else { s with refused := s.refused + 1, events := s.events + 1 }
def foldS (s : St) (es : List Ev) : St := es.foldl nextS s
theorem foldS_append (s : St) (es fs : List Ev) : foldS s (es ++ fs) = foldS (foldS s es) fs := List.foldl_append
theorem lbI_le : ∀ (L : List Ln) (i : Int), lbI L i ≤ L.length
  | [], i => Nat.le_refl _
  | p :: r, i => by
    unfold lbI
    split
    · have := lbI_le r i; simp only [List.length_cons]; omega
    · simp
theorem lbI_lt : ∀ (L : List Ln) (i : Int) (k : Nat) (p : Ln), k < lbI L i → L[k]? = some p → p.item < i
  | [], i, k, p, h, hp => by simp at hp
  | q :: r, i, k, p, h, hp => by
    unfold lbI at h
    split at h
    · cases k with
      | zero => simp at hp; subst hp; assumption
      | succ k => exact lbI_lt r i k p (by omega) (by simpa using hp)
    · omega
theorem linesFrom_lt : ∀ (L : List Ln) (last : Int) (k : Nat) (p : Ln), linesFrom last L = true → L[k]? = some p → last < p.item
  | [], last, k, p, h, hp => by simp at hp
  | q :: r, last, k, p, h, hp => by
    simp only [linesFrom, Bool.and_eq_true] at h
    have f := lnB_facts h.1
    cases k with
    | zero => simp at hp; subst hp; exact f.1
    | succ k => have := linesFrom_lt r q.item k p h.2 (by simpa using hp); omega
/-- in rising lines -/
theorem lbI_ge : ∀ (L : List Ln) (last i : Int) (k : Nat) (p : Ln), linesFrom last L = true → lbI L i ≤ k → L[k]? = some p → i ≤ p.item
  | [], last, i, k, p, h, hk, hp => by simp at hp
  | q :: r, last, i, k, p, h, hk, hp => by
    have h' := h
    simp only [linesFrom, Bool.and_eq_true] at h
    unfold lbI at hk
    split at hk
    · cases k with
      | zero => omega
      | succ k => exact lbI_ge r q.item i k p h.2 (by omega) (by simpa using hp)
    · cases k with
      | zero => simp at hp; subst hp; omega
      | succ k => have := linesFrom_lt r q.item k p h.2 (by simpa using hp); omega
theorem linesB_from {L : List Ln} (h : linesB L = true) : L.length ≤ 16 ∧ linesFrom (-1) L = true := by
  simpa only [linesB, Bool.and_eq_true, decide_eq_true_eq] using h
theorem lnAt_some {L : List Ln} {i : Int} {p : Ln} (h : lnAt L i = some p) : L[lbI L i]? = some p ∧ p.item = i := by
  unfold lnAt at h
  split at h
  · rename_i q hq
    split at h
    · rename_i hi; cases h; exact ⟨hq, hi⟩
    · cases h
  · cases h
theorem lnAt_none {L : List Ln} {i : Int} (h : lnAt L i = none) (p : Ln) (hp : L[lbI L i]? = some p) : p.item ≠ i := by
  unfold lnAt at h
  rw [hp] at h
  simp only at h
  split at h
  · cases h
  · assumption
/-- of a rising list: no line of the item -/
theorem lnAt_none_all {L : List Ln} {i : Int} (hl : linesFrom (-1) L = true) (h : lnAt L i = none) (k : Nat) (p : Ln) (hp : L[k]? = some p) : p.item ≠ i := by
  by_cases h1 : k < lbI L i
  · have := lbI_lt L i k p h1 hp; omega
  · have h2 := lbI_ge L (-1) i k p hl (by omega) hp
    by_cases h3 : k = lbI L i
    · subst h3; exact lnAt_none h p hp
    · obtain ⟨q, hq⟩ := ln_get (L := L) (k := lbI L i) (by have := ln_lt hp; omega)
      have h4 := lbI_ge L (-1) i (lbI L i) q hl (Nat.le_refl _) hq
      have h5 : q.item < p.item := by
        have hd : linesFrom (-1) L = true := hl
        -- the list behind q
        have key : ∀ (M : List Ln) (last : Int) (x y : Nat) (a b : Ln), linesFrom last M = true → x < y → M[x]? = some a → M[y]? = some b → a.item < b.item := by
          intro M
          induction M with
          | nil => intro last x y a b _ _ ha _; simp at ha
          | cons m r ih =>
            intro last x y a b hM hxy ha hb
            simp only [linesFrom, Bool.and_eq_true] at hM
            cases y with
            | zero => omega
            | succ y =>
              cases x with
              | zero => simp at ha; subst ha; exact linesFrom_lt r m.item y b hM.2 (by simpa using hb)
              | succ x => exact ih m.item x y a b hM.2 (by omega) (by simpa using ha) (by simpa using hb)
        exact key L (-1) (lbI L i) k q p hl (by omega) hq hp
      have h6 := lnAt_none h q hq
      omega
end Go.Proofs.YtblfmfanfpohbaaGreat
namespace Go.Proofs.YtblfmfanfpohbaaGreat
open Go.ChangeShapes Go.WideShapes Go.ChangeAt Go.RowKit
set_option linter.unusedVariables false
structure Vl (t : St) : Prop where
  o1 : 1 ≤ t.order
  o2 : t.order ≤ 1099511627776
  s1 : 0 ≤ t.status
  s2 : t.status ≤ 5
  c1 : 0 ≤ t.cur
  c2 : t.cur ≤ 3
  t1 : 0 ≤ t.tax
  t2 : t.tax ≤ 5000
  e1 : 0 ≤ t.events
  e2 : t.events ≤ 1099511627776
  r1 : 0 ≤ t.refused
  r2 : t.refused ≤ t.events
  m1 : 0 ≤ t.stamp
  m2 : t.stamp ≤ 1099511627776
  who : whoB t.who = true
  lines : linesB t.lines = true
  prior : priorB t = true
  p1 : 0 ≤ t.paid
  p2 : t.paid ≤ dueS t
  f1 : 0 ≤ t.refunded
  f2 : t.refunded ≤ t.paid
  fits : fitsB t = true
theorem vl_of {t : St} (h : vldB t = true) : Vl t := by
  simp only [vldB, bndS, Bool.and_eq_true, wit_true] at h
  obtain ⟨⟨⟨a1, a2⟩, ⟨a3, a4⟩, ⟨a5, a6⟩, ⟨a7, a8⟩, ⟨a9, a10⟩, ⟨a11, a12⟩, ⟨a13, a14⟩, a15⟩, b1, b2, ⟨b3, b4⟩, ⟨b5, b6⟩, b7⟩ := h
  exact ⟨a1, a2, a3, a4, a5, a6, a7, a8, a9, a10, a11, a12, a13, a14, a15, b1, b2, b3, b4, b5, b6, b7⟩
theorem vl_to {t : St} (h : Vl t) : vldB t = true := by
  simp only [vldB, bndS, Bool.and_eq_true, wit_true]
  exact ⟨⟨⟨h.o1, h.o2⟩, ⟨h.s1, h.s2⟩, ⟨h.c1, h.c2⟩, ⟨h.t1, h.t2⟩, ⟨h.e1, h.e2⟩, ⟨h.r1, h.r2⟩, ⟨h.m1, h.m2⟩, h.who⟩, h.lines, h.prior, ⟨h.p1, h.p2⟩, ⟨h.f1, h.f2⟩, h.fits⟩
def okQ (q : Ln) : Prop := 0 ≤ q.price ∧ q.price ≤ 100000000 ∧ 1 ≤ q.qty ∧ q.qty ≤ 100000 ∧ 0 ≤ q.shipped ∧ q.shipped ≤ q.qty
theorem lnB_mk {last : Int} {q : Ln} (h1 : last < q.item) (h2 : q.item ≤ 65535) (h : okQ q) : lnB last q = true := by
  unfold okQ at h
  simp only [lnB, Bool.and_eq_true, wit_true]
  omega
theorem linesFrom_set : ∀ (L : List Ln) (last : Int) (k : Nat) (p q : Ln), linesFrom last L = true → L[k]? = some p → q.item = p.item → okQ q → linesFrom last (L.set k q) = true
  | [], last, k, p, q, h, hp, hi, ho => by simp at hp
  | l :: r, last, 0, p, q, h, hp, hi, ho => by
    simp only [linesFrom, Bool.and_eq_true] at h
    simp at hp; subst hp
    have f := lnB_facts h.1
    simp only [List.set_cons_zero, linesFrom, Bool.and_eq_true]
    exact ⟨lnB_mk (by omega) (by omega) ho, by rw [hi]; exact h.2⟩
  | l :: r, last, k + 1, p, q, h, hp, hi, ho => by
    simp only [linesFrom, Bool.and_eq_true] at h
    simp only [List.set_cons_succ, linesFrom, Bool.and_eq_true]
    exact ⟨h.1, linesFrom_set r l.item k p q h.2 (by simpa using hp) hi ho⟩
theorem linesFrom_mono : ∀ (L : List Ln) (a b : Int), a ≤ b → linesFrom b L = true → linesFrom a L = true
  | [], a, b, h, hl => rfl
  | l :: r, a, b, h, hl => by
    simp only [linesFrom, Bool.and_eq_true] at hl ⊢
    have f := lnB_facts hl.1
    exact ⟨lnB_mk (by omega) (by omega) ⟨by omega, by omega, by omega, by omega, by omega, by omega⟩, hl.2⟩
theorem linesFrom_ins : ∀ (L : List Ln) (last : Int) (q : Ln), linesFrom last L = true → last < q.item → q.item ≤ 65535 → okQ q → (∀ p, L[lbI L q.item]? = some p → p.item ≠ q.item) → linesFrom last (L.take (lbI L q.item) ++ q :: L.drop (lbI L q.item)) = true
  | [], last, q, h, h1, h2, ho, hn => by
    simp only [lbI, List.take_nil, List.drop_nil, List.nil_append, linesFrom, Bool.and_eq_true]
    exact ⟨lnB_mk h1 h2 ho, trivial⟩
  | l :: r, last, q, h, h1, h2, ho, hn => by
    simp only [linesFrom, Bool.and_eq_true] at h
    by_cases hlt : l.item < q.item
    · have e : lbI (l :: r) q.item = lbI r q.item + 1 := if_pos hlt
      rw [e]
      rw [e] at hn
      simp only [List.take_succ_cons, List.drop_succ_cons, List.cons_append, linesFrom, Bool.and_eq_true]
      exact ⟨h.1, linesFrom_ins r l.item q h.2 hlt h2 ho (fun p hp => hn p (by simpa using hp))⟩
    · have e : lbI (l :: r) q.item = 0 := if_neg hlt
      rw [e]
      rw [e] at hn
      have hne := hn l rfl
      have f := lnB_facts h.1
      simp only [List.take_zero, List.drop_zero, List.nil_append, linesFrom, Bool.and_eq_true]
      exact ⟨lnB_mk h1 h2 ho, lnB_mk (by omega) (by omega) ⟨by omega, by omega, by omega, by omega, by omega, by omega⟩, h.2⟩
theorem linesFrom_erase : ∀ (L : List Ln) (last : Int) (k : Nat), linesFrom last L = true → linesFrom last (L.eraseIdx k) = true
  | [], last, k, h => by simpa using h
  | l :: r, last, 0, h => by
    simp only [linesFrom, Bool.and_eq_true] at h
    have f := lnB_facts h.1
    simp only [List.eraseIdx_cons_zero]
    exact linesFrom_mono r last l.item (by omega) h.2
  | l :: r, last, k + 1, h => by
    simp only [linesFrom, Bool.and_eq_true] at h
    simp only [List.eraseIdx_cons_succ, linesFrom, Bool.and_eq_true]
    exact ⟨h.1, linesFrom_erase r l.item k h.2⟩
theorem linesFrom_clr : ∀ (L : List Ln) (last : Int), linesFrom last L = true → linesFrom last (clrL L) = true
  | [], last, h => rfl
  | l :: r, last, h => by
    simp only [linesFrom, Bool.and_eq_true] at h
    have f := lnB_facts h.1
    simp only [clrL, List.map_cons, linesFrom, Bool.and_eq_true]
    exact ⟨lnB_mk (by simp; omega) (by simp; omega) ⟨by simp; omega, by simp; omega, by simp; omega, by simp; omega, by simp; omega, by simp⟩, linesFrom_clr r l.item h.2⟩
theorem net_set : ∀ (L : List Ln) (k : Nat) (p q : Ln), L[k]? = some p → q.qty = p.qty → q.price = p.price → net (L.set k q) = net L
  | [], k, p, q, hp, h1, h2 => by simp at hp
  | l :: r, 0, p, q, hp, h1, h2 => by
    simp at hp; subst hp
    simp only [List.set_cons_zero, net, h1, h2]
  | l :: r, k + 1, p, q, hp, h1, h2 => by
    simp only [List.set_cons_succ, net, net_set r k p q (by simpa using hp) h1 h2]
theorem net_clr : ∀ (L : List Ln), net (clrL L) = net L
  | [] => rfl
  | l :: r => by
    have := net_clr r
    unfold clrL at this
    simp only [clrL, List.map_cons, net, this]
theorem whole_clr (L : List Ln) : wholeB (clrL L) = true := by
  simp [wholeB, clrL]
theorem unsh_set {L : List Ln} {k : Nat} {q : Ln} (h : unshB L = true) (hq : q.shipped ≤ 0) : unshB (L.set k q) = true := by
  simp only [unshB, List.all_eq_true, decide_eq_true_eq] at h ⊢
  intro x hx
  rcases List.mem_or_eq_of_mem_set hx with h1 | rfl
  · exact h x h1
  · exact hq
theorem unsh_mem {L : List Ln} {k : Nat} {p : Ln} (h : unshB L = true) (hp : L[k]? = some p) : p.shipped ≤ 0 := by
  simp only [unshB, List.all_eq_true, decide_eq_true_eq] at h
  exact h p (List.mem_of_getElem? hp)
theorem unsh_ins {L : List Ln} {k : Nat} {q : Ln} (h : unshB L = true) (hq : q.shipped ≤ 0) : unshB (L.take k ++ q :: L.drop k) = true := by
  simp only [unshB, List.all_eq_true, decide_eq_true_eq] at h ⊢
  intro x hx
  simp only [List.mem_append, List.mem_cons] at hx
  rcases hx with h1 | rfl | h1
  · exact h x (List.mem_of_mem_take h1)
  · exact hq
  · exact h x (List.mem_of_mem_drop h1)
theorem unsh_erase {L : List Ln} {k : Nat} (h : unshB L = true) : unshB (L.eraseIdx k) = true := by
  simp only [unshB, List.all_eq_true, decide_eq_true_eq] at h ⊢
  exact fun x hx => h x (List.mem_of_mem_eraseIdx hx)
/-- unshipped lines are whole only if there is none -/
theorem unsh_whole {L : List Ln} (hl : linesB L = true) (h : unshB L = true) (h2 : wholeB L = true) : L = [] := by
  cases L with
  | nil => rfl
  | cons l r =>
    have f := (linesB_facts hl).2 0 l rfl
    have h3 := unsh_mem h (k := 0) (p := l) rfl
    simp only [wholeB, List.all_cons, Bool.and_eq_true, decide_eq_true_eq] at h2
    omega
theorem who_right {e : Ev} (h : Right 5 e) : whoB e.who = true := by
  unfold whoB
  rw [beq_iff_eq]
  refine chk_of ⟨by decide, by decide, ?_, ?_, h.who, ?_, ?_, ?_, ?_, ?_, ?_, ?_, ?_, ?_, ?_, ?_, ?_, ?_, h.plain, ?_, ?_, .inl (by decide), .inl (by decide), .inl (by decide), .inl (by decide)⟩ <;> (simp [whoE, lastK, loQ, hiP]; try exact Nat.zero_le _)
theorem linesB_mk {L : List Ln} (h1 : L.length ≤ 16) (h2 : linesFrom (-1) L = true) : linesB L = true := by
  simp only [linesB, Bool.and_eq_true, decide_eq_true_eq]; exact ⟨h1, h2⟩
theorem due_of {s t : St} (h1 : net t.lines = net s.lines) (h2 : t.tax = s.tax) : dueS t = dueS s := by unfold dueS; rw [h1, h2]
theorem paidB_of {s t : St} (h1 : t.paid = s.paid) (h2 : dueS t = dueS s) : paidB t = paidB s := by unfold paidB; rw [h1, h2]
theorem addL_ok {L : List Ln} {e : Ev} (hl : linesB L = true) (hr : Right 5 e) (h : (match lnAt L e.item with | some p => p.price = e.price ∧ p.qty + e.qty ≤ 100000 | none => L.length ≠ 16)) (hq : e.qty ≠ 0) (hu : unshB L = true) : linesB (addL L e) = true ∧ unshB (addL L e) = true := by
  obtain ⟨h16, hf⟩ := linesB_from hl
  have q0 : loQ 5 ≤ e.qty := hr.qty0
  have q1 := hr.qty1
  have p0 := hr.price0
  have p1 : e.price ≤ hiP 5 := hr.price1
  have i0 := hr.item0
  have i1 := hr.item1
  simp [loQ] at q0
  simp [hiP] at p1
  unfold addL
  split
  · rename_i p hp
    rw [hp] at h
    obtain ⟨g1, g2⟩ := lnAt_some hp
    have f := (linesB_facts hl).2 _ _ g1
    refine ⟨linesB_mk (by simpa using h16) (linesFrom_set L (-1) _ p _ hf g1 rfl ⟨by simp; omega, by simp; omega, by simp; omega, by simp; omega, by simp; omega, by simp; omega⟩), unsh_set hu (by simpa using unsh_mem hu g1)⟩
  · rename_i hn
    rw [hn] at h
    have h' : L.length ≠ 16 := h
    refine ⟨linesB_mk (by simp [List.length_take, List.length_drop]; have := lbI_le L e.item; omega) (linesFrom_ins L (-1) ⟨e.item, e.price, e.qty, 0⟩ hf (by simp; omega) i1 ⟨p0, p1, by simp; omega, by simp; omega, by simp, by simp; omega⟩ (fun p hp => lnAt_none hn p hp)), unsh_ins hu (by simp)⟩
theorem dropL_ok {L : List Ln} {e : Ev} (hl : linesB L = true) (hr : Right 5 e) (h : ∀ p, lnAt L e.item = some p → e.qty ≤ p.qty) (hu : unshB L = true) : linesB (dropL L e) = true ∧ unshB (dropL L e) = true := by
  obtain ⟨h16, hf⟩ := linesB_from hl
  have q0 : loQ 5 ≤ e.qty := hr.qty0
  simp [loQ] at q0
  unfold dropL
  split
  · rename_i p hp
    obtain ⟨g1, g2⟩ := lnAt_some hp
    have f := (linesB_facts hl).2 _ _ g1
    have hq := h p hp
    have hs := unsh_mem hu g1
    split
    · refine ⟨linesB_mk (Nat.le_trans (List.length_eraseIdx_le _ _) h16) (linesFrom_erase L (-1) _ hf), unsh_erase hu⟩
    · refine ⟨linesB_mk (by simpa using h16) (linesFrom_set L (-1) _ p _ hf g1 rfl ⟨by simp; omega, by simp; omega, by simp; omega, by simp; omega, by simp; omega, by simp; omega⟩), unsh_set hu (by simpa using hs)⟩
  · exact ⟨hl, hu⟩
theorem shipL_ok {L : List Ln} {e : Ev} (hl : linesB L = true) (hr : Right 5 e) (h : ∀ p, lnAt L e.item = some p → e.qty ≤ p.qty - p.shipped) : linesB (shipL L e) = true ∧ net (shipL L e) = net L := by
  obtain ⟨h16, hf⟩ := linesB_from hl
  have q0 : loQ 5 ≤ e.qty := hr.qty0
  simp [loQ] at q0
  unfold shipL
  split
  · rename_i p hp
    obtain ⟨g1, g2⟩ := lnAt_some hp
    have f := (linesB_facts hl).2 _ _ g1
    have hq := h p hp
    exact ⟨linesB_mk (by simpa using h16) (linesFrom_set L (-1) _ p _ hf g1 rfl ⟨by simp; omega, by simp; omega, by simp; omega, by simp; omega, by simp; omega, by simp; omega⟩), net_set L _ p _ g1 rfl rfl⟩
  · exact ⟨hl, rfl⟩
end Go.Proofs.YtblfmfanfpohbaaGreat
