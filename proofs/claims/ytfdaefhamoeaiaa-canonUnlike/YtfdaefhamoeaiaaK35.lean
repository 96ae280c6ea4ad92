/- Own texts, joined: Cn3, Rd0, Rd1. -/
import Derived.Test.YtfdaefhamoeaiaaK34
import Derived.Test.YtfdaefhamoeaiaaK27
import Derived.Maps.OwnSet
import Derived.Test.YtfdaefhamoeaiaaK25
namespace Go.Proofs.Ytfdaefhamoeaiaa
open Go.ChangeShapes Go.WideShapes Go.ChangeAt Go.RowKit
set_option linter.unusedVariables false
theorem encF_len : ∀ (k f u : Nat), u < 128 ^ (k + 1) → (encF f u).length ≤ k + 1
  | k, 0, u, _ => by simp [encF]
  | 0, f + 1, u, h => by
    have h1 : u < 128 := by simpa using h
    simp [encF, h1]
  | k + 1, f + 1, u, h => by
    simp only [encF]
    split
    · simp
    · have h2 : u / 128 < 128 ^ (k + 1) := by
        rw [Nat.div_lt_iff_lt_mul (by decide)]
        rw [Nat.pow_succ] at h
        exact h
      have := encF_len k f (u / 128) h2
      simp only [List.length_cons]
      omega
theorem enc_five {u : Nat} (h : u < 34359738368) : (enc u).length ≤ 5 := encF_len 4 10 u h
/-- what a valid state's bounds say -/
structure VSt (s : St) : Prop where
  order0 : 1 ≤ s.order
  order1 : s.order ≤ 1099511627776
  status0 : 0 ≤ s.status
  status1 : s.status ≤ 5
  prior0 : 0 ≤ s.prior
  prior1 : s.prior ≤ 3
  cur0 : 0 ≤ s.cur
  cur1 : s.cur ≤ 3
  tax0 : 0 ≤ s.tax
  tax1 : s.tax ≤ 5000
  paid0 : 0 ≤ s.paid
  paid1 : s.paid ≤ 240000000000000
  ref0 : 0 ≤ s.refunded
  ref1 : s.refunded ≤ s.paid
  ev0 : 0 ≤ s.events
  ev1 : s.events ≤ 1099511627776
  rd0 : 0 ≤ s.refused
  rd1 : s.refused ≤ s.events
  sp0 : 0 ≤ s.stamp
  sp1 : s.stamp ≤ 1099511627776
  who : s.who.size ≤ 16
  lines : linesB s.lines = true
theorem vst_of {s : St} (h : vldB s = true) : VSt s := by
  simp only [vldB, bndS, Bool.and_eq_true, wit_true] at h
  obtain ⟨⟨⟨a1, a2⟩, ⟨b1, b2⟩, ⟨c1, c2⟩, ⟨d1, d2⟩, ⟨e1, e2⟩, ⟨f1, f2⟩, ⟨g1, g2⟩, hw⟩, hl, hp, ⟨p1, p2⟩, ⟨r1, r2⟩, hf⟩ := h
  have hd := due_bound hl d1 d2
  have hw2 : s.who.size ≤ 16 := by
    have h1 : chk 5 (whoE s.who) = 0 := by simpa [whoB] using hw
    exact (right_of h1).who
  have hp2 : s.prior = 0 ∨ s.prior = 1 ∨ s.prior = 3 := by
    unfold priorB at hp
    split at hp
    · simp at hp; omega
    · simp at hp; omega
  exact ⟨a1, a2, b1, b2, by omega, by omega, c1, c2, d1, d2, p1, by omega, r1, r2, e1, e2, f1, f2, g1, g2, hw2, hl⟩
def stFs (s : St) : List Fld := tenS s.order.toNat s.status.toNat s.prior.toNat s.cur.toNat s.tax.toNat s.paid.toNat s.refunded.toNat s.events.toNat s.refused.toNat s.stamp.toNat s.who ++ lnFs 0 s.lines
/-- the fields of a state's record -/
def sfs (s : St) : List Fld := (stFs s).filter nz
theorem lnT_le {l : Ln} (h : 0 ≤ l.item ∧ l.item ≤ 65535 ∧ 0 ≤ l.price ∧ l.price ≤ 100000000 ∧ 1 ≤ l.qty ∧ l.qty ≤ 100000 ∧ 0 ≤ l.shipped ∧ l.shipped ≤ l.qty) : (lnT l).length ≤ 20 := by
  unfold lnT lnL
  have h1 := enc_five (u := l.item.toNat) (by omega)
  have h2 := enc_five (u := l.price.toNat) (by omega)
  have h3 := enc_five (u := l.qty.toNat) (by omega)
  have h4 := enc_five (u := l.shipped.toNat) (by omega)
  simp only [List.length_append]
  omega
theorem ris_lines : ∀ (L : List Ln) (k : Nat) (A : Int), A < 12 + (k : Int) → k + L.length ≤ 16 → (∀ l ∈ L, (lnT l).length ≤ 20) → Ris A (lnFs k L)
  | [], k, A, _, _, _ => trivial
  | l :: r, k, A, hA, hk, hl => by
    simp only [List.length_cons] at hk
    have := hl l (List.mem_cons_self ..)
    refine ⟨hA, ?_, ?_, fun _ => ?_, ris_lines r (k + 1) _ ?_ (by omega) (fun x hx => hl x (List.mem_cons_of_mem _ hx))⟩
    · show 1 ≤ 12 + (k : Int); omega
    · show 12 + (k : Int) ≤ 31; omega
    · show (lnT l).length ≤ 200; omega
    · show 12 + (k : Int) < 12 + ((k + 1 : Nat) : Int); omega
theorem lnFs_length : ∀ (L : List Ln) (k : Nat), (lnFs k L).length = L.length
  | [], k => rfl
  | l :: r, k => by simp [lnFs, lnFs_length r]
theorem lnFs_sum : ∀ (L : List Ln) (k : Nat), (∀ l ∈ L, (lnT l).length ≤ 20) → ((lnFs k L).map fun f => if f.text = true then f.bytes.length else 0).sum ≤ 20 * L.length
  | [], k, _ => by simp [lnFs]
  | l :: r, k, h => by
    have h1 := lnFs_sum r (k + 1) (fun x hx => h x (List.mem_cons_of_mem _ hx))
    have h2 := h l (List.mem_cons_self ..)
    simp only [lnFs, List.map_cons, List.sum_cons, if_true, List.length_cons]
    omega
theorem VSt.each {s : St} (v : VSt s) : s.lines.length ≤ 16 ∧ ∀ l ∈ s.lines, 0 ≤ l.item ∧ l.item ≤ 65535 ∧ 0 ≤ l.price ∧ l.price ≤ 100000000 ∧ 1 ≤ l.qty ∧ l.qty ≤ 100000 ∧ 0 ≤ l.shipped ∧ l.shipped ≤ l.qty := by
  obtain ⟨h1, h2⟩ := linesB_facts v.lines
  refine ⟨h1, fun l hl => ?_⟩
  obtain ⟨i, hi, rfl⟩ := List.mem_iff_getElem.1 hl
  exact h2 i _ (List.getElem?_eq_getElem hi)
theorem VSt.ris {s : St} (v : VSt s) : Ris 0 (stFs s) := by
  obtain ⟨h1, h2⟩ := v.each
  have h3 := v.who
  have hr := ris_lines s.lines 0 11 (by omega) (by omega) (fun l hl => lnT_le (h2 l hl))
  simp only [stFs, tenS, List.cons_append, List.nil_append, Ris, nums8_len]
  refine ⟨by omega, by omega, by omega, by simp, by omega, by omega, by omega, by simp, by omega, by omega, by omega, by simp, by omega, by omega, by omega, by simp, by omega, by omega, by omega, by simp, by omega, by omega, by omega, by simp, by omega, by omega, by omega, by simp, by omega, by omega, by omega, by simp, by omega, by omega, by omega, by simp, by omega, by omega, by omega, by simp, by omega, by omega, by omega, fun _ => by omega, hr⟩
theorem mem_lnFs : ∀ (L : List Ln) (k : Nat) (f : Fld), f ∈ lnFs k L → ∃ j l, l ∈ L ∧ j < L.length ∧ f = ⟨12 + ((k + j : Nat) : Int), true, 0, lnT l⟩
  | [], k, f, h => by cases h
  | l :: r, k, f, h => by
    rcases List.mem_cons.1 h with rfl | h
    · exact ⟨0, l, List.mem_cons_self .., by simp, rfl⟩
    · obtain ⟨j, m, h1, h2, rfl⟩ := mem_lnFs r (k + 1) f h
      exact ⟨j + 1, m, List.mem_cons_of_mem _ h1, by simp; omega, by rw [show k + 1 + j = k + (j + 1) from by omega]⟩
theorem VSt.flds {s : St} (v : VSt s) : ∀ f ∈ stFs s, f.num ≤ 18446744073709551615 ∧ f.tag ≤ 31 ∧ f.bytes.length ≤ 200 := by
  obtain ⟨h1, h2⟩ := v.each
  obtain ⟨a1, a2, b1, b2, c1, c2, d1, d2, e1, e2, p1, p2, r1, r2, ev1, ev2, f1, f2, g1, g2, hw, hl⟩ := v
  intro f hf
  simp only [stFs, tenS, List.cons_append, List.nil_append, List.mem_cons] at hf
  rcases hf with rfl | rfl | rfl | rfl | rfl | rfl | rfl | rfl | rfl | rfl | rfl | hf
  all_goals try (refine ⟨?_, ?_, ?_⟩ <;> simp only [List.length_nil, nums8_len] <;> omega)
  obtain ⟨j, l, hl1, hj, rfl⟩ := mem_lnFs _ _ _ hf
  have := lnT_le (h2 l hl1)
  refine ⟨?_, ?_, ?_⟩
  · show 0 ≤ _; omega
  · show 12 + ((0 + j : Nat) : Int) ≤ 31; omega
  · show (lnT l).length ≤ 200; omega
theorem sfs_encs {s : St} (v : VSt s) : encs (sfs s) 0 [] = (ones (sfs s), 0) := by
  obtain ⟨hn16, h2⟩ := v.each
  have hw := v.who
  have h := encs_all (sfs s) 0 [] v.ris.filter (fun f hf => (List.mem_filter.1 hf).2) ?_
  · rw [h]; simp
  · have h1 := ones_le (sfs s) (fun f hf => v.flds f (List.mem_filter.1 hf).1)
    have h3 : (sfs s).length ≤ (stFs s).length := List.length_filter_le ..
    have h4 : (stFs s).length = 11 + s.lines.length := by simp only [stFs, tenS, List.length_append, List.length_cons, List.length_nil, lnFs_length]
    have h5 := sum_filter nz (fun f => if f.text = true then f.bytes.length else 0) (stFs s)
    have h6 : ((stFs s).map fun f => if f.text = true then f.bytes.length else 0).sum = s.who.size + ((lnFs 0 s.lines).map fun f => if f.text = true then f.bytes.length else 0).sum := by
      simp [stFs, tenS, nums8_len]
    have h7 := lnFs_sum s.lines 0 (fun l hl => lnT_le (h2 l hl))
    unfold sfs at h1 h3 ⊢
    simp only [List.length_nil]
    omega
/-- what canon.Encode answers -/
def cenc (s : St) : List Nat × Int := if vldB s = true then (ones (sfs s), 0) else ([], 40)
def CencPost (w : World) (s : St) (r : Ending) (w' : World) : Prop := ∃ v', r = .returned (.tuple #[v', .int .i64 (cenc s).2]) ∧ Own w' w.heap.size v' (cenc s).1 ∧ Below w.heap.size w w'
set_option maxRecDepth 20000 in
set_option maxHeartbeats 1000000 in
theorem cenc_no (s : St) (a : Option Addr) (n cap : Nat) (w : World) (hn : s.lines.length = n) (hl : Lns w a s.lines) (hm : n ≤ maxLen) (hv : vldB s = false) :
    Calls Try.prog 7 #[.agg (stA s (.slice a n cap))] w fun r w' => r = .returned (.tuple #[.slice none 0 0, .int .i64 40]) ∧ Below w.heap.size w w' := by
  have HV : Hid (_) := hv
  have HN : Hid (_) := hn
  have HC0 : Hid (StC w w.heap.size s a n cap (w.alloc (.cells (stA s (.slice a n cap)) 25))) := StC.new w s a n cap hl
  clear hv hn hl
  go_enter Try.func7, Try.ntmps7
  go_wp2_with (first
    | ((with_reducible refine guard_load 25 ?_); refine wpList_load_st rfl _ rfl HC0.out.1 rfl ?_)
    | (go_at_call 9; refine (valid_st s a n cap _ HN.out HC0.out.2.1 hm).mono ?_; rw [HV.out]; rintro _ w1 ⟨rfl, hb1⟩; have HC1 : Hid (StC w w.heap.size s a n cap w1) := StC.keep HC0.out hb1; clear hb1))
  go_ret2
  exact ⟨rfl, HC1.out.2.2⟩
theorem cenc_any (s : St) (a : Option Addr) (n cap : Nat) (w : World) (hn : s.lines.length = n) (hl : Lns w a s.lines) (hm : n ≤ maxLen) :
    Calls Try.prog 7 #[.agg (stA s (.slice a n cap))] w fun r w' => CencPost w s r w' := by
  by_cases hv : vldB s = true
  · have e1 : cenc s = (ones (sfs s), 0) := if_pos hv
    have v := vst_of hv
    obtain ⟨A', hA⟩ := wputs_right (stFs s) [] 0 v.ris
    have hb := v.flds
    have g := cenc_g s.order.toNat s.status.toNat s.prior.toNat s.cur.toNat s.tax.toNat s.paid.toNat s.refunded.toNat s.events.toNat s.refused.toNat s.stamp.toNat s.lines s.who s a n cap w
      (by obtain ⟨a1, a2, b1, b2, c1, c2, d1, d2, e1, e2, p1, p2, r1, r2, ev1, ev2, f1, f2, g1, g2, hw, hl⟩ := v; cases s; simp only [St.mk.injEq] at *; refine ⟨?_, ?_, ?_, ?_, ?_, trivial, ?_, ?_, ?_, ?_, ?_, trivial⟩ <;> omega)
      hn hl hv (by obtain ⟨a1, a2, b1, b2, c1, c2, d1, d2, e1, e2, p1, p2, r1, r2, ev1, ev2, f1, f2, g1, g2, hw, hl⟩ := v; omega) v.who v.lines
      (by show (wputs ([], 0, 0) (stFs s)).2.2 = 0; rw [hA])
    refine g.mono ?_
    show ∀ r w', EncPost w (wputs ([], 0, 0) (stFs s)).1 r w' → CencPost w s r w'
    rw [hA]
    rintro r w' ⟨v', h1, h2, h3⟩
    simp only [List.nil_append] at h1 h2
    have e2 : encs ((stFs s).filter nz) 0 [] = (ones (sfs s), 0) := sfs_encs v
    rw [e2] at h1 h2
    exact ⟨v', by rw [e1]; exact h1, by rw [e1]; exact h2, h3⟩
  · have hf : vldB s = false := by simpa using hv
    have e1 : cenc s = ([], 40) := if_neg hv
    refine (cenc_no s a n cap w hn hl hm hf).mono ?_
    rintro r w' ⟨h1, h3⟩
    exact ⟨_, by rw [e1]; exact h1, by rw [e1]; exact ⟨by simp, World.ownsRow_nil _ _ _ 1⟩, h3⟩
theorem cenc_len (s : St) : (cenc s).1.length ≤ 1024 := by
  unfold cenc
  split
  · rename_i hv
    exact (encs_pre _ _ _ _ (sfs_encs (vst_of hv))).2
  · simp
set_option maxRecDepth 20000 in
set_option maxHeartbeats 1000000 in
theorem csize_any (s : St) (a : Option Addr) (n cap : Nat) (w : World) (hn : s.lines.length = n) (hl : Lns w a s.lines) (hm : n ≤ maxLen) :
    Calls Try.prog 14 #[.agg (stA s (.slice a n cap))] w fun r w' => r = .returned (.int .i64 ((cenc s).1.length : Int)) ∧ Below w.heap.size w w' := by
  have HN : Hid (_) := hn
  have HC0 : Hid (StC w w.heap.size s a n cap (w.alloc (.cells (stA s (.slice a n cap)) 25))) := StC.new w s a n cap hl
  obtain ⟨l, c, hlc⟩ : ∃ l c, cenc s = (l, c) := ⟨_, _, rfl⟩
  have HL : Hid (_) := hlc
  rw [hlc]
  clear hn hl hlc
  go_enter Try.func14, Try.ntmps14
  go_wp2_with (first
    | ((with_reducible refine guard_load 25 ?_); refine wpList_load_st rfl _ rfl HC0.out.1 rfl ?_)
    | (go_at_call 7; refine (cenc_any s a n cap _ HN.out HC0.out.2.1 hm).mono ?_; unfold CencPost; rw [HL.out]; rintro _ w1 ⟨v1, rfl, ho1, hb1⟩; obtain ⟨a1, c1, hv1, _, _, _, _⟩ := ho1.shape; subst hv1; have HB1 : Hid (Below w.heap.size w w1) := below_next HC0.out.2.2 hb1; clear hb1 ho1))
  go_ret
  exact ⟨rfl, HB1.out⟩
end Go.Proofs.Ytfdaefhamoeaiaa
namespace Go.Proofs.Ytfdaefhamoeaiaa
open Go.ChangeShapes Go.WideShapes Go.ChangeAt Go.RowKit
set_option linter.unusedVariables false
/-- an element is told by its value -/
def hv (v : Value) : Option (DataW Value × List MemPlace) := some (.held v, [])
theorem hv_inv {v : Value} {d : DataW Value} {ps : List MemPlace} (h : hv v = some (d, ps)) : d = .held v := by
  unfold hv at h; exact (congrArg Prod.fst (Option.some.inj h)).symm
/-- a field's value -/
abbrev FP (p : Fld × Value) : Value := FV p.1.tag p.1.text p.1.num p.2
def getT (L : List (Fld × Value)) (t : Int) : Option (Fld × Value) := L.find? (fun p => p.1.tag == t)
def delT (L : List (Fld × Value)) (t : Int) : List (Fld × Value) := L.filter (fun p => !(p.1.tag == t))
theorem getT_snoc (L : List (Fld × Value)) (p : Fld × Value) (t : Int) : getT (L ++ [p]) t = (getT L t).or (if p.1.tag = t then some p else none) := by
  unfold getT
  rw [List.find?_append]
  congr 1
  by_cases h : p.1.tag = t
  · simp [h]
  · simp [h]
theorem getT_mem {L : List (Fld × Value)} {t : Int} {p : Fld × Value} (h : getT L t = some p) : p ∈ L ∧ p.1.tag = t := by
  unfold getT at h
  exact ⟨List.mem_of_find?_eq_some h, by simpa using List.find?_some h⟩
theorem getT_none {L : List (Fld × Value)} {t : Int} : getT L t = none ↔ ∀ p ∈ L, p.1.tag ≠ t := by
  unfold getT
  rw [List.find?_eq_none]
  simp
theorem getT_del_same (L : List (Fld × Value)) (t : Int) : getT (delT L t) t = none := by
  rw [getT_none]
  intro p hp
  unfold delT at hp
  simpa using (List.mem_filter.1 hp).2
theorem getT_del_other (L : List (Fld × Value)) {t s : Int} (h : s ≠ t) : getT (delT L t) s = getT L s := by
  unfold getT delT
  refine Go.Maps.find_filter_keep (fun p hp => ?_) L
  simp at hp ⊢
  omega
theorem delT_len (t : Int) : ∀ (L : List (Fld × Value)), L.Pairwise (fun p q => p.1.tag ≠ q.1.tag) → (delT L t).length + (if (getT L t).isSome = true then 1 else 0) = L.length
  | [], _ => rfl
  | p :: r, h => by
    obtain ⟨h1, h2⟩ := List.pairwise_cons.1 h
    have ih := delT_len t r h2
    by_cases hp : p.1.tag = t
    · have hr : getT r t = none := getT_none.2 (fun q hq he => h1 q hq (hp.trans he.symm))
      have e1 : delT (p :: r) t = delT r t := by unfold delT; rw [List.filter_cons, if_neg (by simp [hp])]
      have e3 : (p.1.tag == t) = true := by simpa using hp
      have e2 : getT (p :: r) t = some p := by unfold getT; rw [List.find?_cons, e3]
      rw [hr] at ih
      rw [e1, e2]
      simp at ih ⊢
      omega
    · have e1 : delT (p :: r) t = p :: delT r t := by unfold delT; rw [List.filter_cons, if_pos (by simp [hp])]
      have e3 : (p.1.tag == t) = false := by simpa using hp
      have e2 : getT (p :: r) t = getT r t := by unfold getT; rw [List.find?_cons, e3]
      rw [e1, e2]
      simp only [List.length_cons]
      omega
theorem delT_none {L : List (Fld × Value)} {t : Int} (h : getT L t = none) : delT L t = L := by
  unfold delT
  rw [List.filter_eq_self]
  intro p hp
  simpa using getT_none.1 h p hp
/-- the map reads as the fields L, each at its tag -/
structure Rep (D : DataW Value) (L : List (Fld × Value)) : Prop where
  tidy : Maps.Tidy D
  sz : Maps.size D = L.length
  look : ∀ t z, D.atKey (.int .i64 t) z = match getT L t with | some p => .held (FP p) | none => z
  hs : ∀ t, Maps.has D (.int .i64 t) = (getT L t).isSome
  apart : L.Pairwise (fun p q => p.1.tag ≠ q.1.tag)
theorem rep_nil : Rep (.map []) [] := ⟨Maps.tidy_empty, rfl, fun _ _ => rfl, fun _ => rfl, .nil⟩
theorem key_lit (t : Int) : WideAt.IsKeyLit (.int .i64 t) := trivial
theorem key_ne {s t : Int} (h : s ≠ t) : Lit.int .i64 s ≠ Lit.int .i64 t := by intro e; cases e; exact h rfl
theorem Rep.put {D : DataW Value} {L : List (Fld × Value)} (h : Rep D L) (p : Fld × Value) (hn : getT L p.1.tag = none) : Rep (D.put (.int .i64 p.1.tag) (.held (FP p))) (L ++ [p]) := by
  refine ⟨h.tidy.put (key_lit _) _, ?_, fun t z => ?_, fun t => ?_, ?_⟩
  · rw [Maps.size_put h.tidy, h.hs, hn]
    simp [h.sz]
  · by_cases ht : t = p.1.tag
    · subst ht
      rw [Maps.atKey_put_same h.tidy.isMap (key_lit _), getT_snoc, hn, if_pos rfl]
      rfl
    · rw [Maps.atKey_put_other (key_ne ht), h.look, getT_snoc, if_neg (fun e => ht e.symm)]
      cases getT L t <;> rfl
  · by_cases ht : t = p.1.tag
    · subst ht
      rw [Maps.has_put_same h.tidy.isMap (key_lit _), getT_snoc, hn, if_pos rfl]
      rfl
    · rw [Maps.has_put_other (key_ne ht), h.hs, getT_snoc, if_neg (fun e => ht e.symm)]
      cases getT L t <;> rfl
  · rw [List.pairwise_append]
    refine ⟨h.apart, List.pairwise_singleton _ _, fun q hq r hr => ?_⟩
    obtain rfl := List.mem_singleton.1 hr
    exact getT_none.1 hn q hq
theorem Rep.del {D : DataW Value} {L : List (Fld × Value)} (h : Rep D L) (t : Int) : Rep (D.del (.int .i64 t)) (delT L t) := by
  refine ⟨h.tidy.del _, ?_, fun s z => ?_, fun s => ?_, ?_⟩
  · have h1 := Maps.size_del (k := .int .i64 t) h.tidy
    have h2 := delT_len t L h.apart
    rw [h.hs, h.sz] at h1
    omega
  · by_cases hs : s = t
    · subst hs
      rw [Maps.atKey_del_same, getT_del_same]
    · rw [Maps.atKey_del_other (key_ne hs), h.look, getT_del_other L hs]
  · by_cases hs : s = t
    · subst hs
      rw [Maps.has_del_same, getT_del_same]; rfl
    · rw [Maps.has_del_other (key_ne hs), h.hs, getT_del_other L hs]
  · exact h.apart.filter _
/-- a reader: its map in block b, its error; the fields' bytes -/
structure RdAt (w : World) (base q b : Nat) (L : List (Fld × Value)) (e : Nat) : Prop where
  blk : w.heap[q]? = some (.cells #[.map (some b), .int .i64 (e : Int)] 78)
  map : ∃ n D, w.ownsMap Try.prog 3 hv b n D ∧ Rep D L
  byt : ∀ p ∈ L, Own w base p.2 p.1.bytes
theorem RdAt.cells {w : World} {base q b : Nat} {L : List (Fld × Value)} {e : Nat} (h : RdAt w base q b L e) : w.cell? ⟨q, 0, none⟩ = some (.map (some b)) ∧ w.cell? ⟨q, 1, none⟩ = some (.int .i64 (e : Int)) ∧ w.frozen? ⟨q, 0, none⟩ = false ∧ w.frozen? ⟨q, 1, none⟩ = false :=
  ⟨by rw [cell_of_row _ _ 0 _ _ _ h.blk]; rfl, by rw [cell_of_row _ _ 1 _ _ _ h.blk]; rfl, frozen_of_row _ _ 0 _ _ h.blk, frozen_of_row _ _ 1 _ _ h.blk⟩
theorem owns_same {w w' : World} {b n : Nat} {D : DataW Value} (h : w.ownsMap Try.prog 3 hv b n D) (hs : w'.heap[b]? = w.heap[b]?) : w'.ownsMap Try.prog 3 hv b n D := by
  obtain ⟨es, c, h1, h2⟩ := h
  exact ⟨es, c, hs.trans h1, h2⟩
theorem RdAt.keep {w w' : World} {base q b : Nat} {L : List (Fld × Value)} {e : Nat} (h : RdAt w base q b L e) (hb : Below w.heap.size w w') : RdAt w' base q b L e := by
  obtain ⟨n, D, hm, hr⟩ := h.map
  exact ⟨(hb.block q (lt_of_heap h.blk)).trans h.blk, ⟨n, D, owns_same hm (hb.block b hm.lt), hr⟩, fun p hp => ⟨(h.byt p hp).1, own_same2 (h.byt p hp).2 (fun k _ hk => hb.block k hk)⟩⟩
theorem RdAt.drewN {w : World} {base q b : Nat} {L : List (Fld × Value)} {e : Nat} (h : RdAt w base q b L e) (m : Nat) : RdAt (w.drewN m) base q b L e := by
  obtain ⟨n, D, hm, hr⟩ := h.map
  exact ⟨by simpa using h.blk, ⟨n, D, owns_same hm (by simp), hr⟩, fun p hp => ⟨(h.byt p hp).1, own_same2 (h.byt p hp).2 (fun k _ hk => by simp)⟩⟩
/-- bytes of the call's own lie in no block of a map or of a reader -/
theorem own_other {w w' : World} {base : Nat} {v : Value} {l : List Nat} {x y : Nat} (h : Own w base v l) (hx : ∀ c, w.heap[x]? ≠ some (.cells c 5)) (hy : ∀ c, w.heap[y]? ≠ some (.cells c 5)) (hs : ∀ k, k < w.heap.size → k ≠ x → k ≠ y → w'.heap[k]? = w.heap[k]?) : Own w' base v l := by
  refine ⟨h.1, h.2.1, ?_⟩
  rcases h.2.2 with h2 | ⟨g, cap, cur, h3, h4, h5, h6⟩
  · exact .inl h2
  · refine .inr ⟨g, cap, cur, h3, h4, ?_, h6⟩
    rw [hs g (lt_of_heap h5) (fun e => by subst e; exact hx _ h5) (fun e => by subst e; exact hy _ h5)]
    exact h5
end Go.Proofs.Ytfdaefhamoeaiaa
namespace Go.Proofs.Ytfdaefhamoeaiaa
open Go.ChangeShapes Go.WideShapes Go.ChangeAt Go.RowKit
set_option linter.unusedVariables false
/-- the empty field -/
abbrev ZF : Value := FV 0 false 0 (.slice none 0 0)
theorem Try.zeroFd (w : World) : (zeroValue 65).run Try.prog w = .ok ZF w := by kernel_rfl
theorem rd_keyed : Maps.Keyed Try.prog 3 := Maps.int_keyed Try.underlying3
theorem rd_key {t : Int} (ht : (Lit.int .i64 t).wf = true) : keyOf Try.prog 3 (.int .i64 t) = some (.int .i64 t) := Maps.keyOf_int_mk Try.underlying3 ht
theorem look_yes {w : World} {b n : Nat} {D : DataW Value} {L : List (Fld × Value)} {t : Int} {p : Fld × Value} (hm : w.ownsMap Try.prog 3 hv b n D) (hr : Rep D L) (ht : (Lit.int .i64 t).wf = true) (hp : getT L t = some p) :
    (Instr.lookup 76 (.map (some b)) (.int .i64 t) true).run Try.prog w = .ok (.tuple #[FP p, .bool true]) w := by
  obtain ⟨v, ps, hrun, hR⟩ := hm.look_ok rd_keyed Try.underlying76 (Try.zeroFd w) (zd := .held ZF) (zp := []) rfl (rd_key ht)
  rw [hr.look, hp] at hR
  have h1 := hv_inv hR
  simp only [DataW.held.injEq] at h1
  rw [hr.hs, hp] at hrun
  rw [hrun, ← h1]
  rfl
theorem look_no {w : World} {b n : Nat} {D : DataW Value} {L : List (Fld × Value)} {t : Int} (hm : w.ownsMap Try.prog 3 hv b n D) (hr : Rep D L) (ht : (Lit.int .i64 t).wf = true) (hp : getT L t = none) :
    (Instr.lookup 76 (.map (some b)) (.int .i64 t) true).run Try.prog w = .ok (.tuple #[ZF, .bool false]) w := by
  obtain ⟨v, ps, hrun, hR⟩ := hm.look_ok rd_keyed Try.underlying76 (Try.zeroFd w) (zd := .held ZF) (zp := []) rfl (rd_key ht)
  rw [hr.look, hp] at hR
  have h1 := hv_inv hR
  simp only [DataW.held.injEq] at h1
  rw [hr.hs, hp] at hrun
  rw [hrun, ← h1]
  rfl
theorem wpList_look {ops : Array Oper} {rest : List Oper} {o : Oper} {a : Act} {w : World} {Q : Exit → Act → World → Prop} (hg : o.guard = none) (m x : Operand) (hop : o.op = Op.lookup 76 m x true) {b : Nat} {t : Int} {v : Value} (hm : a.eval m = .map (some b)) (hx : a.eval x = .int .i64 t)
    (hrun : (Instr.lookup 76 (.map (some b)) (.int .i64 t) true).run Try.prog w = .ok v w) (hK : wpList Try.prog ops Q rest (a.put o.dst v) w) : wpList Try.prog ops Q (o :: rest) a w := by
  refine wpList_plain hg fun K' hK' => ?_
  unfold Oper.wp
  simp [execOp, hop, hm, hx, hrun, Result.andThen]
  exact hK' _ _ hK
/-- what take answers, and the reader's error behind it -/
def rdV (L : List (Fld × Value)) (t : Int) (x : Bool) : Value := match getT L t with | some p => if p.1.text = x then FP p else ZF | none => ZF
def rdE (L : List (Fld × Value)) (e : Nat) (t : Int) (x : Bool) : Nat := match getT L t with | some p => if p.1.text = x then e else 33 | none => e
/-- the two boxes that take lays: its answer, the field that was found -/
theorem box_two (w : World) : ∃ W, (w.alloc (.cells #[.int .i64 0, .bool false, .int .u64 0, .slice none 0 0] 65)).alloc (.cells #[.int .i64 0, .bool false, .int .u64 0, .slice none 0 0] 65) = W ∧ FldAt W w.heap.size 0 false 0 (.slice none 0 0) ∧ FldAt W (w.heap.size + 1) 0 false 0 (.slice none 0 0) ∧ Below w.heap.size w W ∧ W.heap.size = w.heap.size + 2 := by
  refine ⟨_, rfl, ?_, ?_, (((Below.refl _ _).alloc (Nat.le_refl _) _).alloc (by simp) _), by simp⟩
  · exact (Below.heap_alloc _ _ w.heap.size (by simp)).trans (FldAt.new w 0 false 0 (.slice none 0 0))
  · have := FldAt.new (w.alloc (.cells #[.int .i64 0, .bool false, .int .u64 0, .slice none 0 0] 65)) 0 false 0 (.slice none 0 0)
    simpa using this
set_option maxRecDepth 20000 in
set_option maxHeartbeats 1000000 in
theorem take_no (t : Int) (x : Bool) (w : World) (base q b : Nat) (L : List (Fld × Value)) (e : Nat) (h : RdAt w base q b L e) (ht : (Lit.int .i64 t).wf = true) (hn : getT L t = none) :
    Calls Try.prog 62 #[.pointer (some ⟨q, 0, none⟩), .int .i64 t, .bool x] w fun r w' => r = .returned ZF ∧ Below w.heap.size w w' := by
  have hB : Below w.heap.size w (w.alloc (.cells #[.int .i64 0, .bool false, .int .u64 0, .slice none 0 0] 65)) := (Below.refl _ _).alloc (Nat.le_refl _) _
  have h1 := h.keep hB
  obtain ⟨c0, _, _, _⟩ := h1.cells
  obtain ⟨n, D, hm, hr⟩ := h1.map
  have HM : Hid (_) := hm
  have HR : Hid (Rep D L) := hr
  obtain ⟨W, hW, hf0, hf1, hbW, hsW⟩ := box_two w
  have HW : Hid (_ = W) := hW
  have HF0 : Hid (_) := hf0
  have HF1 : Hid (_) := hf1
  have HB : Hid (_) := hbW
  have HS : Hid (_) := hsW
  have T1 : Hid True := trivial
  clear h h1 hB hm hr hW hf0 hf1 hbW hsW
  go_enter Try.func62, Try.ntmps62
  go_wp2_with (first
    | (at_lookup; refine wpList_look rfl _ _ rfl rfl rfl (look_no HM.out HR.out ht hn) ?_)
    | ((with_reducible refine guard_store 65 ?_); clear T1; rw [HW.out]; refine wpList_store_fld rfl _ _ rfl (k := w.heap.size + 1) (tag2 := 0) (text2 := false) (num2 := 0) (bv2 := .slice none 0 0) HF1.out rfl rfl rfl ?_; intro w5 hf5 hos5 hk5 hs5; have HF5 : Hid (_) := (hk5 w.heap.size (by omega)).trans HF0.out; clear hf5)
    | ((with_reducible refine guard_store 65 ?_); refine wpList_store_fld rfl _ _ rfl (k := w.heap.size) (tag2 := 0) (text2 := false) (num2 := 0) (bv2 := .slice none 0 0) HF5.out rfl rfl rfl ?_; intro w6 hf6 hos6 hk6 hs6))
  exact bodyPost_ret (results_fld rfl _ _ _ rfl hf6) rfl ⟨rfl, ⟨hos6.1.trans (hos5.1.trans HB.out.os), hos6.2.1.trans (hos5.2.1.trans HB.out.tape), hos6.2.2.trans (hos5.2.2.trans HB.out.output), by rw [hs6, hs5, HS.out]; omega, fun k hk => (hk6 k (by omega)).trans ((hk5 k (by omega)).trans (HB.out.block k hk))⟩⟩
end Go.Proofs.Ytfdaefhamoeaiaa
