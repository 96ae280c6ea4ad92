/- Own texts, joined: Cn3, Rd0, Rd1, Rd2, Rd3, Rd4, Sd5, Sd6. -/
import Derived.Test.YtfcgcpfckbmgnaaGreatK44
import Derived.Test.YtfcgcpfckbmgnaaGreatK41
import Derived.Maps.OwnSet
import Derived.Test.YtfcgcpfckbmgnaaGreatK40
import Derived.Test.YtfcgcpfckbmgnaaGreatK42
import Derived.Test.YtfcgcpfckbmgnaaGreatK17
import Derived.Deep.RegionHeld3
namespace Go.Proofs.YtfcgcpfckbmgnaaGreat
open Go.ChangeShapes Go.WideShapes Go.ChangeAt Go.RowKit
set_option linter.unusedVariables false
theorem encF_len : ∀ (k f u : Nat), u < 128 ^ (k + 1) → (encF f u).length ≤ k + 1
  | k, 0, u, _ => by simp [encF]
  | 0, f + 1, u, h => by
    have h1 : u < 128 := by simpa using h
    simp [encF, h1]
  | k + 1, f + 1, u, h => by
    simp only [encF]
    split
    · simp
    · have h2 : u / 128 < 128 ^ (k + 1) := by
        rw [Nat.div_lt_iff_lt_mul (by decide)]
        rw [Nat.pow_succ] at h
        exact h
      have := encF_len k f (u / 128) h2
      simp only [List.length_cons]
      omega
theorem enc_five {u : Nat} (h : u < 34359738368) : (enc u).length ≤ 5 := encF_len 4 10 u h
/-- what a valid state's bounds say -/
structure VSt (s : St) : Prop where
  order0 : 1 ≤ s.order
  order1 : s.order ≤ 1099511627776
  status0 : 0 ≤ s.status
  status1 : s.status ≤ 5
  prior0 : 0 ≤ s.prior
  prior1 : s.prior ≤ 3
  cur0 : 0 ≤ s.cur
  cur1 : s.cur ≤ 3
  tax0 : 0 ≤ s.tax
  tax1 : s.tax ≤ 5000
  paid0 : 0 ≤ s.paid
  paid1 : s.paid ≤ 240000000000000
  ref0 : 0 ≤ s.refunded
  ref1 : s.refunded ≤ s.paid
  ev0 : 0 ≤ s.events
  ev1 : s.events ≤ 1099511627776
  rd0 : 0 ≤ s.refused
  rd1 : s.refused ≤ s.events
  sp0 : 0 ≤ s.stamp
  sp1 : s.stamp ≤ 1099511627776
  who : s.who.size ≤ 16
  lines : linesB s.lines = true
theorem vst_of {s : St} (h : vldB s = true) : VSt s := by
  simp only [vldB, bndS, Bool.and_eq_true, wit_true] at h
  obtain ⟨⟨⟨a1, a2⟩, ⟨b1, b2⟩, ⟨c1, c2⟩, ⟨d1, d2⟩, ⟨e1, e2⟩, ⟨f1, f2⟩, ⟨g1, g2⟩, hw⟩, hl, hp, ⟨p1, p2⟩, ⟨r1, r2⟩, hf⟩ := h
  have hd := due_bound hl d1 d2
  have hw2 : s.who.size ≤ 16 := by
    have h1 : chk 5 (whoE s.who) = 0 := by simpa [whoB] using hw
    exact (right_of h1).who
  have hp2 : s.prior = 0 ∨ s.prior = 1 ∨ s.prior = 3 := by
    unfold priorB at hp
    split at hp
    · simp at hp; omega
    · simp at hp; omega
  exact ⟨a1, a2, b1, b2, by omega, by omega, c1, c2, d1, d2, p1, by omega, r1, r2, e1, e2, f1, f2, g1, g2, hw2, hl⟩
def stFs (s : St) : List Fld := tenS s.order.toNat s.status.toNat s.prior.toNat s.cur.toNat s.tax.toNat s.paid.toNat s.refunded.toNat s.events.toNat s.refused.toNat s.stamp.toNat s.who ++ lnFs 0 s.lines
/-- the fields of a state's record -/
def sfs (s : St) : List Fld := (stFs s).filter nz
theorem lnT_le {l : Ln} (h : 0 ≤ l.item ∧ l.item ≤ 65535 ∧ 0 ≤ l.price ∧ l.price ≤ 100000000 ∧ 1 ≤ l.qty ∧ l.qty ≤ 100000 ∧ 0 ≤ l.shipped ∧ l.shipped ≤ l.qty) : (lnT l).length ≤ 20 := by
  unfold lnT lnL
  have h1 := enc_five (u := l.item.toNat) (by omega)
  have h2 := enc_five (u := l.price.toNat) (by omega)
  have h3 := enc_five (u := l.qty.toNat) (by omega)
  have h4 := enc_five (u := l.shipped.toNat) (by omega)
  simp only [List.length_append]
  omega
theorem ris_lines : ∀ (L : List Ln) (k : Nat) (A : Int), A < 12 + (k : Int) → k + L.length ≤ 16 → (∀ l ∈ L, (lnT l).length ≤ 20) → Ris A (lnFs k L)
  | [], k, A, _, _, _ => trivial
  | l :: r, k, A, hA, hk, hl => by
    simp only [List.length_cons] at hk
    have := hl l (List.mem_cons_self ..)
    refine ⟨hA, ?_, ?_, fun _ => ?_, ris_lines r (k + 1) _ ?_ (by omega) (fun x hx => hl x (List.mem_cons_of_mem _ hx))⟩
    · show 1 ≤ 12 + (k : Int); omega
    · show 12 + (k : Int) ≤ 31; omega
    · show (lnT l).length ≤ 200; omega
    · show 12 + (k : Int) < 12 + ((k + 1 : Nat) : Int); omega
theorem lnFs_length : ∀ (L : List Ln) (k : Nat), (lnFs k L).length = L.length
  | [], k => rfl
  | l :: r, k => by simp [lnFs, lnFs_length r]
theorem lnFs_sum : ∀ (L : List Ln) (k : Nat), (∀ l ∈ L, (lnT l).length ≤ 20) → ((lnFs k L).map fun f => if f.text = true then f.bytes.length else 0).sum ≤ 20 * L.length
  | [], k, _ => by simp [lnFs]
  | l :: r, k, h => by
    have h1 := lnFs_sum r (k + 1) (fun x hx => h x (List.mem_cons_of_mem _ hx))
    have h2 := h l (List.mem_cons_self ..)
    simp only [lnFs, List.map_cons, List.sum_cons, if_true, List.length_cons]
    omega
theorem VSt.each {s : St} (v : VSt s) : s.lines.length ≤ 16 ∧ ∀ l ∈ s.lines, 0 ≤ l.item ∧ l.item ≤ 65535 ∧ 0 ≤ l.price ∧ l.price ≤ 100000000 ∧ 1 ≤ l.qty ∧ l.qty ≤ 100000 ∧ 0 ≤ l.shipped ∧ l.shipped ≤ l.qty := by
  obtain ⟨h1, h2⟩ := linesB_facts v.lines
  refine ⟨h1, fun l hl => ?_⟩
  obtain ⟨i, hi, rfl⟩ := List.mem_iff_getElem.1 hl
  exact h2 i _ (List.getElem?_eq_getElem hi)
theorem VSt.ris {s : St} (v : VSt s) : Ris 0 (stFs s) := by
  obtain ⟨h1, h2⟩ := v.each
  have h3 := v.who
  have hr := ris_lines s.lines 0 11 (by omega) (by omega) (fun l hl => lnT_le (h2 l hl))
  simp only [stFs, tenS, List.cons_append, List.nil_append, Ris, nums8_len]
  refine ⟨by omega, by omega, by omega, by simp, by omega, by omega, by omega, by simp, by omega, by omega, by omega, by simp, by omega, by omega, by omega, by simp, by omega, by omega, by omega, by simp, by omega, by omega, by omega, by simp, by omega, by omega, by omega, by simp, by omega, by omega, by omega, by simp, by omega, by omega, by omega, by simp, by omega, by omega, by omega, by simp, by omega, by omega, by omega, fun _ => by omega, hr⟩
theorem mem_lnFs : ∀ (L : List Ln) (k : Nat) (f : Fld), f ∈ lnFs k L → ∃ j l, l ∈ L ∧ j < L.length ∧ f = ⟨12 + ((k + j : Nat) : Int), true, 0, lnT l⟩
  | [], k, f, h => by cases h
  | l :: r, k, f, h => by
    rcases List.mem_cons.1 h with rfl | h
    · exact ⟨0, l, List.mem_cons_self .., by simp, rfl⟩
    · obtain ⟨j, m, h1, h2, rfl⟩ := mem_lnFs r (k + 1) f h
      exact ⟨j + 1, m, List.mem_cons_of_mem _ h1, by simp; omega, by rw [show k + 1 + j = k + (j + 1) from by omega]⟩
theorem VSt.flds {s : St} (v : VSt s) : ∀ f ∈ stFs s, f.num ≤ 18446744073709551615 ∧ f.tag ≤ 31 ∧ f.bytes.length ≤ 200 := by
  obtain ⟨h1, h2⟩ := v.each
  obtain ⟨a1, a2, b1, b2, c1, c2, d1, d2, e1, e2, p1, p2, r1, r2, ev1, ev2, f1, f2, g1, g2, hw, hl⟩ := v
  intro f hf
  simp only [stFs, tenS, List.cons_append, List.nil_append, List.mem_cons] at hf
  rcases hf with rfl | rfl | rfl | rfl | rfl | rfl | rfl | rfl | rfl | rfl | rfl | hf
  all_goals try (refine ⟨?_, ?_, ?_⟩ <;> simp only [List.length_nil, nums8_len] <;> omega)
  obtain ⟨j, l, hl1, hj, rfl⟩ := mem_lnFs _ _ _ hf
  have := lnT_le (h2 l hl1)
  refine ⟨?_, ?_, ?_⟩
  · show 0 ≤ _; omega
  · show 12 + ((0 + j : Nat) : Int) ≤ 31; omega
  · show (lnT l).length ≤ 200; omega
theorem sfs_encs {s : St} (v : VSt s) : encs (sfs s) 0 [] = (ones (sfs s), 0) := by
  obtain ⟨hn16, h2⟩ := v.each
  have hw := v.who
  have h := encs_all (sfs s) 0 [] v.ris.filter (fun f hf => (List.mem_filter.1 hf).2) ?_
  · rw [h]; simp
  · have h1 := ones_le (sfs s) (fun f hf => v.flds f (List.mem_filter.1 hf).1)
    have h3 : (sfs s).length ≤ (stFs s).length := List.length_filter_le ..
    have h4 : (stFs s).length = 11 + s.lines.length := by simp only [stFs, tenS, List.length_append, List.length_cons, List.length_nil, lnFs_length]
    have h5 := sum_filter nz (fun f => if f.text = true then f.bytes.length else 0) (stFs s)
    have h6 : ((stFs s).map fun f => if f.text = true then f.bytes.length else 0).sum = s.who.size + ((lnFs 0 s.lines).map fun f => if f.text = true then f.bytes.length else 0).sum := by
      simp [stFs, tenS, nums8_len]
    have h7 := lnFs_sum s.lines 0 (fun l hl => lnT_le (h2 l hl))
    unfold sfs at h1 h3 ⊢
    simp only [List.length_nil]
    omega
/-- what canon.Encode answers -/
def cenc (s : St) : List Nat × Int := if vldB s = true then (ones (sfs s), 0) else ([], 40)
def CencPost (w : World) (s : St) (r : Ending) (w' : World) : Prop := ∃ v', r = .returned (.tuple #[v', .int .i64 (cenc s).2]) ∧ Own w' w.heap.size v' (cenc s).1 ∧ Below w.heap.size w w'
set_option maxRecDepth 20000 in
set_option maxHeartbeats 1000000 in
theorem cenc_no (s : St) (a : Option Addr) (n cap : Nat) (w : World) (hn : s.lines.length = n) (hl : Lns w a s.lines) (hm : n ≤ maxLen) (hv : vldB s = false) :
    Calls Tryz.prog 10 #[.agg (stA s (.slice a n cap))] w fun r w' => r = .returned (.tuple #[.slice none 0 0, .int .i64 40]) ∧ Below w.heap.size w w' := by
  have HV : Hid (_) := hv
  have HN : Hid (_) := hn
  have HC0 : Hid (StC w w.heap.size s a n cap (w.alloc (.cells (stA s (.slice a n cap)) 28))) := StC.new w s a n cap hl
  clear hv hn hl
  go_enter Tryz.func10, Tryz.ntmps10
  go_wp2_with (first
    | ((with_reducible refine guard_load 28 ?_); refine wpList_load_st rfl _ rfl HC0.out.1 rfl ?_)
    | (go_at_call 21; refine (valid_st s a n cap _ HN.out HC0.out.2.1 hm).mono ?_; rw [HV.out]; rintro _ w1 ⟨rfl, hb1⟩; have HC1 : Hid (StC w w.heap.size s a n cap w1) := StC.keep HC0.out hb1; clear hb1))
  go_ret2
  exact ⟨rfl, HC1.out.2.2⟩
theorem cenc_any (s : St) (a : Option Addr) (n cap : Nat) (w : World) (hn : s.lines.length = n) (hl : Lns w a s.lines) (hm : n ≤ maxLen) :
    Calls Tryz.prog 10 #[.agg (stA s (.slice a n cap))] w fun r w' => CencPost w s r w' := by
  by_cases hv : vldB s = true
  · have e1 : cenc s = (ones (sfs s), 0) := if_pos hv
    have v := vst_of hv
    obtain ⟨A', hA⟩ := wputs_right (stFs s) [] 0 v.ris
    have hb := v.flds
    have g := cenc_g s.order.toNat s.status.toNat s.prior.toNat s.cur.toNat s.tax.toNat s.paid.toNat s.refunded.toNat s.events.toNat s.refused.toNat s.stamp.toNat s.lines s.who s a n cap w
      (by obtain ⟨a1, a2, b1, b2, c1, c2, d1, d2, e1, e2, p1, p2, r1, r2, ev1, ev2, f1, f2, g1, g2, hw, hl⟩ := v; cases s; simp only [St.mk.injEq] at *; refine ⟨?_, ?_, ?_, ?_, ?_, trivial, ?_, ?_, ?_, ?_, ?_, trivial⟩ <;> omega)
      hn hl hv (by obtain ⟨a1, a2, b1, b2, c1, c2, d1, d2, e1, e2, p1, p2, r1, r2, ev1, ev2, f1, f2, g1, g2, hw, hl⟩ := v; omega) v.who v.lines
      (by show (wputs ([], 0, 0) (stFs s)).2.2 = 0; rw [hA])
    refine g.mono ?_
    show ∀ r w', EncPost w (wputs ([], 0, 0) (stFs s)).1 r w' → CencPost w s r w'
    rw [hA]
    rintro r w' ⟨v', h1, h2, h3⟩
    simp only [List.nil_append] at h1 h2
    have e2 : encs ((stFs s).filter nz) 0 [] = (ones (sfs s), 0) := sfs_encs v
    rw [e2] at h1 h2
    exact ⟨v', by rw [e1]; exact h1, by rw [e1]; exact h2, h3⟩
  · have hf : vldB s = false := by simpa using hv
    have e1 : cenc s = ([], 40) := if_neg hv
    refine (cenc_no s a n cap w hn hl hm hf).mono ?_
    rintro r w' ⟨h1, h3⟩
    exact ⟨_, by rw [e1]; exact h1, by rw [e1]; exact ⟨by simp, World.ownsRow_nil _ _ _ 1⟩, h3⟩
theorem cenc_len (s : St) : (cenc s).1.length ≤ 1024 := by
  unfold cenc
  split
  · rename_i hv
    exact (encs_pre _ _ _ _ (sfs_encs (vst_of hv))).2
  · simp
set_option maxRecDepth 20000 in
set_option maxHeartbeats 1000000 in
theorem csize_any (s : St) (a : Option Addr) (n cap : Nat) (w : World) (hn : s.lines.length = n) (hl : Lns w a s.lines) (hm : n ≤ maxLen) :
    Calls Tryz.prog 11 #[.agg (stA s (.slice a n cap))] w fun r w' => r = .returned (.int .i64 ((cenc s).1.length : Int)) ∧ Below w.heap.size w w' := by
  have HN : Hid (_) := hn
  have HC0 : Hid (StC w w.heap.size s a n cap (w.alloc (.cells (stA s (.slice a n cap)) 28))) := StC.new w s a n cap hl
  obtain ⟨l, c, hlc⟩ : ∃ l c, cenc s = (l, c) := ⟨_, _, rfl⟩
  have HL : Hid (_) := hlc
  rw [hlc]
  clear hn hl hlc
  go_enter Tryz.func11, Tryz.ntmps11
  go_wp2_with (first
    | ((with_reducible refine guard_load 28 ?_); refine wpList_load_st rfl _ rfl HC0.out.1 rfl ?_)
    | (go_at_call 10; refine (cenc_any s a n cap _ HN.out HC0.out.2.1 hm).mono ?_; unfold CencPost; rw [HL.out]; rintro _ w1 ⟨v1, rfl, ho1, hb1⟩; obtain ⟨a1, c1, hv1, _, _, _, _⟩ := ho1.shape; subst hv1; have HB1 : Hid (Below w.heap.size w w1) := below_next HC0.out.2.2 hb1; clear hb1 ho1))
  go_ret
  exact ⟨rfl, HB1.out⟩
end Go.Proofs.YtfcgcpfckbmgnaaGreat
namespace Go.Proofs.YtfcgcpfckbmgnaaGreat
open Go.ChangeShapes Go.WideShapes Go.ChangeAt Go.RowKit
set_option linter.unusedVariables false
/-- an element is told by its value -/
def hv (v : Value) : Option (DataW Value × List MemPlace) := some (.held v, [])
theorem hv_inv {v : Value} {d : DataW Value} {ps : List MemPlace} (h : hv v = some (d, ps)) : d = .held v := by
  unfold hv at h; exact (congrArg Prod.fst (Option.some.inj h)).symm
/-- a field's value -/
abbrev FP (p : Fld × Value) : Value := FV p.1.tag p.1.text p.1.num p.2
def getT (L : List (Fld × Value)) (t : Int) : Option (Fld × Value) := L.find? (fun p => p.1.tag == t)
def delT (L : List (Fld × Value)) (t : Int) : List (Fld × Value) := L.filter (fun p => !(p.1.tag == t))
theorem getT_snoc (L : List (Fld × Value)) (p : Fld × Value) (t : Int) : getT (L ++ [p]) t = (getT L t).or (if p.1.tag = t then some p else none) := by
  unfold getT
  rw [List.find?_append]
  congr 1
  by_cases h : p.1.tag = t
  · simp [h]
  · simp [h]
theorem getT_mem {L : List (Fld × Value)} {t : Int} {p : Fld × Value} (h : getT L t = some p) : p ∈ L ∧ p.1.tag = t := by
  unfold getT at h
  exact ⟨List.mem_of_find?_eq_some h, by simpa using List.find?_some h⟩
theorem getT_none {L : List (Fld × Value)} {t : Int} : getT L t = none ↔ ∀ p ∈ L, p.1.tag ≠ t := by
  unfold getT
  rw [List.find?_eq_none]
  simp
theorem getT_del_same (L : List (Fld × Value)) (t : Int) : getT (delT L t) t = none := by
  rw [getT_none]
  intro p hp
  unfold delT at hp
  simpa using (List.mem_filter.1 hp).2
theorem getT_del_other (L : List (Fld × Value)) {t s : Int} (h : s ≠ t) : getT (delT L t) s = getT L s := by
  unfold getT delT
  refine Go.Maps.find_filter_keep (fun p hp => ?_) L
  simp at hp ⊢
  omega
theorem delT_len (t : Int) : ∀ (L : List (Fld × Value)), L.Pairwise (fun p q => p.1.tag ≠ q.1.tag) → (delT L t).length + (if (getT L t).isSome = true then 1 else 0) = L.length
  | [], _ => rfl
  | p :: r, h => by
    obtain ⟨h1, h2⟩ := List.pairwise_cons.1 h
    have ih := delT_len t r h2
    by_cases hp : p.1.tag = t
    · have hr : getT r t = none := getT_none.2 (fun q hq he => h1 q hq (hp.trans he.symm))
      have e1 : delT (p :: r) t = delT r t := by unfold delT; rw [List.filter_cons, if_neg (by simp [hp])]
      have e3 : (p.1.tag == t) = true := by simpa using hp
      have e2 : getT (p :: r) t = some p := by unfold getT; rw [List.find?_cons, e3]
      rw [hr] at ih
      rw [e1, e2]
      simp at ih ⊢
      omega
    · have e1 : delT (p :: r) t = p :: delT r t := by unfold delT; rw [List.filter_cons, if_pos (by simp [hp])]
      have e3 : (p.1.tag == t) = false := by simpa using hp
      have e2 : getT (p :: r) t = getT r t := by unfold getT; rw [List.find?_cons, e3]
      rw [e1, e2]
      simp only [List.length_cons]
      omega
theorem delT_none {L : List (Fld × Value)} {t : Int} (h : getT L t = none) : delT L t = L := by
  unfold delT
  rw [List.filter_eq_self]
  intro p hp
  simpa using getT_none.1 h p hp
/-- the map reads as the fields L, each at its tag -/
structure Rep (D : DataW Value) (L : List (Fld × Value)) : Prop where
  tidy : Maps.Tidy D
  sz : Maps.size D = L.length
  look : ∀ t z, D.atKey (.int .i64 t) z = match getT L t with | some p => .held (FP p) | none => z
  hs : ∀ t, Maps.has D (.int .i64 t) = (getT L t).isSome
  apart : L.Pairwise (fun p q => p.1.tag ≠ q.1.tag)
theorem rep_nil : Rep (.map []) [] := ⟨Maps.tidy_empty, rfl, fun _ _ => rfl, fun _ => rfl, .nil⟩
theorem key_lit (t : Int) : WideAt.IsKeyLit (.int .i64 t) := trivial
theorem key_ne {s t : Int} (h : s ≠ t) : Lit.int .i64 s ≠ Lit.int .i64 t := by intro e; cases e; exact h rfl
theorem Rep.put {D : DataW Value} {L : List (Fld × Value)} (h : Rep D L) (p : Fld × Value) (hn : getT L p.1.tag = none) : Rep (D.put (.int .i64 p.1.tag) (.held (FP p))) (L ++ [p]) := by
  refine ⟨h.tidy.put (key_lit _) _, ?_, fun t z => ?_, fun t => ?_, ?_⟩
  · rw [Maps.size_put h.tidy, h.hs, hn]
    simp [h.sz]
  · by_cases ht : t = p.1.tag
    · subst ht
      rw [Maps.atKey_put_same h.tidy.isMap (key_lit _), getT_snoc, hn, if_pos rfl]
      rfl
    · rw [Maps.atKey_put_other (key_ne ht), h.look, getT_snoc, if_neg (fun e => ht e.symm)]
      cases getT L t <;> rfl
  · by_cases ht : t = p.1.tag
    · subst ht
      rw [Maps.has_put_same h.tidy.isMap (key_lit _), getT_snoc, hn, if_pos rfl]
      rfl
    · rw [Maps.has_put_other (key_ne ht), h.hs, getT_snoc, if_neg (fun e => ht e.symm)]
      cases getT L t <;> rfl
  · rw [List.pairwise_append]
    refine ⟨h.apart, List.pairwise_singleton _ _, fun q hq r hr => ?_⟩
    obtain rfl := List.mem_singleton.1 hr
    exact getT_none.1 hn q hq
theorem Rep.del {D : DataW Value} {L : List (Fld × Value)} (h : Rep D L) (t : Int) : Rep (D.del (.int .i64 t)) (delT L t) := by
  refine ⟨h.tidy.del _, ?_, fun s z => ?_, fun s => ?_, ?_⟩
  · have h1 := Maps.size_del (k := .int .i64 t) h.tidy
    have h2 := delT_len t L h.apart
    rw [h.hs, h.sz] at h1
    omega
  · by_cases hs : s = t
    · subst hs
      rw [Maps.atKey_del_same, getT_del_same]
    · rw [Maps.atKey_del_other (key_ne hs), h.look, getT_del_other L hs]
  · by_cases hs : s = t
    · subst hs
      rw [Maps.has_del_same, getT_del_same]; rfl
    · rw [Maps.has_del_other (key_ne hs), h.hs, getT_del_other L hs]
  · exact h.apart.filter _
/-- a reader: its map in block b, its error; the fields' bytes -/
structure RdAt (w : World) (base q b : Nat) (L : List (Fld × Value)) (e : Nat) : Prop where
  blk : w.heap[q]? = some (.cells #[.map (some b), .int .i64 (e : Int)] 81)
  map : ∃ n D, w.ownsMap Tryz.prog 3 hv b n D ∧ Rep D L
  byt : ∀ p ∈ L, Own w base p.2 p.1.bytes
theorem RdAt.cells {w : World} {base q b : Nat} {L : List (Fld × Value)} {e : Nat} (h : RdAt w base q b L e) : w.cell? ⟨q, 0, none⟩ = some (.map (some b)) ∧ w.cell? ⟨q, 1, none⟩ = some (.int .i64 (e : Int)) ∧ w.frozen? ⟨q, 0, none⟩ = false ∧ w.frozen? ⟨q, 1, none⟩ = false :=
  ⟨by rw [cell_of_row _ _ 0 _ _ _ h.blk]; rfl, by rw [cell_of_row _ _ 1 _ _ _ h.blk]; rfl, frozen_of_row _ _ 0 _ _ h.blk, frozen_of_row _ _ 1 _ _ h.blk⟩
theorem owns_same {w w' : World} {b n : Nat} {D : DataW Value} (h : w.ownsMap Tryz.prog 3 hv b n D) (hs : w'.heap[b]? = w.heap[b]?) : w'.ownsMap Tryz.prog 3 hv b n D := by
  obtain ⟨es, c, h1, h2⟩ := h
  exact ⟨es, c, hs.trans h1, h2⟩
theorem RdAt.keep {w w' : World} {base q b : Nat} {L : List (Fld × Value)} {e : Nat} (h : RdAt w base q b L e) (hb : Below w.heap.size w w') : RdAt w' base q b L e := by
  obtain ⟨n, D, hm, hr⟩ := h.map
  exact ⟨(hb.block q (lt_of_heap h.blk)).trans h.blk, ⟨n, D, owns_same hm (hb.block b hm.lt), hr⟩, fun p hp => ⟨(h.byt p hp).1, own_same2 (h.byt p hp).2 (fun k _ hk => hb.block k hk)⟩⟩
theorem RdAt.drewN {w : World} {base q b : Nat} {L : List (Fld × Value)} {e : Nat} (h : RdAt w base q b L e) (m : Nat) : RdAt (w.drewN m) base q b L e := by
  obtain ⟨n, D, hm, hr⟩ := h.map
  exact ⟨by simpa using h.blk, ⟨n, D, owns_same hm (by simp), hr⟩, fun p hp => ⟨(h.byt p hp).1, own_same2 (h.byt p hp).2 (fun k _ hk => by simp)⟩⟩
/-- bytes of the call's own lie in no block of a map or of a reader -/
theorem own_other {w w' : World} {base : Nat} {v : Value} {l : List Nat} {x y : Nat} (h : Own w base v l) (hx : ∀ c, w.heap[x]? ≠ some (.cells c 5)) (hy : ∀ c, w.heap[y]? ≠ some (.cells c 5)) (hs : ∀ k, k < w.heap.size → k ≠ x → k ≠ y → w'.heap[k]? = w.heap[k]?) : Own w' base v l := by
  refine ⟨h.1, h.2.1, ?_⟩
  rcases h.2.2 with h2 | ⟨g, cap, cur, h3, h4, h5, h6⟩
  · exact .inl h2
  · refine .inr ⟨g, cap, cur, h3, h4, ?_, h6⟩
    rw [hs g (lt_of_heap h5) (fun e => by subst e; exact hx _ h5) (fun e => by subst e; exact hy _ h5)]
    exact h5
end Go.Proofs.YtfcgcpfckbmgnaaGreat
namespace Go.Proofs.YtfcgcpfckbmgnaaGreat
open Go.ChangeShapes Go.WideShapes Go.ChangeAt Go.RowKit
set_option linter.unusedVariables false
/-- the empty field -/
abbrev ZF : Value := FV 0 false 0 (.slice none 0 0)
theorem Tryz.zeroFd (w : World) : (zeroValue 48).run Tryz.prog w = .ok ZF w := by kernel_rfl
theorem rd_keyed : Maps.Keyed Tryz.prog 3 := Maps.int_keyed Tryz.underlying3
theorem rd_key {t : Int} (ht : (Lit.int .i64 t).wf = true) : keyOf Tryz.prog 3 (.int .i64 t) = some (.int .i64 t) := Maps.keyOf_int_mk Tryz.underlying3 ht
theorem look_yes {w : World} {b n : Nat} {D : DataW Value} {L : List (Fld × Value)} {t : Int} {p : Fld × Value} (hm : w.ownsMap Tryz.prog 3 hv b n D) (hr : Rep D L) (ht : (Lit.int .i64 t).wf = true) (hp : getT L t = some p) :
    (Instr.lookup 79 (.map (some b)) (.int .i64 t) true).run Tryz.prog w = .ok (.tuple #[FP p, .bool true]) w := by
  obtain ⟨v, ps, hrun, hR⟩ := hm.look_ok rd_keyed Tryz.underlying79 (Tryz.zeroFd w) (zd := .held ZF) (zp := []) rfl (rd_key ht)
  rw [hr.look, hp] at hR
  have h1 := hv_inv hR
  simp only [DataW.held.injEq] at h1
  rw [hr.hs, hp] at hrun
  rw [hrun, ← h1]
  rfl
theorem look_no {w : World} {b n : Nat} {D : DataW Value} {L : List (Fld × Value)} {t : Int} (hm : w.ownsMap Tryz.prog 3 hv b n D) (hr : Rep D L) (ht : (Lit.int .i64 t).wf = true) (hp : getT L t = none) :
    (Instr.lookup 79 (.map (some b)) (.int .i64 t) true).run Tryz.prog w = .ok (.tuple #[ZF, .bool false]) w := by
  obtain ⟨v, ps, hrun, hR⟩ := hm.look_ok rd_keyed Tryz.underlying79 (Tryz.zeroFd w) (zd := .held ZF) (zp := []) rfl (rd_key ht)
  rw [hr.look, hp] at hR
  have h1 := hv_inv hR
  simp only [DataW.held.injEq] at h1
  rw [hr.hs, hp] at hrun
  rw [hrun, ← h1]
  rfl
theorem wpList_look {ops : Array Oper} {rest : List Oper} {o : Oper} {a : Act} {w : World} {Q : Exit → Act → World → Prop} (hg : o.guard = none) (m x : Operand) (hop : o.op = Op.lookup 79 m x true) {b : Nat} {t : Int} {v : Value} (hm : a.eval m = .map (some b)) (hx : a.eval x = .int .i64 t)
    (hrun : (Instr.lookup 79 (.map (some b)) (.int .i64 t) true).run Tryz.prog w = .ok v w) (hK : wpList Tryz.prog ops Q rest (a.put o.dst v) w) : wpList Tryz.prog ops Q (o :: rest) a w := by
  refine wpList_plain hg fun K' hK' => ?_
  unfold Oper.wp
  simp [execOp, hop, hm, hx, hrun, Result.andThen]
  exact hK' _ _ hK
/-- what take answers, and the reader's error behind it -/
def rdV (L : List (Fld × Value)) (t : Int) (x : Bool) : Value := match getT L t with | some p => if p.1.text = x then FP p else ZF | none => ZF
def rdE (L : List (Fld × Value)) (e : Nat) (t : Int) (x : Bool) : Nat := match getT L t with | some p => if p.1.text = x then e else 33 | none => e
/-- the two boxes that take lays: its answer, the field that was found -/
theorem box_two (w : World) : ∃ W, (w.alloc (.cells #[.int .i64 0, .bool false, .int .u64 0, .slice none 0 0] 48)).alloc (.cells #[.int .i64 0, .bool false, .int .u64 0, .slice none 0 0] 48) = W ∧ FldAt W w.heap.size 0 false 0 (.slice none 0 0) ∧ FldAt W (w.heap.size + 1) 0 false 0 (.slice none 0 0) ∧ Below w.heap.size w W ∧ W.heap.size = w.heap.size + 2 := by
  refine ⟨_, rfl, ?_, ?_, (((Below.refl _ _).alloc (Nat.le_refl _) _).alloc (by simp) _), by simp⟩
  · exact (Below.heap_alloc _ _ w.heap.size (by simp)).trans (FldAt.new w 0 false 0 (.slice none 0 0))
  · have := FldAt.new (w.alloc (.cells #[.int .i64 0, .bool false, .int .u64 0, .slice none 0 0] 48)) 0 false 0 (.slice none 0 0)
    simpa using this
set_option maxRecDepth 20000 in
set_option maxHeartbeats 1000000 in
theorem take_no (t : Int) (x : Bool) (w : World) (base q b : Nat) (L : List (Fld × Value)) (e : Nat) (h : RdAt w base q b L e) (ht : (Lit.int .i64 t).wf = true) (hn : getT L t = none) :
    Calls Tryz.prog 58 #[.pointer (some ⟨q, 0, none⟩), .int .i64 t, .bool x] w fun r w' => r = .returned ZF ∧ Below w.heap.size w w' := by
  have hB : Below w.heap.size w (w.alloc (.cells #[.int .i64 0, .bool false, .int .u64 0, .slice none 0 0] 48)) := (Below.refl _ _).alloc (Nat.le_refl _) _
  have h1 := h.keep hB
  obtain ⟨c0, _, _, _⟩ := h1.cells
  obtain ⟨n, D, hm, hr⟩ := h1.map
  have HM : Hid (_) := hm
  have HR : Hid (Rep D L) := hr
  obtain ⟨W, hW, hf0, hf1, hbW, hsW⟩ := box_two w
  have HW : Hid (_ = W) := hW
  have HF0 : Hid (_) := hf0
  have HF1 : Hid (_) := hf1
  have HB : Hid (_) := hbW
  have HS : Hid (_) := hsW
  have T1 : Hid True := trivial
  clear h h1 hB hm hr hW hf0 hf1 hbW hsW
  go_enter Tryz.func58, Tryz.ntmps58
  go_wp2_with (first
    | (at_lookup; refine wpList_look rfl _ _ rfl rfl rfl (look_no HM.out HR.out ht hn) ?_)
    | ((with_reducible refine guard_store 48 ?_); clear T1; rw [HW.out]; refine wpList_store_fld rfl _ _ rfl (k := w.heap.size + 1) (tag2 := 0) (text2 := false) (num2 := 0) (bv2 := .slice none 0 0) HF1.out rfl rfl rfl ?_; intro w5 hf5 hos5 hk5 hs5; have HF5 : Hid (_) := (hk5 w.heap.size (by omega)).trans HF0.out; clear hf5)
    | ((with_reducible refine guard_store 48 ?_); refine wpList_store_fld rfl _ _ rfl (k := w.heap.size) (tag2 := 0) (text2 := false) (num2 := 0) (bv2 := .slice none 0 0) HF5.out rfl rfl rfl ?_; intro w6 hf6 hos6 hk6 hs6))
  exact bodyPost_ret (results_fld rfl _ _ _ rfl hf6) rfl ⟨rfl, ⟨hos6.1.trans (hos5.1.trans HB.out.os), hos6.2.1.trans (hos5.2.1.trans HB.out.tape), hos6.2.2.trans (hos5.2.2.trans HB.out.output), by rw [hs6, hs5, HS.out]; omega, fun k hk => (hk6 k (by omega)).trans ((hk5 k (by omega)).trans (HB.out.block k hk))⟩⟩
end Go.Proofs.YtfcgcpfckbmgnaaGreat
namespace Go.Proofs.YtfcgcpfckbmgnaaGreat
open Go.ChangeShapes Go.WideShapes Go.ChangeAt Go.RowKit
set_option linter.unusedVariables false
theorem map_blk {w : World} {b n : Nat} {D : DataW Value} (h : w.ownsMap Tryz.prog 3 hv b n D) : ∃ es c, w.heap[b]? = some (.map es c) := by
  obtain ⟨es, c, h1, _⟩ := h; exact ⟨es, c, h1⟩
theorem RdAt.ne {w : World} {base q b : Nat} {L : List (Fld × Value)} {e : Nat} (h : RdAt w base q b L e) : q ≠ b := by
  obtain ⟨n, D, hm, _⟩ := h.map
  obtain ⟨es, c, hb⟩ := map_blk hm
  intro hh
  have := h.blk
  rw [hh, hb] at this
  cases this
theorem take_fin {w w8 : World} {base q b n : Nat} {D : DataW Value} {L : List (Fld × Value)} {e e' : Nat} {t : Int} (h : RdAt w base q b L e) (hr : Rep D L) (hm8 : w8.ownsMap Tryz.prog 3 hv b n (D.del (.int .i64 t))) (hq : w8.heap[q]? = some (.cells #[.map (some b), .int .i64 (e' : Int)] 81)) (hk : Kept q b w w8) : RdAt w8 base q b (delT L t) e' := by
  refine ⟨hq, ⟨n, _, hm8, hr.del t⟩, fun p hp => own_other (h.byt p (List.mem_filter.1 hp).1) (x := q) (y := b) (fun c hc => ?_) (fun c hc => ?_) (fun k hk1 hk2 hk3 => hk.block k hk1 hk2 hk3)⟩
  · rw [h.blk] at hc; cases hc
  · obtain ⟨n2, D2, hm2, _⟩ := h.map
    obtain ⟨es, c2, hb⟩ := map_blk hm2
    rw [hb] at hc; cases hc
/-- behind the store of what was found -/
structure Got (w w5 : World) (base q b n : Nat) (D : DataW Value) (L : List (Fld × Value)) (e : Nat) (T : Int) (X : Bool) (U : Nat) (bv : Value) : Prop where
  rd : RdAt w5 base q b L e
  bel : Below w.heap.size w w5
  own : w5.ownsMap Tryz.prog 3 hv b n D
  res : FldAt w5 w.heap.size 0 false 0 (.slice none 0 0)
  fld : FldAt w5 (w.heap.size + 1) T X U bv
  qlt : q < w.heap.size
  blt : b < w.heap.size
theorem got_of {w W w5 : World} {base q b n : Nat} {D : DataW Value} {L : List (Fld × Value)} {e : Nat} {T : Int} {X : Bool} {U : Nat} {bv : Value} (h : RdAt w base q b L e) (hm : w.ownsMap Tryz.prog 3 hv b n D) (hb : Below w.heap.size w W) (hs : W.heap.size = w.heap.size + 2) (h0 : FldAt W w.heap.size 0 false 0 (.slice none 0 0))
    (hf5 : FldAt w5 (w.heap.size + 1) T X U bv) (hos : w5.os = W.os ∧ w5.tape = W.tape ∧ w5.output = W.output) (hk : ∀ j, j ≠ w.heap.size + 1 → w5.heap[j]? = W.heap[j]?) (hs5 : w5.heap.size = W.heap.size) : Got w w5 base q b n D L e T X U bv := by
  have hB5 : Below w.heap.size w w5 := ⟨hos.1.trans hb.os, hos.2.1.trans hb.tape, hos.2.2.trans hb.output, by rw [hs5, hs]; omega, fun k hk1 => (hk k (by omega)).trans (hb.block k hk1)⟩
  exact ⟨h.keep hB5, hB5, owns_same hm (hB5.block b hm.lt), (hk _ (by omega)).trans h0, hf5, lt_of_heap h.blk, hm.lt⟩
/-- behind the delete -/
structure Gone (w w7 : World) (base q b n : Nat) (D : DataW Value) (L : List (Fld × Value)) (e : Nat) (T : Int) (X : Bool) (U : Nat) (bv : Value) (t : Int) : Prop where
  own : w7.ownsMap Tryz.prog 3 hv b n (D.del (.int .i64 t))
  blk : w7.heap[q]? = some (.cells #[.map (some b), .int .i64 (e : Int)] 81)
  res : FldAt w7 w.heap.size 0 false 0 (.slice none 0 0)
  fld : FldAt w7 (w.heap.size + 1) T X U bv
  kep : Kept q b w w7
theorem gone_of {w w5 w7 : World} {base q b n : Nat} {D : DataW Value} {L : List (Fld × Value)} {e : Nat} {T : Int} {X : Bool} {U : Nat} {bv : Value} {t : Int} (h : Got w w5 base q b n D L e T X U bv) (hm : w7.ownsMap Tryz.prog 3 hv b n (D.del (.int .i64 t))) (hg : w5.grownBy w7 (some b)) : Gone w w7 base q b n D L e T X U bv t := by
  have h1 := h.rd.ne
  have h2 := h.blt
  refine ⟨hm, (hg.block q (lt_of_heap h.rd.blk) (by intro hh; exact h1 (Option.some.inj hh))).trans h.rd.blk, (hg.block _ (lt_of_heap h.res) (by intro hh; have := Option.some.inj hh; omega)).trans h.res, (hg.block _ (lt_of_heap h.fld) (by intro hh; have := Option.some.inj hh; omega)).trans h.fld, ⟨hg.os.trans h.bel.os, hg.tape.trans h.bel.tape, hg.output.trans h.bel.output, Nat.le_trans h.bel.size hg.size, fun k hk _ hkb => (hg.block k (Nat.lt_of_lt_of_le hk h.bel.size) (by intro hh; exact hkb (Option.some.inj hh))).trans (h.bel.block k hk)⟩⟩
theorem Gone.fin {w w7 w8 : World} {base q b n : Nat} {D : DataW Value} {L : List (Fld × Value)} {e e' : Nat} {T : Int} {X : Bool} {U : Nat} {bv : Value} {t : Int} (h0 : RdAt w base q b L e) (hr : Rep D L) (h : Gone w w7 base q b n D L e T X U bv t) (hq : w8.heap[q]? = some (.cells #[.map (some b), .int .i64 (e' : Int)] 81)) (hos : w8.os = w7.os ∧ w8.tape = w7.tape ∧ w8.output = w7.output) (hk : ∀ j, j ≠ w.heap.size → j ≠ q → w8.heap[j]? = w7.heap[j]?) (hs : w8.heap.size = w7.heap.size) : RdAt w8 base q b (delT L t) e' ∧ Kept q b w w8 := by
  obtain ⟨n0, D0, hm0, _⟩ := h0.map
  have hb := hm0.lt
  have hK : Kept q b w w8 := ⟨hos.1.trans h.kep.os, hos.2.1.trans h.kep.tape, hos.2.2.trans h.kep.output, by rw [hs]; exact h.kep.size, fun k hk1 h1 h2 => (hk k (by omega) h1).trans (h.kep.block k hk1 h1 h2)⟩
  exact ⟨take_fin h0 hr (owns_same h.own (hk b (by omega) h0.ne.symm)) hq hK, hK⟩
set_option maxRecDepth 20000 in
set_option maxHeartbeats 1000000 in
theorem take_yes (t : Int) (x : Bool) (w : World) (base q b : Nat) (L : List (Fld × Value)) (e : Nat) (F : Fld) (bv : Value) (h : RdAt w base q b L e) (ht : (Lit.int .i64 t).wf = true) (hp : getT L t = some (F, bv)) (hx : (F.text != x) = false) :
    Calls Tryz.prog 58 #[.pointer (some ⟨q, 0, none⟩), .int .i64 t, .bool x] w fun r w' => r = .returned (FV F.tag F.text F.num bv) ∧ RdAt w' base q b (delT L t) e ∧ Kept q b w w' := by
  obtain ⟨T, tx, nu, by0⟩ := F
  have hone : bv.oneCell' = true := by
    obtain ⟨a, cap, h1, _⟩ := (h.byt _ (getT_mem hp).1).shape
    simp only at h1; rw [h1]; rfl
  have hB : Below w.heap.size w (w.alloc (.cells #[.int .i64 0, .bool false, .int .u64 0, .slice none 0 0] 48)) := (Below.refl _ _).alloc (Nat.le_refl _) _
  obtain ⟨c0, _, _, _⟩ := (h.keep hB).cells
  obtain ⟨n, D, hm, hr⟩ := h.map
  have HRD : Hid (RdAt w base q b L e) := h
  have HM : Hid (w.ownsMap Tryz.prog 3 hv b n D) := hm
  have HR : Hid (Rep D L) := hr
  have HP : Hid (_) := hp
  obtain ⟨W, hW, hf0, hf1, hbW, hsW⟩ := box_two w
  have HW : Hid (_ = W) := hW
  have HF0 : Hid (_) := hf0
  have HF1 : Hid (_) := hf1
  have HB : Hid (_) := hbW
  have HS : Hid (_) := hsW
  have T1 : Hid True := trivial
  clear h hB hm hr hp hW hf0 hf1 hbW hsW
  cases tx <;> cases x <;> first | (exfalso; simp at hx; done) | skip
  all_goals
    go_enter Tryz.func58, Tryz.ntmps58
    go_wp2_with (first
      | (at_lookup; refine wpList_look rfl _ _ rfl rfl rfl (look_yes (World.ownsMap.alloc HM.out _) HR.out ht HP.out) ?_)
      | ((with_reducible refine guard_store 48 ?_); clear T1; rw [HW.out]; refine wpList_store_fld rfl _ _ rfl (k := w.heap.size + 1) (tag2 := T) (text2 := _) (num2 := nu) (bv2 := bv) HF1.out hone rfl rfl ?_; intro w5 hf5 hos5 hk5 hs5; have hg5 := got_of HRD.out HM.out HB.out HS.out HF0.out hf5 hos5 hk5 hs5; have HG : Hid (Got w w5 base q b n D L e T _ nu bv) := hg5; obtain ⟨d0, _, _, _⟩ := hg5.rd.cells; clear hf5 hos5 hk5 hs5 hg5)
      | (at_delete; refine wpList_delete_own _ rfl _ _ 79 3 rfl 48 rd_keyed Tryz.underlying79 hv b n D rfl HG.out.own _ _ rfl (rd_key ht) ?_; intro w7 hm7 ht7; have hg7 := gone_of HG.out hm7 ht7.grown; have HN : Hid (Gone w w7 base q b n D L e T _ nu bv t) := hg7; obtain ⟨_, f1, _, _⟩ := hg7.fld.cells; clear hm7 ht7 hg7)
      | ((with_reducible refine guard_load 48 ?_); refine wpList_load_fld rfl _ rfl HN.out.fld rfl ?_)
      | ((with_reducible refine guard_store 48 ?_); refine wpList_store_fld rfl _ _ rfl (k := w.heap.size) (tag2 := T) (text2 := _) (num2 := nu) (bv2 := bv) HN.out.res hone rfl rfl ?_; intro w8 hf8 hos8 hk8 hs8))
    exact bodyPost_ret (results_fld rfl _ _ _ rfl hf8) rfl ⟨rfl, HN.out.fin HRD.out HR.out ((hk8 q (by have := HG.out.qlt; omega)).trans HN.out.blk) hos8 (fun j h1 _ => hk8 j h1) hs8⟩
set_option maxRecDepth 20000 in
set_option maxHeartbeats 1000000 in
theorem take_form (t : Int) (x : Bool) (w : World) (base q b : Nat) (L : List (Fld × Value)) (e : Nat) (F : Fld) (bv : Value) (h : RdAt w base q b L e) (ht : (Lit.int .i64 t).wf = true) (hp : getT L t = some (F, bv)) (hx : (F.text != x) = true) :
    Calls Tryz.prog 58 #[.pointer (some ⟨q, 0, none⟩), .int .i64 t, .bool x] w fun r w' => r = .returned ZF ∧ RdAt w' base q b (delT L t) 33 ∧ Kept q b w w' := by
  obtain ⟨T, tx, nu, by0⟩ := F
  have hone : bv.oneCell' = true := by
    obtain ⟨a, cap, h1, _⟩ := (h.byt _ (getT_mem hp).1).shape
    simp only at h1; rw [h1]; rfl
  have hB : Below w.heap.size w (w.alloc (.cells #[.int .i64 0, .bool false, .int .u64 0, .slice none 0 0] 48)) := (Below.refl _ _).alloc (Nat.le_refl _) _
  obtain ⟨c0, _, _, _⟩ := (h.keep hB).cells
  obtain ⟨n, D, hm, hr⟩ := h.map
  have HRD : Hid (RdAt w base q b L e) := h
  have HM : Hid (w.ownsMap Tryz.prog 3 hv b n D) := hm
  have HR : Hid (Rep D L) := hr
  have HP : Hid (_) := hp
  obtain ⟨W, hW, hf0, hf1, hbW, hsW⟩ := box_two w
  have HW : Hid (_ = W) := hW
  have HF0 : Hid (_) := hf0
  have HF1 : Hid (_) := hf1
  have HB : Hid (_) := hbW
  have HS : Hid (_) := hsW
  have T1 : Hid True := trivial
  clear h hB hm hr hp hW hf0 hf1 hbW hsW
  cases tx <;> cases x <;> first | (exfalso; simp at hx; done) | skip
  all_goals
    go_enter Tryz.func58, Tryz.ntmps58
    go_wp2_with (first
      | (at_lookup; refine wpList_look rfl _ _ rfl rfl rfl (look_yes (World.ownsMap.alloc HM.out _) HR.out ht HP.out) ?_)
      | ((with_reducible refine guard_store 48 ?_); clear T1; rw [HW.out]; refine wpList_store_fld rfl _ _ rfl (k := w.heap.size + 1) (tag2 := T) (text2 := _) (num2 := nu) (bv2 := bv) HF1.out hone rfl rfl ?_; intro w5 hf5 hos5 hk5 hs5; have hg5 := got_of HRD.out HM.out HB.out HS.out HF0.out hf5 hos5 hk5 hs5; have HG : Hid (Got w w5 base q b n D L e T _ nu bv) := hg5; obtain ⟨d0, _, _, _⟩ := hg5.rd.cells; clear hf5 hos5 hk5 hs5 hg5)
      | (at_delete; refine wpList_delete_own _ rfl _ _ 79 3 rfl 48 rd_keyed Tryz.underlying79 hv b n D rfl HG.out.own _ _ rfl (rd_key ht) ?_; intro w7 hm7 ht7; have hg7 := gone_of HG.out hm7 ht7.grown; have HN : Hid (Gone w w7 base q b n D L e T _ nu bv t) := hg7; obtain ⟨_, f1, _, _⟩ := hg7.fld.cells; have hq1 : w7.cell? ⟨q, 1, none⟩ = some (.int .i64 (e : Int)) := (by rw [cell_of_row _ _ 1 _ _ _ hg7.blk]; rfl); have hq2 : w7.frozen? ⟨q, 1, none⟩ = false := frozen_of_row _ _ 1 _ _ hg7.blk; clear hm7 ht7 hg7)
      | ((with_reducible refine guard_store 48 ?_); refine wpList_store_fld rfl _ _ rfl (k := w.heap.size) (tag2 := 0) (text2 := false) (num2 := 0) (bv2 := .slice none 0 0) (show FldAt (w7.setCell ⟨q, 1, none⟩ (.int .i64 33)) w.heap.size 0 false 0 (.slice none 0 0) from (heap_setCell_other w7 ⟨q, 1, none⟩ w.heap.size _ (by have := HG.out.qlt; show w.heap.size ≠ q; omega)).trans HN.out.res) rfl rfl rfl ?_; intro w8 hf8 hos8 hk8 hs8))
    refine bodyPost_ret (results_fld rfl _ _ _ rfl hf8) rfl ⟨rfl, HN.out.fin HRD.out HR.out ((hk8 q (by have := HG.out.qlt; omega)).trans ?_) ⟨hos8.1, hos8.2.1, hos8.2.2⟩ (fun j h1 h2 => (hk8 j h1).trans (heap_setCell_other w7 ⟨q, 1, none⟩ j _ h2)) (by rw [hs8]; simp)⟩
    rw [heap_setCell_same w7 q 1 _ _ _ HN.out.blk]; rfl
/-- take, every way -/
theorem take_any (t : Int) (x : Bool) (w : World) (base q b : Nat) (L : List (Fld × Value)) (e : Nat) (h : RdAt w base q b L e) (ht : (Lit.int .i64 t).wf = true) :
    Calls Tryz.prog 58 #[.pointer (some ⟨q, 0, none⟩), .int .i64 t, .bool x] w fun r w' => r = .returned (rdV L t x) ∧ RdAt w' base q b (delT L t) (rdE L e t x) ∧ Kept q b w w' := by
  rcases hp : getT L t with _ | ⟨F, bv⟩
  · have e1 : rdV L t x = ZF := by unfold rdV; rw [hp]
    have e2 : rdE L e t x = e := by unfold rdE; rw [hp]
    rw [e1, e2, delT_none hp]
    refine (take_no t x w base q b L e h ht hp).mono ?_
    rintro r w' ⟨rfl, hb⟩
    exact ⟨rfl, h.keep hb, ⟨hb.os, hb.tape, hb.output, hb.size, fun k hk _ _ => hb.block k hk⟩⟩
  · by_cases hx : F.text = x
    · have e1 : rdV L t x = FV F.tag F.text F.num bv := by unfold rdV; rw [hp]; exact if_pos hx
      have e2 : rdE L e t x = e := by unfold rdE; rw [hp]; exact if_pos hx
      rw [e1, e2]
      exact take_yes t x w base q b L e F bv h ht hp (by simp [hx])
    · have e1 : rdV L t x = ZF := by unfold rdV; rw [hp]; exact if_neg hx
      have e2 : rdE L e t x = 33 := by unfold rdE; rw [hp]; exact if_neg hx
      rw [e1, e2]
      exact take_form t x w base q b L e F bv h ht hp (by simp [hx])
end Go.Proofs.YtfcgcpfckbmgnaaGreat
namespace Go.Proofs.YtfcgcpfckbmgnaaGreat
open Go.ChangeShapes Go.WideShapes Go.ChangeAt Go.RowKit
set_option linter.unusedVariables false
def getF (fs : List Fld) (t : Int) : Option Fld := fs.find? (fun f => f.tag == t)
def delF (fs : List Fld) (t : Int) : List Fld := fs.filter (fun f => !(f.tag == t))
theorem getF_of (L : List (Fld × Value)) (t : Int) : getF (L.map Prod.fst) t = (getT L t).map Prod.fst := by
  unfold getF getT
  rw [List.find?_map]; rfl
theorem delF_of (L : List (Fld × Value)) (t : Int) : delF (L.map Prod.fst) t = (delT L t).map Prod.fst := by
  unfold delF delT
  rw [List.filter_map]; rfl
/-- the number, the text of a tag; the error behind a take -/
def numF (fs : List Fld) (t : Int) : Nat := match getF fs t with | some f => if f.text = false then f.num else 0 | none => 0
def txtF (fs : List Fld) (t : Int) : List Nat := match getF fs t with | some f => if f.text = true then f.bytes else [] | none => []
def errF (fs : List Fld) (e : Nat) (t : Int) (x : Bool) : Nat := match getF fs t with | some f => if f.text = x then e else 33 | none => e
theorem rdE_of (L : List (Fld × Value)) (e : Nat) (t : Int) (x : Bool) : rdE L e t x = errF (L.map Prod.fst) e t x := by
  unfold rdE errF
  rw [getF_of]
  rcases getT L t with _ | ⟨F, v⟩ <;> rfl
theorem fld_two (T : Int) (X : Bool) (U : Nat) (v : Value) (w : World) : (Instr.field 48 (FV T X U v) 2).run Tryz.prog w = .ok (.int .u64 (U : Int)) w := by kernel_rfl
theorem fld_three (T : Int) (X : Bool) (U : Nat) (v : Value) (w : World) : (Instr.field 48 (FV T X U v) 3).run Tryz.prog w = .ok v w := by kernel_rfl
theorem rdV_num (L : List (Fld × Value)) (t : Int) : ∃ T X v, rdV L t false = FV T X (numF (L.map Prod.fst) t) v := by
  unfold rdV numF
  rw [getF_of]
  rcases getT L t with _ | ⟨F, v⟩
  · exact ⟨0, false, _, rfl⟩
  · by_cases h : F.text = false
    · refine ⟨F.tag, F.text, v, ?_⟩
      simp only [Option.map, if_pos h]
    · refine ⟨0, false, .slice none 0 0, ?_⟩
      simp only [Option.map, if_neg h]
theorem numF_le {fs : List Fld} (h : ∀ f ∈ fs, FRight f) (t : Int) : numF fs t ≤ 18446744073709551615 := by
  unfold numF
  rcases hg : getF fs t with _ | f
  · simp
  · simp only
    split
    · exact (h f (List.mem_of_find?_eq_some hg)).1
    · omega
theorem txtF_lt {fs : List Fld} (h : ∀ f ∈ fs, FRight f) (t : Int) : (∀ x ∈ txtF fs t, x < 256) ∧ (txtF fs t).length ≤ 200 := by
  unfold txtF
  rcases hg : getF fs t with _ | f
  · simp
  · simp only
    split
    · exact ⟨(h f (List.mem_of_find?_eq_some hg)).2.2.2, (h f (List.mem_of_find?_eq_some hg)).2.1⟩
    · simp
/-- behind a call of a reader's -/
def RdPost (w : World) (base q b : Nat) (L : List (Fld × Value)) (e : Nat) (t : Int) (x : Bool) (w' : World) : Prop := RdAt w' base q b (delT L t) (errF (L.map Prod.fst) e t x) ∧ Kept q b w w'
theorem take_at (t : Int) (x : Bool) (w : World) (base q b : Nat) (L : List (Fld × Value)) (e : Nat) (h : RdAt w base q b L e) (ht : (Lit.int .i64 t).wf = true) :
    Calls Tryz.prog 58 #[.pointer (some ⟨q, 0, none⟩), .int .i64 t, .bool x] w fun r w' => r = .returned (rdV L t x) ∧ RdPost w base q b L e t x w' := by
  unfold RdPost
  rw [← rdE_of]
  exact take_any t x w base q b L e h ht
set_option maxRecDepth 20000 in
theorem rnum_any (t : Int) (w : World) (base q b : Nat) (L : List (Fld × Value)) (e : Nat) (h : RdAt w base q b L e) (ht : (Lit.int .i64 t).wf = true) :
    Calls Tryz.prog 57 #[.pointer (some ⟨q, 0, none⟩), .int .i64 t] w fun r w' => r = .returned (.int .u64 (numF (L.map Prod.fst) t : Int)) ∧ RdPost w base q b L e t false w' := by
  have HR : Hid (RdAt w base q b L e) := h
  obtain ⟨T, X, v, hv⟩ := rdV_num L t
  have HV : Hid (_) := hv
  have hfd := fld_two T X (numF (L.map Prod.fst) t) v
  clear h hv
  go_enter Tryz.func57, Tryz.ntmps57
  go_wp2_with (go_at_call 58; refine (take_at t false w base q b L e HR.out ht).mono ?_; rw [HV.out]; rintro r w1 ⟨rfl, hp⟩; have HP : Hid (RdPost w base q b L e t false w1) := hp; clear hp)
  go_ret
  exact ⟨rfl, HP.out⟩
theorem rdV_text {w : World} {base q b : Nat} {L : List (Fld × Value)} {e : Nat} (h : RdAt w base q b L e) (t : Int) : ∃ T X U v, rdV L t true = FV T X U v ∧ Own w base v (txtF (L.map Prod.fst) t) := by
  unfold rdV txtF
  rw [getF_of]
  rcases hg : getT L t with _ | ⟨F, v⟩
  · exact ⟨0, false, 0, _, rfl, ⟨by simp, World.ownsRow_nil w base _ 1⟩⟩
  · by_cases hx : F.text = true
    · refine ⟨F.tag, F.text, F.num, v, ?_, ?_⟩
      · simp only [if_pos hx]
      · simp only [Option.map, if_pos hx]
        exact h.byt _ (getT_mem hg).1
    · refine ⟨0, false, 0, .slice none 0 0, ?_, ?_⟩
      · simp only [if_neg hx]
      · simp only [Option.map, if_neg hx]
        exact ⟨by simp, World.ownsRow_nil w base _ 1⟩
theorem RdAt.own {w w' : World} {base q b : Nat} {L : List (Fld × Value)} {e : Nat} (h : RdAt w base q b L e) (hk : Kept q b w w') {v : Value} {l : List Nat} (hv : Own w base v l) : Own w' base v l := by
  refine own_other hv (x := q) (y := b) (fun c hc => ?_) (fun c hc => ?_) (fun k hk1 hk2 hk3 => hk.block k hk1 hk2 hk3)
  · rw [h.blk] at hc; cases hc
  · obtain ⟨n2, D2, hm2, _⟩ := h.map
    obtain ⟨es, c2, hb⟩ := map_blk hm2
    rw [hb] at hc; cases hc
set_option maxRecDepth 20000 in
theorem rtext_any (t : Int) (w : World) (base q b : Nat) (L : List (Fld × Value)) (e : Nat) (h : RdAt w base q b L e) (ht : (Lit.int .i64 t).wf = true) :
    Calls Tryz.prog 37 #[.pointer (some ⟨q, 0, none⟩), .int .i64 t] w fun r w' => ∃ v, r = .returned v ∧ Own w' base v (txtF (L.map Prod.fst) t) ∧ RdPost w base q b L e t true w' := by
  have HR : Hid (RdAt w base q b L e) := h
  obtain ⟨T, X, U, v, hv, ho⟩ := rdV_text h t
  have HV : Hid (_) := hv
  have HO : Hid (Own w base v (txtF (L.map Prod.fst) t)) := ho
  have hfd := fld_three T X U v
  clear h hv ho
  go_enter Tryz.func37, Tryz.ntmps37
  go_wp2_with (go_at_call 58; refine (take_at t true w base q b L e HR.out ht).mono ?_; rw [HV.out]; rintro r w1 ⟨rfl, hp⟩; have HP : Hid (RdPost w base q b L e t true w1) := hp; clear hp)
  go_ret
  exact ⟨v, rfl, HR.out.own HP.out.2 HO.out, HP.out⟩
theorem wpList_lenm {ops : Array Oper} {rest : List Oper} {o : Oper} {a : Act} {w : World} {Q : Exit → Act → World → Prop} (hg : o.guard = none) (m : Operand) (hop : o.op = Op.call { callee := Callee.builtin Builtin.len, args := #[m], argTypes := #[79] }) {b n : Nat} {D : DataW Value} {k : Nat} (hm : a.eval m = .map (some b)) (hown : w.ownsMap Tryz.prog 3 hv b n D) (hk : Maps.size D = k)
    (hK : wpList Tryz.prog ops Q rest (a.put o.dst (.int .i64 (k : Int))) w) : wpList Tryz.prog ops Q (o :: rest) a w := by
  subst hk
  exact wpList_len_own w hg m 79 hop 3 48 Tryz.underlying79 hv b n D hm hown hK
/-- what Err tells -/
def errR (fs : List Fld) (e : Nat) : Nat := if e ≠ 0 then e else if 0 < fs.length then 20 else 0
set_option maxRecDepth 20000 in
theorem rerr_any (w : World) (base q b : Nat) (L : List (Fld × Value)) (e : Nat) (h : RdAt w base q b L e) :
    Calls Tryz.prog 19 #[.pointer (some ⟨q, 0, none⟩)] w fun r w' => r = .returned (.int .i64 (errR (L.map Prod.fst) e : Int)) ∧ w = w' := by
  obtain ⟨c0, c1, _, _⟩ := h.cells
  obtain ⟨n, D, hm, hr⟩ := h.map
  have HM : Hid (w.ownsMap Tryz.prog 3 hv b n D) := hm
  have HS : Hid (Maps.size D = L.length) := hr.sz
  have hll : (L.map Prod.fst).length = L.length := List.length_map ..
  obtain ⟨k, hk⟩ : ∃ k, L.length = k := ⟨_, rfl⟩
  rw [hk] at HS
  by_cases he : e = 0
  · subst he
    by_cases h0 : 0 < k
    · have hE : Hid (errR (L.map Prod.fst) 0 = 20) := by show _ = _; unfold errR; rw [if_neg (by simp), if_pos (by omega)]
      have h0I : (0 : Int) < (k : Int) := by omega
      clear h hm hr hll hk h0
      go_enter Tryz.func19, Tryz.ntmps19
      go_wp2_with (at_len; refine wpList_lenm rfl _ rfl rfl HM.out HS.out ?_)
      go_ret
      exact ⟨by rw [hE.out]; rfl, rfl⟩
    · obtain rfl : k = 0 := by omega
      have hE : Hid (errR (L.map Prod.fst) 0 = 0) := by show _ = _; unfold errR; rw [if_neg (by simp), if_neg (by omega)]
      clear h hm hr hll hk h0
      go_enter Tryz.func19, Tryz.ntmps19
      go_wp2_with (at_len; refine wpList_lenm rfl _ rfl rfl HM.out HS.out ?_)
      go_ret
      exact ⟨by rw [hE.out]; rfl, rfl⟩
  · have hE : Hid (errR (L.map Prod.fst) e = e) := by show _ = _; unfold errR; rw [if_pos he]
    have heb : ((e : Int) != 0) = true := by simp; omega
    have heb2 : ¬ (e : Int) = 0 := by omega
    clear h hm hr hll hk he
    go_enter Tryz.func19, Tryz.ntmps19
    go_wp2
    go_ret
    exact ⟨by rw [hE.out]; rfl, rfl⟩
end Go.Proofs.YtfcgcpfckbmgnaaGreat
namespace Go.Proofs.YtfcgcpfckbmgnaaGreat
open Go.ChangeShapes Go.WideShapes Go.ChangeAt Go.RowKit
set_option linter.unusedVariables false
/-- fields that were written have rising tags -/
theorem encs_rise : ∀ (fs : List Fld) (A : Int) (b r : List Nat), encs fs A b = (r, 0) → fs.Pairwise (fun f g => f.tag < g.tag) ∧ ∀ f ∈ fs, A < f.tag ∧ 1 ≤ f.tag ∧ f.tag ≤ 31 ∧ flt f 0 = 0
  | [], A, b, r, _ => ⟨.nil, by simp⟩
  | f :: fs, A, b, r, h => by
    have h' : (if flt f A ≠ 0 then (([] : List Nat), flt f A) else encs fs f.tag (b ++ one f)) = (r, 0) := h
    by_cases hz : flt f A = 0
    · rw [hz, if_neg (by simp)] at h'
      obtain ⟨h1, h2⟩ := encs_rise fs f.tag (b ++ one f) r h'
      obtain ⟨t1, t2, t3⟩ := flt_tag hz
      have hz0 : flt f 0 = 0 := by
        unfold flt at hz ⊢
        rw [if_neg (by omega), if_neg (by omega)] at hz
        rw [if_neg (by omega), if_neg (by omega)]
        exact hz
      refine ⟨List.pairwise_cons.2 ⟨fun g hg => (h2 g hg).1, h1⟩, fun g hg => ?_⟩
      rcases List.mem_cons.1 hg with rfl | hg
      · exact ⟨by omega, by omega, by omega, hz0⟩
      · obtain ⟨a1, a2, a3, a4⟩ := h2 g hg
        exact ⟨by omega, a2, a3, a4⟩
    · rw [if_pos hz] at h'
      exact absurd (Prod.mk.inj h').2 hz
theorem make_any (n : Int) (w : World) : (Instr.makeMap 79 (some (.int .i64 n))).run Tryz.prog w = .ok (.map (some w.heap.size)) (w.alloc (.map #[] 0)) := by
  simp [Instr.makeMap]
  rfl
/-- what NewReader answers -/
def NewPost (w : World) (l : List Nat) (r : Ending) (w' : World) : Prop :=
  Below w.heap.size w w' ∧ (((recs l).2.2 ≠ 0 ∧ r = .returned (.tuple #[.pointer none, .int .i64 ((recs l).2.2 : Int)])) ∨
  ((recs l).2.2 = 0 ∧ ∃ q b L, r = .returned (.tuple #[.pointer (some ⟨q, 0, none⟩), .int .i64 0]) ∧ L.map Prod.fst = (recs l).1 ∧ RdAt w' w.heap.size q b L 0 ∧ w.heap.size ≤ q ∧ w.heap.size ≤ b))
set_option maxRecDepth 20000 in
set_option maxHeartbeats 400000 in
theorem newr_bad (l : List Nat) (a : Option Addr) (n cap : Nat) (w : World) (hn : l.length = n) (hb : Bytes w a l) (hcap : n ≤ cap) (hm : n ≤ maxLen) (he : (recs l).2.2 ≠ 0) :
    Calls Tryz.prog 16 #[.slice a n cap] w fun r w' => r = .returned (.tuple #[.pointer none, .int .i64 ((recs l).2.2 : Int)]) ∧ Below w.heap.size w w' := by
  have HN : Hid (l.length = n) := hn
  have HB : Hid (Bytes w a l) := hb
  obtain ⟨e, hE⟩ : ∃ e, (recs l).2.2 = e := ⟨_, rfl⟩
  obtain ⟨i, hI⟩ : ∃ i, (recs l).2.1 = i := ⟨_, rfl⟩
  rw [hE] at he ⊢
  have HE : Hid (_) := hE
  have HI : Hid (_) := hI
  have heb : ((e : Int) != 0) = true := by simp; omega
  have heb2 : ¬ (e : Int) = 0 := by omega
  clear hn hb he hE hI
  go_enter Tryz.func16, Tryz.ntmps16
  go_wp2_with (go_at_call 35; refine (tdec l a n cap w HN.out HB.out hcap hm).mono ?_; rintro r w1 ⟨v, L, hr, hL, hR, hb1⟩; rw [HE.out, HI.out] at hr; subst hr; have HB1 : Hid (_) := hb1; clear hL hR hb1)
  go_ret2
  exact ⟨rfl, HB1.out⟩
/-- behind k rounds: the first k fields lie in the map -/
structure NR (w1 wr : World) (L : List (Fld × Value)) (k : Nat) : Prop where
  bel : Below w1.heap.size w1 wr
  blk : wr.heap[w1.heap.size + 1]? = some (.cells #[.map (some w1.heap.size), .int .i64 0] 81)
  map : ∃ D, wr.ownsMap Tryz.prog 3 hv w1.heap.size k D ∧ Rep D (L.take k)
theorem NR.start (w1 : World) (L : List (Fld × Value)) : NR w1 ((w1.alloc (.map #[] 0)).alloc (.cells #[.map (some w1.heap.size), .int .i64 0] 81)) L 0 := by
  refine ⟨(((Below.refl _ _).alloc (Nat.le_refl _) _).alloc (by simp) _), ?_, .map [], World.ownsMap.alloc (World.ownsMap_made w1 _ _ _) _, rep_nil⟩
  have := heap_alloc_new (w1.alloc (.map #[] 0)) (.cells #[.map (some w1.heap.size), .int .i64 0] 81)
  simpa using this
/-- the round's store -/
theorem NR.step {w1 wr : World} {L : List (Fld × Value)} {k : Nat} {p : Fld × Value} (h : NR w1 wr L k) (hp : L[k]? = some p) (hn : getT (L.take k) p.1.tag = none) (ht : (Lit.int .i64 p.1.tag).wf = true) (hk : k < maxLen) :
    ∃ W W2, wr.alloc (.cells #[.int .i64 p.1.tag, .bool p.1.text, .int .u64 (p.1.num : Int), p.2] 48) = W ∧ FldAt W wr.heap.size p.1.tag p.1.text p.1.num p.2 ∧ W.cell? ⟨w1.heap.size + 1, 0, none⟩ = some (.map (some w1.heap.size)) ∧
    (Instr.mapUpdate 79 (.map (some w1.heap.size)) (.int .i64 p.1.tag) (FV p.1.tag p.1.text p.1.num p.2)).run Tryz.prog W.drew = .ok () W2 ∧ NR w1 W2 L (k + 1) := by
  obtain ⟨D, hm, hr⟩ := h.map
  have hq := lt_of_heap h.blk
  have hb := hm.lt
  have hmW : (wr.alloc (.cells #[.int .i64 p.1.tag, .bool p.1.text, .int .u64 (p.1.num : Int), p.2] 48)).drew.ownsMap Tryz.prog 3 hv w1.heap.size k D := World.ownsMap.drew (World.ownsMap.alloc hm _)
  obtain ⟨W2, hrun, hm2, ht2⟩ := World.ownsMap.store hmW rd_keyed Tryz.underlying79 hk (rd_key ht) (val := FP p) (d := .held (FP p)) (ps := []) rfl
  have hg := ht2.grown
  have hbW : Below w1.heap.size w1 (wr.alloc (.cells #[.int .i64 p.1.tag, .bool p.1.text, .int .u64 (p.1.num : Int), p.2] 48)) := h.bel.alloc (by omega) _
  have hqW : (wr.alloc (.cells #[.int .i64 p.1.tag, .bool p.1.text, .int .u64 (p.1.num : Int), p.2] 48)).heap[w1.heap.size + 1]? = some (.cells #[.map (some w1.heap.size), .int .i64 0] 81) := (Below.heap_alloc wr _ _ hq).trans h.blk
  have hsz : wr.heap.size < (wr.alloc (.cells #[.int .i64 p.1.tag, .bool p.1.text, .int .u64 (p.1.num : Int), p.2] 48)).heap.size := by simp
  refine ⟨_, W2, rfl, FldAt.new wr _ _ _ _, by rw [cell_of_row _ _ 0 _ _ _ hqW]; rfl, hrun, ⟨hg.os.trans hbW.os, hg.tape.trans hbW.tape, hg.output.trans hbW.output, Nat.le_trans hbW.size hg.size, fun j hj => (hg.block j (Nat.lt_of_lt_of_le hj hbW.size) (by intro hh; have := Option.some.inj hh; omega)).trans (hbW.block j hj)⟩, (hg.block _ (by show _ < (World.alloc ..).heap.size; omega) (by intro hh; have := Option.some.inj hh; omega)).trans hqW, _, hm2, ?_⟩
  have hlt : k < L.length := by
    by_cases hh : k < L.length
    · exact hh
    · rw [List.getElem?_eq_none (by omega)] at hp; cases hp
  have hp2 : L[k] = p := by rw [List.getElem?_eq_getElem hlt] at hp; exact Option.some.inj hp
  rw [List.take_succ_eq_append_getElem hlt, hp2]
  exact hr.put p hn
theorem take_fresh {L : List (Fld × Value)} (h : (L.map Prod.fst).Pairwise (fun f g => f.tag < g.tag)) {k : Nat} {p : Fld × Value} (hp : L[k]? = some p) : getT (L.take k) p.1.tag = none := by
  rw [getT_none]
  intro r hr he
  have hlt : k < L.length := by
    by_cases hh : k < L.length
    · exact hh
    · rw [List.getElem?_eq_none (by omega)] at hp; cases hp
  obtain ⟨i, hi, hri⟩ := List.mem_iff_getElem.1 hr
  have hi2 : i < k := by simp at hi; omega
  rw [List.pairwise_iff_getElem] at h
  have h1 := h i k (by simp; omega) (by simpa using hlt) hi2
  rw [List.getElem?_eq_getElem hlt] at hp
  simp only [List.getElem_map, List.getElem_take] at h1 hri
  rw [hri, Option.some.inj hp] at h1
  omega
theorem wf_tag {t : Int} (h1 : 1 ≤ t) (h2 : t ≤ 31) : (Lit.int .i64 t).wf = true := WalkArith.wf_i64 (by omega)
set_option maxRecDepth 20000 in
set_option maxHeartbeats 1000000 in
theorem newr_ok (l : List Nat) (a : Option Addr) (n cap : Nat) (w : World) (hn : l.length = n) (hb : Bytes w a l) (hcap : n ≤ cap) (hm : n ≤ maxLen) (he : (recs l).2.2 = 0) :
    Calls Tryz.prog 16 #[.slice a n cap] w fun r w' => Below w.heap.size w w' ∧ ∃ q b L, r = .returned (.tuple #[.pointer (some ⟨q, 0, none⟩), .int .i64 0]) ∧ L.map Prod.fst = (recs l).1 ∧ RdAt w' w.heap.size q b L 0 ∧ w.heap.size ≤ q ∧ w.heap.size ≤ b := by
  have hl : ∀ x ∈ l, x < 256 := by
    intro x hx
    obtain ⟨i, hi, rfl⟩ := List.mem_iff_getElem.1 hx
    have := hb.1 i
    simpa [List.getD_eq_getElem?_getD, hi] using this
  obtain ⟨r1, r2, r3, r4⟩ := recs_ok l hl he
  obtain ⟨r5, r6⟩ := encs_rise _ _ _ _ r2
  have HRI : Hid ((recs l).1.Pairwise (fun f g => f.tag < g.tag) ∧ (∀ f ∈ (recs l).1, FRight f) ∧ ∀ f ∈ (recs l).1, 1 ≤ f.tag ∧ f.tag ≤ 31) := ⟨r5, r3, fun f hf => ⟨(r6 f hf).2.1, (r6 f hf).2.2.1⟩⟩
  have HLN : Hid ((recs l).1.length ≤ 512) := by
    have h1 := encs_len _ _ _ _ (fun f hf => (r3 f hf).1) r2
    show _ ≤ _
    simp only [List.length_nil] at h1
    omega
  have HN : Hid (l.length = n) := hn
  have HB : Hid (Bytes w a l) := hb
  have HE : Hid (_) := he
  have HI : Hid (_) := r1
  have hmm := make_any
  clear hn hb he r1 r2 r3 r4 r5 r6 hl
  go_enter Tryz.func16, Tryz.ntmps16
  go_wp2_with (go_at_call 35; refine (tdec l a n cap w HN.out HB.out hcap hm).mono ?_; rintro r w1 ⟨v, L, hr, hL, hR, hb1⟩; rw [HE.out, HI.out] at hr; subst hr; obtain ⟨a2, cap2, hv2, hF⟩ := hR.fs (fun p hp => by have h9 := HRI.out.2.1 p.1 (by rw [hL]; exact List.mem_map_of_mem hp); exact ⟨h9.1, by unfold maxLen; have := h9.2.1; omega⟩); subst hv2; have HB1 : Hid (_) := hb1; have HL : Hid (_) := hL; have HR : Hid (Rws w1 w.heap.size (.slice a2 L.length cap2) L) := hR; have HF : Hid (FsAt w1 a2 L) := hF; obtain ⟨N, hN⟩ : ∃ N, L.length = N := ⟨_, rfl⟩; have HN2 : Hid (L.length = N) := hN; rw [hN]; have hN5 : N ≤ 512 := (by have h9 := HLN.out; rw [hL, List.length_map, hN] at h9; exact h9); clear hL hR hb1 hF hN)
  have HST : Hid (_) := NR.start w1 L
  go_loopw [26] (fun vi wr => ∃ k : Nat, k ≤ N ∧ vi = .int .i64 k ∧ Hid (NR w1 wr L k)) (fun vi _ => N - (intOf vi).toNat)
  case atStart => exact ⟨0, Nat.zero_le _, rfl, HST.out⟩
  case round =>
    obtain ⟨k, hk, rfl, HI2⟩ := hrel
    by_cases hkl : k < N
    · obtain ⟨p, hp⟩ : ∃ p, L[k]? = some p := ⟨_, List.getElem?_eq_getElem (by rw [HN2.out]; exact hkl)⟩
      have hpm : p ∈ L := List.mem_of_getElem? hp
      obtain ⟨b2, off2, hab⟩ : ∃ b off, a2 = some ⟨b, off, none⟩ := by
        rcases HF.out.row with h0 | ⟨b2, off2, h1, _⟩
        · rw [h0] at hpm; cases hpm
        · exact ⟨b2, off2, h1⟩
      subst hab
      obtain ⟨c0, c1, c2, c3⟩ := (HF.out.keep HI2.out.bel).cells k p hp
      obtain ⟨ad, pcap, hpv, _, _⟩ := (HF.out.fok p hpm).byt
      have hfm : p.1 ∈ (recs l).1 := by rw [HL.out]; exact List.mem_map_of_mem hpm
      obtain ⟨W, W2, hW, hf, cq, hrun, hNR⟩ := HI2.out.step hp (take_fresh (by rw [← HL.out]; exact HRI.out.1) hp) (wf_tag (HRI.out.2.2 _ hfm).1 (HRI.out.2.2 _ hfm).2) (by unfold maxLen; omega)
      obtain ⟨F, bv⟩ := p
      simp only at c0 c1 c2 c3 hpv hW hf cq hrun
      subst hpv
      obtain ⟨f0, f1, f2, f3⟩ := hf.cells
      have HNR : Hid (NR w1 W2 L (k + 1)) := hNR
      obtain ⟨M, hM⟩ : ∃ M, F.bytes.length = M := ⟨_, rfl⟩
      rw [hM] at c3 hW f3 hrun
      have HW : Hid (_ = W) := hW
      clear hM hNR hf hfm hpm hp hW
      go_wp2
      rw [HW.out]
      go_region
      all_goals go_wp2
      go_roundw
      case rel => exact ⟨k + 1, by omega, by go_num, HNR.out⟩
      case measure => simp [intOf]; omega
    · obtain rfl : k = N := by omega
      go_wp2
      go_ret2
      refine ⟨below_next HB1.out HI2.out.bel, w1.heap.size + 1, w1.heap.size, L, rfl, HL.out.symm, ⟨HI2.out.blk, ?_, fun p hp => ?_⟩, by have := HB1.out.size; omega, HB1.out.size⟩
      · obtain ⟨D, hm1, hr1⟩ := HI2.out.map
        rw [List.take_of_length_le (by rw [HN2.out]; exact Nat.le_refl _)] at hr1
        exact ⟨_, D, hm1, hr1⟩
      · exact own_app (HR.out.byt p hp) HI2.out.bel
theorem newr_any (l : List Nat) (a : Option Addr) (n cap : Nat) (w : World) (hn : l.length = n) (hb : Bytes w a l) (hcap : n ≤ cap) (hm : n ≤ maxLen) :
    Calls Tryz.prog 16 #[.slice a n cap] w fun r w' => NewPost w l r w' := by
  by_cases he : (recs l).2.2 = 0
  · refine (newr_ok l a n cap w hn hb hcap hm he).mono ?_
    rintro r w' ⟨h1, h2⟩
    exact ⟨h1, .inr ⟨he, h2⟩⟩
  · refine (newr_bad l a n cap w hn hb hcap hm he).mono ?_
    rintro r w' ⟨h1, h2⟩
    exact ⟨h2, .inl ⟨he, h1⟩⟩
end Go.Proofs.YtfcgcpfckbmgnaaGreat
namespace Go.Proofs.YtfcgcpfckbmgnaaGreat
open Go.ChangeShapes Go.WideShapes Go.ChangeAt Go.RowKit
set_option linter.unusedVariables false
/-- a number as an int -/
def capN (u : Nat) : Int := if u ≤ 4611686018427387904 then (u : Int) else 4611686018427387904
/-- what is left behind takes, and the error -/
def tkL (L : List (Fld × Value)) (ts : List (Int × Bool)) : List (Fld × Value) := ts.foldl (fun L x => delT L x.1) L
def tkF (fs : List Fld) (ts : List (Int × Bool)) : List Fld := ts.foldl (fun L x => delF L x.1) fs
def tkE (fs : List Fld) (ts : List (Int × Bool)) : Nat := (ts.foldl (fun (S : List Fld × Nat) x => (delF S.1 x.1, errF S.1 S.2 x.1 x.2)) (fs, 0)).2
theorem tkF_of (ts : List (Int × Bool)) : ∀ (L : List (Fld × Value)), (tkL L ts).map Prod.fst = tkF (L.map Prod.fst) ts := by
  induction ts with
  | nil => intro L; rfl
  | cons x r ih => intro L; show (tkL (delT L x.1) r).map Prod.fst = tkF (delF (L.map Prod.fst) x.1) r; rw [ih, delF_of]
theorem tk_pair (ts : List (Int × Bool)) : ∀ (fs : List Fld) (e : Nat), (ts.foldl (fun (S : List Fld × Nat) x => (delF S.1 x.1, errF S.1 S.2 x.1 x.2)) (fs, e)).1 = tkF fs ts := by
  induction ts with
  | nil => intro fs e; rfl
  | cons x r ih => intro fs e; exact ih _ _
theorem tkE_snoc (fs : List Fld) (ts : List (Int × Bool)) (x : Int × Bool) : tkE fs (ts ++ [x]) = errF (tkF fs ts) (tkE fs ts) x.1 x.2 := by
  unfold tkE
  rw [List.foldl_append]
  show errF _ _ _ _ = _
  rw [tk_pair]
theorem tkL_snoc (L : List (Fld × Value)) (ts : List (Int × Bool)) (x : Int × Bool) : tkL L (ts ++ [x]) = delT (tkL L ts) x.1 := by
  unfold tkL; rw [List.foldl_append]; rfl
theorem getF_del_other (fs : List Fld) {t s : Int} (h : s ≠ t) : getF (delF fs t) s = getF fs s := by
  unfold getF delF
  refine Go.Maps.find_filter_keep (fun p hp => ?_) fs
  simp at hp ⊢
  omega
theorem getF_tk (s : Int) : ∀ (ts : List (Int × Bool)) (fs : List Fld), (∀ x ∈ ts, x.1 ≠ s) → getF (tkF fs ts) s = getF fs s
  | [], fs, _ => rfl
  | x :: r, fs, h => by
    show getF (tkF (delF fs x.1) r) s = _
    rw [getF_tk s r _ (fun y hy => h y (List.mem_cons_of_mem _ hy)), getF_del_other fs (h x (List.mem_cons_self ..)).symm]
theorem numF_tk {s : Int} {ts : List (Int × Bool)} {fs : List Fld} (h : ∀ x ∈ ts, x.1 ≠ s) : numF (tkF fs ts) s = numF fs s := by unfold numF; rw [getF_tk s ts fs h]
theorem txtF_tk {s : Int} {ts : List (Int × Bool)} {fs : List Fld} (h : ∀ x ∈ ts, x.1 ≠ s) : txtF (tkF fs ts) s = txtF fs s := by unfold txtF; rw [getF_tk s ts fs h]
/-- the reader behind the takes ts -/
structure Tk (w1 w2 : World) (base q b : Nat) (L : List (Fld × Value)) (ts : List (Int × Bool)) : Prop where
  rd : RdAt w2 base q b (tkL L ts) (tkE (L.map Prod.fst) ts)
  kep : Kept q b w1 w2
theorem Tk.keep {w1 w2 w3 : World} {base q b : Nat} {L : List (Fld × Value)} {ts : List (Int × Bool)} (h : Tk w1 w2 base q b L ts) (hb : Below w2.heap.size w2 w3) : Tk w1 w3 base q b L ts :=
  ⟨h.rd.keep hb, ⟨hb.os.trans h.kep.os, hb.tape.trans h.kep.tape, hb.output.trans h.kep.output, Nat.le_trans h.kep.size hb.size, fun k hk h1 h2 => (hb.block k (Nat.lt_of_lt_of_le hk h.kep.size)).trans (h.kep.block k hk h1 h2)⟩⟩
theorem Tk.step {w1 w2 w3 : World} {base q b : Nat} {L : List (Fld × Value)} {ts : List (Int × Bool)} {t : Int} {x : Bool} (h : Tk w1 w2 base q b L ts) (hp : RdPost w2 base q b (tkL L ts) (tkE (L.map Prod.fst) ts) t x w3) : Tk w1 w3 base q b L (ts ++ [(t, x)]) := by
  obtain ⟨h1, h2⟩ := hp
  rw [tkF_of] at h1
  refine ⟨?_, ⟨h2.os.trans h.kep.os, h2.tape.trans h.kep.tape, h2.output.trans h.kep.output, Nat.le_trans h.kep.size h2.size, fun k hk k1 k2 => (h2.block k (Nat.lt_of_lt_of_le hk h.kep.size) k1 k2).trans (h.kep.block k hk k1 k2)⟩⟩
  rw [tkL_snoc, tkE_snoc]
  exact h1
theorem text_tk (t : Int) (w1 w2 : World) (base q b : Nat) (L : List (Fld × Value)) (ts : List (Int × Bool)) (h : Tk w1 w2 base q b L ts) (hts : ∀ x ∈ ts, x.1 ≠ t) (ht : (Lit.int .i64 t).wf = true) :
    Calls Tryz.prog 37 #[.pointer (some ⟨q, 0, none⟩), .int .i64 t] w2 fun r w3 => ∃ v, r = .returned v ∧ Own w3 base v (txtF (L.map Prod.fst) t) ∧ Tk w1 w3 base q b L (ts ++ [(t, true)]) ∧ Kept q b w2 w3 := by
  refine (rtext_any t w2 base q b _ _ h.rd ht).mono ?_
  rw [tkF_of, txtF_tk hts]
  rintro r w3 ⟨v, rfl, ho, hp⟩
  exact ⟨v, rfl, ho, h.step hp, hp.2⟩
theorem EvAt.kept {w w' : World} {g1 g2 b : Nat} {e : Ev} (h : EvAt w b e) (hk : Kept g1 g2 w w') (h1 : b ≠ g1) (h2 : b ≠ g2) : EvAt w' b e := (hk.block b h.lt h1 h2).trans h
theorem results_ev1 {fn : Func} {p : Tmp} (h : fn.results = #[.cell p 75]) (tmps : Array Value) (w : World) (k : Nat) {e : Ev} (hp : tmps.getD p undef = .pointer (some ⟨k, 0, none⟩)) (hl : EvAt w k e) :
    (results fn tmps).run Tryz.prog w = .ok (.agg (evA e)) w := by
  simp only [Array.getD_eq_getD_getElem?] at hp
  simp [results, h, hp, asAddr, hl.loadVar]
theorem Tk.lts {w1 w2 : World} {base q b : Nat} {L : List (Fld × Value)} {ts : List (Int × Bool)} (h : Tk w1 w2 base q b L ts) : q < w2.heap.size ∧ b < w2.heap.size := by
  obtain ⟨n, D, hm, _⟩ := h.rd.map
  exact ⟨lt_of_heap h.rd.blk, hm.lt⟩
end Go.Proofs.YtfcgcpfckbmgnaaGreat
namespace Go.Proofs.YtfcgcpfckbmgnaaGreat
open Go.ChangeShapes Go.WideShapes Go.ChangeAt Go.RowKit
set_option linter.unusedVariables false
/-- what version 1 takes -/
def ev1 (fs : List Fld) : Ev := ⟨capN (numF fs 1), capN (numF fs 2), capN (numF fs 3), 0, capN (numF fs 5), 0, 0, ⟨#[]⟩, 0, ⟨#[]⟩⟩
def ev2 (fs : List Fld) : Ev := { ev1 fs with cur := capN (numF fs 6) }
def ev3 (fs : List Fld) : Ev := { ev2 fs with tax := capN (numF fs 7) }
def ev4 (fs : List Fld) : Ev := { ev3 fs with who := str8 (txtF fs 8) }
def ev5 (fs : List Fld) : Ev := { ev4 fs with stamp := capN (numF fs 9), note := str8 (txtF fs 10) }
def tg1 : List (Int × Bool) := [(1, false), (2, false), (3, false), (5, false)]
def tg2 : List (Int × Bool) := [(1, false), (2, false), (3, false), (5, false), (6, false)]
def tg3 : List (Int × Bool) := [(1, false), (2, false), (3, false), (5, false), (6, false), (7, false)]
def tg4 : List (Int × Bool) := [(1, false), (2, false), (3, false), (5, false), (6, false), (7, false), (8, true)]
def tg5 : List (Int × Bool) := [(1, false), (2, false), (3, false), (5, false), (6, false), (7, false), (8, true), (9, false), (10, true)]
theorem Kept.chain {x y : Nat} {a b c : World} (h : Kept x y a b) (k : Kept x y b c) : Kept x y a c :=
  ⟨k.os.trans h.os, k.tape.trans h.tape, k.output.trans h.output, Nat.le_trans h.size k.size, fun j hj h1 h2 => (k.block j (Nat.lt_of_lt_of_le hj h.size) h1 h2).trans (h.block j hj h1 h2)⟩
theorem Kept.of_bel {x y : Nat} {a b : World} (h : Below a.heap.size a b) : Kept x y a b := ⟨h.os, h.tape, h.output, h.size, fun k hk _ _ => h.block k hk⟩
/-- while an event is taken: the reader, the answer's block rb (nought), all else as it was -/
structure Tv (w1 w2 x : World) (base q b rb : Nat) (L : List (Fld × Value)) (ts : List (Int × Bool)) : Prop where
  tk : Tk w1 x base q b L ts
  res : EvAt x rb zeroE
  kep : Kept q b w2 x
  lts : q < w2.heap.size ∧ b < w2.heap.size ∧ w2.heap.size ≤ rb ∧ w1.heap.size ≤ w2.heap.size
theorem Tv.step {w1 w2 x y : World} {base q b rb : Nat} {L : List (Fld × Value)} {ts ts' : List (Int × Bool)} (h : Tv w1 w2 x base q b rb L ts) (ht : Tk w1 y base q b L ts') (hk : Kept q b x y) : Tv w1 w2 y base q b rb L ts' :=
  ⟨ht, h.res.kept hk (by have := h.lts; omega) (by have := h.lts; omega), h.kep.chain hk, h.lts⟩
theorem Tv.keep {w1 w2 x y : World} {base q b rb : Nat} {L : List (Fld × Value)} {ts : List (Int × Bool)} (h : Tv w1 w2 x base q b rb L ts) (hb : Below x.heap.size x y) : Tv w1 w2 y base q b rb L ts :=
  h.step (h.tk.keep hb) (Kept.of_bel hb)
theorem tv_of {w1 w2 : World} {base q b : Nat} {L : List (Fld × Value)} {ts : List (Int × Bool)} (h : Tk w1 w2 base q b L ts) (arr : Array Value) (T : TypeId) :
    ∃ W, (w2.alloc (.cells arr T)).alloc (.cells (evA zeroE) 75) = W ∧ Tv w1 w2 W base q b (w2.heap.size + 1) L ts ∧ W.heap.size = w2.heap.size + 2 ∧ (∀ i, W.cell? ⟨w2.heap.size, i, none⟩ = arr[i]?) := by
  have hB : Below w2.heap.size w2 ((w2.alloc (.cells arr T)).alloc (.cells (evA zeroE) 75)) := (((Below.refl _ _).alloc (Nat.le_refl _) _).alloc (by simp) _)
  refine ⟨_, rfl, ⟨h.keep hB, ?_, Kept.of_bel hB, h.lts.1, h.lts.2, by omega, h.kep.size⟩, by simp, fun i => ?_⟩
  · have := evAt_new (w2.alloc (.cells arr T)) zeroE
    simpa using this
  · have h1 : ((w2.alloc (.cells arr T)).alloc (.cells (evA zeroE) 75)).heap[w2.heap.size]? = some (.cells arr T) := (Below.heap_alloc _ _ _ (by simp)).trans (heap_alloc_new w2 _)
    rw [cell_of_row _ _ i _ _ _ h1]
/-- a store into an event of the call's own -/
theorem Tv.poke {w1 w2 x y : World} {base q b rb : Nat} {L : List (Fld × Value)} {ts : List (Int × Bool)} (h : Tv w1 w2 x base q b rb L ts) {k : Nat} {e : Ev} (he : EvAt x k e) (hk : w2.heap.size ≤ k) (ho : y.os = x.os ∧ y.tape = x.tape ∧ y.output = x.output) (hj : ∀ j, j ≠ k → y.heap[j]? = x.heap[j]?) (hs : y.heap.size = x.heap.size) : Tk w1 y base q b L ts ∧ Kept q b w2 y := by
  obtain ⟨l1, l2, l3, l4⟩ := h.lts
  obtain ⟨n, D, hm, hr⟩ := h.tk.rd.map
  have hle : w2.heap.size ≤ x.heap.size := h.kep.size
  refine ⟨⟨⟨(hj q (by omega)).trans h.tk.rd.blk, ⟨n, D, owns_same hm (hj b (by omega)), hr⟩, fun p hp => own_other (h.tk.rd.byt p hp) (x := k) (y := k) (fun c hc => ?_) (fun c hc => ?_) (fun j _ j2 _ => hj j j2)⟩, ⟨ho.1.trans h.tk.kep.os, ho.2.1.trans h.tk.kep.tape, ho.2.2.trans h.tk.kep.output, by rw [hs]; omega, fun j j1 j2 j3 => (hj j (by omega)).trans (h.tk.kep.block j j1 j2 j3)⟩⟩, ⟨ho.1.trans h.kep.os, ho.2.1.trans h.kep.tape, ho.2.2.trans h.kep.output, by rw [hs]; exact hle, fun j j1 j2 j3 => (hj j (by omega)).trans (h.kep.block j j1 j2 j3)⟩⟩
  · unfold EvAt at he; rw [he] at hc; cases hc
  · unfold EvAt at he; rw [he] at hc; cases hc
theorem Tv.pokes {w1 w2 x y : World} {base q b rb : Nat} {L : List (Fld × Value)} {ts : List (Int × Bool)} (h : Tv w1 w2 x base q b rb L ts) {k : Nat} {e : Ev} (he : EvAt x k e) (hk : w2.heap.size ≤ k) (hne : rb ≠ k) (ho : y.os = x.os ∧ y.tape = x.tape ∧ y.output = x.output) (hj : ∀ j, j ≠ k → y.heap[j]? = x.heap[j]?) (hs : y.heap.size = x.heap.size) : Tv w1 w2 y base q b rb L ts :=
  ⟨(h.poke he hk ho hj hs).1, (hj rb hne).trans h.res, (h.poke he hk ho hj hs).2, h.lts⟩
theorem own_poke {w : World} {base : Nat} {v : Value} {l : List Nat} {k : Nat} {e : Ev} (h : Own w base v l) (he : EvAt w k e) (j : Nat) (x : Value) : Own (w.setCell ⟨k, j, none⟩ x) base v l :=
  own_other h (x := k) (y := k) (fun c hc => by unfold EvAt at he; rw [he] at hc; cases hc) (fun c hc => by unfold EvAt at he; rw [he] at hc; cases hc) (fun i _ i2 _ => heap_setCell_other w ⟨k, j, none⟩ i _ i2)
/-- what a store's law tells of the rest -/
theorem os_of {x y : World} {k : Nat} (h : ∀ B a, Below B a x → B ≤ k → Below B a y) : y.os = x.os ∧ y.tape = x.tape ∧ y.output = x.output :=
  have h1 := h 0 x (Below.refl _ _) (Nat.zero_le _)
  ⟨h1.os, h1.tape, h1.output⟩
theorem EvAt.set {w : World} {k j : Nat} {e e2 : Ev} (h : EvAt w k e) (v : Value) (he : (evA e).setIfInBounds j v = evA e2) : EvAt (w.setCell ⟨k, j, none⟩ v) k e2 := by
  unfold EvAt at h ⊢
  rw [heap_setCell_same w k j _ _ _ h, he]
theorem EvAt.froz {w : World} {k : Nat} {e : Ev} (h : EvAt w k e) (j : Nat) : w.frozen? ⟨k, j, none⟩ = false := frozen_of_row _ _ j _ _ h
end Go.Proofs.YtfcgcpfckbmgnaaGreat
