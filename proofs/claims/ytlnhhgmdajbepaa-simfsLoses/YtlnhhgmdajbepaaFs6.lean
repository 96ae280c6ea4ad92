/- simfs: Used. -/
import Derived.Test.YtlnhhgmdajbepaaFs5
import Derived.Maps.RangeWalk
namespace Go.Proofs.Ytlnhhgmdajbepaa
open Go.ChangeShapes Go.WideShapes Go.ChangeAt Go.RowKit
set_option linter.unusedVariables false
set_option linter.unusedSimpArgs false
/-- the bytes of the files that have come -/
def doneN (left : Lit → Bool) (L : List Fi) : Nat := usedN (L.filter (fun f => !left (.string f.name)))
theorem usedN_cons (f : Fi) (r : List Fi) : usedN (f :: r) = f.l.length + usedN r := by unfold usedN; simp
theorem doneN_cons (left : Lit → Bool) (f : Fi) (r : List Fi) : doneN left (f :: r) = (if left (.string f.name) = true then 0 else f.l.length) + doneN left r := by
  unfold doneN
  by_cases h : left (.string f.name) = true
  · rw [List.filter_cons, if_neg (by simp [h]), if_pos h, Nat.zero_add]
  · rw [List.filter_cons, if_pos (by simp [h]), if_neg h, usedN_cons]
theorem doneN_le (left : Lit → Bool) : ∀ L : List Fi, doneN left L ≤ usedN L
  | [] => Nat.le_refl _
  | f :: r => by
    have := doneN_le left r
    rw [doneN_cons, usedN_cons]
    split <;> omega
theorem doneN_zero (left : Lit → Bool) : ∀ L : List Fi, (∀ f ∈ L, left (.string f.name) = true) → doneN left L = 0
  | [], _ => rfl
  | f :: r, h => by
    rw [doneN_cons, if_pos (h f (List.mem_cons_self ..)), doneN_zero left r (fun x hx => h x (List.mem_cons_of_mem _ hx))]
theorem doneN_all (left : Lit → Bool) (h : ∀ k, left k = false) : ∀ L : List Fi, doneN left L = usedN L
  | [] => rfl
  | f :: r => by
    rw [doneN_cons, if_neg (by rw [h]; simp), doneN_all left h r, usedN_cons]
theorem doneN_same {l1 l2 : Lit → Bool} : ∀ {L : List Fi}, (∀ f ∈ L, l1 (.string f.name) = l2 (.string f.name)) → doneN l1 L = doneN l2 L
  | [], _ => rfl
  | f :: r, h => by
    rw [doneN_cons, doneN_cons, h f (List.mem_cons_self ..), doneN_same (fun x hx => h x (List.mem_cons_of_mem _ hx))]
theorem same_str (a b : List UInt8) : (Lit.string a).sameKey (.string b) = (a == b) := by
  rfl
theorem doneN_step {left : Lit → Bool} {f : Fi} : ∀ {L : List Fi}, SortN L → f ∈ L → left (.string f.name) = true → doneN (fun z => left z && !z.sameKey (.string f.name)) L = doneN left L + f.l.length
  | [], _, h, _ => by cases h
  | g :: r, hs, h, hl => by
    obtain ⟨h1, h2⟩ := List.pairwise_cons.1 hs
    rw [doneN_cons, doneN_cons]
    rcases List.mem_cons.1 h with e | e
    · subst e
      have hx : ∀ x ∈ r, (left (.string x.name) && !(Lit.string x.name).sameKey (.string f.name)) = left (.string x.name) := by
        intro x hx
        have hne : (x.name == f.name) = false := by
          simp
          intro e2
          have := h1 x hx
          rw [e2] at this
          exact lt_irr _ this
        rw [same_str, hne]
        simp
      rw [doneN_same hx, same_str, hl]
      simp
      omega
    · have hne : (g.name == f.name) = false := by
        simp
        intro e2
        have := h1 f e
        rw [e2] at this
        exact lt_irr _ this
      rw [doneN_step h2 e hl, same_str, hne]
      simp
      omega
theorem keyS_inv {key : Value} {kl : Lit} (h : keyOf Try.prog 9 key = some kl) : ∃ t : List UInt8, key = .string (bs t) ∧ kl = .string t := by
  cases key <;> simp [keyOf, Try.underlying9, mapKey] at h
  obtain ⟨_, rfl⟩ := h
  exact ⟨_, rfl, rfl⟩
theorem ranges_same {w w' : World} {b r n : Nat} {M : DataW Value} {left : Lit → Bool} {cnt : Nat} (h : w.ranges Try.prog 9 hvS b r n M left cnt) (hb : w'.heap[b]? = w.heap[b]?) (hr : w'.heap[r]? = w.heap[r]?) : w'.ranges Try.prog 9 hvS b r n M left cnt := by
  obtain ⟨es, clock, since, seen, c0, g1, F, hs, hD, g2, rest⟩ := h
  exact ⟨es, clock, since, seen, c0, hb.trans g1, F, hs, hD, hr.trans g2, rest⟩
/-- what has come is a file of the disk -/
theorem RepN.came {M : DataW Value} {L : List Fi} (h : RepN M L) {kl : Lit} {c : Value} {t : List UInt8} {y : DataW Value × List MemPlace} (hk : kl = .string t) (hy : hvS c = some y) (hat : ∀ zd, M.atKey kl zd = y.1) : ∃ f, f ∈ L ∧ f.name = t ∧ c = FiV f := by
  subst hk
  have e1 : y.1 = .held c := hvS_inv (v := c) (d := y.1) (ps := y.2) hy
  cases hg : getN L t with
  | none =>
    have h1 := hat (.held (.bool true))
    have h2 := hat (.held (.bool false))
    rw [h.look, hg] at h1 h2
    simp only at h1 h2
    rw [← h2] at h1
    simp at h1
  | some f =>
    have h1 := hat (.held (.bool true))
    rw [h.look, hg, e1] at h1
    simp only [DataW.held.injEq] at h1
    obtain ⟨h2, h3⟩ := getN_mem hg
    exact ⟨f, h2, h3, h1.symm⟩
set_option maxRecDepth 100000 in
set_option maxHeartbeats 2000000 in
theorem used_any (w : World) (base q b : Nat) (D : Dk) (h : DkAt w base q b D) (hu : (usedN D.fs : Int) ≤ 67108864) :
    Calls Try.prog 38 #[.pointer (some ⟨q, 0, none⟩)] w fun r w' => r = .returned (.int .i64 (usedN D.fs : Nat)) ∧ Below w.heap.size w w' := by
  obtain ⟨M, hm, hr⟩ := h.map
  have c1 := h.cells.2.1
  have HR : Hid (RepN M D.fs) := hr
  have HD : Hid (DkAt w base q b D) := h
  have HU : Hid ((usedN D.fs : Int) ≤ 67108864) := hu
  have HS : Hid (SortN D.fs) := h.srt
  obtain ⟨n, hn⟩ : ∃ n, D.fs.length = n := ⟨_, rfl⟩
  rw [hn] at hm
  have HM : Hid (w.ownsMap Try.prog 9 hvS b n M) := hm
  have HQ : Hid (q < w.heap.size ∧ b < w.heap.size) := h.lt
  clear hn hm hr h hu
  go_enter Try.func38, Try.ntmps38
  go_wp2_with (first
    | (at_range; refine wpList_range_own _ rfl _ 73 rfl 9 85 fs_keyed Try.underlying73 _ b n _ rfl HM.out ?_; intro w0 hrg0 hg0 hs0)
    | go_in)
  go_frame
  go_loopw [3] (fun v3 wr => ∃ (left : Lit → Bool) (cnt : Nat), v3 = .int .i64 (doneN left D.fs : Nat) ∧ Hid (wr.ranges Try.prog 9 hvS b w.heap.size n M left cnt ∧ Below w.heap.size w wr))
    (fun _ wr => wr.rangeLeft b w.heap.size)
  case atStart =>
    refine ⟨_, _, ?_, hrg0, (Below.refl _ _).grown hg0 (Nat.le_refl _) (fun j hj => by cases hj)⟩
    rw [doneN_zero _ _ (fun f hf => by rw [HR.out.hs]; cases hg : getN D.fs f.name with | none => exact absurd rfl (getN_none.1 hg f hf) | some _ => rfl)]
    rfl
  case round =>
    obtain ⟨left, cnt, hv3, HRG⟩ := hrel
    obtain ⟨dn, hdn⟩ : ∃ dn : Nat, doneN left D.fs = dn := ⟨_, rfl⟩
    have HDN : Hid (doneN left D.fs = dn) := hdn
    have HDL : Hid ((dn : Int) ≤ 67108864) := by
      have h1 := doneN_le left D.fs
      have h2 := HU.out
      show _ ≤ _
      omega
    rw [hdn] at hv3
    subst hv3
    clear hdn
    go_wp2_with (first
      | (at_next; refine wpList_next_ranges _ rfl _ rfl 9 fs_keyed hvS (fun l : List UInt8 => Value.string (bs l)) id (fun key kl hk => by obtain ⟨t, h1, _⟩ := keyS_inv hk; exact ⟨t, h1⟩) (fun v y _ => ⟨v, rfl⟩) b w.heap.size n _ _ _ rfl HRG.out.1 ?_ ?_)
      | go_in)
    · intro hc0 hl0
      have HE : Hid (dn = usedN D.fs) := by show _ = _; rw [← HDN.out, doneN_all left hl0]
      clear hc0 hl0
      go_wp2
      go_ret
      exact ⟨by rw [← HE.out]; rfl, HRG.out.2⟩
    · intro x c kl yd yp w1 cnt1 hkl hlx hy hat hrg1 hlt hg1 hs1 hen
      obtain ⟨t, e1, e2⟩ := keyS_inv hkl
      obtain ⟨f, hf, hfn, hfc⟩ := HR.out.came (y := (yd, yp)) e2 hy hat
      subst hfn e2
      try simp only [id_eq] at hfc hen
      subst hfc
      obtain ⟨a, cp, hfv, hfl, hcp, _, _, hone⟩ := (HD.out.dat f hf).bytes
      obtain ⟨m, hm⟩ : ∃ m, f.l.length = m := ⟨_, rfl⟩
      rw [hm] at hfv hfl
      have HFV : Hid (FiV f = fiV (.slice a m cp) f.s) := by show Value.agg #[f.v, _] = _; rw [hfv]
      rw [HFV.out] at hen
      have HST : Hid (doneN (fun z => left z && !z.sameKey (.string f.name)) D.fs = dn + m) := by
        show _ = _
        rw [doneN_step HS.out hf hlx, HDN.out, hm]
      have hsum : (dn : Int) + m ≤ 67108864 := by
        have h1 := doneN_le (fun z => left z && !z.sameKey (.string f.name)) D.fs
        have h2 := HU.out
        rw [HST.out] at h1
        omega
      have hdn0 : (0 : Int) ≤ (dn : Int) := by omega
      have hm0 : (0 : Int) ≤ (m : Int) := by omega
      have hbw : Below w.heap.size w w1 := HRG.out.2.grown hg1 HRG.out.2.size (fun j hj => by cases hj; exact Nat.le_refl _)
      have HBW : Hid (Below w.heap.size w w1) := hbw
      have hrl := HRG.out.1.left_eq
      have HLT : Hid (w.heap.size < w1.heap.size ∧ b < w1.heap.size ∧ cnt1 < cnt) := ⟨hrg1.lt, hrg1.owns.lt, hlt⟩
      have HRG1 : Hid (w1.ranges Try.prog 9 hvS b w.heap.size n M (fun z => left z && !z.sameKey (.string f.name)) cnt1) := hrg1
      have HRL : Hid (wr.rangeLeft b w.heap.size = cnt) := hrl
      have HF1 : Hid (FiAt (w1.alloc (.cells #[.slice none 0 0, .int .i64 0] 85)) w1.heap.size (.slice none 0 0) 0) := FiAt.new w1 _ _
      obtain ⟨V, hV⟩ : ∃ V, Value.slice a m cp = V := ⟨_, rfl⟩
      obtain ⟨S, hS⟩ : ∃ S : Int, (f.s : Int) = S := ⟨_, rfl⟩
      have HONE : Hid ((Value.slice a m cp).oneCell' = true) := by show _ = _; rw [← hfv]; exact hone
      clear hV hS hrl hbw hlt hrg1 hg1 hs1 hlx hy hat hkl hf hfv hfl hcp hone hm
      go_wp2_with (first
        | ((with_reducible refine guard_store 85 ?_); refine wpList_store_fi rfl _ _ rfl rfl HF1.out HONE.out rfl rfl (v2 := .slice a m cp) (s2 := f.s) ?_; intro x3 hf3 ho3 hh3 hs3; have hc3 := hf3.cells.1; have HX3 : Hid (x3.heap.size = w1.heap.size + 1 ∧ (∀ j, j < w1.heap.size → x3.heap[j]? = w1.heap[j]?) ∧ Below w.heap.size w x3) := ⟨hs3.trans (World.size_alloc _ _), fun j hj => (hh3 j (by omega)).trans (Below.heap_alloc _ _ _ (by omega)), ho3 _ _ (HBW.out.alloc HBW.out.size _) (Nat.le_of_lt HLT.out.1)⟩; clear hf3 ho3 hh3 hs3)
        | go_in)
      go_roundw
      case rel => exact ⟨_, _, by rw [HST.out]; go_num, ranges_same HRG1.out (HX3.out.2.1 _ HLT.out.2.1) (HX3.out.2.1 _ HLT.out.1), HX3.out.2.2⟩
      case measure => rw [(ranges_same HRG1.out (HX3.out.2.1 _ HLT.out.2.1) (HX3.out.2.1 _ HLT.out.1)).left_eq, HRL.out]; exact HLT.out.2.2
end Go.Proofs.Ytlnhhgmdajbepaa
