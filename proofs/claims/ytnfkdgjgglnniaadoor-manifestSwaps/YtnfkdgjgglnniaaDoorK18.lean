/- Own texts, joined: Fr9, Fra. -/
import Derived.Test.YtnfkdgjgglnniaaDoorK17
import Derived.Test.YtnfkdgjgglnniaaDoorK08
namespace Go.Proofs.YtnfkdgjgglnniaaDoor
open Go.ChangeShapes Go.WideShapes Go.ChangeAt Go.RowKit
set_option linter.unusedVariables false
theorem FrmAt.drewN {w : World} {k : Nat} {kind seq : Int} {bv : Value} (h : FrmAt w k kind seq bv) (m : Nat) : FrmAt (w.drewN m) k kind seq bv := by
  induction m with
  | zero => exact h
  | succ m ih => exact ih
theorem own_drewN {w : World} {base : Nat} {v : Value} {l : List Nat} (h : Own w base v l) (m : Nat) : Own (w.drewN m) base v l := by
  induction m with
  | zero => exact h
  | succ m ih => exact ih
theorem own_apart {w w' : World} {base j : Nat} {v : Value} {l : List Nat} (h : Own w base v l) (hh : ∀ k, k ≠ j → w'.heap[k]? = w.heap[k]?) (hj : j < base) : Own w' j v l := by
  refine ⟨h.1, h.2.1, ?_⟩
  rcases h.2.2 with h2 | ⟨g, cap, cur, h3, h4, h5, h6⟩
  · exact .inl h2
  · exact .inr ⟨g, cap, cur, h3, by omega, (hh g (by omega)).trans h5, h6⟩
theorem closedBody (l : List Nat) (p : Nat) (h : p + 20 ≤ l.length) : closedB ((l.take (p + 20)).drop 16) = decide ((l.drop (p + 16)).take 4 = Crcm.four (Crcm.sum ((l.drop 16).take p))) := by
  have h1 : ((l.take (p + 20)).drop 16).length = p + 4 := by rw [List.length_drop, List.length_take]; omega
  unfold closedB
  rw [h1, show p + 4 - 4 = p from by omega, List.drop_drop, List.drop_take, List.drop_take, List.take_take, show min p (p + 20 - 16) = p from by omega, show p + 20 - (16 + p) = 4 from by omega, show 16 + p = p + 16 from by omega, decide_eq_decide]
  exact ⟨fun x => x.2, fun x => ⟨by omega, x⟩⟩
end Go.Proofs.YtnfkdgjgglnniaaDoor
namespace Go.Proofs.YtnfkdgjgglnniaaDoor
open Go.ChangeShapes Go.WideShapes Go.ChangeAt Go.RowKit
set_option linter.unusedVariables false
def whE (l : List Nat) (kind : Int) : Nat := if decE l ≠ 0 then decE l else if (pk l : Int) ≠ kind ∨ pn l + 20 ≠ l.length then 63 else 0
def whK (l : List Nat) (kind : Int) : Nat := if whE l kind = 0 then pk l else 0
def whS (l : List Nat) (kind : Int) : Nat := if whE l kind = 0 then ps l else 0
def whB (l : List Nat) (kind : Int) : List Nat := if whE l kind = 0 then decB l else []
abbrev WV (l : List Nat) (kind : Int) (v : Value) : Value := .tuple #[FrV (whK l kind : Nat) (whS l kind : Nat) v, .int .i64 (whE l kind : Nat)]
theorem wv_bad (l : List Nat) (kind : Int) (v : Value) (e : Nat) (h : whE l kind = e) (he : e ≠ 0) : WV l kind v = .tuple #[FrV 0 0 v, .int .i64 (e : Int)] ∧ whB l kind = [] := by
  have h1 : whE l kind ≠ 0 := by rw [h]; exact he
  refine ⟨?_, if_neg h1⟩
  show Value.tuple #[FrV (whK l kind : Nat) (whS l kind : Nat) _, .int .i64 (whE l kind : Nat)] = _
  rw [show whK l kind = 0 from if_neg h1, show whS l kind = 0 from if_neg h1, h]
  rfl
theorem wv_good (l : List Nat) (kind : Int) (v : Value) (h : whE l kind = 0) : WV l kind v = .tuple #[FrV (pk l : Int) (ps l : Int) v, .int .i64 0] ∧ whB l kind = decB l := by
  refine ⟨?_, if_pos h⟩
  show Value.tuple #[FrV (whK l kind : Nat) (whS l kind : Nat) _, .int .i64 (whE l kind : Nat)] = _
  rw [show whK l kind = pk l from if_pos h, show whS l kind = ps l from if_pos h, h]
  rfl
theorem own_apart2 {w w' : World} {base j : Nat} {v : Value} {l : List Nat} (h : Own w base v l) (hh : ∀ k, base ≤ k → k < w.heap.size → w'.heap[k]? = w.heap[k]?) (hj : j ≤ base) : Own w' j v l := by
  refine ⟨h.1, h.2.1, ?_⟩
  rcases h.2.2 with h2 | ⟨g, cap, cur, h3, h4, h5, h6⟩
  · exact .inl h2
  · exact .inr ⟨g, cap, cur, h3, by omega, (hh g h4 (lt_of_heap h5)).trans h5, h6⟩
set_option maxRecDepth 20000 in
set_option maxHeartbeats 1000000 in
theorem fwhole_any (l : List Nat) (kind : Int) (n : Nat) (a : Option Addr) (cap : Nat) (w : World) (hn : l.length = n) (hb : Bytes w a l) (hl : l.length ≤ 281474976710656) (hcap : l.length ≤ cap) (ht : Tab w) :
    Calls Tryd.prog 34 #[.slice a n cap, .int .i64 kind] w fun r w' => ∃ v, r = .returned (WV l kind v) ∧ Own w' w.heap.size v (whB l kind) ∧ Below w.heap.size w w' := by
  have HF0 : Hid (FrmAt (w.alloc (.cells #[.int .i64 0, .int .i64 0, .slice none 0 0] 70)) w.heap.size 0 0 (.slice none 0 0)) := FrmAt.new w 0 0 (.slice none 0 0)
  have HB0 : Hid (Below w.heap.size w (w.alloc (.cells #[.int .i64 0, .int .i64 0, .slice none 0 0] 70))) := (Below.refl _ _).alloc (Nat.le_refl _) _
  have HDC : Hid (∀ w1, Below w.heap.size w w1 → Calls Tryd.prog 53 #[.slice a n cap] w1 fun r w' => ∃ v, r = .returned (DV l v) ∧ Own w' w1.heap.size v (decB l) ∧ Below w1.heap.size w1 w') := fun w1 hb1 => fdec_any l n a cap w1 hn (hb.keep hb1) hl hcap (ht.keep hb1)
  have T1 : Hid True := trivial
  by_cases hE : decE l = 0
  · have HD : Hid (∀ v, _ ∧ _) := fun v => dv_good l v hE
    have hpb := (peekE_zero (decE_zero hE).1).2.2.2
    obtain ⟨p, hpp⟩ : ∃ p, pn l = p := ⟨_, rfl⟩
    obtain ⟨s, hss⟩ : ∃ s, ps l = s := ⟨_, rfl⟩
    obtain ⟨k, hkk⟩ : ∃ k, pk l = k := ⟨_, rfl⟩
    have HW0 : Hid ((k : Int) = kind → p + 20 = n → whE l kind = 0) := fun h1 h2 => by unfold whE; rw [if_neg (by omega), hkk, hpp, hn, if_neg (by omega)]
    have HW1 : Hid (((k : Int) ≠ kind ∨ p + 20 ≠ n) → whE l kind = 63) := fun h1 => by unfold whE; rw [if_neg (by omega), hkk, hpp, hn, if_pos h1]
    rw [hpp, hss, hkk] at HD
    have HWG : Hid (∀ v, whE l kind = 0 → WV l kind v = .tuple #[FrV (k : Int) (s : Int) v, .int .i64 0] ∧ whB l kind = decB l) := fun v h => by have h2 := wv_good l kind v h; rw [hkk, hss] at h2; exact h2
    have hpI : (p : Int) + 20 ≤ 16404 := by omega
    have hnI : (n : Int) ≤ 281474976710656 := by omega
    clear hb hl hcap hE hpb hpp hss hkk hn
    by_cases h1 : (k : Int) = kind
    · by_cases h2 : p + 20 = n
      · have HX : Hid (whE l kind = 0) := HW0.out h1 h2
        have h1b : ((k : Int) != kind) = false := by simp [h1]
        have h2b : ((p : Int) + 20 != (n : Int)) = false := by simp; omega
        clear h1 h2
        go_enter Tryd.func34, Tryd.ntmps34
        go_wp2_with (first
          | (go_at_call 53; refine (HDC.out _ HB0.out).mono ?_; rintro r w1 ⟨v1, rfl, ho1, hb1⟩; rw [(HD.out v1).1]; obtain ⟨a1, c1, hv1, _⟩ := ho1.shape; subst hv1; have HF1 : Hid (FrmAt w1 w.heap.size 0 0 (.slice none 0 0)) := HF0.out.keep hb1; have HB1 : Hid (Below w.heap.size w w1) := HB0.out.trans (hb1.mono (by simp)); have HO1 : Hid (Own w1 (w.heap.size + 1) (.slice a1 (decB l).length c1) (decB l)) := (by have h := ho1; rw [alloc_size1] at h; exact h); have HS1 : Hid (w.heap.size < w1.heap.size) := lt_of_heap HF1.out; clear ho1 hb1)
          | ((with_reducible refine frm_store 70 ?_); clear T1; refine wpList_store_frm rfl _ _ rfl rfl (FrmAt.new w1 0 0 (.slice none 0 0)) rfl rfl rfl ?_; intro w2 hf2 ho2 hh2 hs2; have HF2 : Hid (FrmAt w2 w1.heap.size k s (.slice a1 (decB l).length c1)) := hf2; have HB2 : Hid (Below w.heap.size w w2) := below_one (HB1.out.alloc HB1.out.size _) ho2 hh2 hs2 HB1.out.size; have HFR : Hid (FrmAt w2 w.heap.size 0 0 (.slice none 0 0)) := (hh2 _ (by have := HS1.out; omega)).trans (HF1.out.keep ((Below.refl _ _).alloc (Nat.le_refl _) _)); have HO2 : Hid (Own w2 (w.heap.size + 1) (.slice a1 (decB l).length c1) (decB l)) := own_apart2 HO1.out (fun k hk hk2 => (hh2 k (by omega)).trans (Below.heap_alloc w1 _ k hk2)) (Nat.le_refl _); obtain ⟨x0, x1, x2⟩ := hf2.cells; clear hf2 ho2 hh2 hs2)
          | ((with_reducible refine frm_store 70 ?_); refine wpList_store_frm rfl _ _ rfl rfl HFR.out rfl rfl rfl ?_; intro w9 hf9 ho9 hh9 hs9; have HF9 : Hid (FrmAt w9 w.heap.size _ _ _) := hf9; have HB9 : Hid (Below w.heap.size w w9) := below_one HB2.out ho9 hh9 hs9 (Nat.le_refl _); have HO9 : Hid (Own w9 w.heap.size (.slice a1 (decB l).length c1) (decB l)) := own_apart HO2.out hh9 (Nat.lt_succ_self _); clear hf9 ho9 hh9 hs9)
          | ((with_reducible refine frm_load 70 ?_); refine wpList_load_frm rfl _ rfl HF2.out rfl ?_))
        refine bodyPost_ret (results_frm2 rfl _ _ w.heap.size rfl HF9.out) rfl ⟨.slice a1 (decB l).length c1, by rw [(HWG.out _ HX.out).1]; rfl, by rw [(HWG.out (.slice none 0 0) HX.out).2]; exact HO9.out, HB9.out⟩
      · have HX : Hid (∀ v, _ ∧ _) := fun v => wv_bad l kind v 63 (HW1.out (.inr h2)) (by decide)
        have h1b : ((k : Int) != kind) = false := by simp [h1]
        have h2b : ((p : Int) + 20 != (n : Int)) = true := by simp; omega
        clear h1 h2
        go_enter Tryd.func34, Tryd.ntmps34
        go_wp2_with (first
          | (go_at_call 53; refine (HDC.out _ HB0.out).mono ?_; rintro r w1 ⟨v1, rfl, ho1, hb1⟩; rw [(HD.out v1).1]; obtain ⟨a1, c1, hv1, _⟩ := ho1.shape; subst hv1; have HF1 : Hid (FrmAt w1 w.heap.size 0 0 (.slice none 0 0)) := HF0.out.keep hb1; have HB1 : Hid (Below w.heap.size w w1) := HB0.out.trans (hb1.mono (by simp)); have HO1 : Hid (Own w1 (w.heap.size + 1) (.slice a1 (decB l).length c1) (decB l)) := (by have h := ho1; rw [alloc_size1] at h; exact h); have HS1 : Hid (w.heap.size < w1.heap.size) := lt_of_heap HF1.out; clear ho1 hb1)
          | ((with_reducible refine frm_store 70 ?_); clear T1; refine wpList_store_frm rfl _ _ rfl rfl (FrmAt.new w1 0 0 (.slice none 0 0)) rfl rfl rfl ?_; intro w2 hf2 ho2 hh2 hs2; have HF2 : Hid (FrmAt w2 w1.heap.size k s (.slice a1 (decB l).length c1)) := hf2; have HB2 : Hid (Below w.heap.size w w2) := below_one (HB1.out.alloc HB1.out.size _) ho2 hh2 hs2 HB1.out.size; have HFR : Hid (FrmAt w2 w.heap.size 0 0 (.slice none 0 0)) := (hh2 _ (by have := HS1.out; omega)).trans (HF1.out.keep ((Below.refl _ _).alloc (Nat.le_refl _) _)); have HO2 : Hid (Own w2 (w.heap.size + 1) (.slice a1 (decB l).length c1) (decB l)) := own_apart2 HO1.out (fun k hk hk2 => (hh2 k (by omega)).trans (Below.heap_alloc w1 _ k hk2)) (Nat.le_refl _); obtain ⟨x0, x1, x2⟩ := hf2.cells; clear hf2 ho2 hh2 hs2)
          | ((with_reducible refine frm_store 70 ?_); refine wpList_store_frm rfl _ _ rfl rfl HFR.out rfl rfl rfl ?_; intro w9 hf9 ho9 hh9 hs9; have HF9 : Hid (FrmAt w9 w.heap.size _ _ _) := hf9; have HB9 : Hid (Below w.heap.size w w9) := below_one HB2.out ho9 hh9 hs9 (Nat.le_refl _); clear hf9 ho9 hh9 hs9))
        refine bodyPost_ret (results_frm2 rfl _ _ w.heap.size rfl HF9.out) rfl ⟨.slice none 0 0, by rw [(HX.out _).1]; rfl, by rw [(HX.out (.slice none 0 0)).2]; exact own_none _ _, HB9.out⟩
    · have HX : Hid (∀ v, _ ∧ _) := fun v => wv_bad l kind v 63 (HW1.out (.inl h1)) (by decide)
      have h1b : ((k : Int) != kind) = true := by simp [h1]
      clear h1
      go_enter Tryd.func34, Tryd.ntmps34
      go_wp2_with (first
        | (go_at_call 53; refine (HDC.out _ HB0.out).mono ?_; rintro r w1 ⟨v1, rfl, ho1, hb1⟩; rw [(HD.out v1).1]; obtain ⟨a1, c1, hv1, _⟩ := ho1.shape; subst hv1; have HF1 : Hid (FrmAt w1 w.heap.size 0 0 (.slice none 0 0)) := HF0.out.keep hb1; have HB1 : Hid (Below w.heap.size w w1) := HB0.out.trans (hb1.mono (by simp)); have HO1 : Hid (Own w1 (w.heap.size + 1) (.slice a1 (decB l).length c1) (decB l)) := (by have h := ho1; rw [alloc_size1] at h; exact h); have HS1 : Hid (w.heap.size < w1.heap.size) := lt_of_heap HF1.out; clear ho1 hb1)
        | ((with_reducible refine frm_store 70 ?_); clear T1; refine wpList_store_frm rfl _ _ rfl rfl (FrmAt.new w1 0 0 (.slice none 0 0)) rfl rfl rfl ?_; intro w2 hf2 ho2 hh2 hs2; have HF2 : Hid (FrmAt w2 w1.heap.size k s (.slice a1 (decB l).length c1)) := hf2; have HB2 : Hid (Below w.heap.size w w2) := below_one (HB1.out.alloc HB1.out.size _) ho2 hh2 hs2 HB1.out.size; have HFR : Hid (FrmAt w2 w.heap.size 0 0 (.slice none 0 0)) := (hh2 _ (by have := HS1.out; omega)).trans (HF1.out.keep ((Below.refl _ _).alloc (Nat.le_refl _) _)); have HO2 : Hid (Own w2 (w.heap.size + 1) (.slice a1 (decB l).length c1) (decB l)) := own_apart2 HO1.out (fun k hk hk2 => (hh2 k (by omega)).trans (Below.heap_alloc w1 _ k hk2)) (Nat.le_refl _); obtain ⟨x0, x1, x2⟩ := hf2.cells; clear hf2 ho2 hh2 hs2)
        | ((with_reducible refine frm_store 70 ?_); refine wpList_store_frm rfl _ _ rfl rfl HFR.out rfl rfl rfl ?_; intro w9 hf9 ho9 hh9 hs9; have HF9 : Hid (FrmAt w9 w.heap.size _ _ _) := hf9; have HB9 : Hid (Below w.heap.size w w9) := below_one HB2.out ho9 hh9 hs9 (Nat.le_refl _); clear hf9 ho9 hh9 hs9))
      refine bodyPost_ret (results_frm2 rfl _ _ w.heap.size rfl HF9.out) rfl ⟨.slice none 0 0, by rw [(HX.out _).1]; rfl, by rw [(HX.out (.slice none 0 0)).2]; exact own_none _ _, HB9.out⟩
  · obtain ⟨e, he⟩ : ∃ e, decE l = e := ⟨_, rfl⟩
    have HD : Hid (∀ v, _ ∧ _) := fun v => dv_none l v e he (by omega)
    have HX : Hid (∀ v, _ ∧ _) := fun v => wv_bad l kind v e (by unfold whE; rw [if_pos hE, he]) (by omega)
    have heI : ((e : Int) != 0) = true := by simp; omega
    clear hb hl hcap hE he hn
    go_enter Tryd.func34, Tryd.ntmps34
    go_wp2_with (first
      | (go_at_call 53; refine (HDC.out _ HB0.out).mono ?_; rintro r w1 ⟨v1, rfl, ho1, hb1⟩; rw [(HD.out v1).1]; obtain ⟨a1, c1, hv1, _⟩ := ho1.shape; subst hv1; have HF1 : Hid (FrmAt w1 w.heap.size 0 0 (.slice none 0 0)) := HF0.out.keep hb1; have HB1 : Hid (Below w.heap.size w w1) := HB0.out.trans (hb1.mono (by simp)); have HO1 : Hid (Own w1 (w.heap.size + 1) (.slice a1 (decB l).length c1) (decB l)) := (by have h := ho1; rw [alloc_size1] at h; exact h); have HS1 : Hid (w.heap.size < w1.heap.size) := lt_of_heap HF1.out; clear ho1 hb1)
      | ((with_reducible refine frm_store 70 ?_); clear T1; refine wpList_store_frm rfl _ _ rfl rfl (FrmAt.new w1 0 0 (.slice none 0 0)) rfl rfl rfl ?_; intro w2 hf2 ho2 hh2 hs2; have HF2 : Hid (FrmAt w2 w1.heap.size 0 0 (.slice a1 (decB l).length c1)) := hf2; have HB2 : Hid (Below w.heap.size w w2) := below_one (HB1.out.alloc HB1.out.size _) ho2 hh2 hs2 HB1.out.size; have HFR : Hid (FrmAt w2 w.heap.size 0 0 (.slice none 0 0)) := (hh2 _ (by have := HS1.out; omega)).trans (HF1.out.keep ((Below.refl _ _).alloc (Nat.le_refl _) _)); have HO2 : Hid (Own w2 (w.heap.size + 1) (.slice a1 (decB l).length c1) (decB l)) := own_apart2 HO1.out (fun k hk hk2 => (hh2 k (by omega)).trans (Below.heap_alloc w1 _ k hk2)) (Nat.le_refl _); obtain ⟨x0, x1, x2⟩ := hf2.cells; clear hf2 ho2 hh2 hs2)
      | ((with_reducible refine frm_store 70 ?_); refine wpList_store_frm rfl _ _ rfl rfl HFR.out rfl rfl rfl ?_; intro w9 hf9 ho9 hh9 hs9; have HF9 : Hid (FrmAt w9 w.heap.size _ _ _) := hf9; have HB9 : Hid (Below w.heap.size w w9) := below_one HB2.out ho9 hh9 hs9 (Nat.le_refl _); clear hf9 ho9 hh9 hs9))
    refine bodyPost_ret (results_frm2 rfl _ _ w.heap.size rfl HF9.out) rfl ⟨.slice none 0 0, by rw [(HX.out _).1]; rfl, by rw [(HX.out (.slice none 0 0)).2]; exact own_none _ _, HB9.out⟩
end Go.Proofs.YtnfkdgjgglnniaaDoor
