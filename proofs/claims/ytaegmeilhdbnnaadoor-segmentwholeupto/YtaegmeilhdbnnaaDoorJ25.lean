/- Own texts, joined: Sg24, Fra, Sg25, Frb. -/
import Derived.Test.YtaegmeilhdbnnaaDoorJ14
import Derived.Test.YtaegmeilhdbnnaaDoorJ06
import Derived.Test.YtaegmeilhdbnnaaDoorJ17
import Derived.Test.YtaegmeilhdbnnaaDoorJ11
import Derived.BigQuiet
import Derived.Test.YtaegmeilhdbnnaaDoorJ01
import Derived.Test.YtaegmeilhdbnnaaDoorJ19
namespace Go.Proofs.YtaegmeilhdbnnaaDoor
open Go.ChangeShapes Go.WideShapes Go.ChangeAt Go.RowKit
set_option linter.unusedVariables false
/-- what a manifest says of a segment -/
abbrev SeV (num first count foot : Int) : Value := .agg #[.int .i64 num, .int .i64 first, .int .i64 count, .int .i64 foot]
/-- the marks' numbers and places -/
def fitN (u st : Nat) (foot : Int) : Nat → List Mk → Bool
  | _, [] => true
  | i, p :: r => if p.1 = ((u + i * st : Nat) : Int) ∧ p.2 < foot then fitN u st foot (i + 1) r else false
def fitB (M : List Mk) (u v st : Nat) (foot : Int) : Bool := if M.length = (v + st - 1) / st then fitN u st foot 0 M else false
set_option maxRecDepth 20000 in
set_option maxHeartbeats 4000000 in
theorem fits_any (M : List Mk) (m : Nat) (a : Option Addr) (cap : Nat) (num foot : Int) (u v st : Nat) (w : World) (hm : M.length = m) (hM : Marks w a M) (hm5 : m ≤ 512) (hu : u ≤ 1099511627777) (hv : v ≤ 1099511627777) (hst1 : 1 ≤ st) (hst : st ≤ 64) :
    Calls Tryd.prog 49 #[.slice a m cap, SeV num (u : Int) (v : Int) foot, .int .i64 (st : Int)] w fun e w' => e = .returned (.bool (fitB M u v st foot)) ∧ Below w.heap.size w w' := by
  have HM : Hid (M.length = m ∧ Marks w a M) := ⟨hm, hM⟩
  obtain ⟨q, hq⟩ : ∃ q, (v + st - 1) / st = q := ⟨_, rfl⟩
  have hqI : ((v : Int) + (st : Int) - 1) / (st : Int) = (q : Int) := by
    rw [← hq]
    push_cast [show 1 ≤ v + st from by omega]
    rfl
  have hqT : Int.tdiv ((v : Int) + (st : Int) - 1) (st : Int) = (q : Int) := by
    rw [Int.tdiv_eq_ediv_of_nonneg (by omega)]
    exact hqI
  have hqb : (q : Int) ≤ 1099511627841 := by
    have : q ≤ v + st - 1 := by rw [← hq]; exact Nat.div_le_self _ _
    omega
  have huI : (u : Int) ≤ 1099511627777 := by omega
  have hvI : (v : Int) ≤ 1099511627777 := by omega
  have hstI : (st : Int) ≤ 64 := by omega
  have hst1I : (1 : Int) ≤ (st : Int) := by omega
  have hst0 : ¬ (st : Int) = 0 := by omega
  have hmI : (m : Int) ≤ 512 := by omega
  have HQ : Hid ((v + st - 1) / st = q) := hq
  clear hm hM hq
  by_cases hmq : m = q
  · have HF : Hid (fitB M u v st foot = fitN u st foot 0 M) := by show _ = _; unfold fitB; rw [HM.out.1, HQ.out, if_pos hmq]
    have hne : ((m : Int) != (q : Int)) = false := by simp; omega
    clear hmq
    go_enter Tryd.func49, Tryd.ntmps49
    go_wp2
    obtain ⟨W0, hW0⟩ : ∃ W0, w.alloc (.cells #[.int .i64 num, .int .i64 (u : Int), .int .i64 (v : Int), .int .i64 foot] 51) = W0 := ⟨_, rfl⟩
    have HW0 : Hid (Below w.heap.size w W0 ∧ W0.heap[w.heap.size]? = some (.cells #[.int .i64 num, .int .i64 (u : Int), .int .i64 (v : Int), .int .i64 foot] 51) ∧ w.heap.size < W0.heap.size) := by rw [← hW0]; exact ⟨(Below.refl _ _).alloc (Nat.le_refl _) _, heap_alloc_new w _, by simp⟩
    rw [hW0]
    clear hW0
    go_loopw [21] (fun vi wr => ∃ k : Nat, k ≤ m ∧ vi = .int .i64 k ∧ fitN u st foot 0 M = fitN u st foot k (M.drop k) ∧ Below W0.heap.size W0 wr) (fun vi _ => m - (intOf vi).toNat)
    case atStart => exact ⟨0, Nat.zero_le _, rfl, rfl, Below.refl _ _⟩
    case round =>
      obtain ⟨k, hk, rfl, hft, hbr⟩ := hrel
      have HFT : Hid (fitN u st foot 0 M = fitN u st foot k (M.drop k)) := hft
      have hsz := hbr.size
      have hb0 : wr.heap[w.heap.size]? = some (.cells #[.int .i64 num, .int .i64 (u : Int), .int .i64 (v : Int), .int .i64 foot] 51) := (hbr.block _ HW0.out.2.2).trans HW0.out.2.1
      have g1 : wr.cell? ⟨w.heap.size, 1, none⟩ = some (.int .i64 (u : Int)) := by rw [cell_of_row _ _ 1 _ _ _ hb0]; rfl
      have g3 : wr.cell? ⟨w.heap.size, 3, none⟩ = some (.int .i64 foot) := by rw [cell_of_row _ _ 3 _ _ _ hb0]; rfl
      have hlw : w.heap.size < wr.heap.size := Nat.lt_of_lt_of_le HW0.out.2.2 hsz
      clear hft hb0
      by_cases hkm : k < m
      · obtain ⟨⟨px, pz⟩, hp⟩ := get_of_lt (L := M) (k := k) (by rw [HM.out.1]; exact hkm)
        have hmk : Marks wr a M := (HM.out.2.keep HW0.out.1).keep hbr
        rcases hmk with h0 | ⟨b, off, hab, hlt, hcl⟩
        · rw [h0] at hp; simp at hp
        subst hab
        obtain ⟨c0, c1⟩ := Marks.cells hcl k (px, pz) hp
        simp only at c0 c1
        have hdr : M.drop k = (px, pz) :: M.drop (k + 1) := by
          rw [List.drop_eq_getElem_cons (by rw [HM.out.1]; exact hkm)]
          congr 1
          exact (List.getElem?_eq_some_iff.1 hp).2
        have HST : Hid (fitN u st foot k (M.drop k) = if px = ((u + k * st : Nat) : Int) ∧ pz < foot then fitN u st foot (k + 1) (M.drop (k + 1)) else false) := by show _ = _; rw [hdr]; rfl
        obtain ⟨S, hS⟩ : ∃ S, u + k * st = S := ⟨_, rfl⟩
        have hkst : k * st ≤ 512 * 64 := Nat.mul_le_mul (by omega) hst
        have hSI : (u : Int) + (k : Int) * (st : Int) = (S : Int) := by rw [← hS]; push_cast; rfl
        have hksI : (k : Int) * (st : Int) ≤ 32768 := by have : ((k * st : Nat) : Int) ≤ 32768 := (by omega); push_cast at this; exact this
        have hks0 : (0 : Int) ≤ (k : Int) * (st : Int) := by have : (0 : Int) ≤ ((k * st : Nat) : Int) := (by omega); push_cast at this; exact this
        have hSb : (S : Int) ≤ 1099511660545 := by omega
        rw [hS] at HST
        have hkI : (k : Int) < (m : Int) := by omega
        clear hcl hp hdr
        by_cases hx : px = (S : Int)
        · have hxb : (px != (S : Int)) = false := by simp; omega
          by_cases hz : pz < foot
          · have HT : Hid (fitN u st foot 0 M = fitN u st foot (k + 1) (M.drop (k + 1))) := by show _ = _; rw [HFT.out, HST.out, if_pos ⟨hx, hz⟩]
            have hzI : ¬ foot ≤ pz := by omega
            subst hx
            go_wp2
            go_roundw
            case rel => exact ⟨k + 1, by omega, by go_num, HT.out, hbr.alloc hsz _⟩
            case measure => simp [intOf]; omega
          · have HT : Hid (fitB M u v st foot = false) := by show _ = _; rw [HF.out, HFT.out, HST.out, if_neg (fun h => hz h.2)]
            have hzI : foot ≤ pz := by omega
            subst hx
            go_wp2
            go_ret
            exact ⟨by rw [HT.out]; rfl, (HW0.out.1.trans (hbr.mono (Nat.le_of_lt HW0.out.2.2))).alloc (Nat.le_of_lt hlw) _⟩
        · have HT : Hid (fitB M u v st foot = false) := by show _ = _; rw [HF.out, HFT.out, HST.out, if_neg (fun h => hx h.1)]
          have hxb : (px != (S : Int)) = true := by simp; omega
          go_wp2
          go_ret
          exact ⟨by rw [HT.out]; rfl, (HW0.out.1.trans (hbr.mono (Nat.le_of_lt HW0.out.2.2))).alloc (Nat.le_of_lt hlw) _⟩
      · obtain rfl : m = k := by omega
        have HT : Hid (fitB M u v st foot = true) := by show _ = _; rw [HF.out, HFT.out, List.drop_of_length_le (by rw [HM.out.1]; exact Nat.le_refl _)]; rfl
        go_wp2
        go_ret
        exact ⟨by rw [HT.out]; rfl, HW0.out.1.trans (hbr.mono (Nat.le_of_lt HW0.out.2.2))⟩
  · have HF : Hid (fitB M u v st foot = false) := by show _ = _; unfold fitB; rw [HM.out.1, HQ.out, if_neg hmq]
    have hne : ((m : Int) != (q : Int)) = true := by simp; omega
    clear hmq
    go_enter Tryd.func49, Tryd.ntmps49
    go_wp2
    go_ret
    exact ⟨by rw [HF.out]; rfl, (Below.refl _ _).alloc (Nat.le_refl _) _⟩
end Go.Proofs.YtaegmeilhdbnnaaDoor
namespace Go.Proofs.YtaegmeilhdbnnaaDoor
open Go.ChangeShapes Go.WideShapes Go.ChangeAt Go.RowKit
set_option linter.unusedVariables false
def whE (l : List Nat) (kind : Int) : Nat := if decE l ≠ 0 then decE l else if (pk l : Int) ≠ kind ∨ pn l + 20 ≠ l.length then 63 else 0
def whK (l : List Nat) (kind : Int) : Nat := if whE l kind = 0 then pk l else 0
def whS (l : List Nat) (kind : Int) : Nat := if whE l kind = 0 then ps l else 0
def whB (l : List Nat) (kind : Int) : List Nat := if whE l kind = 0 then decB l else []
abbrev WV (l : List Nat) (kind : Int) (v : Value) : Value := .tuple #[FrV (whK l kind : Nat) (whS l kind : Nat) v, .int .i64 (whE l kind : Nat)]
theorem wv_bad (l : List Nat) (kind : Int) (v : Value) (e : Nat) (h : whE l kind = e) (he : e ≠ 0) : WV l kind v = .tuple #[FrV 0 0 v, .int .i64 (e : Int)] ∧ whB l kind = [] := by
  have h1 : whE l kind ≠ 0 := by rw [h]; exact he
  refine ⟨?_, if_neg h1⟩
  show Value.tuple #[FrV (whK l kind : Nat) (whS l kind : Nat) _, .int .i64 (whE l kind : Nat)] = _
  rw [show whK l kind = 0 from if_neg h1, show whS l kind = 0 from if_neg h1, h]
  rfl
theorem wv_good (l : List Nat) (kind : Int) (v : Value) (h : whE l kind = 0) : WV l kind v = .tuple #[FrV (pk l : Int) (ps l : Int) v, .int .i64 0] ∧ whB l kind = decB l := by
  refine ⟨?_, if_pos h⟩
  show Value.tuple #[FrV (whK l kind : Nat) (whS l kind : Nat) _, .int .i64 (whE l kind : Nat)] = _
  rw [show whK l kind = pk l from if_pos h, show whS l kind = ps l from if_pos h, h]
  rfl
theorem own_apart2 {w w' : World} {base j : Nat} {v : Value} {l : List Nat} (h : Own w base v l) (hh : ∀ k, base ≤ k → k < w.heap.size → w'.heap[k]? = w.heap[k]?) (hj : j ≤ base) : Own w' j v l := by
  refine ⟨h.1, h.2.1, ?_⟩
  rcases h.2.2 with h2 | ⟨g, cap, cur, h3, h4, h5, h6⟩
  · exact .inl h2
  · exact .inr ⟨g, cap, cur, h3, by omega, (hh g h4 (lt_of_heap h5)).trans h5, h6⟩
set_option maxRecDepth 20000 in
set_option maxHeartbeats 1000000 in
theorem fwhole_any (l : List Nat) (kind : Int) (n : Nat) (a : Option Addr) (cap : Nat) (w : World) (hn : l.length = n) (hb : Bytes w a l) (hl : l.length ≤ 281474976710656) (hcap : l.length ≤ cap) (ht : Tab w) :
    Calls Tryd.prog 47 #[.slice a n cap, .int .i64 kind] w fun r w' => ∃ v, r = .returned (WV l kind v) ∧ Own w' w.heap.size v (whB l kind) ∧ Below w.heap.size w w' := by
  have HF0 : Hid (FrmAt (w.alloc (.cells #[.int .i64 0, .int .i64 0, .slice none 0 0] 65)) w.heap.size 0 0 (.slice none 0 0)) := FrmAt.new w 0 0 (.slice none 0 0)
  have HB0 : Hid (Below w.heap.size w (w.alloc (.cells #[.int .i64 0, .int .i64 0, .slice none 0 0] 65))) := (Below.refl _ _).alloc (Nat.le_refl _) _
  have HDC : Hid (∀ w1, Below w.heap.size w w1 → Calls Tryd.prog 36 #[.slice a n cap] w1 fun r w' => ∃ v, r = .returned (DV l v) ∧ Own w' w1.heap.size v (decB l) ∧ Below w1.heap.size w1 w') := fun w1 hb1 => fdec_any l n a cap w1 hn (hb.keep hb1) hl hcap (ht.keep hb1)
  have T1 : Hid True := trivial
  by_cases hE : decE l = 0
  · have HD : Hid (∀ v, _ ∧ _) := fun v => dv_good l v hE
    have hpb := (peekE_zero (decE_zero hE).1).2.2.2
    obtain ⟨p, hpp⟩ : ∃ p, pn l = p := ⟨_, rfl⟩
    obtain ⟨s, hss⟩ : ∃ s, ps l = s := ⟨_, rfl⟩
    obtain ⟨k, hkk⟩ : ∃ k, pk l = k := ⟨_, rfl⟩
    have HW0 : Hid ((k : Int) = kind → p + 20 = n → whE l kind = 0) := fun h1 h2 => by unfold whE; rw [if_neg (by omega), hkk, hpp, hn, if_neg (by omega)]
    have HW1 : Hid (((k : Int) ≠ kind ∨ p + 20 ≠ n) → whE l kind = 63) := fun h1 => by unfold whE; rw [if_neg (by omega), hkk, hpp, hn, if_pos h1]
    rw [hpp, hss, hkk] at HD
    have HWG : Hid (∀ v, whE l kind = 0 → WV l kind v = .tuple #[FrV (k : Int) (s : Int) v, .int .i64 0] ∧ whB l kind = decB l) := fun v h => by have h2 := wv_good l kind v h; rw [hkk, hss] at h2; exact h2
    have hpI : (p : Int) + 20 ≤ 16404 := by omega
    have hnI : (n : Int) ≤ 281474976710656 := by omega
    clear hb hl hcap hE hpb hpp hss hkk hn
    by_cases h1 : (k : Int) = kind
    · by_cases h2 : p + 20 = n
      · have HX : Hid (whE l kind = 0) := HW0.out h1 h2
        have h1b : ((k : Int) != kind) = false := by simp [h1]
        have h2b : ((p : Int) + 20 != (n : Int)) = false := by simp; omega
        clear h1 h2
        go_enter Tryd.func47, Tryd.ntmps47
        go_wp2_with (first
          | (go_at_call 36; refine (HDC.out _ HB0.out).mono ?_; rintro r w1 ⟨v1, rfl, ho1, hb1⟩; rw [(HD.out v1).1]; obtain ⟨a1, c1, hv1, _⟩ := ho1.shape; subst hv1; have HF1 : Hid (FrmAt w1 w.heap.size 0 0 (.slice none 0 0)) := HF0.out.keep hb1; have HB1 : Hid (Below w.heap.size w w1) := HB0.out.trans (hb1.mono (by simp)); have HO1 : Hid (Own w1 (w.heap.size + 1) (.slice a1 (decB l).length c1) (decB l)) := (by have h := ho1; rw [alloc_size1] at h; exact h); have HS1 : Hid (w.heap.size < w1.heap.size) := lt_of_heap HF1.out; clear ho1 hb1)
          | ((with_reducible refine frm_store 65 ?_); clear T1; refine wpList_store_frm rfl _ _ rfl rfl (FrmAt.new w1 0 0 (.slice none 0 0)) rfl rfl rfl ?_; intro w2 hf2 ho2 hh2 hs2; have HF2 : Hid (FrmAt w2 w1.heap.size k s (.slice a1 (decB l).length c1)) := hf2; have HB2 : Hid (Below w.heap.size w w2) := below_one (HB1.out.alloc HB1.out.size _) ho2 hh2 hs2 HB1.out.size; have HFR : Hid (FrmAt w2 w.heap.size 0 0 (.slice none 0 0)) := (hh2 _ (by have := HS1.out; omega)).trans (HF1.out.keep ((Below.refl _ _).alloc (Nat.le_refl _) _)); have HO2 : Hid (Own w2 (w.heap.size + 1) (.slice a1 (decB l).length c1) (decB l)) := own_apart2 HO1.out (fun k hk hk2 => (hh2 k (by omega)).trans (Below.heap_alloc w1 _ k hk2)) (Nat.le_refl _); obtain ⟨x0, x1, x2⟩ := hf2.cells; clear hf2 ho2 hh2 hs2)
          | ((with_reducible refine frm_store 65 ?_); refine wpList_store_frm rfl _ _ rfl rfl HFR.out rfl rfl rfl ?_; intro w9 hf9 ho9 hh9 hs9; have HF9 : Hid (FrmAt w9 w.heap.size _ _ _) := hf9; have HB9 : Hid (Below w.heap.size w w9) := below_one HB2.out ho9 hh9 hs9 (Nat.le_refl _); have HO9 : Hid (Own w9 w.heap.size (.slice a1 (decB l).length c1) (decB l)) := own_apart HO2.out hh9 (Nat.lt_succ_self _); clear hf9 ho9 hh9 hs9)
          | ((with_reducible refine frm_load 65 ?_); refine wpList_load_frm rfl _ rfl HF2.out rfl ?_))
        refine bodyPost_ret (results_frm2 rfl _ _ w.heap.size rfl HF9.out) rfl ⟨.slice a1 (decB l).length c1, by rw [(HWG.out _ HX.out).1]; rfl, by rw [(HWG.out (.slice none 0 0) HX.out).2]; exact HO9.out, HB9.out⟩
      · have HX : Hid (∀ v, _ ∧ _) := fun v => wv_bad l kind v 63 (HW1.out (.inr h2)) (by decide)
        have h1b : ((k : Int) != kind) = false := by simp [h1]
        have h2b : ((p : Int) + 20 != (n : Int)) = true := by simp; omega
        clear h1 h2
        go_enter Tryd.func47, Tryd.ntmps47
        go_wp2_with (first
          | (go_at_call 36; refine (HDC.out _ HB0.out).mono ?_; rintro r w1 ⟨v1, rfl, ho1, hb1⟩; rw [(HD.out v1).1]; obtain ⟨a1, c1, hv1, _⟩ := ho1.shape; subst hv1; have HF1 : Hid (FrmAt w1 w.heap.size 0 0 (.slice none 0 0)) := HF0.out.keep hb1; have HB1 : Hid (Below w.heap.size w w1) := HB0.out.trans (hb1.mono (by simp)); have HO1 : Hid (Own w1 (w.heap.size + 1) (.slice a1 (decB l).length c1) (decB l)) := (by have h := ho1; rw [alloc_size1] at h; exact h); have HS1 : Hid (w.heap.size < w1.heap.size) := lt_of_heap HF1.out; clear ho1 hb1)
          | ((with_reducible refine frm_store 65 ?_); clear T1; refine wpList_store_frm rfl _ _ rfl rfl (FrmAt.new w1 0 0 (.slice none 0 0)) rfl rfl rfl ?_; intro w2 hf2 ho2 hh2 hs2; have HF2 : Hid (FrmAt w2 w1.heap.size k s (.slice a1 (decB l).length c1)) := hf2; have HB2 : Hid (Below w.heap.size w w2) := below_one (HB1.out.alloc HB1.out.size _) ho2 hh2 hs2 HB1.out.size; have HFR : Hid (FrmAt w2 w.heap.size 0 0 (.slice none 0 0)) := (hh2 _ (by have := HS1.out; omega)).trans (HF1.out.keep ((Below.refl _ _).alloc (Nat.le_refl _) _)); have HO2 : Hid (Own w2 (w.heap.size + 1) (.slice a1 (decB l).length c1) (decB l)) := own_apart2 HO1.out (fun k hk hk2 => (hh2 k (by omega)).trans (Below.heap_alloc w1 _ k hk2)) (Nat.le_refl _); obtain ⟨x0, x1, x2⟩ := hf2.cells; clear hf2 ho2 hh2 hs2)
          | ((with_reducible refine frm_store 65 ?_); refine wpList_store_frm rfl _ _ rfl rfl HFR.out rfl rfl rfl ?_; intro w9 hf9 ho9 hh9 hs9; have HF9 : Hid (FrmAt w9 w.heap.size _ _ _) := hf9; have HB9 : Hid (Below w.heap.size w w9) := below_one HB2.out ho9 hh9 hs9 (Nat.le_refl _); clear hf9 ho9 hh9 hs9))
        refine bodyPost_ret (results_frm2 rfl _ _ w.heap.size rfl HF9.out) rfl ⟨.slice none 0 0, by rw [(HX.out _).1]; rfl, by rw [(HX.out (.slice none 0 0)).2]; exact own_none _ _, HB9.out⟩
    · have HX : Hid (∀ v, _ ∧ _) := fun v => wv_bad l kind v 63 (HW1.out (.inl h1)) (by decide)
      have h1b : ((k : Int) != kind) = true := by simp [h1]
      clear h1
      go_enter Tryd.func47, Tryd.ntmps47
      go_wp2_with (first
        | (go_at_call 36; refine (HDC.out _ HB0.out).mono ?_; rintro r w1 ⟨v1, rfl, ho1, hb1⟩; rw [(HD.out v1).1]; obtain ⟨a1, c1, hv1, _⟩ := ho1.shape; subst hv1; have HF1 : Hid (FrmAt w1 w.heap.size 0 0 (.slice none 0 0)) := HF0.out.keep hb1; have HB1 : Hid (Below w.heap.size w w1) := HB0.out.trans (hb1.mono (by simp)); have HO1 : Hid (Own w1 (w.heap.size + 1) (.slice a1 (decB l).length c1) (decB l)) := (by have h := ho1; rw [alloc_size1] at h; exact h); have HS1 : Hid (w.heap.size < w1.heap.size) := lt_of_heap HF1.out; clear ho1 hb1)
        | ((with_reducible refine frm_store 65 ?_); clear T1; refine wpList_store_frm rfl _ _ rfl rfl (FrmAt.new w1 0 0 (.slice none 0 0)) rfl rfl rfl ?_; intro w2 hf2 ho2 hh2 hs2; have HF2 : Hid (FrmAt w2 w1.heap.size k s (.slice a1 (decB l).length c1)) := hf2; have HB2 : Hid (Below w.heap.size w w2) := below_one (HB1.out.alloc HB1.out.size _) ho2 hh2 hs2 HB1.out.size; have HFR : Hid (FrmAt w2 w.heap.size 0 0 (.slice none 0 0)) := (hh2 _ (by have := HS1.out; omega)).trans (HF1.out.keep ((Below.refl _ _).alloc (Nat.le_refl _) _)); have HO2 : Hid (Own w2 (w.heap.size + 1) (.slice a1 (decB l).length c1) (decB l)) := own_apart2 HO1.out (fun k hk hk2 => (hh2 k (by omega)).trans (Below.heap_alloc w1 _ k hk2)) (Nat.le_refl _); obtain ⟨x0, x1, x2⟩ := hf2.cells; clear hf2 ho2 hh2 hs2)
        | ((with_reducible refine frm_store 65 ?_); refine wpList_store_frm rfl _ _ rfl rfl HFR.out rfl rfl rfl ?_; intro w9 hf9 ho9 hh9 hs9; have HF9 : Hid (FrmAt w9 w.heap.size _ _ _) := hf9; have HB9 : Hid (Below w.heap.size w w9) := below_one HB2.out ho9 hh9 hs9 (Nat.le_refl _); clear hf9 ho9 hh9 hs9))
      refine bodyPost_ret (results_frm2 rfl _ _ w.heap.size rfl HF9.out) rfl ⟨.slice none 0 0, by rw [(HX.out _).1]; rfl, by rw [(HX.out (.slice none 0 0)).2]; exact own_none _ _, HB9.out⟩
  · obtain ⟨e, he⟩ : ∃ e, decE l = e := ⟨_, rfl⟩
    have HD : Hid (∀ v, _ ∧ _) := fun v => dv_none l v e he (by omega)
    have HX : Hid (∀ v, _ ∧ _) := fun v => wv_bad l kind v e (by unfold whE; rw [if_pos hE, he]) (by omega)
    have heI : ((e : Int) != 0) = true := by simp; omega
    clear hb hl hcap hE he hn
    go_enter Tryd.func47, Tryd.ntmps47
    go_wp2_with (first
      | (go_at_call 36; refine (HDC.out _ HB0.out).mono ?_; rintro r w1 ⟨v1, rfl, ho1, hb1⟩; rw [(HD.out v1).1]; obtain ⟨a1, c1, hv1, _⟩ := ho1.shape; subst hv1; have HF1 : Hid (FrmAt w1 w.heap.size 0 0 (.slice none 0 0)) := HF0.out.keep hb1; have HB1 : Hid (Below w.heap.size w w1) := HB0.out.trans (hb1.mono (by simp)); have HO1 : Hid (Own w1 (w.heap.size + 1) (.slice a1 (decB l).length c1) (decB l)) := (by have h := ho1; rw [alloc_size1] at h; exact h); have HS1 : Hid (w.heap.size < w1.heap.size) := lt_of_heap HF1.out; clear ho1 hb1)
      | ((with_reducible refine frm_store 65 ?_); clear T1; refine wpList_store_frm rfl _ _ rfl rfl (FrmAt.new w1 0 0 (.slice none 0 0)) rfl rfl rfl ?_; intro w2 hf2 ho2 hh2 hs2; have HF2 : Hid (FrmAt w2 w1.heap.size 0 0 (.slice a1 (decB l).length c1)) := hf2; have HB2 : Hid (Below w.heap.size w w2) := below_one (HB1.out.alloc HB1.out.size _) ho2 hh2 hs2 HB1.out.size; have HFR : Hid (FrmAt w2 w.heap.size 0 0 (.slice none 0 0)) := (hh2 _ (by have := HS1.out; omega)).trans (HF1.out.keep ((Below.refl _ _).alloc (Nat.le_refl _) _)); have HO2 : Hid (Own w2 (w.heap.size + 1) (.slice a1 (decB l).length c1) (decB l)) := own_apart2 HO1.out (fun k hk hk2 => (hh2 k (by omega)).trans (Below.heap_alloc w1 _ k hk2)) (Nat.le_refl _); obtain ⟨x0, x1, x2⟩ := hf2.cells; clear hf2 ho2 hh2 hs2)
      | ((with_reducible refine frm_store 65 ?_); refine wpList_store_frm rfl _ _ rfl rfl HFR.out rfl rfl rfl ?_; intro w9 hf9 ho9 hh9 hs9; have HF9 : Hid (FrmAt w9 w.heap.size _ _ _) := hf9; have HB9 : Hid (Below w.heap.size w w9) := below_one HB2.out ho9 hh9 hs9 (Nat.le_refl _); clear hf9 ho9 hh9 hs9))
    refine bodyPost_ret (results_frm2 rfl _ _ w.heap.size rfl HF9.out) rfl ⟨.slice none 0 0, by rw [(HX.out _).1]; rfl, by rw [(HX.out (.slice none 0 0)).2]; exact own_none _ _, HB9.out⟩
set_option maxRecDepth 20000 in
set_option maxHeartbeats 1000000 in
theorem rfwhole_any (l : List Nat) (kind : Int) (n : Nat) (a : Option Addr) (cap : Nat) (w : World) (hn : l.length = n) (hb : Bytes w a l) (hl : l.length ≤ 281474976710656) (hcap : l.length ≤ cap) :
    Calls Tryd.prog 50 #[.slice a n cap, .int .i64 kind] w fun r w' => ∃ v, r = .returned (WV l kind v) ∧ Own w' w.heap.size v (whB l kind) ∧ Below w.heap.size w w' := by
  have HF0 : Hid (FrmAt (w.alloc (.cells #[.int .i64 0, .int .i64 0, .slice none 0 0] 65)) w.heap.size 0 0 (.slice none 0 0)) := FrmAt.new w 0 0 (.slice none 0 0)
  have HB0 : Hid (Below w.heap.size w (w.alloc (.cells #[.int .i64 0, .int .i64 0, .slice none 0 0] 65))) := (Below.refl _ _).alloc (Nat.le_refl _) _
  have HDC : Hid (∀ w1, Below w.heap.size w w1 → Calls Tryd.prog 34 #[.slice a n cap] w1 fun r w' => ∃ v, r = .returned (DV l v) ∧ Own w' w1.heap.size v (decB l) ∧ Below w1.heap.size w1 w') := fun w1 hb1 => rfdec_any l n a cap w1 hn (hb.keep hb1) hl hcap 
  have T1 : Hid True := trivial
  by_cases hE : decE l = 0
  · have HD : Hid (∀ v, _ ∧ _) := fun v => dv_good l v hE
    have hpb := (peekE_zero (decE_zero hE).1).2.2.2
    obtain ⟨p, hpp⟩ : ∃ p, pn l = p := ⟨_, rfl⟩
    obtain ⟨s, hss⟩ : ∃ s, ps l = s := ⟨_, rfl⟩
    obtain ⟨k, hkk⟩ : ∃ k, pk l = k := ⟨_, rfl⟩
    have HW0 : Hid ((k : Int) = kind → p + 20 = n → whE l kind = 0) := fun h1 h2 => by unfold whE; rw [if_neg (by omega), hkk, hpp, hn, if_neg (by omega)]
    have HW1 : Hid (((k : Int) ≠ kind ∨ p + 20 ≠ n) → whE l kind = 63) := fun h1 => by unfold whE; rw [if_neg (by omega), hkk, hpp, hn, if_pos h1]
    rw [hpp, hss, hkk] at HD
    have HWG : Hid (∀ v, whE l kind = 0 → WV l kind v = .tuple #[FrV (k : Int) (s : Int) v, .int .i64 0] ∧ whB l kind = decB l) := fun v h => by have h2 := wv_good l kind v h; rw [hkk, hss] at h2; exact h2
    have hpI : (p : Int) + 20 ≤ 16404 := by omega
    have hnI : (n : Int) ≤ 281474976710656 := by omega
    clear hb hl hcap hE hpb hpp hss hkk hn
    by_cases h1 : (k : Int) = kind
    · by_cases h2 : p + 20 = n
      · have HX : Hid (whE l kind = 0) := HW0.out h1 h2
        have h1b : ((k : Int) != kind) = false := by simp [h1]
        have h2b : ((p : Int) + 20 != (n : Int)) = false := by simp; omega
        clear h1 h2
        go_enter Tryd.func50, Tryd.ntmps50
        go_wp2_with (first
          | (go_at_call 34; refine (HDC.out _ HB0.out).mono ?_; rintro r w1 ⟨v1, rfl, ho1, hb1⟩; rw [(HD.out v1).1]; obtain ⟨a1, c1, hv1, _⟩ := ho1.shape; subst hv1; have HF1 : Hid (FrmAt w1 w.heap.size 0 0 (.slice none 0 0)) := HF0.out.keep hb1; have HB1 : Hid (Below w.heap.size w w1) := HB0.out.trans (hb1.mono (by simp)); have HO1 : Hid (Own w1 (w.heap.size + 1) (.slice a1 (decB l).length c1) (decB l)) := (by have h := ho1; rw [alloc_size1] at h; exact h); have HS1 : Hid (w.heap.size < w1.heap.size) := lt_of_heap HF1.out; clear ho1 hb1)
          | ((with_reducible refine frm_store 65 ?_); clear T1; refine wpList_store_frm rfl _ _ rfl rfl (FrmAt.new w1 0 0 (.slice none 0 0)) rfl rfl rfl ?_; intro w2 hf2 ho2 hh2 hs2; have HF2 : Hid (FrmAt w2 w1.heap.size k s (.slice a1 (decB l).length c1)) := hf2; have HB2 : Hid (Below w.heap.size w w2) := below_one (HB1.out.alloc HB1.out.size _) ho2 hh2 hs2 HB1.out.size; have HFR : Hid (FrmAt w2 w.heap.size 0 0 (.slice none 0 0)) := (hh2 _ (by have := HS1.out; omega)).trans (HF1.out.keep ((Below.refl _ _).alloc (Nat.le_refl _) _)); have HO2 : Hid (Own w2 (w.heap.size + 1) (.slice a1 (decB l).length c1) (decB l)) := own_apart2 HO1.out (fun k hk hk2 => (hh2 k (by omega)).trans (Below.heap_alloc w1 _ k hk2)) (Nat.le_refl _); obtain ⟨x0, x1, x2⟩ := hf2.cells; clear hf2 ho2 hh2 hs2)
          | ((with_reducible refine frm_store 65 ?_); refine wpList_store_frm rfl _ _ rfl rfl HFR.out rfl rfl rfl ?_; intro w9 hf9 ho9 hh9 hs9; have HF9 : Hid (FrmAt w9 w.heap.size _ _ _) := hf9; have HB9 : Hid (Below w.heap.size w w9) := below_one HB2.out ho9 hh9 hs9 (Nat.le_refl _); have HO9 : Hid (Own w9 w.heap.size (.slice a1 (decB l).length c1) (decB l)) := own_apart HO2.out hh9 (Nat.lt_succ_self _); clear hf9 ho9 hh9 hs9)
          | ((with_reducible refine frm_load 65 ?_); refine wpList_load_frm rfl _ rfl HF2.out rfl ?_))
        refine bodyPost_ret (results_frm2 rfl _ _ w.heap.size rfl HF9.out) rfl ⟨.slice a1 (decB l).length c1, by rw [(HWG.out _ HX.out).1]; rfl, by rw [(HWG.out (.slice none 0 0) HX.out).2]; exact HO9.out, HB9.out⟩
      · have HX : Hid (∀ v, _ ∧ _) := fun v => wv_bad l kind v 63 (HW1.out (.inr h2)) (by decide)
        have h1b : ((k : Int) != kind) = false := by simp [h1]
        have h2b : ((p : Int) + 20 != (n : Int)) = true := by simp; omega
        clear h1 h2
        go_enter Tryd.func50, Tryd.ntmps50
        go_wp2_with (first
          | (go_at_call 34; refine (HDC.out _ HB0.out).mono ?_; rintro r w1 ⟨v1, rfl, ho1, hb1⟩; rw [(HD.out v1).1]; obtain ⟨a1, c1, hv1, _⟩ := ho1.shape; subst hv1; have HF1 : Hid (FrmAt w1 w.heap.size 0 0 (.slice none 0 0)) := HF0.out.keep hb1; have HB1 : Hid (Below w.heap.size w w1) := HB0.out.trans (hb1.mono (by simp)); have HO1 : Hid (Own w1 (w.heap.size + 1) (.slice a1 (decB l).length c1) (decB l)) := (by have h := ho1; rw [alloc_size1] at h; exact h); have HS1 : Hid (w.heap.size < w1.heap.size) := lt_of_heap HF1.out; clear ho1 hb1)
          | ((with_reducible refine frm_store 65 ?_); clear T1; refine wpList_store_frm rfl _ _ rfl rfl (FrmAt.new w1 0 0 (.slice none 0 0)) rfl rfl rfl ?_; intro w2 hf2 ho2 hh2 hs2; have HF2 : Hid (FrmAt w2 w1.heap.size k s (.slice a1 (decB l).length c1)) := hf2; have HB2 : Hid (Below w.heap.size w w2) := below_one (HB1.out.alloc HB1.out.size _) ho2 hh2 hs2 HB1.out.size; have HFR : Hid (FrmAt w2 w.heap.size 0 0 (.slice none 0 0)) := (hh2 _ (by have := HS1.out; omega)).trans (HF1.out.keep ((Below.refl _ _).alloc (Nat.le_refl _) _)); have HO2 : Hid (Own w2 (w.heap.size + 1) (.slice a1 (decB l).length c1) (decB l)) := own_apart2 HO1.out (fun k hk hk2 => (hh2 k (by omega)).trans (Below.heap_alloc w1 _ k hk2)) (Nat.le_refl _); obtain ⟨x0, x1, x2⟩ := hf2.cells; clear hf2 ho2 hh2 hs2)
          | ((with_reducible refine frm_store 65 ?_); refine wpList_store_frm rfl _ _ rfl rfl HFR.out rfl rfl rfl ?_; intro w9 hf9 ho9 hh9 hs9; have HF9 : Hid (FrmAt w9 w.heap.size _ _ _) := hf9; have HB9 : Hid (Below w.heap.size w w9) := below_one HB2.out ho9 hh9 hs9 (Nat.le_refl _); clear hf9 ho9 hh9 hs9))
        refine bodyPost_ret (results_frm2 rfl _ _ w.heap.size rfl HF9.out) rfl ⟨.slice none 0 0, by rw [(HX.out _).1]; rfl, by rw [(HX.out (.slice none 0 0)).2]; exact own_none _ _, HB9.out⟩
    · have HX : Hid (∀ v, _ ∧ _) := fun v => wv_bad l kind v 63 (HW1.out (.inl h1)) (by decide)
      have h1b : ((k : Int) != kind) = true := by simp [h1]
      clear h1
      go_enter Tryd.func50, Tryd.ntmps50
      go_wp2_with (first
        | (go_at_call 34; refine (HDC.out _ HB0.out).mono ?_; rintro r w1 ⟨v1, rfl, ho1, hb1⟩; rw [(HD.out v1).1]; obtain ⟨a1, c1, hv1, _⟩ := ho1.shape; subst hv1; have HF1 : Hid (FrmAt w1 w.heap.size 0 0 (.slice none 0 0)) := HF0.out.keep hb1; have HB1 : Hid (Below w.heap.size w w1) := HB0.out.trans (hb1.mono (by simp)); have HO1 : Hid (Own w1 (w.heap.size + 1) (.slice a1 (decB l).length c1) (decB l)) := (by have h := ho1; rw [alloc_size1] at h; exact h); have HS1 : Hid (w.heap.size < w1.heap.size) := lt_of_heap HF1.out; clear ho1 hb1)
        | ((with_reducible refine frm_store 65 ?_); clear T1; refine wpList_store_frm rfl _ _ rfl rfl (FrmAt.new w1 0 0 (.slice none 0 0)) rfl rfl rfl ?_; intro w2 hf2 ho2 hh2 hs2; have HF2 : Hid (FrmAt w2 w1.heap.size k s (.slice a1 (decB l).length c1)) := hf2; have HB2 : Hid (Below w.heap.size w w2) := below_one (HB1.out.alloc HB1.out.size _) ho2 hh2 hs2 HB1.out.size; have HFR : Hid (FrmAt w2 w.heap.size 0 0 (.slice none 0 0)) := (hh2 _ (by have := HS1.out; omega)).trans (HF1.out.keep ((Below.refl _ _).alloc (Nat.le_refl _) _)); have HO2 : Hid (Own w2 (w.heap.size + 1) (.slice a1 (decB l).length c1) (decB l)) := own_apart2 HO1.out (fun k hk hk2 => (hh2 k (by omega)).trans (Below.heap_alloc w1 _ k hk2)) (Nat.le_refl _); obtain ⟨x0, x1, x2⟩ := hf2.cells; clear hf2 ho2 hh2 hs2)
        | ((with_reducible refine frm_store 65 ?_); refine wpList_store_frm rfl _ _ rfl rfl HFR.out rfl rfl rfl ?_; intro w9 hf9 ho9 hh9 hs9; have HF9 : Hid (FrmAt w9 w.heap.size _ _ _) := hf9; have HB9 : Hid (Below w.heap.size w w9) := below_one HB2.out ho9 hh9 hs9 (Nat.le_refl _); clear hf9 ho9 hh9 hs9))
      refine bodyPost_ret (results_frm2 rfl _ _ w.heap.size rfl HF9.out) rfl ⟨.slice none 0 0, by rw [(HX.out _).1]; rfl, by rw [(HX.out (.slice none 0 0)).2]; exact own_none _ _, HB9.out⟩
  · obtain ⟨e, he⟩ : ∃ e, decE l = e := ⟨_, rfl⟩
    have HD : Hid (∀ v, _ ∧ _) := fun v => dv_none l v e he (by omega)
    have HX : Hid (∀ v, _ ∧ _) := fun v => wv_bad l kind v e (by unfold whE; rw [if_pos hE, he]) (by omega)
    have heI : ((e : Int) != 0) = true := by simp; omega
    clear hb hl hcap hE he hn
    go_enter Tryd.func50, Tryd.ntmps50
    go_wp2_with (first
      | (go_at_call 34; refine (HDC.out _ HB0.out).mono ?_; rintro r w1 ⟨v1, rfl, ho1, hb1⟩; rw [(HD.out v1).1]; obtain ⟨a1, c1, hv1, _⟩ := ho1.shape; subst hv1; have HF1 : Hid (FrmAt w1 w.heap.size 0 0 (.slice none 0 0)) := HF0.out.keep hb1; have HB1 : Hid (Below w.heap.size w w1) := HB0.out.trans (hb1.mono (by simp)); have HO1 : Hid (Own w1 (w.heap.size + 1) (.slice a1 (decB l).length c1) (decB l)) := (by have h := ho1; rw [alloc_size1] at h; exact h); have HS1 : Hid (w.heap.size < w1.heap.size) := lt_of_heap HF1.out; clear ho1 hb1)
      | ((with_reducible refine frm_store 65 ?_); clear T1; refine wpList_store_frm rfl _ _ rfl rfl (FrmAt.new w1 0 0 (.slice none 0 0)) rfl rfl rfl ?_; intro w2 hf2 ho2 hh2 hs2; have HF2 : Hid (FrmAt w2 w1.heap.size 0 0 (.slice a1 (decB l).length c1)) := hf2; have HB2 : Hid (Below w.heap.size w w2) := below_one (HB1.out.alloc HB1.out.size _) ho2 hh2 hs2 HB1.out.size; have HFR : Hid (FrmAt w2 w.heap.size 0 0 (.slice none 0 0)) := (hh2 _ (by have := HS1.out; omega)).trans (HF1.out.keep ((Below.refl _ _).alloc (Nat.le_refl _) _)); have HO2 : Hid (Own w2 (w.heap.size + 1) (.slice a1 (decB l).length c1) (decB l)) := own_apart2 HO1.out (fun k hk hk2 => (hh2 k (by omega)).trans (Below.heap_alloc w1 _ k hk2)) (Nat.le_refl _); obtain ⟨x0, x1, x2⟩ := hf2.cells; clear hf2 ho2 hh2 hs2)
      | ((with_reducible refine frm_store 65 ?_); refine wpList_store_frm rfl _ _ rfl rfl HFR.out rfl rfl rfl ?_; intro w9 hf9 ho9 hh9 hs9; have HF9 : Hid (FrmAt w9 w.heap.size _ _ _) := hf9; have HB9 : Hid (Below w.heap.size w w9) := below_one HB2.out ho9 hh9 hs9 (Nat.le_refl _); clear hf9 ho9 hh9 hs9))
    refine bodyPost_ret (results_frm2 rfl _ _ w.heap.size rfl HF9.out) rfl ⟨.slice none 0 0, by rw [(HX.out _).1]; rfl, by rw [(HX.out (.slice none 0 0)).2]; exact own_none _ _, HB9.out⟩
end Go.Proofs.YtaegmeilhdbnnaaDoor
namespace Go.Proofs.YtaegmeilhdbnnaaDoor
open Go.ChangeShapes Go.WideShapes Go.ChangeAt Go.RowKit
set_option linter.unusedVariables false
/-- what Closing answers: marks and stride -/
def clR (l : List Nat) (num first count foot : Int) : Option (List Mk × Nat) :=
  if whE l 3 = 0 ∧ (ps l : Int) = num then
    match nrd 3 (decB l) with
    | some ([u, v, st], r) => if ((u : Int) = first ∧ (v : Int) = count ∧ 1 ≤ v ∧ 1 ≤ st ∧ st ≤ 64) ∧ (mDec r).2 = 0 ∧ fitB (mDec r).1 u v st foot = true then some ((mDec r).1, st) else none
    | _ => none
  else none
def clE (l : List Nat) (num first count foot : Int) : Nat := if (clR l num first count foot).isSome then 0 else 70
def clS (l : List Nat) (num first count foot : Int) : Nat := ((clR l num first count foot).map Prod.snd).getD 0
def clM (l : List Nat) (num first count foot : Int) : List Mk := ((clR l num first count foot).map Prod.fst).getD []
theorem cl_none {l : List Nat} {num first count foot : Int} (h : clR l num first count foot = none) : clE l num first count foot = 70 ∧ clS l num first count foot = 0 ∧ clM l num first count foot = [] := by
  unfold clE clS clM
  rw [h]
  exact ⟨rfl, rfl, rfl⟩
theorem cl_some {l : List Nat} {num first count foot : Int} {M : List Mk} {s : Nat} (h : clR l num first count foot = some (M, s)) : clE l num first count foot = 0 ∧ clS l num first count foot = s ∧ clM l num first count foot = M := by
  unfold clE clS clM
  rw [h]
  exact ⟨rfl, rfl, rfl⟩
/-- a manifest's word on a segment, in memory -/
def SeAt (w : World) (k : Nat) (num first count foot : Int) : Prop := w.heap[k]? = some (.cells #[.int .i64 num, .int .i64 first, .int .i64 count, .int .i64 foot] 51)
theorem SeAt.keep {w w' : World} {k : Nat} {num first count foot : Int} (h : SeAt w k num first count foot) (hb : Below w.heap.size w w') : SeAt w' k num first count foot := (hb.block k (lt_of_heap h)).trans h
theorem SeAt.cells {w : World} {k : Nat} {num first count foot : Int} (h : SeAt w k num first count foot) : w.cell? ⟨k, 0, none⟩ = some (.int .i64 num) ∧ w.cell? ⟨k, 1, none⟩ = some (.int .i64 first) ∧ w.cell? ⟨k, 2, none⟩ = some (.int .i64 count) ∧ w.cell? ⟨k, 3, none⟩ = some (.int .i64 foot) :=
  ⟨by rw [cell_of_row _ _ 0 _ _ _ h]; rfl, by rw [cell_of_row _ _ 1 _ _ _ h]; rfl, by rw [cell_of_row _ _ 2 _ _ _ h]; rfl, by rw [cell_of_row _ _ 3 _ _ _ h]; rfl⟩
theorem Tryd.infoSe : (Tryd.prog.info? 51).map (·.size) = some 4 := by kernel_rfl
theorem SeAt.load {w : World} {k : Nat} {num first count foot : Int} (h : SeAt w k num first count foot) : (Instr.loadAt 51 (.pointer (some ⟨k, 0, none⟩))).run Tryd.prog w = .ok (SeV num first count foot) w := by
  have h2 : (Go.loadVar 51 ⟨k, 0, none⟩).run Tryd.prog w = .ok (SeV num first count foot) w := run_loadVar_row _ _ _ _ _ _ _ h Tryd.underlying51 rfl Tryd.infoSe
  simp only [Instr.loadAt, Instr.sureAddr, Sem.run_bind, Sem.run_pure, Result.andThen_ok, h2]
theorem wpList_load_seg4g {ops : Array Oper} {rest : List Oper} {o : Oper} {a : Act} {w : World} {Q : Exit → Act → World → Prop} (hw : Region.wanted o (yielded ops a.tmps) = true) (p : Operand) (ho : o.op = .load 51 p)
    {k : Nat} {num first count foot : Int} (hL : SeAt w k num first count foot) (hx : a.eval p = .pointer (some ⟨k, 0, none⟩)) (h : wpList Tryd.prog ops Q rest (a.put o.dst (SeV num first count foot)) w) : wpList Tryd.prog ops Q (o :: rest) a w :=
  wpList_want2 hw fun _ hK => by
    unfold Oper.wp execOp
    simp only [ho, hx, Sem.run_bind, Sem.run_pure, Result.andThen_ok, hL.load]
    exact hK _ _ h
set_option maxRecDepth 20000 in
set_option maxHeartbeats 8000000 in
theorem closing_any (l : List Nat) (num first count foot : Int) (m : Nat) (ab : Option Addr) (capb : Nat) (w : World) (hm : l.length = m) (hb : Bytes w ab l) (hcapb : m ≤ capb) (hml : m ≤ 140737488351232) (ht : Tab w) :
    Calls Tryd.prog 23 #[.slice ab m capb, SeV num first count foot] w fun e w' => ∃ v, e = .returned (.tuple #[v, .int .i64 (clS l num first count foot : Nat), .int .i64 (clE l num first count foot : Nat)]) ∧ OwnM w' w.heap.size v (clM l num first count foot) ∧ Below w.heap.size w w' := by
  have HB : Hid (Bytes w ab l ∧ l.length = m ∧ Tab w) := ⟨hb, hm, ht⟩
  have hmem := hb.mem
  have HW0 : Hid (Below w.heap.size w (w.alloc (.cells #[.int .i64 num, .int .i64 first, .int .i64 count, .int .i64 foot] 51)) ∧ SeAt (w.alloc (.cells #[.int .i64 num, .int .i64 first, .int .i64 count, .int .i64 foot] 51)) w.heap.size num first count foot) := ⟨(Below.refl _ _).alloc (Nat.le_refl _) _, heap_alloc_new w _⟩
  clear hb hm ht
  by_cases hE : whE l 3 = 0
  · have h0 : decE l = 0 := by
      apply Decidable.byContradiction
      intro hc
      unfold whE at hE
      rw [if_pos hc] at hE
      exact hc hE
    obtain ⟨b1, b2, b3, b4, b5, b6, b7⟩ := decB_facts hmem h0
    obtain ⟨P, hP⟩ : ∃ P, pk l = P := ⟨_, rfl⟩
    obtain ⟨S, hS⟩ : ∃ S, ps l = S := ⟨_, rfl⟩
    obtain ⟨B, hB⟩ : ∃ B, pn l = B := ⟨_, rfl⟩
    have hwb : whB l 3 = decB l := (wv_good l 3 (.int .i64 0) hE).2
    have HWV : Hid (∀ v, WV l 3 v = .tuple #[FrV (P : Int) (S : Int) v, .int .i64 0]) := fun v => by rw [← hP, ← hS]; exact (wv_good l 3 v hE).1
    have HBL : Hid ((whB l 3).length = B) := by show _ = _; rw [hwb]; exact b3.trans hB
    have HDB : Hid (whB l 3 = decB l ∧ ∀ y ∈ decB l, y < 256) := ⟨hwb, b1⟩
    have hBb : B ≤ 16384 := by omega
    by_cases hSN : (S : Int) = num
    · have hSb : ((S : Int) != num) = false := by simp; omega
      cases hr : nrd 3 (decB l) with
      | none =>
        have HCL : Hid (clS l num first count foot = 0 ∧ clE l num first count foot = 70 ∧ clM l num first count foot = []) := by
          obtain ⟨h1, h2, h3⟩ := cl_none (l := l) (num := num) (first := first) (count := count) (foot := foot) (by unfold clR; rw [hr]; split <;> rfl)
          exact ⟨h2, h1, h3⟩
        have HARM : Hid (∀ w' a1 c1, Bytes w' a1 (whB l 3) → B ≤ c1 → Calls Tryd.prog 37 #[.slice a1 B c1, .int .i64 3] w' fun e w'' => e = .returned (.tuple #[.slice none 0 0, .slice none 0 0, .bool false]) ∧ Below w'.heap.size w' w'') := fun w' a1 c1 hy1 hc1 => by
          rw [HDB.out.1] at hy1
          refine (read_any (decB l) 3 B a1 c1 _ (by rw [← HDB.out.1]; exact HBL.out) hy1 hc1 (by omega) (by omega)).mono ?_
          rw [hr]
          rintro e w2 ⟨⟨_, _, _, _, _, h, _⟩ | ⟨_, h⟩, hb2⟩
          · cases h
          · exact ⟨h, hb2⟩
        clear hr hP hS hB b1 b2 b3 b4 b5 b6 b7 h0 hE hwb hSN
        go_enter Tryd.func23, Tryd.ntmps23
        go_wp2_with (first
          | (go_at_call 47; refine (fwhole_any l 3 m ab capb _ HB.out.2.1 (HB.out.1.keep HW0.out.1) (by rw [HB.out.2.1]; omega) (by rw [HB.out.2.1]; omega) (HB.out.2.2.keep HW0.out.1)).mono ?_; rintro r w1 ⟨v1, rfl, ho1, hb1⟩; rw [HWV.out v1]; obtain ⟨a1, c1, hv1, hc1, _, hy1, _⟩ := ho1.shape; rw [HBL.out] at hv1 hc1; subst hv1; have HB1 : Hid (Below w.heap.size w w1 ∧ Bytes w1 a1 (whB l 3) ∧ B ≤ c1 ∧ SeAt w1 w.heap.size num first count foot) := ⟨HW0.out.1.trans (hb1.mono HW0.out.1.size), hy1, hc1, HW0.out.2.keep hb1⟩; obtain ⟨n0, n1, n2, n3⟩ := HB1.out.2.2.2.cells; have hlw1 : w.heap.size < w1.heap.size := lt_of_heap HB1.out.2.2.2; clear ho1 hb1 hy1 hc1)
          | (go_at_call 37; refine (HARM.out _ _ _ (HB1.out.2.1.keep ((Below.refl _ _).alloc (Nat.le_refl _) _)) HB1.out.2.2.1).mono ?_; rintro r w2 ⟨rfl, hb2⟩; have hb2w := ((Below.refl w1.heap.size w1).alloc (Nat.le_refl _) _).trans (hb2.mono (by simp)); have HB2 : Hid (Below w.heap.size w w2) := below_next HB1.out.1 hb2w; clear hb2 hb2w)
          | fail)
        go_quiet (fail)
        go_wp2
        go_ret3
        exact ⟨.slice none 0 0, by rw [HCL.out.1, HCL.out.2.1]; rfl, by rw [HCL.out.2.2]; exact OwnM.nil _ _, below_drewN HB2.out _⟩
      | some q =>
        obtain ⟨ns, r0⟩ := q
        obtain ⟨u, v, st, rfl, hu, hv, hst⟩ := nrd_three _ b1 ns r0 hr
        have hclr : clR l num first count foot = if ((u : Int) = first ∧ (v : Int) = count ∧ 1 ≤ v ∧ 1 ≤ st ∧ st ≤ 64) ∧ (mDec r0).2 = 0 ∧ fitB (mDec r0).1 u v st foot = true then some ((mDec r0).1, st) else none := by
          unfold clR
          rw [if_pos ⟨hE, by rw [hS]; exact hSN⟩, hr]
        obtain ⟨R, hR⟩ : ∃ R, r0.length = R := ⟨_, rfl⟩
        have hRb : R ≤ 16384 := by
          obtain ⟨_, h2, _⟩ := nrd_form 3 _ b1 _ _ hr
          have h3 := congrArg List.length h2
          rw [List.length_append] at h3
          omega
        have HARM : Hid (∀ w' a1 c1, Bytes w' a1 (whB l 3) → B ≤ c1 → Calls Tryd.prog 37 #[.slice a1 B c1, .int .i64 3] w' fun e w'' => ∃ g c2 xa cp, e = .returned (.tuple #[.slice (some ⟨g, 0, none⟩) 3 c2, .slice xa R cp, .bool true]) ∧ g < w''.heap.size ∧ w''.cell? ⟨g, 0, none⟩ = some (.int .i64 (u : Int)) ∧ w''.cell? ⟨g, 1, none⟩ = some (.int .i64 (v : Int)) ∧ w''.cell? ⟨g, 2, none⟩ = some (.int .i64 (st : Int)) ∧ Bytes w'' xa r0 ∧ R ≤ cp ∧ Below w'.heap.size w' w'') := fun w' a1 c1 hy1 hc1 => by
          rw [HDB.out.1] at hy1
          refine (read_any (decB l) 3 B a1 c1 _ (by rw [← HDB.out.1]; exact HBL.out) hy1 hc1 (by omega) (by omega)).mono ?_
          rw [hr]
          rintro e w2 ⟨⟨ns, r', va, xa, cp, h, rfl, ho, hy2, hcp, _⟩ | ⟨h, _⟩, hb2⟩
          · simp only [Option.some.injEq, Prod.mk.injEq] at h
            obtain ⟨rfl, rfl⟩ := h
            obtain ⟨g, c2, hv, _, hlt⟩ := World.ownsRow.form ho (by omega)
            subst hv
            exact ⟨g, c2, xa, cp, by rw [hR], hlt, World.ownsRow.cellAt ho 0 (by omega), World.ownsRow.cellAt ho 1 (by omega), World.ownsRow.cellAt ho 2 (by omega), hy2, by rw [← hR]; exact hcp, hb2⟩
          · cases h
        have huI : (u : Int) ≤ 1099511627777 := by omega
        have hvI : (v : Int) ≤ 1099511627777 := by omega
        have hstI : (st : Int) ≤ 1099511627777 := by omega
        have hnone : ∀ hx : ¬ (((u : Int) = first ∧ (v : Int) = count ∧ 1 ≤ v ∧ 1 ≤ st ∧ st ≤ 64) ∧ (mDec r0).2 = 0 ∧ fitB (mDec r0).1 u v st foot = true), Hid (clS l num first count foot = 0 ∧ clE l num first count foot = 70 ∧ clM l num first count foot = []) := fun hx => by
          obtain ⟨h1, h2, h3⟩ := cl_none (l := l) (num := num) (first := first) (count := count) (foot := foot) (by rw [hclr, if_neg hx])
          exact ⟨h2, h1, h3⟩
        by_cases hq1 : (u : Int) = first
        · have hb1u : ((u : Int) != first) = false := by simp; omega
          by_cases hq2 : (v : Int) = count
          · have hb2v : ((v : Int) != count) = false := by simp; omega
            by_cases hq3 : 1 ≤ v
            · have hb3v : ¬ (v : Int) < 1 := by omega
              by_cases hq4 : 1 ≤ st ∧ st ≤ 64
              · have HST : Hid (stB (st : Int) = true) := decide_eq_true ⟨by omega, by omega⟩
                obtain ⟨MM, hMM⟩ : ∃ M, (mDec r0).1 = M := ⟨_, rfl⟩
                obtain ⟨ee, hee⟩ : ∃ e, (mDec r0).2 = e := ⟨_, rfl⟩
                obtain ⟨ml, hmlen⟩ : ∃ k, MM.length = k := ⟨_, rfl⟩
                have HR0 : Hid (r0.length = R ∧ (mDec r0).2 = ee ∧ (mDec r0).1 = MM) := ⟨hR, hee, hMM⟩
                have HML : Hid (MM.length = ml) := hmlen
                rw [hee, hMM] at hclr hnone
                by_cases hee0 : ee = 0
                · subst hee0
                  have hml5 : ml ≤ 512 := by
                    rw [← hmlen]
                    exact valid_len (mDec_ok r0 MM (fun z hz => by
                      obtain ⟨_, h2, _⟩ := nrd_form 3 _ b1 _ _ hr
                      exact b1 z (by rw [h2]; exact List.mem_append_right _ hz)) (by rw [← hMM, ← hee])).1
                  by_cases hfit : fitB MM u v st foot = true
                  · have HFI : Hid (∀ w' a4 c4, Marks w' a4 MM → Calls Tryd.prog 49 #[.slice a4 ml c4, SeV num first count foot, .int .i64 (st : Int)] w' fun e w'' => e = .returned (.bool true) ∧ Below w'.heap.size w' w'') := fun w' a4 c4 hmk => by
                      have h2 := fits_any MM ml a4 c4 num foot u v st w' hmlen hmk hml5 hu hv hq4.1 hq4.2
                      rw [hfit, hq1, hq2] at h2
                      exact h2
                    have HCS : Hid (clS l num first count foot = st ∧ clE l num first count foot = 0 ∧ clM l num first count foot = MM) := by
                      obtain ⟨h1, h2, h3⟩ := cl_some (by rw [hclr, if_pos ⟨⟨hq1, hq2, hq3, hq4⟩, rfl, hfit⟩] : clR l num first count foot = some (MM, st))
                      exact ⟨h2, h1, h3⟩
                    clear hr hP hS hB b1 b2 b3 b4 b5 b6 b7 h0 hE hwb hSN hclr hnone hMM hmlen hR hfit hq1 hq2 hee
                    go_enter Tryd.func23, Tryd.ntmps23
                    go_wp2_with (first
                      | (go_at_call 47; refine (fwhole_any l 3 m ab capb _ HB.out.2.1 (HB.out.1.keep HW0.out.1) (by rw [HB.out.2.1]; omega) (by rw [HB.out.2.1]; omega) (HB.out.2.2.keep HW0.out.1)).mono ?_; rintro r w1 ⟨v1, rfl, ho1, hb1⟩; rw [HWV.out v1]; obtain ⟨a1, c1, hv1, hc1, _, hy1, _⟩ := ho1.shape; rw [HBL.out] at hv1 hc1; subst hv1; have HB1 : Hid (Below w.heap.size w w1 ∧ Bytes w1 a1 (whB l 3) ∧ B ≤ c1 ∧ SeAt w1 w.heap.size num first count foot) := ⟨HW0.out.1.trans (hb1.mono HW0.out.1.size), hy1, hc1, HW0.out.2.keep hb1⟩; obtain ⟨n0, n1, n2, n3⟩ := HB1.out.2.2.2.cells; have hlw1 : w.heap.size < w1.heap.size := lt_of_heap HB1.out.2.2.2; clear ho1 hb1 hy1 hc1)
                      | (go_at_call 37; refine (HARM.out _ _ _ (HB1.out.2.1.keep ((Below.refl _ _).alloc (Nat.le_refl _) _)) HB1.out.2.2.1).mono ?_; rintro e w2 ⟨g, c2, xa, cp, rfl, hlt, k0, k1, k2, hyr, hcp, hb2⟩; have hb2w := ((Below.refl w1.heap.size w1).alloc (Nat.le_refl _) _).trans (hb2.mono (by simp)); have HB2 : Hid (Below w.heap.size w w2 ∧ Bytes w2 xa r0 ∧ R ≤ cp ∧ SeAt w2 w.heap.size num first count foot) := ⟨below_next HB1.out.1 hb2w, hyr, hcp, HB1.out.2.2.2.keep hb2w⟩; obtain ⟨o0, o1, o2, o3⟩ := HB2.out.2.2.2.cells; have hlw2 : w.heap.size < w2.heap.size := lt_of_heap HB2.out.2.2.2; clear hb2 hb2w hyr hcp)
                      | fail)
                    have hqs : ∀ w0, Calls Tryd.prog 45 #[.int .i64 (st : Int)] w0 fun e w1 => e = .returned (.bool true) ∧ w1 = w0 := fun w0 => by have h := isStride_q (st : Int) w0; rw [HST.out] at h; exact h
                    have HQQ : Hid (_) := hqs
                    clear hqs
                    go_quiet ((go_at_call 45; exact Calls.quiet_of_same (HQQ.out _)))
                    go_wp2_with (first
                      | (go_at_call 48; refine (idec_any r0 R xa cp _ HR0.out.1 (HB2.out.2.1.keep (below_drewN (Below.refl _ _) _)) HB2.out.2.2.1 (by omega)).mono ?_; rw [HR0.out.2.1, HR0.out.2.2]; rintro r w4 ⟨v4, rfl, ho4, hb4⟩; obtain ⟨a4, c4, hv4, _, _, hy4, _⟩ := ho4.shape; rw [HML.out] at hv4; subst hv4; have hb4w := (below_drewN (Below.refl w2.heap.size w2) _).trans hb4; have HB4 : Hid (Below w.heap.size w w4 ∧ OwnM w4 w.heap.size (.slice a4 ml c4) MM ∧ Marks w4 a4 MM ∧ SeAt w4 w.heap.size num first count foot) := ⟨below_next HB2.out.1 hb4w, World.ownsRow.mono (base' := w.heap.size) ho4 HB2.out.1.size, hy4, HB2.out.2.2.2.keep hb4w⟩; clear ho4 hb4 hy4 hb4w)
                      | ((with_reducible refine frm_loadg 51 ?_); refine wpList_load_seg4g rfl _ rfl HB4.out.2.2.2 rfl ?_)
                      | (go_at_call 49; refine (HFI.out _ _ _ HB4.out.2.2.1).mono ?_; rintro r w5 ⟨rfl, hb5⟩; have HB5 : Hid (Below w.heap.size w w5 ∧ OwnM w5 w.heap.size (.slice a4 ml c4) MM) := ⟨below_next HB4.out.1 hb5, HB4.out.2.1.keep hb5⟩; clear hb5)
                      | fail)
                    go_ret3
                    exact ⟨.slice a4 ml c4, by rw [HCS.out.1, HCS.out.2.1]; rfl, by rw [HCS.out.2.2]; exact HB5.out.2, HB5.out.1⟩
                  · have hfit0 : fitB MM u v st foot = false := by simpa using hfit
                    have HFI : Hid (∀ w' a4 c4, Marks w' a4 MM → Calls Tryd.prog 49 #[.slice a4 ml c4, SeV num first count foot, .int .i64 (st : Int)] w' fun e w'' => e = .returned (.bool false) ∧ Below w'.heap.size w' w'') := fun w' a4 c4 hmk => by
                      have h2 := fits_any MM ml a4 c4 num foot u v st w' hmlen hmk hml5 hu hv hq4.1 hq4.2
                      rw [hfit0, hq1, hq2] at h2
                      exact h2
                    have HCL := hnone (fun h => hfit h.2.2)
                    clear hr hP hS hB b1 b2 b3 b4 b5 b6 b7 h0 hE hwb hSN hclr hnone hMM hmlen hR hfit hfit0 hq1 hq2 hee
                    go_enter Tryd.func23, Tryd.ntmps23
                    go_wp2_with (first
                      | (go_at_call 47; refine (fwhole_any l 3 m ab capb _ HB.out.2.1 (HB.out.1.keep HW0.out.1) (by rw [HB.out.2.1]; omega) (by rw [HB.out.2.1]; omega) (HB.out.2.2.keep HW0.out.1)).mono ?_; rintro r w1 ⟨v1, rfl, ho1, hb1⟩; rw [HWV.out v1]; obtain ⟨a1, c1, hv1, hc1, _, hy1, _⟩ := ho1.shape; rw [HBL.out] at hv1 hc1; subst hv1; have HB1 : Hid (Below w.heap.size w w1 ∧ Bytes w1 a1 (whB l 3) ∧ B ≤ c1 ∧ SeAt w1 w.heap.size num first count foot) := ⟨HW0.out.1.trans (hb1.mono HW0.out.1.size), hy1, hc1, HW0.out.2.keep hb1⟩; obtain ⟨n0, n1, n2, n3⟩ := HB1.out.2.2.2.cells; have hlw1 : w.heap.size < w1.heap.size := lt_of_heap HB1.out.2.2.2; clear ho1 hb1 hy1 hc1)
                      | (go_at_call 37; refine (HARM.out _ _ _ (HB1.out.2.1.keep ((Below.refl _ _).alloc (Nat.le_refl _) _)) HB1.out.2.2.1).mono ?_; rintro e w2 ⟨g, c2, xa, cp, rfl, hlt, k0, k1, k2, hyr, hcp, hb2⟩; have hb2w := ((Below.refl w1.heap.size w1).alloc (Nat.le_refl _) _).trans (hb2.mono (by simp)); have HB2 : Hid (Below w.heap.size w w2 ∧ Bytes w2 xa r0 ∧ R ≤ cp ∧ SeAt w2 w.heap.size num first count foot) := ⟨below_next HB1.out.1 hb2w, hyr, hcp, HB1.out.2.2.2.keep hb2w⟩; obtain ⟨o0, o1, o2, o3⟩ := HB2.out.2.2.2.cells; have hlw2 : w.heap.size < w2.heap.size := lt_of_heap HB2.out.2.2.2; clear hb2 hb2w hyr hcp)
                      | fail)
                    have hqs : ∀ w0, Calls Tryd.prog 45 #[.int .i64 (st : Int)] w0 fun e w1 => e = .returned (.bool true) ∧ w1 = w0 := fun w0 => by have h := isStride_q (st : Int) w0; rw [HST.out] at h; exact h
                    have HQQ : Hid (_) := hqs
                    clear hqs
                    go_quiet ((go_at_call 45; exact Calls.quiet_of_same (HQQ.out _)))
                    go_wp2_with (first
                      | (go_at_call 48; refine (idec_any r0 R xa cp _ HR0.out.1 (HB2.out.2.1.keep (below_drewN (Below.refl _ _) _)) HB2.out.2.2.1 (by omega)).mono ?_; rw [HR0.out.2.1, HR0.out.2.2]; rintro r w4 ⟨v4, rfl, ho4, hb4⟩; obtain ⟨a4, c4, hv4, _, _, hy4, _⟩ := ho4.shape; rw [HML.out] at hv4; subst hv4; have hb4w := (below_drewN (Below.refl w2.heap.size w2) _).trans hb4; have HB4 : Hid (Below w.heap.size w w4 ∧ OwnM w4 w.heap.size (.slice a4 ml c4) MM ∧ Marks w4 a4 MM ∧ SeAt w4 w.heap.size num first count foot) := ⟨below_next HB2.out.1 hb4w, World.ownsRow.mono (base' := w.heap.size) ho4 HB2.out.1.size, hy4, HB2.out.2.2.2.keep hb4w⟩; clear ho4 hb4 hy4 hb4w)
                      | ((with_reducible refine frm_loadg 51 ?_); refine wpList_load_seg4g rfl _ rfl HB4.out.2.2.2 rfl ?_)
                      | (go_at_call 49; refine (HFI.out _ _ _ HB4.out.2.2.1).mono ?_; rintro r w5 ⟨rfl, hb5⟩; have HB5 : Hid (Below w.heap.size w w5 ∧ OwnM w5 w.heap.size (.slice a4 ml c4) MM) := ⟨below_next HB4.out.1 hb5, HB4.out.2.1.keep hb5⟩; clear hb5)
                      | fail)
                    go_ret3
                    exact ⟨.slice none 0 0, by rw [HCL.out.1, HCL.out.2.1]; rfl, by rw [HCL.out.2.2]; exact OwnM.nil _ _, HB5.out.1⟩
                · have HCL := hnone (fun h => hee0 h.2.1)
                  have heI : ((ee : Int) != 0) = true := by simp; omega
                  clear hr hP hS hB b1 b2 b3 b4 b5 b6 b7 h0 hE hwb hSN hclr hnone hMM hmlen hR hq1 hq2 hee
                  go_enter Tryd.func23, Tryd.ntmps23
                  go_wp2_with (first
                    | (go_at_call 47; refine (fwhole_any l 3 m ab capb _ HB.out.2.1 (HB.out.1.keep HW0.out.1) (by rw [HB.out.2.1]; omega) (by rw [HB.out.2.1]; omega) (HB.out.2.2.keep HW0.out.1)).mono ?_; rintro r w1 ⟨v1, rfl, ho1, hb1⟩; rw [HWV.out v1]; obtain ⟨a1, c1, hv1, hc1, _, hy1, _⟩ := ho1.shape; rw [HBL.out] at hv1 hc1; subst hv1; have HB1 : Hid (Below w.heap.size w w1 ∧ Bytes w1 a1 (whB l 3) ∧ B ≤ c1 ∧ SeAt w1 w.heap.size num first count foot) := ⟨HW0.out.1.trans (hb1.mono HW0.out.1.size), hy1, hc1, HW0.out.2.keep hb1⟩; obtain ⟨n0, n1, n2, n3⟩ := HB1.out.2.2.2.cells; have hlw1 : w.heap.size < w1.heap.size := lt_of_heap HB1.out.2.2.2; clear ho1 hb1 hy1 hc1)
                    | (go_at_call 37; refine (HARM.out _ _ _ (HB1.out.2.1.keep ((Below.refl _ _).alloc (Nat.le_refl _) _)) HB1.out.2.2.1).mono ?_; rintro e w2 ⟨g, c2, xa, cp, rfl, hlt, k0, k1, k2, hyr, hcp, hb2⟩; have hb2w := ((Below.refl w1.heap.size w1).alloc (Nat.le_refl _) _).trans (hb2.mono (by simp)); have HB2 : Hid (Below w.heap.size w w2 ∧ Bytes w2 xa r0 ∧ R ≤ cp ∧ SeAt w2 w.heap.size num first count foot) := ⟨below_next HB1.out.1 hb2w, hyr, hcp, HB1.out.2.2.2.keep hb2w⟩; obtain ⟨o0, o1, o2, o3⟩ := HB2.out.2.2.2.cells; have hlw2 : w.heap.size < w2.heap.size := lt_of_heap HB2.out.2.2.2; clear hb2 hb2w hyr hcp)
                    | fail)
                  have hqs : ∀ w0, Calls Tryd.prog 45 #[.int .i64 (st : Int)] w0 fun e w1 => e = .returned (.bool true) ∧ w1 = w0 := fun w0 => by have h := isStride_q (st : Int) w0; rw [HST.out] at h; exact h
                  have HQQ : Hid (_) := hqs
                  clear hqs
                  go_quiet ((go_at_call 45; exact Calls.quiet_of_same (HQQ.out _)))
                  go_wp2_with (first
                    | (go_at_call 48; refine (idec_any r0 R xa cp _ HR0.out.1 (HB2.out.2.1.keep (below_drewN (Below.refl _ _) _)) HB2.out.2.2.1 (by omega)).mono ?_; rw [HR0.out.2.1, HR0.out.2.2]; rintro r w4 ⟨v4, rfl, ho4, hb4⟩; obtain ⟨a4, c4, hv4, _, _, hy4, _⟩ := ho4.shape; rw [HML.out] at hv4; subst hv4; have hb4w := (below_drewN (Below.refl w2.heap.size w2) _).trans hb4; have HB4 : Hid (Below w.heap.size w w4 ∧ OwnM w4 w.heap.size (.slice a4 ml c4) MM ∧ Marks w4 a4 MM ∧ SeAt w4 w.heap.size num first count foot) := ⟨below_next HB2.out.1 hb4w, World.ownsRow.mono (base' := w.heap.size) ho4 HB2.out.1.size, hy4, HB2.out.2.2.2.keep hb4w⟩; clear ho4 hb4 hy4 hb4w)
                    | fail)
                  go_ret3
                  exact ⟨.slice none 0 0, by rw [HCL.out.1, HCL.out.2.1]; rfl, by rw [HCL.out.2.2]; exact OwnM.nil _ _, HB4.out.1⟩
              · have HST : Hid (stB (st : Int) = false) := decide_eq_false (fun h => hq4 ⟨by omega, by omega⟩)
                have HCL := hnone (fun h => hq4 h.1.2.2.2)
                clear hr hP hS hB b1 b2 b3 b4 b5 b6 b7 h0 hE hwb hSN hclr hnone hR hq1 hq2
                go_enter Tryd.func23, Tryd.ntmps23
                go_wp2_with (first
                  | (go_at_call 47; refine (fwhole_any l 3 m ab capb _ HB.out.2.1 (HB.out.1.keep HW0.out.1) (by rw [HB.out.2.1]; omega) (by rw [HB.out.2.1]; omega) (HB.out.2.2.keep HW0.out.1)).mono ?_; rintro r w1 ⟨v1, rfl, ho1, hb1⟩; rw [HWV.out v1]; obtain ⟨a1, c1, hv1, hc1, _, hy1, _⟩ := ho1.shape; rw [HBL.out] at hv1 hc1; subst hv1; have HB1 : Hid (Below w.heap.size w w1 ∧ Bytes w1 a1 (whB l 3) ∧ B ≤ c1 ∧ SeAt w1 w.heap.size num first count foot) := ⟨HW0.out.1.trans (hb1.mono HW0.out.1.size), hy1, hc1, HW0.out.2.keep hb1⟩; obtain ⟨n0, n1, n2, n3⟩ := HB1.out.2.2.2.cells; have hlw1 : w.heap.size < w1.heap.size := lt_of_heap HB1.out.2.2.2; clear ho1 hb1 hy1 hc1)
                  | (go_at_call 37; refine (HARM.out _ _ _ (HB1.out.2.1.keep ((Below.refl _ _).alloc (Nat.le_refl _) _)) HB1.out.2.2.1).mono ?_; rintro e w2 ⟨g, c2, xa, cp, rfl, hlt, k0, k1, k2, hyr, hcp, hb2⟩; have hb2w := ((Below.refl w1.heap.size w1).alloc (Nat.le_refl _) _).trans (hb2.mono (by simp)); have HB2 : Hid (Below w.heap.size w w2 ∧ Bytes w2 xa r0 ∧ R ≤ cp ∧ SeAt w2 w.heap.size num first count foot) := ⟨below_next HB1.out.1 hb2w, hyr, hcp, HB1.out.2.2.2.keep hb2w⟩; obtain ⟨o0, o1, o2, o3⟩ := HB2.out.2.2.2.cells; have hlw2 : w.heap.size < w2.heap.size := lt_of_heap HB2.out.2.2.2; clear hb2 hb2w hyr hcp)
                  | fail)
                have hqs : ∀ w0, Calls Tryd.prog 45 #[.int .i64 (st : Int)] w0 fun e w1 => e = .returned (.bool false) ∧ w1 = w0 := fun w0 => by have h := isStride_q (st : Int) w0; rw [HST.out] at h; exact h
                have HQQ : Hid (_) := hqs
                clear hqs
                go_quiet ((go_at_call 45; exact Calls.quiet_of_same (HQQ.out _)))
                go_wp2
                go_ret3
                exact ⟨.slice none 0 0, by rw [HCL.out.1, HCL.out.2.1]; rfl, by rw [HCL.out.2.2]; exact OwnM.nil _ _, below_drewN HB2.out.1 _⟩
            · have hb3v : (v : Int) < 1 := by omega
              have HCL := hnone (fun h => hq3 h.1.2.2.1)
              clear hr hP hS hB b1 b2 b3 b4 b5 b6 b7 h0 hE hwb hSN hclr hnone hR hq1 hq2
              go_enter Tryd.func23, Tryd.ntmps23
              go_wp2_with (first
                | (go_at_call 47; refine (fwhole_any l 3 m ab capb _ HB.out.2.1 (HB.out.1.keep HW0.out.1) (by rw [HB.out.2.1]; omega) (by rw [HB.out.2.1]; omega) (HB.out.2.2.keep HW0.out.1)).mono ?_; rintro r w1 ⟨v1, rfl, ho1, hb1⟩; rw [HWV.out v1]; obtain ⟨a1, c1, hv1, hc1, _, hy1, _⟩ := ho1.shape; rw [HBL.out] at hv1 hc1; subst hv1; have HB1 : Hid (Below w.heap.size w w1 ∧ Bytes w1 a1 (whB l 3) ∧ B ≤ c1 ∧ SeAt w1 w.heap.size num first count foot) := ⟨HW0.out.1.trans (hb1.mono HW0.out.1.size), hy1, hc1, HW0.out.2.keep hb1⟩; obtain ⟨n0, n1, n2, n3⟩ := HB1.out.2.2.2.cells; have hlw1 : w.heap.size < w1.heap.size := lt_of_heap HB1.out.2.2.2; clear ho1 hb1 hy1 hc1)
                | (go_at_call 37; refine (HARM.out _ _ _ (HB1.out.2.1.keep ((Below.refl _ _).alloc (Nat.le_refl _) _)) HB1.out.2.2.1).mono ?_; rintro e w2 ⟨g, c2, xa, cp, rfl, hlt, k0, k1, k2, hyr, hcp, hb2⟩; have hb2w := ((Below.refl w1.heap.size w1).alloc (Nat.le_refl _) _).trans (hb2.mono (by simp)); have HB2 : Hid (Below w.heap.size w w2 ∧ Bytes w2 xa r0 ∧ R ≤ cp ∧ SeAt w2 w.heap.size num first count foot) := ⟨below_next HB1.out.1 hb2w, hyr, hcp, HB1.out.2.2.2.keep hb2w⟩; obtain ⟨o0, o1, o2, o3⟩ := HB2.out.2.2.2.cells; have hlw2 : w.heap.size < w2.heap.size := lt_of_heap HB2.out.2.2.2; clear hb2 hb2w hyr hcp)
                | fail)
              go_quiet (fail)
              go_wp2
              go_ret3
              exact ⟨.slice none 0 0, by rw [HCL.out.1, HCL.out.2.1]; rfl, by rw [HCL.out.2.2]; exact OwnM.nil _ _, below_drewN HB2.out.1 _⟩
          · have hb2v : ((v : Int) != count) = true := by simp; omega
            have HCL := hnone (fun h => hq2 h.1.2.1)
            clear hr hP hS hB b1 b2 b3 b4 b5 b6 b7 h0 hE hwb hSN hclr hnone hR hq1
            go_enter Tryd.func23, Tryd.ntmps23
            go_wp2_with (first
              | (go_at_call 47; refine (fwhole_any l 3 m ab capb _ HB.out.2.1 (HB.out.1.keep HW0.out.1) (by rw [HB.out.2.1]; omega) (by rw [HB.out.2.1]; omega) (HB.out.2.2.keep HW0.out.1)).mono ?_; rintro r w1 ⟨v1, rfl, ho1, hb1⟩; rw [HWV.out v1]; obtain ⟨a1, c1, hv1, hc1, _, hy1, _⟩ := ho1.shape; rw [HBL.out] at hv1 hc1; subst hv1; have HB1 : Hid (Below w.heap.size w w1 ∧ Bytes w1 a1 (whB l 3) ∧ B ≤ c1 ∧ SeAt w1 w.heap.size num first count foot) := ⟨HW0.out.1.trans (hb1.mono HW0.out.1.size), hy1, hc1, HW0.out.2.keep hb1⟩; obtain ⟨n0, n1, n2, n3⟩ := HB1.out.2.2.2.cells; have hlw1 : w.heap.size < w1.heap.size := lt_of_heap HB1.out.2.2.2; clear ho1 hb1 hy1 hc1)
              | (go_at_call 37; refine (HARM.out _ _ _ (HB1.out.2.1.keep ((Below.refl _ _).alloc (Nat.le_refl _) _)) HB1.out.2.2.1).mono ?_; rintro e w2 ⟨g, c2, xa, cp, rfl, hlt, k0, k1, k2, hyr, hcp, hb2⟩; have hb2w := ((Below.refl w1.heap.size w1).alloc (Nat.le_refl _) _).trans (hb2.mono (by simp)); have HB2 : Hid (Below w.heap.size w w2 ∧ Bytes w2 xa r0 ∧ R ≤ cp ∧ SeAt w2 w.heap.size num first count foot) := ⟨below_next HB1.out.1 hb2w, hyr, hcp, HB1.out.2.2.2.keep hb2w⟩; obtain ⟨o0, o1, o2, o3⟩ := HB2.out.2.2.2.cells; have hlw2 : w.heap.size < w2.heap.size := lt_of_heap HB2.out.2.2.2; clear hb2 hb2w hyr hcp)
              | fail)
            go_quiet (fail)
            go_wp2
            go_ret3
            exact ⟨.slice none 0 0, by rw [HCL.out.1, HCL.out.2.1]; rfl, by rw [HCL.out.2.2]; exact OwnM.nil _ _, below_drewN HB2.out.1 _⟩
        · have hb1u : ((u : Int) != first) = true := by simp; omega
          have HCL := hnone (fun h => hq1 h.1.1)
          clear hr hP hS hB b1 b2 b3 b4 b5 b6 b7 h0 hE hwb hSN hclr hnone hR
          go_enter Tryd.func23, Tryd.ntmps23
          go_wp2_with (first
            | (go_at_call 47; refine (fwhole_any l 3 m ab capb _ HB.out.2.1 (HB.out.1.keep HW0.out.1) (by rw [HB.out.2.1]; omega) (by rw [HB.out.2.1]; omega) (HB.out.2.2.keep HW0.out.1)).mono ?_; rintro r w1 ⟨v1, rfl, ho1, hb1⟩; rw [HWV.out v1]; obtain ⟨a1, c1, hv1, hc1, _, hy1, _⟩ := ho1.shape; rw [HBL.out] at hv1 hc1; subst hv1; have HB1 : Hid (Below w.heap.size w w1 ∧ Bytes w1 a1 (whB l 3) ∧ B ≤ c1 ∧ SeAt w1 w.heap.size num first count foot) := ⟨HW0.out.1.trans (hb1.mono HW0.out.1.size), hy1, hc1, HW0.out.2.keep hb1⟩; obtain ⟨n0, n1, n2, n3⟩ := HB1.out.2.2.2.cells; have hlw1 : w.heap.size < w1.heap.size := lt_of_heap HB1.out.2.2.2; clear ho1 hb1 hy1 hc1)
            | (go_at_call 37; refine (HARM.out _ _ _ (HB1.out.2.1.keep ((Below.refl _ _).alloc (Nat.le_refl _) _)) HB1.out.2.2.1).mono ?_; rintro e w2 ⟨g, c2, xa, cp, rfl, hlt, k0, k1, k2, hyr, hcp, hb2⟩; have hb2w := ((Below.refl w1.heap.size w1).alloc (Nat.le_refl _) _).trans (hb2.mono (by simp)); have HB2 : Hid (Below w.heap.size w w2 ∧ Bytes w2 xa r0 ∧ R ≤ cp ∧ SeAt w2 w.heap.size num first count foot) := ⟨below_next HB1.out.1 hb2w, hyr, hcp, HB1.out.2.2.2.keep hb2w⟩; obtain ⟨o0, o1, o2, o3⟩ := HB2.out.2.2.2.cells; have hlw2 : w.heap.size < w2.heap.size := lt_of_heap HB2.out.2.2.2; clear hb2 hb2w hyr hcp)
            | fail)
          go_quiet (fail)
          go_wp2
          go_ret3
          exact ⟨.slice none 0 0, by rw [HCL.out.1, HCL.out.2.1]; rfl, by rw [HCL.out.2.2]; exact OwnM.nil _ _, below_drewN HB2.out.1 _⟩
    · have hSb : ((S : Int) != num) = true := by simp; omega
      have HCL : Hid (clS l num first count foot = 0 ∧ clE l num first count foot = 70 ∧ clM l num first count foot = []) := by
        obtain ⟨h1, h2, h3⟩ := cl_none (l := l) (num := num) (first := first) (count := count) (foot := foot) (by unfold clR; rw [if_neg (fun h => hSN (by rw [← hS]; exact h.2))])
        exact ⟨h2, h1, h3⟩
      clear hP hS hB b1 b2 b3 b4 b5 b6 b7 h0 hE hwb hSN
      go_enter Tryd.func23, Tryd.ntmps23
      go_wp2_with (first
        | (go_at_call 47; refine (fwhole_any l 3 m ab capb _ HB.out.2.1 (HB.out.1.keep HW0.out.1) (by rw [HB.out.2.1]; omega) (by rw [HB.out.2.1]; omega) (HB.out.2.2.keep HW0.out.1)).mono ?_; rintro r w1 ⟨v1, rfl, ho1, hb1⟩; rw [HWV.out v1]; obtain ⟨a1, c1, hv1, hc1, _, hy1, _⟩ := ho1.shape; rw [HBL.out] at hv1 hc1; subst hv1; have HB1 : Hid (Below w.heap.size w w1 ∧ Bytes w1 a1 (whB l 3) ∧ B ≤ c1 ∧ SeAt w1 w.heap.size num first count foot) := ⟨HW0.out.1.trans (hb1.mono HW0.out.1.size), hy1, hc1, HW0.out.2.keep hb1⟩; obtain ⟨n0, n1, n2, n3⟩ := HB1.out.2.2.2.cells; have hlw1 : w.heap.size < w1.heap.size := lt_of_heap HB1.out.2.2.2; clear ho1 hb1 hy1 hc1)
        | fail)
      go_ret3
      exact ⟨.slice none 0 0, by rw [HCL.out.1, HCL.out.2.1]; rfl, by rw [HCL.out.2.2]; exact OwnM.nil _ _, HB1.out.1.alloc HB1.out.1.size _⟩
  · obtain ⟨e, he⟩ : ∃ e, whE l 3 = e := ⟨_, rfl⟩
    have HWV : Hid (∀ v, WV l 3 v = .tuple #[FrV 0 0 v, .int .i64 (e : Int)]) := fun v => (wv_bad l 3 v e he (by omega)).1
    obtain ⟨B, hB⟩ : ∃ B, (whB l 3).length = B := ⟨_, rfl⟩
    have HBL : Hid ((whB l 3).length = B) := hB
    have HCL : Hid (clS l num first count foot = 0 ∧ clE l num first count foot = 70 ∧ clM l num first count foot = []) := by
      obtain ⟨h1, h2, h3⟩ := cl_none (l := l) (num := num) (first := first) (count := count) (foot := foot) (by unfold clR; rw [if_neg (fun h => hE h.1)])
      exact ⟨h2, h1, h3⟩
    have heI : ((e : Int) != 0) = true := by simp; omega
    clear hE he hB
    go_enter Tryd.func23, Tryd.ntmps23
    go_wp2_with (first
      | (go_at_call 47; refine (fwhole_any l 3 m ab capb _ HB.out.2.1 (HB.out.1.keep HW0.out.1) (by rw [HB.out.2.1]; omega) (by rw [HB.out.2.1]; omega) (HB.out.2.2.keep HW0.out.1)).mono ?_; rintro r w1 ⟨v1, rfl, ho1, hb1⟩; rw [HWV.out v1]; obtain ⟨a1, c1, hv1, hc1, _, hy1, _⟩ := ho1.shape; rw [HBL.out] at hv1 hc1; subst hv1; have HB1 : Hid (Below w.heap.size w w1 ∧ Bytes w1 a1 (whB l 3) ∧ B ≤ c1 ∧ SeAt w1 w.heap.size num first count foot) := ⟨HW0.out.1.trans (hb1.mono HW0.out.1.size), hy1, hc1, HW0.out.2.keep hb1⟩; obtain ⟨n0, n1, n2, n3⟩ := HB1.out.2.2.2.cells; have hlw1 : w.heap.size < w1.heap.size := lt_of_heap HB1.out.2.2.2; clear ho1 hb1 hy1 hc1)
      | fail)
    go_ret3
    exact ⟨.slice none 0 0, by rw [HCL.out.1, HCL.out.2.1]; rfl, by rw [HCL.out.2.2]; exact OwnM.nil _ _, HB1.out.1.alloc HB1.out.1.size _⟩
end Go.Proofs.YtaegmeilhdbnnaaDoor
namespace Go.Proofs.YtaegmeilhdbnnaaDoor
set_option linter.unusedVariables false
theorem closed_reg (l : List Nat) (hl : ∀ x ∈ l, x < 256) (h4 : 4 ≤ l.length) : closedB l = decide (Crcm.upd Crcm.ones l = Crcm.shN 32 Crcm.ones) := by
  unfold closedB
  have h := Crcm.closed_iff (l.take (l.length - 4)) (l.drop (l.length - 4)) (fun x hx => hl x (List.mem_of_mem_take hx)) (fun x hx => hl x (List.mem_of_mem_drop hx)) (by rw [List.length_drop]; omega)
  rw [List.take_append_drop] at h
  rw [decide_eq_decide]
  exact ⟨fun hh => h.1 hh.2, fun hh => ⟨h4, h.2 hh⟩⟩
theorem told (l t : List Nat) (at0 P : Nat) (hl : ∀ x ∈ l, x < 256) (ht : ∀ x ∈ t, x < 256) (hn : t.length = l.length) (h4 : 4 ≤ l.length) (hP : P < 2 ^ 32) (hat : at0 < 8 * l.length) (hc : closedB l = true)
    (hv : Crcm.val t = Crcm.val l ^^^ turned at0 P (8 * l.length - at0) 32) : closedB t = decide (t = l) := by
  rw [closed_reg l hl h4] at hc
  rw [closed_reg t ht (by omega), decide_eq_decide]
  have hcl : Crcm.upd Crcm.ones l = Crcm.shN 32 Crcm.ones := of_decide_eq_true hc
  have hE : turned at0 P (8 * l.length - at0) 32 = 2 ^ at0 * (P % 2 ^ (8 * l.length - at0)) := by
    unfold turned
    by_cases hm : 8 * l.length - at0 ≤ 32
    · rw [Nat.min_eq_right hm]
    · rw [Nat.min_eq_left (by omega), Nat.mod_eq_of_lt hP, Nat.mod_eq_of_lt (Nat.lt_of_lt_of_le hP (Nat.pow_le_pow_right (by omega) (by omega)))]
  constructor
  · intro h
    rw [← hcl, Crcm.upd_val _ t ht, Crcm.upd_val _ l hl, hn, hv, hE] at h
    have h0 := Crcm.burst l.length at0 P hP hat Crcm.ones (Crcm.val l) h
    rw [hE, h0, Nat.mul_zero, Nat.xor_zero] at hv
    exact Crcm.val_inj t l ht hl hn hv
  · intro h
    rw [h]
    exact hcl
theorem val_low (l m : List Nat) (hl : ∀ x ∈ l, x < 256) : Crcm.val (l ++ m) % 2 ^ (8 * l.length) = Crcm.val l := by
  rw [Crcm.val_append, Nat.add_mul_mod_self_left, Nat.mod_eq_of_lt (Crcm.val_lt l hl)]
theorem val_high (l m : List Nat) (hl : ∀ x ∈ l, x < 256) : Crcm.val (l ++ m) / 2 ^ (8 * l.length) = Crcm.val m := by
  rw [Crcm.val_append, Nat.add_mul_div_left _ _ (Nat.two_pow_pos _), Nat.div_eq_of_lt (Crcm.val_lt l hl), Nat.zero_add]
theorem pow_split (a b c : Nat) (h : a = b + c) : 2 ^ a = 2 ^ b * 2 ^ c := by rw [h, Nat.pow_add]
theorem pow_part (a n m P : Nat) (h : a ≤ n) : 2 ^ a * (P % 2 ^ m) % 2 ^ n = 2 ^ a * (P % 2 ^ (min m (n - a))) := by
  rw [show 2 ^ n = 2 ^ a * 2 ^ (n - a) from pow_split _ _ _ (by omega), Nat.mul_mod_mul_left]
  refine congrArg (fun z => 2 ^ a * z) ?_
  by_cases hm : m ≤ n - a
  · rw [Nat.min_eq_left hm, Nat.mod_eq_of_lt (Nat.lt_of_lt_of_le (Nat.mod_lt _ (Nat.two_pow_pos _)) (Nat.pow_le_pow_right (by omega) hm))]
  · rw [Nat.min_eq_right (by omega), Nat.mod_mod_of_dvd _ (Nat.pow_dvd_pow 2 (by omega))]
theorem burst_frame (k s : Nat) (body t : List Nat) (at0 P : Nat) (hb : ∀ y ∈ body, y < 256) (hk1 : 1 ≤ k) (hk7 : k ≤ 7) (hn : body.length ≤ 16384) (hs : s ≤ 1099511627776) (ht : ∀ x ∈ t, x < 256) (htl : t.length = (frameL k s body).length)
    (hP : P < 4294967296) (hat : at0 < 8 * (frameL k s body).length) (hv : Crcm.val t = Crcm.val (frameL k s body) ^^^ turned at0 P (8 * (frameL k s body).length - at0) 32) (hne : t ≠ frameL k s body) : decE t = 61 ∨ decE t = 62 := by
  have hL := frameL_length k s body
  have hH := headL_length k body.length s
  have hHl := headL_lt k body.length s (by omega)
  have hBl := foot_lt body hb
  have hBn : (body ++ Crcm.four (Crcm.sum body)).length = body.length + 4 := by rw [List.length_append, four_length]
  have hP2 : P < 2 ^ 32 := hP
  obtain ⟨t1, h1⟩ : ∃ t1, t1 = t.take 16 := ⟨_, rfl⟩
  obtain ⟨t2, h2⟩ : ∃ t2, t2 = t.drop 16 := ⟨_, rfl⟩
  have hT : t = t1 ++ t2 := by rw [h1, h2, List.take_append_drop]
  have h1n : t1.length = 16 := by rw [h1, List.length_take]; omega
  have h2n : t2.length = body.length + 4 := by rw [h2, List.length_drop]; omega
  have h1l : ∀ x ∈ t1, x < 256 := fun x hx => ht x (by rw [hT]; exact List.mem_append_left _ hx)
  have h2l : ∀ x ∈ t2, x < 256 := fun x hx => ht x (by rw [hT]; exact List.mem_append_right _ hx)
  have v1 := val_low t1 t2 h1l
  have v2 := val_high t1 t2 h1l
  have u1 := val_low (headL k body.length s) (body ++ Crcm.four (Crcm.sum body)) hHl
  have u2 := val_high (headL k body.length s) (body ++ Crcm.four (Crcm.sum body)) hHl
  rw [← hT, h1n] at v1 v2
  rw [hH] at u1 u2
  have hF : headL k body.length s ++ (body ++ Crcm.four (Crcm.sum body)) = frameL k s body := rfl
  rw [hF] at u1 u2
  have hcH : closedB (headL k body.length s) = true := closed_whole _ (head12_lt k body.length s (by omega))
  have hcB : closedB (body ++ Crcm.four (Crcm.sum body)) = true := closed_whole _ hb
  rw [hL] at hat hv
  have e1 : Crcm.val t1 = Crcm.val (headL k body.length s) ^^^ (turned at0 P (8 * (body.length + 20) - at0) 32 % 2 ^ (8 * 16)) := by rw [← v1, hv, Nat.xor_mod_two_pow, u1]
  have e2 : Crcm.val t2 = Crcm.val (body ++ Crcm.four (Crcm.sum body)) ^^^ (turned at0 P (8 * (body.length + 20) - at0) 32 / 2 ^ (8 * 16)) := by rw [← v2, hv, Nat.xor_div_two_pow, u2]
  by_cases hh : t1 = headL k body.length s
  · have hB : t2 ≠ body ++ Crcm.four (Crcm.sum body) := by
      intro hx
      apply hne
      rw [hT, hh, hx]
      rfl
    have hz : turned at0 P (8 * (body.length + 20) - at0) 32 % 2 ^ (8 * 16) = 0 := by
      rw [hh] at e1
      exact (Crcm.xor_inj (Crcm.val (headL k body.length s)) 0 (turned at0 P (8 * (body.length + 20) - at0) 32 % 2 ^ (8 * 16)) ((Nat.xor_zero _).trans e1)).symm
    have hcl : closedB t2 = decide (t2 = body ++ Crcm.four (Crcm.sum body)) := by
      by_cases ha : 128 ≤ at0
      · refine told _ t2 (at0 - 128) P hBl h2l (by rw [h2n, hBn]) (by rw [hBn]; omega) hP2 (by rw [hBn]; omega) hcB ?_
        rw [e2, hBn]
        refine congrArg (fun z => Crcm.val (body ++ Crcm.four (Crcm.sum body)) ^^^ z) ?_
        unfold turned
        rw [show 2 ^ at0 = 2 ^ (8 * 16) * 2 ^ (at0 - 128) from pow_split _ _ _ (by omega), Nat.mul_assoc, Nat.mul_div_cancel_left _ (Nat.two_pow_pos _), show 8 * (body.length + 4) - (at0 - 128) = 8 * (body.length + 20) - at0 from by omega]
      · have hd : turned at0 P (8 * (body.length + 20) - at0) 32 = 2 ^ (8 * 16) * (turned at0 P (8 * (body.length + 20) - at0) 32 / 2 ^ (8 * 16)) := by
          have := Nat.div_add_mod (turned at0 P (8 * (body.length + 20) - at0) 32) (2 ^ (8 * 16))
          rw [hz, Nat.add_zero] at this
          exact this.symm
        obtain ⟨Q, hQ⟩ : ∃ Q, turned at0 P (8 * (body.length + 20) - at0) 32 / 2 ^ (8 * 16) = Q := ⟨_, rfl⟩
        rw [hQ] at hd e2
        have hq1 : P % 2 ^ (min 32 (8 * (body.length + 20) - at0)) = 2 ^ (128 - at0) * Q := by
          unfold turned at hd
          rw [show 2 ^ (8 * 16) = 2 ^ at0 * 2 ^ (128 - at0) from pow_split _ _ _ (by omega), Nat.mul_assoc] at hd
          exact Nat.eq_of_mul_eq_mul_left (Nat.two_pow_pos _) hd
        have hq2 : Q < 2 ^ 32 := by
          have hp1 : P % 2 ^ (min 32 (8 * (body.length + 20) - at0)) ≤ P := Nat.mod_le _ _
          have hp2 : Q ≤ 2 ^ (128 - at0) * Q := Nat.le_mul_of_pos_left _ (Nat.two_pow_pos _)
          rw [hq1] at hp1
          exact Nat.lt_of_le_of_lt (Nat.le_trans hp2 hp1) hP2
        refine told _ t2 0 Q hBl h2l (by rw [h2n, hBn]) (by rw [hBn]; omega) hq2 (by rw [hBn]; omega) hcB ?_
        rw [e2, hBn]
        refine congrArg (fun z => Crcm.val (body ++ Crcm.four (Crcm.sum body)) ^^^ z) ?_
        unfold turned
        rw [Nat.min_eq_left (by omega), Nat.pow_zero, Nat.one_mul, Nat.mod_eq_of_lt hq2]
    have hf2 : closedB t2 = false := by rw [hcl]; simpa using hB
    right
    have hT2 : t = headL k body.length s ++ t2 := by rw [hT, hh]
    obtain ⟨p1, p2, p3, p4, p5⟩ := head_parts k body.length s t2 (by omega) (by omega)
    have p0 := peek_laid k body.length s t2 hk1 hk7 hn hs
    rw [← hT2] at p0 p2
    unfold decE
    rw [p0, p2, if_neg (by omega), if_neg (by omega), if_pos]
    rw [List.take_of_length_le (by omega), ← h2]
    exact hf2
  · have ha : at0 < 128 := by
      apply Decidable.byContradiction
      intro ha
      apply hh
      have hz : turned at0 P (8 * (body.length + 20) - at0) 32 % 2 ^ (8 * 16) = 0 := by
        unfold turned
        rw [show 2 ^ at0 = 2 ^ (8 * 16) * 2 ^ (at0 - 128) from pow_split _ _ _ (by omega), Nat.mul_assoc, Nat.mul_mod_right]
      rw [hz, Nat.xor_zero] at e1
      exact Crcm.val_inj t1 _ h1l hHl (by rw [h1n, hH]) e1
    have hcl : closedB t1 = decide (t1 = headL k body.length s) := by
      refine told _ t1 at0 P hHl h1l (by rw [h1n, hH]) (by rw [hH]; omega) hP2 (by rw [hH]; omega) hcH ?_
      rw [e1, hH]
      refine congrArg (fun z => Crcm.val (headL k body.length s) ^^^ z) ?_
      unfold turned
      rw [pow_part at0 (8 * 16) _ P (by omega), Nat.min_assoc, Nat.min_eq_right (show 8 * 16 - at0 ≤ 8 * (body.length + 20) - at0 from by omega)]
    have hf1 : closedB (t.take 16) = false := by rw [← h1, hcl]; simpa using hh
    have h16 : ¬ t.length < 16 := by omega
    have hp : peekE t = 61 ∨ peekE t = 62 := by
      unfold peekE
      rw [if_neg h16]
      by_cases hm : t.getD 0 0 ≠ 165
      · rw [if_pos hm]; exact .inl rfl
      · rw [if_neg hm, if_pos hf1]; exact .inr rfl
    unfold decE
    rcases hp with h | h
    · left; rw [h, if_pos (by omega)]
    · right; rw [h, if_pos (by omega)]
end Go.Proofs.YtaegmeilhdbnnaaDoor
