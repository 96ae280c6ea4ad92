/- Own texts, joined: Apb, Sg8. -/
import Derived.Test.YtfnkhpijcbpeoaaDoorK21
import Derived.Laws.AppendOwnNone
import Derived.Test.YtfnkhpijcbpeoaaDoorK31
import Derived.Test.YtfnkhpijcbpeoaaDoorK34
import Derived.Test.YtfnkhpijcbpeoaaDoorK20
namespace Go.Proofs.YtfnkhpijcbpeoaaDoor
open Go.ChangeShapes Go.WideShapes Go.ChangeAt Go.RowKit
set_option linter.unusedVariables false
theorem wpList_append_b {P : Program} {w : World} {ops : Array Oper} {rest : List Oper} {o : Oper} {a : Act} {Q : Exit → Act → World → Prop} (hgd : o.guard = none) (s x : Operand) (t : TypeId)
    (ho : o.op = .call { callee := .builtin .append, args := #[s, x], argTypes := #[t, t] })
    (base : Nat) (i : TypeInfo) (ht : P.underlying t = some (.slice 5)) (hi : P.info? 5 = some i) (hz : i.zero = some (.int .u8 0)) (hsize : i.size = 1) (hby : i.bytes = 1)
    (v : Value) (n : Nat) (xs : List Value) (hs : a.eval s = v) (hown : w.ownsRow base 5 1 v n xs) (xa : Option Addr) (m c : Nat) (l : List Nat) (hx : a.eval x = .slice xa m c) (hl : l.length = m) (hb : Bytes w xa l) (hc : xa = none → c = 0)
    (h63 : n + m ≤ 140737488355328) (hbase : base ≤ w.heap.size)
    (h : ∀ v' w', w'.ownsRow base 5 1 v' (n + m) (xs ++ B8 l) → w.grownBy w' v.ownBlock → wpList P ops Q rest (a.put o.dst v') w') : wpList P ops Q (o :: rest) a w := by
  cases xa with
  | none =>
    have hl0 : l = [] := by
      rcases hb.2 with h | ⟨b, off, h, _⟩
      · exact h
      · cases h
    subst hl0
    have hm0 : m = 0 := by simpa using hl.symm
    subst hm0
    have hc0 := hc rfl
    subst hc0
    exact wpList_append_own_none hgd s x t ho base 5 i 1 ht hi v n xs hs hown hx (h v w (by simpa [B8] using hown) ⟨rfl, rfl, rfl, Nat.le_refl _, fun _ _ _ => rfl⟩)
  | some ad =>
    rcases hb.2 with hl0 | ⟨b, off, he, hlt, hcell⟩
    · subst hl0
      have hm0 : m = 0 := by simpa using hl.symm
      subst hm0
      exact wpList_append_own w hgd s x t ho base 5 i (.int .u8 0) 1 1 ht hi hz hsize hby rfl (by decide) v n xs hs hown ad 0 c [] hx rfl (fun j u hj => by simp at hj) (fun u hu => by cases hu) (by unfold maxLen; omega) (by omega) hbase (fun v' w' h1 h2 _ => h v' w' (by simpa [B8] using h1) h2)
    · cases he
      exact wpList_append_own w hgd s x t ho base 5 i (.int .u8 0) 1 1 ht hi hz hsize hby rfl (by decide) v n xs hs hown ⟨b, off, none⟩ m c (B8 l) hx (by rw [B8_length, hl, Nat.mul_one]) (bytes_cells hb) (B8_one _) (by unfold maxLen; omega) (by omega) hbase (fun v' w' h1 h2 _ => h v' w' h1 h2)
end Go.Proofs.YtfnkhpijcbpeoaaDoor
namespace Go.Proofs.YtfnkhpijcbpeoaaDoor
open Go.ChangeShapes Go.WideShapes Go.ChangeAt Go.RowKit
set_option linter.unusedVariables false
theorem plAt_of {w : World} {a : Option Addr} {xs : List It} (h : PlcA w a xs) : PlAt w a ((xs.map It.fm).map evP) (pflt xs) := by
  refine ⟨by rw [pflt_length, List.length_map, List.length_map], ?_, ?_, ?_⟩
  · have : ∀ (ys : List It), (∀ x ∈ ys, x ∈ xs) → ∀ u ∈ pflt ys, u.oneCell' = true := by
      intro ys
      induction ys with
      | nil => intro _ u hu; cases hu
      | cons x r ih =>
        intro hm u hu
        obtain ⟨a2, c2, e, _⟩ := h.byt x (hm x (List.mem_cons_self ..))
        simp only [pflt, List.mem_cons] at hu
        rcases hu with rfl | rfl | rfl | rfl | rfl | hu
        · rfl
        · rfl
        · rfl
        · rfl
        · rw [e]; rfl
        · exact ih (fun y hy => hm y (List.mem_cons_of_mem _ hy)) u hu
    exact this xs (fun x hx => hx)
  · rcases h.lie with h1 | ⟨b, off, h1, h2, h3⟩
    · exact .inl (by rw [h1]; rfl)
    · exact .inr ⟨b, off, h1, h2, fun j hj => h3 j (by rwa [List.length_map, List.length_map] at hj)⟩
  · intro i p hp
    rw [List.getElem?_map, List.getElem?_map] at hp
    obtain ⟨f, hf, rfl⟩ := Option.map_eq_some_iff.1 hp
    obtain ⟨x, hx, rfl⟩ := Option.map_eq_some_iff.1 hf
    obtain ⟨f0, _, _, f3, _⟩ := pflt_get xs i x hx
    exact ⟨f0, f3⟩
def stB (st : Int) : Bool := decide (1 ≤ st ∧ st ≤ 64)
set_option maxHeartbeats 1000000 in
theorem isStride_any (st : Int) (w : World) : Calls Tryd.prog 10 #[.int .i64 st] w fun e w' => e = .returned (.bool (stB st)) ∧ w = w' := by
  by_cases h1 : 1 ≤ st
  · by_cases h2 : st ≤ 64
    · have HS : Hid (stB st = true) := decide_eq_true ⟨h1, h2⟩
      go_enter Tryd.func10, Tryd.ntmps10
      go_wp2
      go_ret
      exact ⟨by rw [HS.out]; rfl, rfl⟩
    · have HS : Hid (stB st = false) := decide_eq_false (fun h => h2 h.2)
      go_enter Tryd.func10, Tryd.ntmps10
      go_wp2
      go_ret
      exact ⟨by rw [HS.out]; rfl, rfl⟩
  · have HS : Hid (stB st = false) := decide_eq_false (fun h => h1 h.1)
    go_enter Tryd.func10, Tryd.ntmps10
    go_wp2
    go_ret
    exact ⟨by rw [HS.out]; rfl, rfl⟩
set_option maxRecDepth 20000 in
set_option maxHeartbeats 4000000 in
theorem seal_any (x y : Nat) (E : List Fm) (xs : List It) (st n : Nat) (a : Option Addr) (cap : Nat) (w : World) (hxs : xs.map It.fm = E) (hn : xs.length = n) (hn0 : 0 < n) (hp : PlcA w a xs) (hE : EvOk y E) (hy : y ≤ 1099511627777) (hx : x ≤ 999999) (hst : st ≤ 64) (ht : Tab w) :
    Calls Tryd.prog 12 #[.int .i64 (x : Int), .slice a n cap, .int .i64 (st : Int)] w fun e w' => ∃ v, e = .returned v ∧ Own w' w.heap.size v (sealL x y E st) ∧ Below w.heap.size w w' := by
  obtain ⟨i0, hi, hz0, hz1, hz2⟩ := info_parts Tryd.info5
  have hnE : E.length = n := by rw [← hxs, List.length_map]; exact hn
  have hn512 : n ≤ 512 := by have := hE.len; omega
  obtain ⟨f1, f2, f3, f4, f5⟩ := foot_facts y E st hE hy hst
  obtain ⟨M, hM⟩ : ∃ M, bldL (st : Int) (E.map evP) = M := ⟨_, rfl⟩
  have hMv := hE.marks (st : Int)
  rw [hM] at hMv f4 f5
  obtain ⟨q, hq⟩ : ∃ q, (mEnc M).length = q := ⟨_, rfl⟩
  obtain ⟨m, hm⟩ : ∃ m, M.length = m := ⟨_, rfl⟩
  have hm512 : m ≤ 512 := by rw [← hm]; exact valid_len hMv
  obtain ⟨t, htl⟩ : ∃ t, (nencs [y, n, st]).length = t := ⟨_, rfl⟩
  rw [hnE] at f3
  have ht3 := nencs_len [y, n, st] (fun z hz => by have := f3 z hz; omega)
  rw [htl] at ht3
  simp only [List.length_cons, List.length_nil] at ht3
  have hfb : footB y E st = nencs [y, n, st] ++ mEnc M := by unfold footB; rw [hM, hnE]
  have hfl : (footB y E st).length = t + q := by rw [hfb, List.length_append, htl, hq]
  obtain ⟨x0, hx0⟩ := lt_get (L := xs) (k := 0) (by omega)
  have hs0 : x0.fm.seq = y := by
    have := hE.nth 0 x0.fm (by rw [← hxs, List.getElem?_map, hx0]; rfl)
    omega
  obtain ⟨b, off, hba, hlt, _, _, _, c3, _⟩ := hp.at 0 x0 hx0
  subst hba
  rw [hs0] at c3
  have HP : Hid (PlAt w (some ⟨b, off, none⟩) (E.map evP) (pflt xs) ∧ (E.map evP).length = n) := ⟨by rw [← hxs]; exact plAt_of hp, by rw [List.length_map]; exact hnE⟩
  have HMM : Hid (bldL (st : Int) (E.map evP) = M ∧ M.length = m ∧ validB M = true ∧ (mEnc M).length = q ∧ mEnc M ≠ []) := ⟨hM, hm, hMv, hq, f4⟩
  have HF : Hid (footB y E st = nencs [y, n, st] ++ mEnc M ∧ (footB y E st).length = t + q ∧ (nencs [y, n, st]).length = t ∧ (∀ z ∈ [y, n, st], z ≤ 1099511627777) ∧ footB y E st ≠ []) := ⟨hfb, hfl, htl, f3, fun h => by rw [h] at hfl; simp at hfl; omega⟩
  have hq1 : q ≤ 10250 := by omega
  have hq0 : 1 ≤ q := by
    rw [← hq]
    cases hc : mEnc M with
    | nil => exact absurd hc f4
    | cons => simp
  have HEN : Hid (encE (3 : Int) (x : Int) (t + q) = 0 ∧ encL (3 : Int) (x : Int) (footB y E st) = sealL x y E st) := by
    have h := enc_frame 3 x (t + q) (by omega) (by omega) (by omega) (by omega)
    refine ⟨h, ?_⟩
    unfold encL
    rw [hfl]
    rw [show encE (3 : Int) (x : Int) (t + q) = 0 from h, if_pos rfl]
    rfl
  have HT : Hid (Tab w) := ht
  have c3' : w.cell? ⟨b, off + 3, none⟩ = some (.int .i64 (y : Int)) := by rw [show off + 3 = off + 0 * 5 + 3 from by omega]; exact c3
  have hnI : (0 : Int) < (n : Int) := by omega
  have hn5 : (n : Int) ≤ 512 := by omega
  have hstI : (st : Int) ≤ 64 := by omega
  have hxI : (x : Int) ≤ 999999 := by omega
  have hyI : (y : Int) ≤ 1099511627777 := by omega
  clear hp hx0 hs0 c3 ht hfb hfl htl f1 f2 f3 f4 f5 hM hm hq hMv hn hxs hnE
  go_enter Tryd.func12, Tryd.ntmps12
  go_wp2_with (first
    | (go_at_call 26; refine (build_any (E.map evP) (pflt xs) n _ _ (st : Int) w HP.out.2 HP.out.1 (by omega) (by omega) (by omega)).mono ?_; rw [HMM.out.1]; rintro e w1 ⟨v1, rfl, ho1, hb1⟩; obtain ⟨a1, c1, hv1, hc1, _, hy1, _⟩ := ho1.shape; rw [HMM.out.2.1] at hv1 hc1; subst hv1; have HB1 : Hid (Below w.heap.size w w1 ∧ Marks w1 a1 M) := ⟨hb1, hy1⟩; clear ho1 hb1 hy1 hc1)
    | (go_at_call 27; refine (ienc_any M m a1 c1 w1 HMM.out.2.1 HB1.out.2 (by unfold maxLen; omega)).mono ?_; rw [if_pos HMM.out.2.2.1, if_pos HMM.out.2.2.1]; rintro e w2 ⟨v2, rfl, ho2, hb2⟩; obtain ⟨g2, c2, hv2, hc2, hy2⟩ := ho2.row HMM.out.2.2.2.2; rw [HMM.out.2.2.2.1] at hv2 hc2; subst hv2; have HB2 : Hid (Below w.heap.size w w2 ∧ Bytes w2 (some ⟨g2, 0, none⟩) (mEnc M) ∧ ∀ i, (mEnc M).getD i 0 < 256) := ⟨below_next HB1.out.1 hb2, hy2, ho2.1⟩; have k3 : w2.cell? ⟨b, off + 3, none⟩ = some (.int .i64 (y : Int)) := (HB2.out.1.cell (p := ⟨b, off + 3, none⟩) hlt).trans c3'; clear ho2 hb2 hy2 hc2)
    | (go_at_call 28; refine (write_any [y, n, st] 3 _ _ _ rfl (natI_lit w2 [y, n, st]) HF.out.2.2.2.1 (by omega)).mono ?_; rintro e w3 ⟨v3, rfl, ho3, hb3⟩; have hb3' := ((Below.refl w2.heap.size w2).alloc (Nat.le_refl _) _).trans (hb3.mono (by simp)); have HB3 : Hid (Below w.heap.size w w3 ∧ Bytes w3 (some ⟨g2, 0, none⟩) (mEnc M)) := ⟨below_next HB2.out.1 hb3', HB2.out.2.1.keep hb3'⟩; have HO3 : Hid (w3.ownsRow w.heap.size 5 1 v3 t (B8 (nencs [y, n, st])) ∧ ∀ i, (nencs [y, n, st]).getD i 0 < 256) := ⟨(by have h := World.ownsRow.mono (base' := w.heap.size) ho3.2 (Nat.le_trans HB2.out.1.size (by simp)); rw [HF.out.2.2.1] at h; exact h), ho3.1⟩; have hs3 : w.heap.size ≤ w3.heap.size := HB3.out.1.size; clear ho3 hb3 hb3')
    | (at_builtin; refine wpList_append_own _ rfl _ _ 22 rfl w.heap.size 5 i0 (.int .u8 0) 1 1 Tryd.underlying22 hi hz0 hz1 hz2 rfl (by decide) _ _ _ rfl HO3.out.1 ⟨g2, 0, none⟩ q c2 (B8 (mEnc M)) rfl (by rw [B8_length, HMM.out.2.2.2.1, Nat.mul_one]) (bytes_cells HB3.out.2) (B8_one _) (by unfold maxLen; omega) (by omega) hs3 ?_; intro v5 w5 ho5 hg5 _; have HW5 : Hid (Below w.heap.size w w5) := grown_row HB3.out.1 HO3.out.1 hs3 hg5; have HO5 : Hid (Own w5 w.heap.size v5 (footB y E st)) := (by show Own _ _ _ _; rw [HF.out.1]; exact Own.append HO3.out.2 HB2.out.2.2 (by rw [HF.out.2.2.1, HMM.out.2.2.2.1]; exact ho5)); obtain ⟨g5, p5, hv5, hc5, hy5⟩ := HO5.out.row HF.out.2.2.2.2; rw [HF.out.2.1] at hv5; subst hv5; have HY5 : Hid (Bytes w5 (some ⟨g5, 0, none⟩) (footB y E st)) := hy5; clear ho5 hg5 hy5 hc5)
    | (go_at_call 29; refine (fenc_any 3 x (footB y E st) (t + q) (some ⟨g5, 0, none⟩) p5 w5 HF.out.2.1 HY5.out (fun h => by cases h) (by omega) (fun z h => by cases h; exact ⟨g5, 0, rfl⟩) (HT.out.keep HW5.out)).mono ?_; rw [HEN.out.1, HEN.out.2]; rintro e w6 ⟨v6, rfl, ho6, hb6⟩; have HO6 : Hid (Own w6 w.heap.size v6 (sealL x y E st)) := ⟨ho6.1, World.ownsRow.mono (base' := w.heap.size) ho6.2 HW5.out.size⟩; have HB6 : Hid (Below w.heap.size w w6) := below_next HW5.out hb6; clear ho6 hb6))
  go_ret
  exact ⟨v6, rfl, HO6.out, HB6.out⟩
end Go.Proofs.YtfnkhpijcbpeoaaDoor
