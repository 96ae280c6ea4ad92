/- Own texts, joined: Apb, Sg8, Sg9, Sg10. -/
import Derived.Test.YtaegmeilhdbnnaaDoorJ07
import Derived.Laws.AppendOwnNone
import Derived.Test.YtaegmeilhdbnnaaDoorJ12
import Derived.Test.YtaegmeilhdbnnaaDoorJ13
import Derived.Test.YtaegmeilhdbnnaaDoorRows
import Derived.Test.YtaegmeilhdbnnaaDoorJ00
import Derived.Laws.BytesArg
import Derived.Lib.Bytes
import Derived.Deep.RegionHeld3
import Derived.BigQuiet
namespace Go.Proofs.YtaegmeilhdbnnaaDoor
open Go.ChangeShapes Go.WideShapes Go.ChangeAt Go.RowKit
set_option linter.unusedVariables false
theorem wpList_append_b {P : Program} {w : World} {ops : Array Oper} {rest : List Oper} {o : Oper} {a : Act} {Q : Exit → Act → World → Prop} (hgd : o.guard = none) (s x : Operand) (t : TypeId)
    (ho : o.op = .call { callee := .builtin .append, args := #[s, x], argTypes := #[t, t] })
    (base : Nat) (i : TypeInfo) (ht : P.underlying t = some (.slice 5)) (hi : P.info? 5 = some i) (hz : i.zero = some (.int .u8 0)) (hsize : i.size = 1) (hby : i.bytes = 1)
    (v : Value) (n : Nat) (xs : List Value) (hs : a.eval s = v) (hown : w.ownsRow base 5 1 v n xs) (xa : Option Addr) (m c : Nat) (l : List Nat) (hx : a.eval x = .slice xa m c) (hl : l.length = m) (hb : Bytes w xa l) (hc : xa = none → c = 0)
    (h63 : n + m ≤ 140737488355328) (hbase : base ≤ w.heap.size)
    (h : ∀ v' w', w'.ownsRow base 5 1 v' (n + m) (xs ++ B8 l) → w.grownBy w' v.ownBlock → wpList P ops Q rest (a.put o.dst v') w') : wpList P ops Q (o :: rest) a w := by
  cases xa with
  | none =>
    have hl0 : l = [] := by
      rcases hb.2 with h | ⟨b, off, h, _⟩
      · exact h
      · cases h
    subst hl0
    have hm0 : m = 0 := by simpa using hl.symm
    subst hm0
    have hc0 := hc rfl
    subst hc0
    exact wpList_append_own_none hgd s x t ho base 5 i 1 ht hi v n xs hs hown hx (h v w (by simpa [B8] using hown) ⟨rfl, rfl, rfl, Nat.le_refl _, fun _ _ _ => rfl⟩)
  | some ad =>
    rcases hb.2 with hl0 | ⟨b, off, he, hlt, hcell⟩
    · subst hl0
      have hm0 : m = 0 := by simpa using hl.symm
      subst hm0
      exact wpList_append_own w hgd s x t ho base 5 i (.int .u8 0) 1 1 ht hi hz hsize hby rfl (by decide) v n xs hs hown ad 0 c [] hx rfl (fun j u hj => by simp at hj) (fun u hu => by cases hu) (by unfold maxLen; omega) (by omega) hbase (fun v' w' h1 h2 _ => h v' w' (by simpa [B8] using h1) h2)
    · cases he
      exact wpList_append_own w hgd s x t ho base 5 i (.int .u8 0) 1 1 ht hi hz hsize hby rfl (by decide) v n xs hs hown ⟨b, off, none⟩ m c (B8 l) hx (by rw [B8_length, hl, Nat.mul_one]) (bytes_cells hb) (B8_one _) (by unfold maxLen; omega) (by omega) hbase (fun v' w' h1 h2 _ => h v' w' h1 h2)
end Go.Proofs.YtaegmeilhdbnnaaDoor
namespace Go.Proofs.YtaegmeilhdbnnaaDoor
open Go.ChangeShapes Go.WideShapes Go.ChangeAt Go.RowKit
set_option linter.unusedVariables false
theorem plAt_of {w : World} {a : Option Addr} {xs : List It} (h : PlcA w a xs) : PlAt w a ((xs.map It.fm).map evP) (pflt xs) := by
  refine ⟨by rw [pflt_length, List.length_map, List.length_map], ?_, ?_, ?_⟩
  · have : ∀ (ys : List It), (∀ x ∈ ys, x ∈ xs) → ∀ u ∈ pflt ys, u.oneCell' = true := by
      intro ys
      induction ys with
      | nil => intro _ u hu; cases hu
      | cons x r ih =>
        intro hm u hu
        obtain ⟨a2, c2, e, _⟩ := h.byt x (hm x (List.mem_cons_self ..))
        simp only [pflt, List.mem_cons] at hu
        rcases hu with rfl | rfl | rfl | rfl | rfl | hu
        · rfl
        · rfl
        · rfl
        · rfl
        · rw [e]; rfl
        · exact ih (fun y hy => hm y (List.mem_cons_of_mem _ hy)) u hu
    exact this xs (fun x hx => hx)
  · rcases h.lie with h1 | ⟨b, off, h1, h2, h3⟩
    · exact .inl (by rw [h1]; rfl)
    · exact .inr ⟨b, off, h1, h2, fun j hj => h3 j (by rwa [List.length_map, List.length_map] at hj)⟩
  · intro i p hp
    rw [List.getElem?_map, List.getElem?_map] at hp
    obtain ⟨f, hf, rfl⟩ := Option.map_eq_some_iff.1 hp
    obtain ⟨x, hx, rfl⟩ := Option.map_eq_some_iff.1 hf
    obtain ⟨f0, _, _, f3, _⟩ := pflt_get xs i x hx
    exact ⟨f0, f3⟩
def stB (st : Int) : Bool := decide (1 ≤ st ∧ st ≤ 64)
set_option maxHeartbeats 1000000 in
theorem isStride_any (st : Int) (w : World) : Calls Tryd.prog 45 #[.int .i64 st] w fun e w' => e = .returned (.bool (stB st)) ∧ w = w' := by
  by_cases h1 : 1 ≤ st
  · by_cases h2 : st ≤ 64
    · have HS : Hid (stB st = true) := decide_eq_true ⟨h1, h2⟩
      go_enter Tryd.func45, Tryd.ntmps45
      go_wp2
      go_ret
      exact ⟨by rw [HS.out]; rfl, rfl⟩
    · have HS : Hid (stB st = false) := decide_eq_false (fun h => h2 h.2)
      go_enter Tryd.func45, Tryd.ntmps45
      go_wp2
      go_ret
      exact ⟨by rw [HS.out]; rfl, rfl⟩
  · have HS : Hid (stB st = false) := decide_eq_false (fun h => h1 h.1)
    go_enter Tryd.func45, Tryd.ntmps45
    go_wp2
    go_ret
    exact ⟨by rw [HS.out]; rfl, rfl⟩
set_option maxRecDepth 20000 in
set_option maxHeartbeats 4000000 in
theorem seal_any (x y : Nat) (E : List Fm) (xs : List It) (st n : Nat) (a : Option Addr) (cap : Nat) (w : World) (hxs : xs.map It.fm = E) (hn : xs.length = n) (hn0 : 0 < n) (hp : PlcA w a xs) (hE : EvOk y E) (hy : y ≤ 1099511627777) (hx : x ≤ 999999) (hst : st ≤ 64) (ht : Tab w) :
    Calls Tryd.prog 46 #[.int .i64 (x : Int), .slice a n cap, .int .i64 (st : Int)] w fun e w' => ∃ v, e = .returned v ∧ Own w' w.heap.size v (sealL x y E st) ∧ Below w.heap.size w w' := by
  obtain ⟨i0, hi, hz0, hz1, hz2⟩ := info_parts Tryd.info5
  have hnE : E.length = n := by rw [← hxs, List.length_map]; exact hn
  have hn512 : n ≤ 512 := by have := hE.len; omega
  obtain ⟨f1, f2, f3, f4, f5⟩ := foot_facts y E st hE hy hst
  obtain ⟨M, hM⟩ : ∃ M, bldL (st : Int) (E.map evP) = M := ⟨_, rfl⟩
  have hMv := hE.marks (st : Int)
  rw [hM] at hMv f4 f5
  obtain ⟨q, hq⟩ : ∃ q, (mEnc M).length = q := ⟨_, rfl⟩
  obtain ⟨m, hm⟩ : ∃ m, M.length = m := ⟨_, rfl⟩
  have hm512 : m ≤ 512 := by rw [← hm]; exact valid_len hMv
  obtain ⟨t, htl⟩ : ∃ t, (nencs [y, n, st]).length = t := ⟨_, rfl⟩
  rw [hnE] at f3
  have ht3 := nencs_len [y, n, st] (fun z hz => by have := f3 z hz; omega)
  rw [htl] at ht3
  simp only [List.length_cons, List.length_nil] at ht3
  have hfb : footB y E st = nencs [y, n, st] ++ mEnc M := by unfold footB; rw [hM, hnE]
  have hfl : (footB y E st).length = t + q := by rw [hfb, List.length_append, htl, hq]
  obtain ⟨x0, hx0⟩ := lt_get (L := xs) (k := 0) (by omega)
  have hs0 : x0.fm.seq = y := by
    have := hE.nth 0 x0.fm (by rw [← hxs, List.getElem?_map, hx0]; rfl)
    omega
  obtain ⟨b, off, hba, hlt, _, _, _, c3, _⟩ := hp.at 0 x0 hx0
  subst hba
  rw [hs0] at c3
  have HP : Hid (PlAt w (some ⟨b, off, none⟩) (E.map evP) (pflt xs) ∧ (E.map evP).length = n) := ⟨by rw [← hxs]; exact plAt_of hp, by rw [List.length_map]; exact hnE⟩
  have HMM : Hid (bldL (st : Int) (E.map evP) = M ∧ M.length = m ∧ validB M = true ∧ (mEnc M).length = q ∧ mEnc M ≠ []) := ⟨hM, hm, hMv, hq, f4⟩
  have HF : Hid (footB y E st = nencs [y, n, st] ++ mEnc M ∧ (footB y E st).length = t + q ∧ (nencs [y, n, st]).length = t ∧ (∀ z ∈ [y, n, st], z ≤ 1099511627777) ∧ footB y E st ≠ []) := ⟨hfb, hfl, htl, f3, fun h => by rw [h] at hfl; simp at hfl; omega⟩
  have hq1 : q ≤ 10250 := by omega
  have hq0 : 1 ≤ q := by
    rw [← hq]
    cases hc : mEnc M with
    | nil => exact absurd hc f4
    | cons => simp
  have HEN : Hid (encE (3 : Int) (x : Int) (t + q) = 0 ∧ encL (3 : Int) (x : Int) (footB y E st) = sealL x y E st) := by
    have h := enc_frame 3 x (t + q) (by omega) (by omega) (by omega) (by omega)
    refine ⟨h, ?_⟩
    unfold encL
    rw [hfl]
    rw [show encE (3 : Int) (x : Int) (t + q) = 0 from h, if_pos rfl]
    rfl
  have HT : Hid (Tab w) := ht
  have c3' : w.cell? ⟨b, off + 3, none⟩ = some (.int .i64 (y : Int)) := by rw [show off + 3 = off + 0 * 5 + 3 from by omega]; exact c3
  have hnI : (0 : Int) < (n : Int) := by omega
  have hn5 : (n : Int) ≤ 512 := by omega
  have hstI : (st : Int) ≤ 64 := by omega
  have hxI : (x : Int) ≤ 999999 := by omega
  have hyI : (y : Int) ≤ 1099511627777 := by omega
  clear hp hx0 hs0 c3 ht hfb hfl htl f1 f2 f3 f4 f5 hM hm hq hMv hn hxs hnE
  go_enter Tryd.func46, Tryd.ntmps46
  go_wp2_with (first
    | (go_at_call 43; refine (build_any (E.map evP) (pflt xs) n _ _ (st : Int) w HP.out.2 HP.out.1 (by omega) (by omega) (by omega)).mono ?_; rw [HMM.out.1]; rintro e w1 ⟨v1, rfl, ho1, hb1⟩; obtain ⟨a1, c1, hv1, hc1, _, hy1, _⟩ := ho1.shape; rw [HMM.out.2.1] at hv1 hc1; subst hv1; have HB1 : Hid (Below w.heap.size w w1 ∧ Marks w1 a1 M) := ⟨hb1, hy1⟩; clear ho1 hb1 hy1 hc1)
    | (go_at_call 73; refine (ienc_any M m a1 c1 w1 HMM.out.2.1 HB1.out.2 (by unfold maxLen; omega)).mono ?_; rw [if_pos HMM.out.2.2.1, if_pos HMM.out.2.2.1]; rintro e w2 ⟨v2, rfl, ho2, hb2⟩; obtain ⟨g2, c2, hv2, hc2, hy2⟩ := ho2.row HMM.out.2.2.2.2; rw [HMM.out.2.2.2.1] at hv2 hc2; subst hv2; have HB2 : Hid (Below w.heap.size w w2 ∧ Bytes w2 (some ⟨g2, 0, none⟩) (mEnc M) ∧ ∀ i, (mEnc M).getD i 0 < 256) := ⟨below_next HB1.out.1 hb2, hy2, ho2.1⟩; have k3 : w2.cell? ⟨b, off + 3, none⟩ = some (.int .i64 (y : Int)) := (HB2.out.1.cell (p := ⟨b, off + 3, none⟩) hlt).trans c3'; clear ho2 hb2 hy2 hc2)
    | (go_at_call 33; refine (write_any [y, n, st] 3 _ _ _ rfl (natI_lit w2 [y, n, st]) HF.out.2.2.2.1 (by omega)).mono ?_; rintro e w3 ⟨v3, rfl, ho3, hb3⟩; have hb3' := ((Below.refl w2.heap.size w2).alloc (Nat.le_refl _) _).trans (hb3.mono (by simp)); have HB3 : Hid (Below w.heap.size w w3 ∧ Bytes w3 (some ⟨g2, 0, none⟩) (mEnc M)) := ⟨below_next HB2.out.1 hb3', HB2.out.2.1.keep hb3'⟩; have HO3 : Hid (w3.ownsRow w.heap.size 5 1 v3 t (B8 (nencs [y, n, st])) ∧ ∀ i, (nencs [y, n, st]).getD i 0 < 256) := ⟨(by have h := World.ownsRow.mono (base' := w.heap.size) ho3.2 (Nat.le_trans HB2.out.1.size (by simp)); rw [HF.out.2.2.1] at h; exact h), ho3.1⟩; have hs3 : w.heap.size ≤ w3.heap.size := HB3.out.1.size; clear ho3 hb3 hb3')
    | (at_builtin; refine wpList_append_own _ rfl _ _ 22 rfl w.heap.size 5 i0 (.int .u8 0) 1 1 Tryd.underlying22 hi hz0 hz1 hz2 rfl (by decide) _ _ _ rfl HO3.out.1 ⟨g2, 0, none⟩ q c2 (B8 (mEnc M)) rfl (by rw [B8_length, HMM.out.2.2.2.1, Nat.mul_one]) (bytes_cells HB3.out.2) (B8_one _) (by unfold maxLen; omega) (by omega) hs3 ?_; intro v5 w5 ho5 hg5 _; have HW5 : Hid (Below w.heap.size w w5) := grown_row HB3.out.1 HO3.out.1 hs3 hg5; have HO5 : Hid (Own w5 w.heap.size v5 (footB y E st)) := (by show Own _ _ _ _; rw [HF.out.1]; exact Own.append HO3.out.2 HB2.out.2.2 (by rw [HF.out.2.2.1, HMM.out.2.2.2.1]; exact ho5)); obtain ⟨g5, p5, hv5, hc5, hy5⟩ := HO5.out.row HF.out.2.2.2.2; rw [HF.out.2.1] at hv5; subst hv5; have HY5 : Hid (Bytes w5 (some ⟨g5, 0, none⟩) (footB y E st)) := hy5; clear ho5 hg5 hy5 hc5)
    | (go_at_call 32; refine (fenc_any 3 x (footB y E st) (t + q) (some ⟨g5, 0, none⟩) p5 w5 HF.out.2.1 HY5.out (fun h => by cases h) (by omega) (fun z h => by cases h; exact ⟨g5, 0, rfl⟩) (HT.out.keep HW5.out)).mono ?_; rw [HEN.out.1, HEN.out.2]; rintro e w6 ⟨v6, rfl, ho6, hb6⟩; have HO6 : Hid (Own w6 w.heap.size v6 (sealL x y E st)) := ⟨ho6.1, World.ownsRow.mono (base' := w.heap.size) ho6.2 HW5.out.size⟩; have HB6 : Hid (Below w.heap.size w w6) := below_next HW5.out hb6; clear ho6 hb6))
  go_ret
  exact ⟨v6, rfl, HO6.out, HB6.out⟩
end Go.Proofs.YtaegmeilhdbnnaaDoor
namespace Go.Proofs.YtaegmeilhdbnnaaDoor
open Go.ChangeShapes Go.WideShapes Go.ChangeAt Go.RowKit
set_option linter.unusedVariables false
def str8 (l : List Nat) : ByteArray := strOfNums (l.map fun (n : Nat) => (n : Int))
theorem str8_inj {l m : List Nat} (hl : ∀ x ∈ l, x < 256) (hm : ∀ x ∈ m, x < 256) (h : (str8 l).toList = (str8 m).toList) : l = m := by
  have h1 : (str8 l).data.toList = (str8 m).data.toList := by
    unfold str8 at h ⊢
    rw [Lib.strOfNums_toList, Lib.strOfNums_toList] at h
    exact h
  unfold str8 at h1
  rw [strOfNums_data, strOfNums_data, List.map_map, List.map_map] at h1
  have key : ∀ k : List Nat, (∀ x ∈ k, x < 256) → (k.map ((fun n : Int => UInt8.ofNat n.toNat) ∘ fun n : Nat => (n : Int))).map UInt8.toNat = k := by
    intro k
    induction k with
    | nil => intro _; rfl
    | cons x r ih =>
      intro hk
      have hx := hk x (List.mem_cons_self ..)
      simp only [List.map_cons, Function.comp, Int.toNat_natCast, UInt8.toNat_ofNat']
      rw [Nat.mod_eq_of_lt (by omega)]
      congr 1
      exact ih (fun y hy => hk y (List.mem_cons_of_mem _ hy))
  rw [← key l hl, ← key m hm, h1]
theorem conv_bytes {w : World} {a : Option Addr} {l : List Nat} {n cap : Nat} (hn : l.length = n) (hne : l ≠ []) (hb : Bytes w a l) : (convert 22 9 (.slice a n cap)).run Tryd.prog w = .ok (.string (str8 l)) w := by
  obtain ⟨b, off, rfl, hlt, hc⟩ := hb.nonempty hne
  refine run_convert_bytes_arg w 22 5 Tryd.underlying22 Tryd.underlying5 b off n cap (l.map fun (n : Nat) => (n : Int)) (by rw [List.length_map]; exact hn) (fun i hi => ?_) 9 Tryd.underlying9
  rw [hc i (by omega)]
  simp [List.getD_eq_getElem?_getD, show i < l.length from by omega]
set_option maxHeartbeats 1000000 in
theorem equal_any (l m : List Nat) (n k : Nat) (a a' : Option Addr) (c c' : Nat) (w : World) (hn : l.length = n) (hk : m.length = k) (hl : l ≠ []) (hm : m ≠ []) (h1 : Bytes w a l) (h2 : Bytes w a' m) :
    Calls Tryd.prog 72 #[.slice a n c, .slice a' k c'] w fun e w' => e = .returned (.bool (decide (l = m))) ∧ w = w' := by
  have q1 := conv_bytes (cap := c) hn hl h1
  have q2 := conv_bytes (cap := c') hk hm h2
  by_cases he : l = m
  · have HD : Hid (decide (l = m) = true) := decide_eq_true he
    have hs : str8 l = str8 m := by rw [he]
    obtain ⟨S, hS⟩ : ∃ S, str8 m = S := ⟨_, rfl⟩
    rw [hs, hS] at q1
    rw [hS] at q2
    clear he hs hS hn hk hl hm h1 h2
    go_enter Tryd.func72, Tryd.ntmps72
    go_wp2
    go_ret
    exact ⟨by rw [HD.out]; simp, rfl⟩
  · have HD : Hid (decide (l = m) = false) := decide_eq_false he
    have hs : ¬ (str8 l).toList = (str8 m).toList := fun h => he (str8_inj h1.mem h2.mem h)
    obtain ⟨S, hS⟩ : ∃ S, str8 l = S := ⟨_, rfl⟩
    obtain ⟨S', hS'⟩ : ∃ S, str8 m = S := ⟨_, rfl⟩
    rw [hS] at q1 hs
    rw [hS'] at q2 hs
    have hb : (S.toList == S'.toList) = false := by simpa using hs
    clear he hS hS' hn hk hl hm h1 h2
    go_enter Tryd.func72, Tryd.ntmps72
    go_wp2
    go_ret
    exact ⟨by rw [HD.out]; simp, rfl⟩
end Go.Proofs.YtaegmeilhdbnnaaDoor
namespace Go.Proofs.YtaegmeilhdbnnaaDoor
open Go.ChangeShapes Go.WideShapes Go.ChangeAt Go.RowKit
set_option linter.unusedVariables false
def ftN (l : List Nat) (x y : Nat) (E : List Fm) : Nat := if ftS l x y E = 0 then 0 else pn l + 20
theorem ft_zero {l : List Nat} {x y : Nat} {E : List Fm} (h : ftS l x y E = 0) : ftS l x y E = 0 ∧ ftN l x y E = 0 := ⟨h, by unfold ftN; rw [if_pos h]⟩
theorem isStride_q (st : Int) (w : World) : Calls Tryd.prog 45 #[.int .i64 st] w fun e w' => e = .returned (.bool (stB st)) ∧ w' = w := (isStride_any st w).mono (by rintro e w' ⟨h1, h2⟩; exact ⟨h1, h2.symm⟩)
set_option maxRecDepth 20000 in
set_option maxHeartbeats 4000000 in
theorem sealedBy_any (l : List Nat) (x y : Nat) (E : List Fm) (xs : List It) (m n : Nat) (ab a : Option Addr) (capb cap : Nat) (w : World) (hm : l.length = m) (hb : Bytes w ab l) (hcapb : m ≤ capb) (hml : m ≤ 140737488351232) (hxs : xs.map It.fm = E) (hn : xs.length = n) (hp : PlcA w a xs) (hE : EvOk y E) (hy : y ≤ 1099511627777) (hx : x ≤ 999999) (ht : Tab w) :
    Calls Tryd.prog 42 #[.slice ab m capb, .int .i64 (x : Int), .slice a n cap] w fun e w' => e = .returned (.tuple #[.int .i64 (ftS l x y E : Nat), .int .i64 (ftN l x y E : Nat)]) ∧ Below w.heap.size w w' := by
  have HB : Hid (Bytes w ab l ∧ l.length = m ∧ Tab w) := ⟨hb, hm, ht⟩
  have hmem := hb.mem
  have hnE : E.length = n := by rw [← hxs, List.length_map]; exact hn
  have HX : Hid (xs.map It.fm = E ∧ xs.length = n ∧ PlcA w a xs ∧ EvOk y E) := ⟨hxs, hn, hp, hE⟩
  have hn5 : n ≤ 512 := by have := hE.len; omega
  have hn5I : (n : Int) ≤ 512 := by omega
  have hxI : (x : Int) ≤ 999999 := by omega
  clear hb hm ht hxs hn hp
  by_cases h0 : decE l = 0
  · obtain ⟨b1, b2, b3, b4, b5, b6, b7⟩ := decB_facts hmem h0
    obtain ⟨P, hP⟩ : ∃ P, pk l = P := ⟨_, rfl⟩
    obtain ⟨S, hS⟩ : ∃ S, ps l = S := ⟨_, rfl⟩
    obtain ⟨B, hB⟩ : ∃ B, pn l = B := ⟨_, rfl⟩
    obtain ⟨Q, hQ⟩ : ∃ Q, B + 20 = Q := ⟨_, rfl⟩
    have HDV : Hid (∀ v, DV l v = .tuple #[FrV (P : Int) (S : Int) v, .int .i64 (Q : Int), .int .i64 0]) := fun v => by rw [← hP, ← hS, ← hQ, ← hB]; exact (dv_good l v h0).1
    have HBL : Hid ((decB l).length = B ∧ decE l = 0 ∧ (∀ y ∈ decB l, y < 256) ∧ pn l + 20 = Q) := ⟨b3.trans hB, h0, b1, by omega⟩
    have hBb : B ≤ 16384 := by omega
    have hBm : Q ≤ m := by have := HB.out.2.1; omega
    have hQ20 : 20 ≤ Q := by omega
    have hQb : Q ≤ 16404 := by omega
    have hQ0I : (0 : Int) ≤ (Q : Int) := by omega
    have hBI : (B : Int) ≤ 16384 := by omega
    have hBmI : (Q : Int) ≤ (m : Int) := by omega
    have hBcI : (Q : Int) ≤ (capb : Int) := by omega
    clear hP hS hB b2 b3 b4 b5 b6 b7 hQ
    by_cases hn0 : n = 0
    · have hE0 : E = [] := List.length_eq_zero_iff.1 (by omega)
      have HFT : Hid (ftS l x y E = 0 ∧ ftN l x y E = 0) := ft_zero (ftS_no l x y E (.inr (.inr (.inr hE0))))
      subst hn0
      clear hE0 hE h0 b1
      go_enter Tryd.func42, Tryd.ntmps42
      go_wp2_with (first
        | (go_at_call 36; refine (fdec_any l m ab capb w HB.out.2.1 HB.out.1 (by rw [HB.out.2.1]; omega) (by rw [HB.out.2.1]; omega) HB.out.2.2).mono ?_; rintro r w1 ⟨v1, rfl, ho1, hb1⟩; rw [HDV.out v1]; obtain ⟨a1, c1, hv1, hc1, _, hy1, _⟩ := ho1.shape; rw [HBL.out.1] at hv1 hc1; subst hv1; have HB1 : Hid (Below w.heap.size w w1 ∧ Bytes w1 a1 (decB l) ∧ B ≤ c1) := ⟨hb1, hy1, hc1⟩; clear ho1 hb1 hy1 hc1)
        | fail)
      go_ret2
      exact ⟨by rw [HFT.out.1, HFT.out.2]; rfl, HB1.out.1.alloc HB1.out.1.size _⟩
    · have hE1 : E ≠ [] := fun h => by rw [h] at hnE; simp at hnE; omega
      have hnn : ((n : Int) == 0) = false := by simp; omega
      cases hr : nrd 3 (decB l) with
      | none =>
        have HFT : Hid (ftS l x y E = 0 ∧ ftN l x y E = 0) := ft_zero (ftS_none l x y E hr)
        have HN : Hid (nrd 3 (decB l) = none) := hr
        have HARM : Hid (∀ w' a1 c1, Bytes w' a1 (decB l) → B ≤ c1 → Calls Tryd.prog 37 #[.slice a1 B c1, .int .i64 3] w' fun e w'' => e = .returned (.tuple #[.slice none 0 0, .slice none 0 0, .bool false]) ∧ Below w'.heap.size w' w'') := fun w' a1 c1 hy1 hc1 => by
          refine (read_any (decB l) 3 B a1 c1 _ HBL.out.1 hy1 hc1 (by omega) (by omega)).mono ?_
          rw [HN.out]
          rintro e w2 ⟨⟨_, _, _, _, _, h, _⟩ | ⟨_, h⟩, hb2⟩
          · cases h
          · exact ⟨h, hb2⟩
        clear hr h0 b1 hE
        go_enter Tryd.func42, Tryd.ntmps42
        go_wp2_with (first
          | (go_at_call 36; refine (fdec_any l m ab capb w HB.out.2.1 HB.out.1 (by rw [HB.out.2.1]; omega) (by rw [HB.out.2.1]; omega) HB.out.2.2).mono ?_; rintro r w1 ⟨v1, rfl, ho1, hb1⟩; rw [HDV.out v1]; obtain ⟨a1, c1, hv1, hc1, _, hy1, _⟩ := ho1.shape; rw [HBL.out.1] at hv1 hc1; subst hv1; have HB1 : Hid (Below w.heap.size w w1 ∧ Bytes w1 a1 (decB l) ∧ B ≤ c1) := ⟨hb1, hy1, hc1⟩; clear ho1 hb1 hy1 hc1)
          | (go_at_call 37; refine (HARM.out _ _ _ (HB1.out.2.1.keep ((Below.refl _ _).alloc (Nat.le_refl _) _)) HB1.out.2.2).mono ?_; rintro r w2 ⟨rfl, hb2⟩; have HB2 : Hid (Below w.heap.size w w2) := below_next (HB1.out.1.alloc HB1.out.1.size _) hb2; clear hb2)
          | fail)
        go_quiet (fail)
        go_wp2
        go_ret2
        exact ⟨by rw [HFT.out.1, HFT.out.2]; rfl, below_drewN HB2.out _⟩
      | some q =>
        obtain ⟨ns, r⟩ := q
        obtain ⟨u, v, st, rfl, hu, hv, hst⟩ := nrd_three _ b1 ns r hr
        have hft := ftS_of l hmem x y E hE hE1 hy hx h0 u v st r hr
        rw [HBL.out.2.2.2] at hft
        have HN : Hid (nrd 3 (decB l) = some ([u, v, st], r)) := hr
        have HARM : Hid (∀ w' a1 c1, Bytes w' a1 (decB l) → B ≤ c1 → Calls Tryd.prog 37 #[.slice a1 B c1, .int .i64 3] w' fun e w'' => ∃ g c2 xa R cp, e = .returned (.tuple #[.slice (some ⟨g, 0, none⟩) 3 c2, .slice xa R cp, .bool true]) ∧ g < w''.heap.size ∧ w''.cell? ⟨g, 2, none⟩ = some (.int .i64 (st : Int)) ∧ Below w'.heap.size w' w'') := fun w' a1 c1 hy1 hc1 => by
          refine (read_any (decB l) 3 B a1 c1 _ HBL.out.1 hy1 hc1 (by omega) (by omega)).mono ?_
          rw [HN.out]
          rintro e w2 ⟨⟨ns, r', va, xa, cp, h, rfl, ho, hy2, hcp, _⟩ | ⟨h, _⟩, hb2⟩
          · simp only [Option.some.injEq, Prod.mk.injEq] at h
            obtain ⟨rfl, rfl⟩ := h
            obtain ⟨g, c2, hv, _, hlt⟩ := World.ownsRow.form ho (by omega)
            subst hv
            exact ⟨g, c2, xa, _, cp, rfl, hlt, World.ownsRow.cellAt ho 2 (by omega), hb2⟩
          · cases h
        have hstI : (st : Int) ≤ 1099511627777 := by omega
        clear hr b1 h0
        by_cases hs : 1 ≤ st ∧ st ≤ 64
        · have HST : Hid (stB (st : Int) = true) := decide_eq_true ⟨by omega, by omega⟩
          obtain ⟨q1, q2, _⟩ := foot_facts y E st hE hy hs.2
          obtain ⟨Z, hZ⟩ : ∃ Z, (sealL x y E st).length = Z := ⟨_, rfl⟩
          have hZ20 : 20 ≤ Z := by rw [← hZ]; unfold sealL; rw [frameL_length]; omega
          have hlt20 : (l.take Q).length = Q := by rw [List.length_take, HB.out.2.1]; omega
          have HLN : Hid ((l.take Q).length = Q ∧ (sealL x y E st).length = Z ∧ l.take Q ≠ [] ∧ sealL x y E st ≠ []) := ⟨hlt20, hZ, fun h => by rw [h] at hlt20; simp at hlt20; omega, fun h => by rw [h] at hZ; simp at hZ; omega⟩
          have HBK : Hid (Bytes w ab (l.take Q)) := HB.out.1.take Q
          have HSL : Hid (∀ w', Below w.heap.size w w' → Calls Tryd.prog 46 #[.int .i64 (x : Int), .slice a n cap, .int .i64 (st : Int)] w' fun e w'' => ∃ g3 c3, e = .returned (.slice (some ⟨g3, 0, none⟩) Z c3) ∧ Bytes w'' (some ⟨g3, 0, none⟩) (sealL x y E st) ∧ Below w'.heap.size w' w'') := fun w' hw' => by
            refine (seal_any x y E xs st n a cap w' HX.out.1 HX.out.2.1 (by omega) (HX.out.2.2.1.keep hw') HX.out.2.2.2 hy hx hs.2 (HB.out.2.2.keep hw')).mono ?_
            rintro e w'' ⟨v3, rfl, ho3, hb3⟩
            obtain ⟨g3, c3, hv3, _, hy3⟩ := ho3.row HLN.out.2.2.2
            rw [HLN.out.2.1] at hv3
            exact ⟨g3, c3, by rw [hv3], hy3, hb3⟩
          have hst1 : (1 : Int) ≤ (st : Int) := by omega
          clear q1 q2 hlt20 hZ
          by_cases heq : l.take Q = sealL x y E st
          · have HFT : Hid (ftS l x y E = st ∧ ftN l x y E = Q) := by
              have h1 : ftS l x y E = st := by rw [hft, if_pos ⟨hs.1, hs.2, heq⟩]
              exact ⟨h1, by unfold ftN; rw [if_neg (by omega), HBL.out.2.2.2]⟩
            have HEQ : Hid (decide (l.take Q = sealL x y E st) = true) := decide_eq_true heq
            clear hft heq hs hE
            go_enter Tryd.func42, Tryd.ntmps42
            go_wp2_with (first
              | (go_at_call 36; refine (fdec_any l m ab capb w HB.out.2.1 HB.out.1 (by rw [HB.out.2.1]; omega) (by rw [HB.out.2.1]; omega) HB.out.2.2).mono ?_; rintro r w1 ⟨v1, rfl, ho1, hb1⟩; rw [HDV.out v1]; obtain ⟨a1, c1, hv1, hc1, _, hy1, _⟩ := ho1.shape; rw [HBL.out.1] at hv1 hc1; subst hv1; have HB1 : Hid (Below w.heap.size w w1 ∧ Bytes w1 a1 (decB l) ∧ B ≤ c1) := ⟨hb1, hy1, hc1⟩; clear ho1 hb1 hy1 hc1)
              | (go_at_call 37; refine (HARM.out _ _ _ (HB1.out.2.1.keep ((Below.refl _ _).alloc (Nat.le_refl _) _)) HB1.out.2.2).mono ?_; rintro e w2 ⟨g, c2, xa, R, cp, rfl, hlt, k2, hb2⟩; have HB2 : Hid (Below w.heap.size w w2) := below_next (HB1.out.1.alloc HB1.out.1.size _) hb2; clear hb2)
              | fail)
            go_region_held3 (fun w' => w'.cell? ⟨g, 2, none⟩ = some (.int .i64 (st : Int))) (go_keep) (first
              | (go_at_call 45; refine (isStride_any (st : Int) _).mono ?_; rw [HST.out]; rintro e w8 ⟨rfl, rfl⟩)
              | (go_at_call 46; refine (HSL.out _ ?_).mono ?_; exact below_drewN HB2.out _; rintro e w3 ⟨g3, c3, rfl, hy3, hb3⟩; have HB3 : Hid (Below w2.heap.size w2 w3) := (below_drewN (Below.refl w2.heap.size w2) _).trans hb3; have HY3 : Hid (Bytes w3 (some ⟨g3, 0, none⟩) (sealL x y E st) ∧ Bytes w3 ab (l.take Q)) := ⟨hy3, (HBK.out.keep HB2.out).keep HB3.out⟩; have kk2 : w3.cell? ⟨g, 2, none⟩ = some (.int .i64 (st : Int)) := (hb3.cell (p := ⟨g, 2, none⟩) hlt).trans k2; have hlt3 : g < w3.heap.size := Nat.lt_of_lt_of_le hlt HB3.out.size; clear hb3 hy3)
              | (go_at_call 72; refine (equal_any (l.take Q) (sealL x y E st) Q Z ab (some ⟨g3, 0, none⟩) _ _ _ HLN.out.1 HLN.out.2.1 HLN.out.2.2.1 HLN.out.2.2.2 HY3.out.2 HY3.out.1).mono ?_; rw [HEQ.out]; rintro e w9 ⟨rfl, rfl⟩)
              | fail)
            all_goals (
              go_wp2
              go_ret2
              exact ⟨by rw [HFT.out.1, HFT.out.2]; rfl, below_next HB2.out HB3.out⟩)
          · have HFT : Hid (ftS l x y E = 0 ∧ ftN l x y E = 0) := ft_zero (by rw [hft, if_neg (fun h => heq h.2.2)])
            have HEQ : Hid (decide (l.take Q = sealL x y E st) = false) := decide_eq_false heq
            clear hft heq hs hE
            go_enter Tryd.func42, Tryd.ntmps42
            go_wp2_with (first
              | (go_at_call 36; refine (fdec_any l m ab capb w HB.out.2.1 HB.out.1 (by rw [HB.out.2.1]; omega) (by rw [HB.out.2.1]; omega) HB.out.2.2).mono ?_; rintro r w1 ⟨v1, rfl, ho1, hb1⟩; rw [HDV.out v1]; obtain ⟨a1, c1, hv1, hc1, _, hy1, _⟩ := ho1.shape; rw [HBL.out.1] at hv1 hc1; subst hv1; have HB1 : Hid (Below w.heap.size w w1 ∧ Bytes w1 a1 (decB l) ∧ B ≤ c1) := ⟨hb1, hy1, hc1⟩; clear ho1 hb1 hy1 hc1)
              | (go_at_call 37; refine (HARM.out _ _ _ (HB1.out.2.1.keep ((Below.refl _ _).alloc (Nat.le_refl _) _)) HB1.out.2.2).mono ?_; rintro e w2 ⟨g, c2, xa, R, cp, rfl, hlt, k2, hb2⟩; have HB2 : Hid (Below w.heap.size w w2) := below_next (HB1.out.1.alloc HB1.out.1.size _) hb2; clear hb2)
              | fail)
            go_region_held3 (fun w' => w'.cell? ⟨g, 2, none⟩ = some (.int .i64 (st : Int))) (go_keep) (first
              | (go_at_call 45; refine (isStride_any (st : Int) _).mono ?_; rw [HST.out]; rintro e w8 ⟨rfl, rfl⟩)
              | (go_at_call 46; refine (HSL.out _ ?_).mono ?_; exact below_drewN HB2.out _; rintro e w3 ⟨g3, c3, rfl, hy3, hb3⟩; have HB3 : Hid (Below w2.heap.size w2 w3) := (below_drewN (Below.refl w2.heap.size w2) _).trans hb3; have HY3 : Hid (Bytes w3 (some ⟨g3, 0, none⟩) (sealL x y E st) ∧ Bytes w3 ab (l.take Q)) := ⟨hy3, (HBK.out.keep HB2.out).keep HB3.out⟩; have kk2 : w3.cell? ⟨g, 2, none⟩ = some (.int .i64 (st : Int)) := (hb3.cell (p := ⟨g, 2, none⟩) hlt).trans k2; have hlt3 : g < w3.heap.size := Nat.lt_of_lt_of_le hlt HB3.out.size; clear hb3 hy3)
              | (go_at_call 72; refine (equal_any (l.take Q) (sealL x y E st) Q Z ab (some ⟨g3, 0, none⟩) _ _ _ HLN.out.1 HLN.out.2.1 HLN.out.2.2.1 HLN.out.2.2.2 HY3.out.2 HY3.out.1).mono ?_; rw [HEQ.out]; rintro e w9 ⟨rfl, rfl⟩)
              | fail)
            all_goals (
              go_wp2
              go_ret2
              exact ⟨by rw [HFT.out.1, HFT.out.2]; rfl, below_next HB2.out HB3.out⟩)
        · have HFT : Hid (ftS l x y E = 0 ∧ ftN l x y E = 0) := ft_zero (by rw [hft, if_neg (fun h => hs ⟨h.1, h.2.1⟩)])
          have HST : Hid (stB (st : Int) = false) := decide_eq_false (fun h => hs ⟨by omega, by omega⟩)
          clear hft hs hE
          go_enter Tryd.func42, Tryd.ntmps42
          go_wp2_with (first
            | (go_at_call 36; refine (fdec_any l m ab capb w HB.out.2.1 HB.out.1 (by rw [HB.out.2.1]; omega) (by rw [HB.out.2.1]; omega) HB.out.2.2).mono ?_; rintro r w1 ⟨v1, rfl, ho1, hb1⟩; rw [HDV.out v1]; obtain ⟨a1, c1, hv1, hc1, _, hy1, _⟩ := ho1.shape; rw [HBL.out.1] at hv1 hc1; subst hv1; have HB1 : Hid (Below w.heap.size w w1 ∧ Bytes w1 a1 (decB l) ∧ B ≤ c1) := ⟨hb1, hy1, hc1⟩; clear ho1 hb1 hy1 hc1)
            | (go_at_call 37; refine (HARM.out _ _ _ (HB1.out.2.1.keep ((Below.refl _ _).alloc (Nat.le_refl _) _)) HB1.out.2.2).mono ?_; rintro e w2 ⟨g, c2, xa, R, cp, rfl, hlt, k2, hb2⟩; have HB2 : Hid (Below w.heap.size w w2) := below_next (HB1.out.1.alloc HB1.out.1.size _) hb2; clear hb2)
            | fail)
          have hq : ∀ w0, Calls Tryd.prog 45 #[.int .i64 (st : Int)] w0 fun e w1 => e = .returned (.bool false) ∧ w1 = w0 := fun w0 => by have h := isStride_q (st : Int) w0; rw [HST.out] at h; exact h
          have HQQ : Hid (_) := hq
          clear hq
          go_quiet ((go_at_call 45; exact Calls.quiet_of_same (HQQ.out _)))
          go_wp2
          go_ret2
          exact ⟨by rw [HFT.out.1, HFT.out.2]; rfl, below_drewN HB2.out _⟩
  · obtain ⟨e, he⟩ : ∃ e, decE l = e := ⟨_, rfl⟩
    have HDV : Hid (∀ v, DV l v = .tuple #[FrV 0 0 v, .int .i64 0, .int .i64 (e : Int)]) := fun v => (dv_none l v e he (by omega)).1
    have HFT : Hid (ftS l x y E = 0 ∧ ftN l x y E = 0) := ft_zero (ftS_no l x y E (.inl h0))
    have heI : ((e : Int) != 0) = true := by simp; omega
    clear h0 he hE
    go_enter Tryd.func42, Tryd.ntmps42
    go_wp2_with (first
      | (go_at_call 36; refine (fdec_any l m ab capb w HB.out.2.1 HB.out.1 (by rw [HB.out.2.1]; omega) (by rw [HB.out.2.1]; omega) HB.out.2.2).mono ?_; rintro r w1 ⟨v1, rfl, ho1, hb1⟩; rw [HDV.out v1]; obtain ⟨a1, c1, hv1, _⟩ := ho1.shape; subst hv1; have HB1 : Hid (Below w.heap.size w w1) := hb1; clear ho1 hb1)
      | fail)
    go_ret2
    exact ⟨by rw [HFT.out.1, HFT.out.2]; rfl, HB1.out.alloc HB1.out.size _⟩
end Go.Proofs.YtaegmeilhdbnnaaDoor
