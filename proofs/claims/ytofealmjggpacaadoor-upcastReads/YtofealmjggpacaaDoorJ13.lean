/- Own texts, joined: Str8, Sd5. -/
import Derived.Test.YtofealmjggpacaaDoorRows
import Derived.Test.YtofealmjggpacaaDoorJ00
import Derived.Laws.BytesArg
import Derived.Lib.Bytes
import Derived.Test.YtofealmjggpacaaDoorJ31
import Derived.Test.YtofealmjggpacaaDoorJ26
namespace Go.Proofs.YtofealmjggpacaaDoor
open Go.ChangeShapes Go.WideShapes Go.ChangeAt Go.RowKit
set_option linter.unusedVariables false
def str8 (l : List Nat) : ByteArray := strOfNums (l.map fun (n : Nat) => (n : Int))
theorem str8_inj {l m : List Nat} (hl : ∀ x ∈ l, x < 256) (hm : ∀ x ∈ m, x < 256) (h : (str8 l).toList = (str8 m).toList) : l = m := by
  have h1 : (str8 l).data.toList = (str8 m).data.toList := by
    unfold str8 at h ⊢
    rw [Lib.strOfNums_toList, Lib.strOfNums_toList] at h
    exact h
  unfold str8 at h1
  rw [strOfNums_data, strOfNums_data, List.map_map, List.map_map] at h1
  have key : ∀ k : List Nat, (∀ x ∈ k, x < 256) → (k.map ((fun n : Int => UInt8.ofNat n.toNat) ∘ fun n : Nat => (n : Int))).map UInt8.toNat = k := by
    intro k
    induction k with
    | nil => intro _; rfl
    | cons x r ih =>
      intro hk
      have hx := hk x (List.mem_cons_self ..)
      simp only [List.map_cons, Function.comp, Int.toNat_natCast, UInt8.toNat_ofNat']
      rw [Nat.mod_eq_of_lt (by omega)]
      congr 1
      exact ih (fun y hy => hk y (List.mem_cons_of_mem _ hy))
  rw [← key l hl, ← key m hm, h1]
theorem conv_bytes {w : World} {a : Option Addr} {l : List Nat} {n cap : Nat} (hn : l.length = n) (hne : l ≠ []) (hb : Bytes w a l) : (convert 22 9 (.slice a n cap)).run Tryd.prog w = .ok (.string (str8 l)) w := by
  obtain ⟨b, off, rfl, hlt, hc⟩ := hb.nonempty hne
  refine run_convert_bytes_arg w 22 5 Tryd.underlying22 Tryd.underlying5 b off n cap (l.map fun (n : Nat) => (n : Int)) (by rw [List.length_map]; exact hn) (fun i hi => ?_) 9 Tryd.underlying9
  rw [hc i (by omega)]
  simp [List.getD_eq_getElem?_getD, show i < l.length from by omega]
/-- the bytes of a string, as numbers -/
def nums8 (s : ByteArray) : List Nat := s.data.toList.map UInt8.toNat
theorem nums8_len (s : ByteArray) : (nums8 s).length = s.size := by unfold nums8; rw [List.length_map, Array.length_toList]; rfl
theorem nums8_lt (s : ByteArray) : ∀ x ∈ nums8 s, x < 256 := by
  intro x hx
  obtain ⟨c, _, rfl⟩ := List.mem_map.1 hx
  exact c.toNat_lt
theorem str8_data (l : List Nat) : (str8 l).data.toList = l.map UInt8.ofNat := by
  unfold str8
  rw [strOfNums_data, List.map_map]
  exact List.map_congr_left (fun x _ => by show UInt8.ofNat (Int.toNat (x : Int)) = _; rw [Int.toNat_natCast])
theorem nums8_str8 (l : List Nat) (hl : ∀ x ∈ l, x < 256) : nums8 (str8 l) = l := by
  unfold nums8
  rw [str8_data, List.map_map]
  conv => rhs; rw [← List.map_id l]
  refine List.map_congr_left (fun x hx => ?_)
  have := hl x hx
  simp only [Function.comp, UInt8.toNat_ofNat', id]
  omega
theorem str8_nums8 (s : ByteArray) : str8 (nums8 s) = s := by
  have h : (str8 (nums8 s)).data.toList = s.data.toList := by
    rw [str8_data]
    unfold nums8
    rw [List.map_map]
    conv => rhs; rw [← List.map_id s.data.toList]
    exact List.map_congr_left (fun x _ => by simp)
  cases s with
  | mk d =>
    have h2 : (str8 (nums8 ⟨d⟩)).data = d := Array.toList_inj.1 h
    cases hs : str8 (nums8 ⟨d⟩) with
    | mk d2 => rw [hs] at h2; simp only at h2; rw [h2]
theorem str8_nil : str8 [] = ⟨#[]⟩ := rfl
theorem nums8_nil : nums8 ⟨#[]⟩ = [] := rfl
theorem str8_size (l : List Nat) : (str8 l).size = l.length := by unfold str8; rw [strOfNums_size, List.length_map]
theorem nums8_inj {s t : ByteArray} (h : nums8 s = nums8 t) : s = t := by rw [← str8_nums8 s, ← str8_nums8 t, h]
theorem nums8_getD (s : ByteArray) (j : Nat) (hj : j < s.size) : (nums8 s).getD j 0 = (s.data.toList.getD j 0).toNat := by
  have h1 : j < s.data.toList.length := by rw [Array.length_toList]; exact hj
  unfold nums8
  rw [List.getD_eq_getElem?_getD, List.getD_eq_getElem?_getD, List.getElem?_map, List.getElem?_eq_getElem h1]
  rfl
/-- string(b): any bytes of one's own -/
theorem conv_own {w : World} {base : Nat} {v : Value} {l : List Nat} (h : Own w base v l) : (convert 22 9 v).run Tryd.prog w = .ok (.string (str8 l)) w := by
  obtain ⟨a, cap, rfl, _, _, hb, hx⟩ := h.shape
  rcases hx with ⟨rfl, rfl, _⟩ | ⟨g, rfl, _, _⟩
  · exact run_convert_bytes_nil w 22 5 Tryd.underlying22 Tryd.underlying5 _ cap 9 Tryd.underlying9
  · refine run_convert_bytes_arg w 22 5 Tryd.underlying22 Tryd.underlying5 g 0 l.length cap (l.map fun (n : Nat) => (n : Int)) (by rw [List.length_map]) (fun i hi => ?_) 9 Tryd.underlying9
    obtain ⟨b, off, hbb, _, hc⟩ := hb.nonempty (by intro e; subst e; simp at hi)
    cases hbb
    rw [hc i hi]
    simp [List.getD_eq_getElem?_getD, hi]
end Go.Proofs.YtofealmjggpacaaDoor
namespace Go.Proofs.YtofealmjggpacaaDoor
open Go.ChangeShapes Go.WideShapes Go.ChangeAt Go.RowKit
set_option linter.unusedVariables false
/-- a number as an int -/
def capN (u : Nat) : Int := if u ≤ 4611686018427387904 then (u : Int) else 4611686018427387904
set_option maxRecDepth 20000 in
theorem capped_any (u : Nat) (w : World) : Calls Tryd.prog 32 #[.int .u64 (u : Int)] w fun r w' => r = .returned (.int .i64 (capN u)) ∧ w = w' := by
  by_cases h : u ≤ 4611686018427387904
  · have HC : Hid (capN u = (u : Int)) := if_pos h
    have hI : (u : Int) ≤ 4611686018427387904 := by omega
    clear h
    go_enter Tryd.func32, Tryd.ntmps32
    go_wp2
    go_ret
    exact ⟨by rw [HC.out]; rfl, rfl⟩
  · have HC : Hid (capN u = 4611686018427387904) := if_neg h
    have hI : ¬ (u : Int) ≤ 4611686018427387904 := by omega
    clear h
    go_enter Tryd.func32, Tryd.ntmps32
    go_wp2
    go_ret
    exact ⟨by rw [HC.out]; rfl, rfl⟩
set_option maxRecDepth 20000 in
theorem number_any (t : Int) (w : World) (base q b : Nat) (L : List (Fld × Value)) (e : Nat) (h : RdAt w base q b L e) (ht : (Lit.int .i64 t).wf = true) :
    Calls Tryd.prog 136 #[.pointer (some ⟨q, 0, none⟩), .int .i64 t] w fun r w' => r = .returned (.int .i64 (capN (numF (L.map Prod.fst) t))) ∧ RdPost w base q b L e t false w' := by
  have HR : Hid (RdAt w base q b L e) := h
  obtain ⟨u, hu⟩ : ∃ u, numF (L.map Prod.fst) t = u := ⟨_, rfl⟩
  rw [hu]
  have HU : Hid (_) := hu
  clear h hu
  go_enter Tryd.func136, Tryd.ntmps136
  go_wp2_with (first
    | (go_at_call 139; refine (rnum_any t w base q b L e HR.out ht).mono ?_; rw [HU.out]; rintro r w1 ⟨rfl, hp⟩; have HP : Hid (RdPost w base q b L e t false w1) := hp; clear hp)
    | (go_at_call 32; refine (capped_any u w1).mono ?_; rintro r w2 ⟨rfl, rfl⟩))
  go_ret
  exact ⟨rfl, HP.out⟩
/-- what is left behind takes, and the error -/
def tkL (L : List (Fld × Value)) (ts : List (Int × Bool)) : List (Fld × Value) := ts.foldl (fun L x => delT L x.1) L
def tkF (fs : List Fld) (ts : List (Int × Bool)) : List Fld := ts.foldl (fun L x => delF L x.1) fs
def tkE (fs : List Fld) (ts : List (Int × Bool)) : Nat := (ts.foldl (fun (S : List Fld × Nat) x => (delF S.1 x.1, errF S.1 S.2 x.1 x.2)) (fs, 0)).2
theorem tkF_of (ts : List (Int × Bool)) : ∀ (L : List (Fld × Value)), (tkL L ts).map Prod.fst = tkF (L.map Prod.fst) ts := by
  induction ts with
  | nil => intro L; rfl
  | cons x r ih => intro L; show (tkL (delT L x.1) r).map Prod.fst = tkF (delF (L.map Prod.fst) x.1) r; rw [ih, delF_of]
theorem tk_pair (ts : List (Int × Bool)) : ∀ (fs : List Fld) (e : Nat), (ts.foldl (fun (S : List Fld × Nat) x => (delF S.1 x.1, errF S.1 S.2 x.1 x.2)) (fs, e)).1 = tkF fs ts := by
  induction ts with
  | nil => intro fs e; rfl
  | cons x r ih => intro fs e; exact ih _ _
theorem tkE_snoc (fs : List Fld) (ts : List (Int × Bool)) (x : Int × Bool) : tkE fs (ts ++ [x]) = errF (tkF fs ts) (tkE fs ts) x.1 x.2 := by
  unfold tkE
  rw [List.foldl_append]
  show errF _ _ _ _ = _
  rw [tk_pair]
theorem tkL_snoc (L : List (Fld × Value)) (ts : List (Int × Bool)) (x : Int × Bool) : tkL L (ts ++ [x]) = delT (tkL L ts) x.1 := by
  unfold tkL; rw [List.foldl_append]; rfl
theorem getF_del_other (fs : List Fld) {t s : Int} (h : s ≠ t) : getF (delF fs t) s = getF fs s := by
  unfold getF delF
  refine Go.Maps.find_filter_keep (fun p hp => ?_) fs
  simp at hp ⊢
  omega
theorem getF_tk (s : Int) : ∀ (ts : List (Int × Bool)) (fs : List Fld), (∀ x ∈ ts, x.1 ≠ s) → getF (tkF fs ts) s = getF fs s
  | [], fs, _ => rfl
  | x :: r, fs, h => by
    show getF (tkF (delF fs x.1) r) s = _
    rw [getF_tk s r _ (fun y hy => h y (List.mem_cons_of_mem _ hy)), getF_del_other fs (h x (List.mem_cons_self ..)).symm]
theorem numF_tk {s : Int} {ts : List (Int × Bool)} {fs : List Fld} (h : ∀ x ∈ ts, x.1 ≠ s) : numF (tkF fs ts) s = numF fs s := by unfold numF; rw [getF_tk s ts fs h]
theorem txtF_tk {s : Int} {ts : List (Int × Bool)} {fs : List Fld} (h : ∀ x ∈ ts, x.1 ≠ s) : txtF (tkF fs ts) s = txtF fs s := by unfold txtF; rw [getF_tk s ts fs h]
/-- the reader behind the takes ts -/
structure Tk (w1 w2 : World) (base q b : Nat) (L : List (Fld × Value)) (ts : List (Int × Bool)) : Prop where
  rd : RdAt w2 base q b (tkL L ts) (tkE (L.map Prod.fst) ts)
  kep : Kept q b w1 w2
theorem Tk.keep {w1 w2 w3 : World} {base q b : Nat} {L : List (Fld × Value)} {ts : List (Int × Bool)} (h : Tk w1 w2 base q b L ts) (hb : Below w2.heap.size w2 w3) : Tk w1 w3 base q b L ts :=
  ⟨h.rd.keep hb, ⟨hb.os.trans h.kep.os, hb.tape.trans h.kep.tape, hb.output.trans h.kep.output, Nat.le_trans h.kep.size hb.size, fun k hk h1 h2 => (hb.block k (Nat.lt_of_lt_of_le hk h.kep.size)).trans (h.kep.block k hk h1 h2)⟩⟩
theorem Tk.step {w1 w2 w3 : World} {base q b : Nat} {L : List (Fld × Value)} {ts : List (Int × Bool)} {t : Int} {x : Bool} (h : Tk w1 w2 base q b L ts) (hp : RdPost w2 base q b (tkL L ts) (tkE (L.map Prod.fst) ts) t x w3) : Tk w1 w3 base q b L (ts ++ [(t, x)]) := by
  obtain ⟨h1, h2⟩ := hp
  rw [tkF_of] at h1
  refine ⟨?_, ⟨h2.os.trans h.kep.os, h2.tape.trans h.kep.tape, h2.output.trans h.kep.output, Nat.le_trans h.kep.size h2.size, fun k hk k1 k2 => (h2.block k (Nat.lt_of_lt_of_le hk h.kep.size) k1 k2).trans (h.kep.block k hk k1 k2)⟩⟩
  rw [tkL_snoc, tkE_snoc]
  exact h1
theorem number_tk (t : Int) (w1 w2 : World) (base q b : Nat) (L : List (Fld × Value)) (ts : List (Int × Bool)) (h : Tk w1 w2 base q b L ts) (hts : ∀ x ∈ ts, x.1 ≠ t) (ht : (Lit.int .i64 t).wf = true) :
    Calls Tryd.prog 136 #[.pointer (some ⟨q, 0, none⟩), .int .i64 t] w2 fun r w3 => r = .returned (.int .i64 (capN (numF (L.map Prod.fst) t))) ∧ Tk w1 w3 base q b L (ts ++ [(t, false)]) ∧ Kept q b w2 w3 := by
  refine (number_any t w2 base q b _ _ h.rd ht).mono ?_
  rw [tkF_of, numF_tk hts]
  rintro r w3 ⟨rfl, hp⟩
  exact ⟨rfl, h.step hp, hp.2⟩
theorem int_tk (t : Int) (w1 w2 : World) (base q b : Nat) (L : List (Fld × Value)) (ts : List (Int × Bool)) (h : Tk w1 w2 base q b L ts) (hts : ∀ x ∈ ts, x.1 ≠ t) (ht : (Lit.int .i64 t).wf = true) (hf : ∀ f ∈ L.map Prod.fst, FRight f) :
    Calls Tryd.prog 128 #[.pointer (some ⟨q, 0, none⟩), .int .i64 t] w2 fun r w3 => r = .returned (.int .i64 (zag (numF (L.map Prod.fst) t : Int))) ∧ Tk w1 w3 base q b L (ts ++ [(t, false)]) ∧ Kept q b w2 w3 := by
  have hf2 : ∀ f ∈ (tkL L ts).map Prod.fst, FRight f := by
    intro f hfm
    rw [tkF_of] at hfm
    refine hf f ?_
    clear hts hf h
    generalize L.map Prod.fst = fs at hfm ⊢
    induction ts generalizing fs with
    | nil => exact hfm
    | cons x r ih => exact (List.mem_filter.1 (ih _ hfm)).1
  refine (rint_any t w2 base q b _ _ h.rd ht hf2).mono ?_
  rw [tkF_of, numF_tk hts]
  rintro r w3 ⟨rfl, hp⟩
  exact ⟨rfl, h.step hp, hp.2⟩
theorem text_tk (t : Int) (w1 w2 : World) (base q b : Nat) (L : List (Fld × Value)) (ts : List (Int × Bool)) (h : Tk w1 w2 base q b L ts) (hts : ∀ x ∈ ts, x.1 ≠ t) (ht : (Lit.int .i64 t).wf = true) :
    Calls Tryd.prog 149 #[.pointer (some ⟨q, 0, none⟩), .int .i64 t] w2 fun r w3 => ∃ v, r = .returned v ∧ Own w3 base v (txtF (L.map Prod.fst) t) ∧ Tk w1 w3 base q b L (ts ++ [(t, true)]) ∧ Kept q b w2 w3 := by
  refine (rtext_any t w2 base q b _ _ h.rd ht).mono ?_
  rw [tkF_of, txtF_tk hts]
  rintro r w3 ⟨v, rfl, ho, hp⟩
  exact ⟨v, rfl, ho, h.step hp, hp.2⟩
theorem EvAt.kept {w w' : World} {g1 g2 b : Nat} {e : Ev} (h : EvAt w b e) (hk : Kept g1 g2 w w') (h1 : b ≠ g1) (h2 : b ≠ g2) : EvAt w' b e := (hk.block b h.lt h1 h2).trans h
theorem results_ev1 {fn : Func} {p : Tmp} (h : fn.results = #[.cell p 25]) (tmps : Array Value) (w : World) (k : Nat) {e : Ev} (hp : tmps.getD p undef = .pointer (some ⟨k, 0, none⟩)) (hl : EvAt w k e) :
    (results fn tmps).run Tryd.prog w = .ok (.agg (evA e)) w := by
  simp only [Array.getD_eq_getD_getElem?] at hp
  simp [results, h, hp, asAddr, hl.loadVar]
theorem Tk.lts {w1 w2 : World} {base q b : Nat} {L : List (Fld × Value)} {ts : List (Int × Bool)} (h : Tk w1 w2 base q b L ts) : q < w2.heap.size ∧ b < w2.heap.size := by
  obtain ⟨n, D, hm, _⟩ := h.rd.map
  exact ⟨lt_of_heap h.rd.blk, hm.lt⟩
set_option maxRecDepth 20000 in
theorem takeq1 (arr : Array Value) (w1 w2 : World) (base q b : Nat) (L : List (Fld × Value)) (ts : List (Int × Bool)) (h : Tk w1 w2 base q b L ts) (hts : ∀ x ∈ ts, x.1 ≠ 4) (hf : ∀ f ∈ L.map Prod.fst, FRight f) :
    Calls Tryd.prog 135 #[.agg arr, .pointer (some ⟨q, 0, none⟩)] w2 fun r w3 => r = .returned (.int .i64 (zag (numF (L.map Prod.fst) 4 : Int))) ∧ Tk w1 w3 base q b L (ts ++ [(4, false)]) ∧ Kept q b w2 w3 := by
  have hB : Below w2.heap.size w2 (w2.alloc (.cells arr 159)) := (Below.refl _ _).alloc (Nat.le_refl _) _
  have HT : Hid (Tk w1 (w2.alloc (.cells arr 159)) base q b L ts) := h.keep hB
  have HB : Hid (_) := hB
  have HF : Hid (_) := hf
  have HTS : Hid (_) := hts
  clear h hB hf hts
  go_enter Tryd.func135, Tryd.ntmps135
  go_wp2_with (go_at_call 128; refine (int_tk 4 w1 _ base q b L ts HT.out HTS.out (by decide) HF.out).mono ?_; rintro r x1 ⟨rfl, h1, h2⟩; have H1 : Hid (Tk w1 x1 base q b L (ts ++ [(4, false)])) := h1; have H2 : Hid (Kept q b w2 x1) := ⟨h2.os.trans HB.out.os, h2.tape.trans HB.out.tape, h2.output.trans HB.out.output, Nat.le_trans HB.out.size h2.size, fun k hk k1 k2 => (h2.block k (Nat.lt_of_lt_of_le hk HB.out.size) k1 k2).trans (HB.out.block k hk)⟩; clear h1 h2)
  go_ret
  exact ⟨rfl, H1.out, H2.out⟩
set_option maxRecDepth 20000 in
theorem takeq3 (arr : Array Value) (w1 w2 : World) (base q b : Nat) (L : List (Fld × Value)) (ts : List (Int × Bool)) (h : Tk w1 w2 base q b L ts) (hts : ∀ x ∈ ts, x.1 ≠ 4) :
    Calls Tryd.prog 146 #[.agg arr, .pointer (some ⟨q, 0, none⟩)] w2 fun r w3 => r = .returned (.int .i64 (capN (numF (L.map Prod.fst) 4))) ∧ Tk w1 w3 base q b L (ts ++ [(4, false)]) ∧ Kept q b w2 w3 := by
  have hB : Below w2.heap.size w2 (w2.alloc (.cells arr 163)) := (Below.refl _ _).alloc (Nat.le_refl _) _
  have HT : Hid (Tk w1 (w2.alloc (.cells arr 163)) base q b L ts) := h.keep hB
  have HB : Hid (_) := hB
  have HTS : Hid (_) := hts
  clear h hB hts
  go_enter Tryd.func146, Tryd.ntmps146
  go_wp2_with (go_at_call 136; refine (number_tk 4 w1 _ base q b L ts HT.out HTS.out (by decide)).mono ?_; rintro r x1 ⟨rfl, h1, h2⟩; have H1 : Hid (Tk w1 x1 base q b L (ts ++ [(4, false)])) := h1; have H2 : Hid (Kept q b w2 x1) := ⟨h2.os.trans HB.out.os, h2.tape.trans HB.out.tape, h2.output.trans HB.out.output, Nat.le_trans HB.out.size h2.size, fun k hk k1 k2 => (h2.block k (Nat.lt_of_lt_of_le hk HB.out.size) k1 k2).trans (HB.out.block k hk)⟩; clear h1 h2)
  go_ret
  exact ⟨rfl, H1.out, H2.out⟩
end Go.Proofs.YtofealmjggpacaaDoor
