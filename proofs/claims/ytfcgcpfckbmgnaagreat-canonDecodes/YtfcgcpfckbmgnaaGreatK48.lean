/- Own texts, joined: Sd9, Sda, Sdb, Sdc, Cna, Cnb, Cn8. -/
import Derived.Test.YtfcgcpfckbmgnaaGreatK47
import Derived.Test.YtfcgcpfckbmgnaaGreatK43
import Derived.Test.YtfcgcpfckbmgnaaGreatK46
import Derived.Test.YtfcgcpfckbmgnaaGreatK24
import Derived.Deep.RegionLaw
import Derived.Deep.AppendLies
namespace Go.Proofs.YtfcgcpfckbmgnaaGreat
open Go.ChangeShapes Go.WideShapes Go.ChangeAt Go.RowKit
set_option linter.unusedVariables false
theorem lt_all {l : List Nat} (h : ∀ i, l.getD i 0 < 256) : ∀ x ∈ l, x < 256 := by
  intro x hx
  obtain ⟨i, hi, rfl⟩ := List.mem_iff_getElem.1 hx
  have := h i
  simpa [List.getD_eq_getElem?_getD, hi] using this
theorem lt_getD {l : List Nat} (h : ∀ x ∈ l, x < 256) : ∀ i, l.getD i 0 < 256 := by
  intro i
  rw [List.getD_eq_getElem?_getD]
  rcases hx : l[i]? with _ | x
  · decide
  · exact h x (List.mem_of_getElem? hx)
/-- what schema.Pack answers -/
def spk (v : Int) (E : Ev) : List Nat × Int := if chk v E ≠ 0 then ([], chk v E) else (enc v.toNat ++ ones (efs v E), 0)
def SpkPost (w : World) (v : Int) (E : Ev) (r : Ending) (w' : World) : Prop := ∃ v', r = .returned (.tuple #[v', .int .i64 (spk v E).2]) ∧ Own w' w.heap.size v' (spk v E).1 ∧ Below w.heap.size w w'
theorem step_load_ev {ops : Array Oper} {o : Oper} {a : Act} {w : World} {K : Act → World → Prop} {Q : Exit → Act → World → Prop} {X : Prop} (hg : o.guard = none) (x : Operand) (ho : o.op = .load 75 x)
    {b : Nat} {e : Ev} (hL : EvAt w b e) (hx : a.eval x = .pointer (some ⟨b, 0, none⟩)) (hK : K (a.put o.dst (.agg (evA e))) w) :
    if Region.wanted o (yielded ops a.tmps) = true then Oper.wp Tryz.prog o a w K Q else X := by
  have hw : Region.wanted o (yielded ops a.tmps) = true := by simp [Region.wanted, hg]
  rw [if_pos hw]
  unfold Oper.wp execOp
  simp only [ho, hx, Sem.run_bind, Sem.run_pure, Result.andThen_ok, hL.load]
  exact hK
theorem step_store_ev {ops : Array Oper} {o : Oper} {a : Act} {w : World} {K : Act → World → Prop} {Q : Exit → Act → World → Prop} {X : Prop} (hg : o.guard = none) (x y : Operand) (ho : o.op = .store 75 x y)
    {b : Nat} {e e2 : Ev} (hL : EvAt w b e) (hx : a.eval x = .pointer (some ⟨b, 0, none⟩)) (hy : a.eval y = .agg (evA e2))
    (hK : ∀ w2, EvAt w2 b e2 → (∀ B a, Below B a w → B ≤ b → Below B a w2) → K (a.put o.dst undef) w2) :
    if Region.wanted o (yielded ops a.tmps) = true then Oper.wp Tryz.prog o a w K Q else X := by
  have hw : Region.wanted o (yielded ops a.tmps) = true := by simp [Region.wanted, hg]
  rw [if_pos hw]
  obtain ⟨w2, h1, h2, h3, _, _⟩ := hL.store e2
  unfold Oper.wp execOp
  simp only [ho, hx, hy, Sem.run_bind, Sem.run_pure, Result.andThen_ok, h1]
  exact hK w2 h2 h3
/-- what schema.Unpack answers -/
def sunp (l : List Nat) : Int × Ev × Int :=
  if (dec 0 0 l).2.2 ≠ 0 then (0, zeroE, (dec 0 0 l).2.2)
  else if (sdec (capN (dec 0 0 l).1) (l.drop (dec 0 0 l).2.1)).2 ≠ 0 then (0, zeroE, (sdec (capN (dec 0 0 l).1) (l.drop (dec 0 0 l).2.1)).2)
  else (capN (dec 0 0 l).1, (sdec (capN (dec 0 0 l).1) (l.drop (dec 0 0 l).2.1)).1, 0)
theorem results_ev3 {fn : Func} {p t u : Tmp} (h : fn.results = #[.tmp t, .cell p 75, .tmp u]) (tmps : Array Value) (w : World) (b : Nat) (e : Ev) (x y : Value) (ht : tmps.getD t undef = x) (hp : tmps.getD p undef = .pointer (some ⟨b, 0, none⟩)) (hx : tmps.getD u undef = y) (hl : EvAt w b e) :
    (results fn tmps).run Tryz.prog w = .ok (.tuple #[x, .agg (evA e), y]) w := by
  simp only [Array.getD_eq_getD_getElem?] at hp ht hx
  simp [results, h, hp, ht, hx, asAddr, hl.loadVar]
theorem dec_nn (l : List Nat) (a : Option Addr) (n cap : Nat) (w : World) (hn : l.length = n) (hb : Bytes w a l) (hl : n ≤ maxLen) :
    Calls Tryz.prog 59 #[.slice a n cap] w fun e w' => e = .returned (.tuple #[.int .u64 ((dec 0 0 l).1 : Int), .int .i64 ((dec 0 0 l).2.1 : Int), .int .i64 ((dec 0 0 l).2.2 : Int)]) ∧ w = w' := by
  subst hn
  exact dec_any l a cap w hb hl
end Go.Proofs.YtfcgcpfckbmgnaaGreat
namespace Go.Proofs.YtfcgcpfckbmgnaaGreat
open Go.ChangeShapes Go.WideShapes Go.ChangeAt Go.RowKit
set_option linter.unusedVariables false
theorem nilB_iff (s : ByteArray) : nilB s = true ↔ nums8 s = [] := by
  have h : s.toList = (nums8 s).map fun n => UInt8.ofNat n := by
    conv => lhs; rw [← str8_nums8 s]
    unfold str8
    rw [Lib.strOfNums_toList]
    unfold Lib.bytesOf
    rw [List.map_map]
    exact List.map_congr_left (fun x _ => by simp)
  unfold nilB
  rw [h]
  cases nums8 s <;> simp
theorem zag_zig (x : Int) : zag (zig x) = x := by
  unfold zag zig
  split <;> split <;> omega
theorem zig_zag (u : Int) (h : 0 ≤ u) : zig (zag u) = u := by
  unfold zag zig
  split <;> split <;> omega
/-- two lists of rising tags that have the same field at each tag are one -/
theorem getF_mem {fs : List Fld} {t : Int} {f : Fld} (h : getF fs t = some f) : f ∈ fs ∧ f.tag = t := by
  unfold getF at h
  exact ⟨List.mem_of_find?_eq_some h, by simpa using List.find?_some h⟩
theorem getF_none {fs : List Fld} {t : Int} : getF fs t = none ↔ ∀ f ∈ fs, f.tag ≠ t := by
  unfold getF
  rw [List.find?_eq_none]
  simp
theorem getF_cons (f : Fld) (r : List Fld) (t : Int) : getF (f :: r) t = if f.tag = t then some f else getF r t := by
  unfold getF
  rw [List.find?_cons]
  by_cases h : f.tag = t
  · rw [if_pos h, show (f.tag == t) = true from by simpa using h]
  · rw [if_neg h, show (f.tag == t) = false from by simpa using h]
theorem getF_of_mem {fs : List Fld} (h : fs.Pairwise (fun f g => f.tag < g.tag)) {f : Fld} (hf : f ∈ fs) : getF fs f.tag = some f := by
  induction fs with
  | nil => cases hf
  | cons g r ih =>
    obtain ⟨h1, h2⟩ := List.pairwise_cons.1 h
    rw [getF_cons]
    rcases List.mem_cons.1 hf with rfl | hf
    · rw [if_pos rfl]
    · rw [if_neg (by have := h1 f hf; omega)]
      exact ih h2 hf
theorem rise_ext : ∀ (fs gs : List Fld), fs.Pairwise (fun f g => f.tag < g.tag) → gs.Pairwise (fun f g => f.tag < g.tag) → (∀ t, getF fs t = getF gs t) → fs = gs
  | [], [], _, _, _ => rfl
  | [], g :: s, _, hg, h => by
    have := h g.tag
    rw [getF_of_mem hg (List.mem_cons_self ..)] at this
    cases this
  | f :: r, [], hf, _, h => by
    have := h f.tag
    rw [getF_of_mem hf (List.mem_cons_self ..)] at this
    cases this
  | f :: r, g :: s, hf, hg, h => by
    obtain ⟨f1, f2⟩ := List.pairwise_cons.1 hf
    obtain ⟨g1, g2⟩ := List.pairwise_cons.1 hg
    have a1 := h f.tag
    rw [getF_of_mem hf (List.mem_cons_self ..)] at a1
    have a2 := h g.tag
    rw [getF_of_mem hg (List.mem_cons_self ..)] at a2
    have b1 := (getF_mem a1.symm).1
    have b2 := (getF_mem a2).1
    have hle : g.tag ≤ f.tag := by
      rcases List.mem_cons.1 b1 with rfl | h
      · exact Int.le_refl _
      · exact Int.le_of_lt (g1 f h)
    have hge : f.tag ≤ g.tag := by
      rcases List.mem_cons.1 b2 with rfl | h
      · exact Int.le_refl _
      · exact Int.le_of_lt (f1 g h)
    have hfg : f = g := by
      rw [show f.tag = g.tag from by omega, getF_of_mem hg (List.mem_cons_self ..)] at a1
      exact Option.some.inj a1
    subst hfg
    congr 1
    refine rise_ext r s f2 g2 (fun t => ?_)
    have ht := h t
    rw [getF_cons, getF_cons] at ht
    by_cases e : f.tag = t
    · subst e
      rw [getF_none.2 (fun x hx => by have := f1 x hx; omega), getF_none.2 (fun x hx => by have := g1 x hx; omega)]
    · rwa [if_neg e, if_neg e] at ht
theorem getF_filter (p : Fld → Bool) : ∀ (fs : List Fld) (t : Int), fs.Pairwise (fun f g => f.tag < g.tag) → getF (fs.filter p) t = (getF fs t).bind (fun f => if p f = true then some f else none)
  | [], t, _ => rfl
  | f :: r, t, h => by
    obtain ⟨h1, h2⟩ := List.pairwise_cons.1 h
    have ih := getF_filter p r t h2
    rw [List.filter_cons, getF_cons]
    by_cases e : f.tag = t
    · have hr : getF r t = none := getF_none.2 (fun x hx => by have := h1 x hx; omega)
      rw [if_pos e]
      by_cases hp : p f = true
      · rw [if_pos hp, getF_cons, if_pos e]
        show _ = if p f = true then _ else _
        rw [if_pos hp]
      · rw [if_neg hp, ih, hr]
        show _ = if p f = true then _ else _
        rw [if_neg hp]; rfl
    · rw [if_neg e]
      by_cases hp : p f = true
      · rw [if_pos hp, getF_cons, if_neg e, ih]
      · rw [if_neg hp, ih]
theorem Ris.pw : ∀ {fs : List Fld} {A : Int}, Ris A fs → fs.Pairwise (fun f g => f.tag < g.tag) ∧ ∀ f ∈ fs, A < f.tag
  | [], _, _ => ⟨.nil, by simp⟩
  | f :: r, A, h => by
    obtain ⟨h1, _, _, _, h5⟩ := h
    obtain ⟨a, b⟩ := Ris.pw h5
    refine ⟨List.pairwise_cons.2 ⟨b, a⟩, fun g hg => ?_⟩
    rcases List.mem_cons.1 hg with rfl | hg
    · exact h1
    · have := b g hg; omega
/-- takes of right forms tell no error -/
theorem tk_zero : ∀ (ts : List (Int × Bool)) (fs : List Fld), (∀ x ∈ ts, ∀ f, getF fs x.1 = some f → f.text = x.2) → (ts.foldl (fun (S : List Fld × Nat) x => (delF S.1 x.1, errF S.1 S.2 x.1 x.2)) (fs, 0)).2 = 0
  | [], fs, _ => rfl
  | x :: r, fs, h => by
    have e1 : errF fs 0 x.1 x.2 = 0 := by
      unfold errF
      rcases hg : getF fs x.1 with _ | f
      · rfl
      · simp only
        rw [if_pos (h x (List.mem_cons_self ..) f hg)]
    rw [List.foldl_cons]
    show (List.foldl _ (delF fs x.1, errF fs 0 x.1 x.2) r).2 = 0
    rw [e1]
    refine tk_zero r _ (fun y hy f hf => ?_)
    by_cases e : y.1 = x.1
    · obtain ⟨m1, m2⟩ := getF_mem hf
      have := (List.mem_filter.1 m1).2
      rw [m2, e] at this
      simp at this
    · rw [getF_del_other fs e] at hf
      exact h y (List.mem_cons_of_mem _ hy) f hf
/-- an error stays -/
theorem tk_stay : ∀ (ts : List (Int × Bool)) (fs : List Fld) (e : Nat), e ≠ 0 → (ts.foldl (fun (S : List Fld × Nat) x => (delF S.1 x.1, errF S.1 S.2 x.1 x.2)) (fs, e)).2 ≠ 0
  | [], fs, e, h => h
  | x :: r, fs, e, h => by
    rw [List.foldl_cons]
    refine tk_stay r _ _ ?_
    show errF fs e x.1 x.2 ≠ 0
    unfold errF
    rcases getF fs x.1 with _ | f
    · exact h
    · simp only
      split
      · exact h
      · decide
theorem tk_right : ∀ (ts : List (Int × Bool)) (fs : List Fld), ts.Pairwise (fun x y => x.1 ≠ y.1) → (ts.foldl (fun (S : List Fld × Nat) x => (delF S.1 x.1, errF S.1 S.2 x.1 x.2)) (fs, 0)).2 = 0 → ∀ x ∈ ts, ∀ f, getF fs x.1 = some f → f.text = x.2
  | [], fs, _, _ => by simp
  | x :: r, fs, hp, h => by
    obtain ⟨p1, p2⟩ := List.pairwise_cons.1 hp
    rw [List.foldl_cons] at h
    have e1 : errF fs 0 x.1 x.2 = 0 := by
      by_cases hh : errF fs 0 x.1 x.2 = 0
      · exact hh
      · exact absurd h (tk_stay r _ _ hh)
    intro y hy f hf
    rcases List.mem_cons.1 hy with rfl | hy
    · unfold errF at e1
      rw [hf] at e1
      simp only at e1
      by_cases ht : f.text = y.2
      · exact ht
      · rw [if_neg ht] at e1; cases e1
    · have h2 : (List.foldl (fun (S : List Fld × Nat) x => (delF S.1 x.1, errF S.1 S.2 x.1 x.2)) (delF fs x.1, 0) r).2 = 0 := by
        have h3 : (List.foldl (fun (S : List Fld × Nat) x => (delF S.1 x.1, errF S.1 S.2 x.1 x.2)) (delF fs x.1, errF fs 0 x.1 x.2) r).2 = 0 := h
        rwa [e1] at h3
      refine tk_right r _ p2 h2 y hy f ?_
      rw [getF_del_other fs (fun e => p1 y hy e.symm)]
      exact hf
theorem tkF_mem (f : Fld) : ∀ (ts : List (Int × Bool)) (fs : List Fld), f ∈ tkF fs ts ↔ f ∈ fs ∧ ∀ x ∈ ts, f.tag ≠ x.1
  | [], fs => by simp [tkF]
  | x :: r, fs => by
    show f ∈ tkF (delF fs x.1) r ↔ _
    rw [tkF_mem f r]
    unfold delF
    simp only [List.mem_filter, List.mem_cons, forall_eq_or_imp]
    simp
    constructor
    · rintro ⟨⟨a, b⟩, c⟩; exact ⟨a, b, c⟩
    · rintro ⟨a, b, c⟩; exact ⟨⟨a, b⟩, c⟩
theorem errR_zero {fs : List Fld} {ts : List (Int × Bool)} : errR (tkF fs ts) (tkE fs ts) = 0 ↔ tkE fs ts = 0 ∧ ∀ f ∈ fs, ∃ x ∈ ts, f.tag = x.1 := by
  unfold errR
  by_cases he : tkE fs ts = 0
  · rw [if_neg (by simp [he])]
    constructor
    · intro h
      refine ⟨he, fun f hf => ?_⟩
      by_cases hh : ∃ x ∈ ts, f.tag = x.1
      · exact hh
      · exfalso
        have hm : f ∈ tkF fs ts := (tkF_mem f ts fs).2 ⟨hf, fun x hx e => hh ⟨x, hx, e⟩⟩
        rw [if_pos (List.length_pos_of_mem hm)] at h
        cases h
    · rintro ⟨_, h⟩
      have : tkF fs ts = [] := by
        rw [List.eq_nil_iff_forall_not_mem]
        intro f hf
        obtain ⟨h1, h2⟩ := (tkF_mem f ts fs).1 hf
        obtain ⟨x, hx, e⟩ := h f h1
        exact h2 x hx e
      rw [this]; rfl
  · rw [if_pos he]
    constructor
    · intro h; exact absurd h he
    · rintro ⟨h, _⟩; exact absurd h he
end Go.Proofs.YtfcgcpfckbmgnaaGreat
namespace Go.Proofs.YtfcgcpfckbmgnaaGreat
open Go.ChangeShapes Go.WideShapes Go.ChangeAt Go.RowKit
set_option linter.unusedVariables false
/-- how many tags a version has -/
def hasV (v : Int) : Int := if v ≤ 1 then 5 else if v ≤ 2 then 6 else if v ≤ 3 then 7 else if v ≤ 4 then 8 else 10
theorem tgV_mem {v : Int} (h1 : 1 ≤ v) (h5 : v ≤ 5) (t : Int) : (∃ x ∈ tgV v, t = x.1) ↔ 1 ≤ t ∧ t ≤ hasV v := by
  have hv : v = 1 ∨ v = 2 ∨ v = 3 ∨ v = 4 ∨ v = 5 := by omega
  rcases hv with rfl | rfl | rfl | rfl | rfl
  · show (∃ x ∈ tg1 ++ [(4, false)], t = x.1) ↔ 1 ≤ t ∧ t ≤ 5
    simp [tg1]; omega
  · show (∃ x ∈ tg2 ++ [(4, false)], t = x.1) ↔ 1 ≤ t ∧ t ≤ 6
    simp [tg2]; omega
  · show (∃ x ∈ tg3 ++ [(4, false)], t = x.1) ↔ 1 ≤ t ∧ t ≤ 7
    simp [tg3]; omega
  · show (∃ x ∈ tg4 ++ [(4, false)], t = x.1) ↔ 1 ≤ t ∧ t ≤ 8
    simp [tg4]; omega
  · show (∃ x ∈ tg5 ++ [(4, false)], t = x.1) ↔ 1 ≤ t ∧ t ≤ 10
    simp [tg5]; omega
/-- the tags of texts -/
def isT (t : Int) : Bool := decide (t = 8 ∨ t = 10)
theorem tgV_text {v : Int} (h1 : 1 ≤ v) (h5 : v ≤ 5) : ∀ x ∈ tgV v, x.2 = isT x.1 := by
  have hv : v = 1 ∨ v = 2 ∨ v = 3 ∨ v = 4 ∨ v = 5 := by omega
  rcases hv with rfl | rfl | rfl | rfl | rfl <;> decide
theorem tgV_apart {v : Int} (h1 : 1 ≤ v) (h5 : v ≤ 5) : (tgV v).Pairwise (fun x y => x.1 ≠ y.1) := by
  have hv : v = 1 ∨ v = 2 ∨ v = 3 ∨ v = 4 ∨ v = 5 := by omega
  rcases hv with rfl | rfl | rfl | rfl | rfl <;> decide
theorem capN_nat {x : Int} (h0 : 0 ≤ x) (h1 : x ≤ 1099511627776) : capN x.toNat = x := by
  unfold capN
  rw [if_pos (by omega)]; omega
theorem num_at {v : Int} {E : Ev} (r : Right v E) {t : Int} {n : Nat} (h : getF (evF v E) t = some ⟨t, false, n, []⟩) : numF (efs v E) t = n := by
  unfold numF efs
  rw [getF_filter nz _ t r.ris.pw.1, h]
  show (match (if nz ⟨t, false, n, []⟩ = true then some (⟨t, false, n, []⟩ : Fld) else none) with | some f => if f.text = false then f.num else 0 | none => 0) = n
  by_cases hn : n = 0
  · subst hn; rfl
  · rw [if_pos (by simp [nz, hn])]; rfl
theorem txt_at {v : Int} {E : Ev} (r : Right v E) {t : Int} {l : List Nat} (h : getF (evF v E) t = some ⟨t, true, 0, l⟩) : txtF (efs v E) t = l := by
  unfold txtF efs
  rw [getF_filter nz _ t r.ris.pw.1, h]
  show (match (if nz ⟨t, true, 0, l⟩ = true then some (⟨t, true, 0, l⟩ : Fld) else none) with | some f => if f.text = true then f.bytes else [] | none => []) = l
  cases l with
  | nil => rfl
  | cons x s => rfl
theorem evF_text {v : Int} {E : Ev} : ∀ f ∈ evF v E, f.text = isT f.tag ∧ norm f = f ∧ 1 ≤ f.tag ∧ f.tag ≤ 10 := by
  intro f hf
  simp only [evF, tenF, List.mem_cons, List.not_mem_nil, or_false] at hf
  rcases hf with rfl | rfl | rfl | rfl | rfl | rfl | rfl | rfl | rfl | rfl
  all_goals exact ⟨rfl, rfl, by simp, by simp⟩
/-- a version writes its own tags alone -/
theorem efs_tags {v : Int} {E : Ev} (r : Right v E) : ∀ f ∈ efs v E, 1 ≤ f.tag ∧ f.tag ≤ hasV v := by
  intro f hf
  obtain ⟨h1, h2⟩ := List.mem_filter.1 hf
  have h3 := (evF_text f h1).2.2
  refine ⟨h3.1, ?_⟩
  have o1 := r.own1
  have o2 := r.own2
  have o3 := r.own3
  have o4 := r.own4
  rw [nilB_iff] at o3 o4
  simp only [evF, tenF, List.mem_cons, List.not_mem_nil, or_false] at h1
  unfold hasV
  rcases h1 with rfl | rfl | rfl | rfl | rfl | rfl | rfl | rfl | rfl | rfl
  · show (1 : Int) ≤ _; repeat' split <;> omega
  · show (2 : Int) ≤ _; repeat' split <;> omega
  · show (3 : Int) ≤ _; repeat' split <;> omega
  · show (4 : Int) ≤ _; repeat' split <;> omega
  · show (5 : Int) ≤ _; repeat' split <;> omega
  · show (6 : Int) ≤ _
    rcases o1 with o | o
    · rw [if_neg (by omega)]; repeat' split <;> omega
    · simp [nz, o] at h2
  · show (7 : Int) ≤ _
    rcases o2 with o | o
    · rw [if_neg (by omega), if_neg (by omega)]; repeat' split <;> omega
    · simp [nz, o] at h2
  · show (8 : Int) ≤ _
    rcases o3 with o | o
    · rw [if_neg (by omega), if_neg (by omega), if_neg (by omega)]; repeat' split <;> omega
    · simp [nz, o] at h2
  · show (9 : Int) ≤ _
    rcases o4 with o | o
    · rw [if_neg (by omega), if_neg (by omega), if_neg (by omega), if_neg (by omega)]; omega
    · simp [nz, o.1] at h2
  · show (10 : Int) ≤ _
    rcases o4 with o | o
    · rw [if_neg (by omega), if_neg (by omega), if_neg (by omega), if_neg (by omega)]; omega
    · simp [nz, o.2] at h2
theorem efs_recs {v : Int} {E : Ev} (r : Right v E) : recs (ones (efs v E)) = (efs v E, 0, 0) := by
  have h := recs_back (efs v E) (ones (efs v E)) (fun f hf => (r.flds f (List.mem_filter.1 hf).1).1) (efs_encs r)
  rw [h]
  have : (efs v E).map norm = efs v E := by
    conv => rhs; rw [← List.map_id (efs v E)]
    exact List.map_congr_left (fun f hf => (evF_text f (List.mem_filter.1 hf).1).2.1)
  rw [this]
theorem nil_of_nums {s : ByteArray} (h : nums8 s = []) : s = ⟨#[]⟩ := by rw [← str8_nums8 s, h]; rfl
/-- what the version takes of a record of its own is the event -/
theorem ev_back {v : Int} {E : Ev} (r : Right v E) : ({ evV v (efs v E) with qty := qtyV v (efs v E) } : Ev) = E := by
  have hk : lastK v ≤ 10 := by unfold lastK; repeat' split <;> omega
  have hp : hiP v ≤ 100000000 := by unfold hiP; split <;> omega
  have n1 : numF (efs v E) 1 = E.kind.toNat := num_at r rfl
  have n2 : numF (efs v E) 2 = E.order.toNat := num_at r rfl
  have n3 : numF (efs v E) 3 = E.item.toNat := num_at r rfl
  have n4 : numF (efs v E) 4 = qN v E := num_at r rfl
  have n5 : numF (efs v E) 5 = E.price.toNat := num_at r rfl
  have n6 : numF (efs v E) 6 = E.cur.toNat := num_at r rfl
  have n7 : numF (efs v E) 7 = E.tax.toNat := num_at r rfl
  have n8 : txtF (efs v E) 8 = nums8 E.who := txt_at r rfl
  have n9 : numF (efs v E) 9 = E.stamp.toNat := num_at r rfl
  have n10 : txtF (efs v E) 10 = nums8 E.note := txt_at r rfl
  have q : qtyV v (efs v E) = E.qty := by
    unfold qtyV
    rw [n4]
    unfold qN
    by_cases h2 : v ≤ 2
    · rw [if_pos h2, if_pos h2, nat_of (zig_nn _), zag_zig]
    · rw [if_neg h2, if_neg h2]
      have := r.qty0
      have := r.qty1
      have : loQ v = 0 := if_neg h2
      exact capN_nat (by omega) (by omega)
  have e1 : capN E.kind.toNat = E.kind := capN_nat (by have := r.kind0; omega) (by have := r.kind1; omega)
  have e2 : capN E.order.toNat = E.order := capN_nat (by have := r.order0; omega) r.order1
  have e3 : capN E.item.toNat = E.item := capN_nat r.item0 (by have := r.item1; omega)
  have e5 : capN E.price.toNat = E.price := capN_nat r.price0 (by have := r.price1; omega)
  have e6 : capN E.cur.toNat = E.cur := capN_nat r.cur0 (by have := r.cur1; omega)
  have e7 : capN E.tax.toNat = E.tax := capN_nat r.tax0 (by have := r.tax1; omega)
  have e9 : capN E.stamp.toNat = E.stamp := capN_nat r.stamp0 r.stamp1
  have o1 := r.own1
  have o2 := r.own2
  have o3 := r.own3
  have o4 := r.own4
  rw [nilB_iff] at o3 o4
  have hv : v = 1 ∨ v = 2 ∨ v = 3 ∨ v = 4 ∨ v = 5 := by have := r.v1; have := r.v5; omega
  rw [q]
  clear q n4 r hk hp
  generalize efs v E = fs at n1 n2 n3 n5 n6 n7 n8 n9 n10 ⊢
  obtain ⟨kind, order, item, qty, price, cur, tax, who, stamp, note⟩ := E
  simp only at e1 e2 e3 e5 e6 e7 e9 n1 n2 n3 n5 n6 n7 n8 n9 n10 o1 o2 o3 o4
  have z1 : v ≤ 1 → cur = 0 := fun h => by omega
  have z2 : v ≤ 2 → tax = 0 := fun h => by omega
  have z3 : v ≤ 3 → who = ⟨#[]⟩ := fun h => nil_of_nums (by rcases o3 with o | o; omega; exact o)
  have z4 : v ≤ 4 → stamp = 0 ∧ note = ⟨#[]⟩ := fun h => by
    rcases o4 with o | o
    · omega
    · exact ⟨o.1, nil_of_nums o.2⟩
  rcases hv with rfl | rfl | rfl | rfl | rfl
  · show ({ ev1 _ with qty := qty } : Ev) = _
    simp only [ev1, n1, n2, n3, n5, e1, e2, e3, e5, z1 (by decide), z2 (by decide), z3 (by decide), (z4 (by decide)).1, (z4 (by decide)).2]
  · show ({ ev2 _ with qty := qty } : Ev) = _
    simp only [ev1, ev2, n1, n2, n3, n5, n6, e1, e2, e3, e5, e6, z2 (by decide), z3 (by decide), (z4 (by decide)).1, (z4 (by decide)).2]
  · show ({ ev3 _ with qty := qty } : Ev) = _
    simp only [ev1, ev2, ev3, n1, n2, n3, n5, n6, n7, e1, e2, e3, e5, e6, e7, z3 (by decide), (z4 (by decide)).1, (z4 (by decide)).2]
  · show ({ ev4 _ with qty := qty } : Ev) = _
    simp only [ev1, ev2, ev3, ev4, n1, n2, n3, n5, n6, n7, n8, e1, e2, e3, e5, e6, e7, str8_nums8, (z4 (by decide)).1, (z4 (by decide)).2]
  · show ({ ev5 _ with qty := qty } : Ev) = _
    simp only [ev1, ev2, ev3, ev4, ev5, n1, n2, n3, n5, n6, n7, n8, n9, n10, e1, e2, e3, e5, e6, e7, e9, str8_nums8]
theorem sdec_back {v : Int} {E : Ev} (r : Right v E) : sdec v (ones (efs v E)) = (E, 0) := by
  have h1 := r.v1
  have h5 := r.v5
  have hrec := efs_recs r
  have herr : errR (tkF (efs v E) (tgV v)) (tkE (efs v E) (tgV v)) = 0 := by
    refine errR_zero.2 ⟨tk_zero _ _ (fun x hx f hf => ?_), fun f hf => ?_⟩
    · obtain ⟨m1, m2⟩ := getF_mem hf
      rw [(evF_text f (List.mem_filter.1 m1).1).1, m2, tgV_text h1 h5 x hx]
    · exact (tgV_mem h1 h5 f.tag).2 (efs_tags r f hf)
  rw [show sdec v (ones (efs v E)) = sdR v (evV v) (qtyV v) (tgV v) (ones (efs v E)) from if_neg (by omega)]
  unfold sdR
  rw [hrec]
  simp only [herr, ev_back r, chk_of r]
  rfl
end Go.Proofs.YtfcgcpfckbmgnaaGreat
namespace Go.Proofs.YtfcgcpfckbmgnaaGreat
open Go.ChangeShapes Go.WideShapes Go.ChangeAt Go.RowKit
set_option linter.unusedVariables false
theorem capN_inv {u : Nat} {x : Int} (h : x = capN u) (h1 : x ≤ 1099511627776) : x.toNat = u := by
  unfold capN at h
  split at h <;> omega
/-- fields that were read: rising, each right -/
structure Fine (v : Int) (fs : List Fld) : Prop where
  rise : fs.Pairwise (fun f g => f.tag < g.tag)
  right : ∀ f ∈ fs, FRight f ∧ flt f 0 = 0
  tags : ∀ f ∈ fs, 1 ≤ f.tag ∧ f.tag ≤ hasV v
  forms : ∀ f ∈ fs, f.text = isT f.tag
theorem hasV_le (v : Int) : hasV v ≤ 10 := by unfold hasV; repeat' split <;> omega
theorem Fine.nzf {v : Int} {fs : List Fld} (h : Fine v fs) : ∀ f ∈ fs, nz f = true := by
  intro f hf
  have h1 := h.tags f hf
  have h2 := hasV_le v
  obtain ⟨⟨_, hb, _, _⟩, hz⟩ := h.right f hf
  have h3 := flt_nz (F := f) (A := 0) (by omega) h1.1 (by omega) (fun _ => hb)
  rw [hz] at h3
  by_cases hn : nz f = true
  · exact hn
  · rw [if_neg hn] at h3; cases h3
theorem Fine.num {v : Int} {fs : List Fld} (h : Fine v fs) {t : Int} (ht : isT t = false) : getF fs t = if numF fs t = 0 then none else some ⟨t, false, numF fs t, []⟩ := by
  unfold numF
  rcases hg : getF fs t with _ | f
  · rfl
  · obtain ⟨m1, m2⟩ := getF_mem hg
    have hx := h.forms f m1
    rw [m2, ht] at hx
    obtain ⟨⟨_, _, hn, _⟩, hf⟩ := h.right f m1
    have hnz : f.num ≠ 0 := by
      intro e
      have h9 := h.nzf f m1
      unfold nz at h9
      rw [if_neg (by rw [hx]; simp), e] at h9
      cases h9
    have hb : f.bytes = [] := by
      have h9 : norm f = { f with bytes := [] } := by unfold norm; rw [if_neg (by rw [hx]; simp)]
      rw [h9] at hn
      exact (congrArg Fld.bytes hn).symm
    simp only [hx, if_true]
    rw [if_neg hnz]
    obtain ⟨a, b, c, d⟩ := f
    simp only at m2 hx hb
    rw [m2, hx, hb]
theorem Fine.txt {v : Int} {fs : List Fld} (h : Fine v fs) {t : Int} (ht : isT t = true) : getF fs t = if txtF fs t = [] then none else some ⟨t, true, 0, txtF fs t⟩ := by
  unfold txtF
  rcases hg : getF fs t with _ | f
  · rfl
  · obtain ⟨m1, m2⟩ := getF_mem hg
    have hx := h.forms f m1
    rw [m2, ht] at hx
    obtain ⟨⟨_, _, hn, _⟩, hf⟩ := h.right f m1
    have hnz : f.bytes ≠ [] := by
      intro e
      have h9 := h.nzf f m1
      unfold nz at h9
      rw [if_pos hx, e] at h9
      cases h9
    have hb : f.num = 0 := by
      have h9 : norm f = { f with num := 0 } := by unfold norm; rw [if_pos hx]
      rw [h9] at hn
      exact (congrArg Fld.num hn).symm
    simp only [hx, if_true]
    rw [if_neg hnz]
    obtain ⟨a, b, c, d⟩ := f
    simp only at m2 hx hb
    rw [m2, hx, hb]
theorem Fine.off {v : Int} {fs : List Fld} (h : Fine v fs) {t : Int} (ht : hasV v < t) : numF fs t = 0 ∧ txtF fs t = [] := by
  have hg : getF fs t = none := getF_none.2 (fun f hf e => by have := (h.tags f hf).2; omega)
  unfold numF txtF
  rw [hg]
  exact ⟨rfl, rfl⟩
theorem nz_num (t : Int) (n : Nat) : (some (⟨t, false, n, []⟩ : Fld)).bind (fun f => if nz f = true then some f else none) = if n = 0 then none else some ⟨t, false, n, []⟩ := by
  show (if nz ⟨t, false, n, []⟩ = true then some (⟨t, false, n, []⟩ : Fld) else none) = _
  by_cases hn : n = 0
  · subst hn; rfl
  · rw [if_pos (by simp [nz, hn]), if_neg hn]
theorem nz_txt (t : Int) (l : List Nat) : (some (⟨t, true, 0, l⟩ : Fld)).bind (fun f => if nz f = true then some f else none) = if l = [] then none else some ⟨t, true, 0, l⟩ := by
  show (if nz ⟨t, true, 0, l⟩ = true then some (⟨t, true, 0, l⟩ : Fld) else none) = _
  cases l with
  | nil => rfl
  | cons x s => rw [if_pos (show nz ⟨t, true, 0, x :: s⟩ = true from rfl), if_neg (List.cons_ne_nil x s)]
/-- what the version took, back as it was written -/
theorem took {v : Int} {fs : List Fld} (h : Fine v fs) {E : Ev} (hE : ({ evV v fs with qty := qtyV v fs } : Ev) = E) (r : Right v E) : E.kind.toNat = numF fs 1 ∧ E.order.toNat = numF fs 2 ∧ E.item.toNat = numF fs 3 ∧ qN v E = numF fs 4 ∧ E.price.toNat = numF fs 5 ∧ E.cur.toNat = numF fs 6 ∧ E.tax.toNat = numF fs 7 ∧ nums8 E.who = txtF fs 8 ∧ E.stamp.toNat = numF fs 9 ∧ nums8 E.note = txtF fs 10 := by
  have hk : lastK v ≤ 10 := by unfold lastK; repeat' split <;> omega
  have hp : hiP v ≤ 100000000 := by unfold hiP; split <;> omega
  have h8 := (txtF_lt (fun f hf => (h.right f hf).1) 8).1
  have h10 := (txtF_lt (fun f hf => (h.right f hf).1) 10).1
  have bk := r.kind1
  have bo := r.order1
  have bi := r.item1
  have bp := r.price1
  have bc := r.cur1
  have bt := r.tax1
  have bs := r.stamp1
  have bq := r.qty1
  have bq0 := r.qty0
  have off := fun t ht => h.off (t := t) ht
  have hq : E.qty = qtyV v fs := by rw [← hE]
  have q4 : qN v E = numF fs 4 := by
    unfold qN
    rw [hq]
    unfold qtyV
    by_cases h2 : v ≤ 2
    · rw [if_pos h2, if_pos h2, zig_zag _ (by omega)]; omega
    · rw [if_neg h2, if_neg h2]
      refine capN_inv rfl ?_
      have : qtyV v fs = capN (numF fs 4) := if_neg h2
      rw [hq, this] at bq
      omega
  have hv : v = 1 ∨ v = 2 ∨ v = 3 ∨ v = 4 ∨ v = 5 := by have := r.v1; have := r.v5; omega
  clear r hq bq bq0
  refine ⟨?_, ?_, ?_, q4, ?_, ?_, ?_, ?_, ?_, ?_⟩
  all_goals clear q4
  · refine capN_inv ?_ (by omega); rw [← hE]; rcases hv with rfl | rfl | rfl | rfl | rfl <;> rfl
  · refine capN_inv ?_ (by omega); rw [← hE]; rcases hv with rfl | rfl | rfl | rfl | rfl <;> rfl
  · refine capN_inv ?_ (by omega); rw [← hE]; rcases hv with rfl | rfl | rfl | rfl | rfl <;> rfl
  · refine capN_inv ?_ (by omega); rw [← hE]; rcases hv with rfl | rfl | rfl | rfl | rfl <;> rfl
  · by_cases h1 : v ≤ 1
    · have : v = 1 := by omega
      subst this
      rw [(off 6 (by decide)).1, ← hE]; rfl
    · refine capN_inv ?_ (by omega); rw [← hE]; rcases hv with rfl | rfl | rfl | rfl | rfl
      · omega
      all_goals rfl
  · by_cases h1 : v ≤ 2
    · rcases hv with rfl | rfl | rfl | rfl | rfl
      · rw [(off 7 (by decide)).1, ← hE]; rfl
      · rw [(off 7 (by decide)).1, ← hE]; rfl
      all_goals omega
    · refine capN_inv ?_ (by omega); rw [← hE]; rcases hv with rfl | rfl | rfl | rfl | rfl
      · omega
      · omega
      all_goals rfl
  · by_cases h1 : v ≤ 3
    · rcases hv with rfl | rfl | rfl | rfl | rfl
      · rw [(off 8 (by decide)).2, ← hE]; rfl
      · rw [(off 8 (by decide)).2, ← hE]; rfl
      · rw [(off 8 (by decide)).2, ← hE]; rfl
      all_goals omega
    · have : E.who = str8 (txtF fs 8) := by
        rw [← hE]; rcases hv with rfl | rfl | rfl | rfl | rfl
        · omega
        · omega
        · omega
        all_goals rfl
      rw [this, nums8_str8 _ h8]
  · by_cases h1 : v ≤ 4
    · rcases hv with rfl | rfl | rfl | rfl | rfl
      · rw [(off 9 (by decide)).1, ← hE]; rfl
      · rw [(off 9 (by decide)).1, ← hE]; rfl
      · rw [(off 9 (by decide)).1, ← hE]; rfl
      · rw [(off 9 (by decide)).1, ← hE]; rfl
      · omega
    · have : v = 5 := by omega
      subst this
      refine capN_inv ?_ (by omega); rw [← hE]; rfl
  · by_cases h1 : v ≤ 4
    · rcases hv with rfl | rfl | rfl | rfl | rfl
      · rw [(off 10 (by decide)).2, ← hE]; rfl
      · rw [(off 10 (by decide)).2, ← hE]; rfl
      · rw [(off 10 (by decide)).2, ← hE]; rfl
      · rw [(off 10 (by decide)).2, ← hE]; rfl
      · omega
    · have : v = 5 := by omega
      subst this
      have : E.note = str8 (txtF fs 10) := by rw [← hE]; rfl
      rw [this, nums8_str8 _ h10]
theorem efs_eq {v : Int} {fs : List Fld} (h : Fine v fs) {E : Ev} (hE : ({ evV v fs with qty := qtyV v fs } : Ev) = E) (r : Right v E) : efs v E = fs := by
  obtain ⟨t1, t2, t3, t4, t5, t6, t7, t8, t9, t10⟩ := took h hE r
  have hpw := r.ris.pw.1
  have hh := hasV_le v
  refine rise_ext _ _ (hpw.filter _) h.rise (fun t => ?_)
  by_cases ht : 1 ≤ t ∧ t ≤ 10
  · show getF ((evF v E).filter nz) t = _
    rw [getF_filter nz _ t hpw]
    have hv : t = 1 ∨ t = 2 ∨ t = 3 ∨ t = 4 ∨ t = 5 ∨ t = 6 ∨ t = 7 ∨ t = 8 ∨ t = 9 ∨ t = 10 := by omega
    rcases hv with rfl | rfl | rfl | rfl | rfl | rfl | rfl | rfl | rfl | rfl
    · rw [show getF (evF v E) 1 = some ⟨1, false, E.kind.toNat, []⟩ from rfl, nz_num, t1, h.num rfl]
    · rw [show getF (evF v E) 2 = some ⟨2, false, E.order.toNat, []⟩ from rfl, nz_num, t2, h.num rfl]
    · rw [show getF (evF v E) 3 = some ⟨3, false, E.item.toNat, []⟩ from rfl, nz_num, t3, h.num rfl]
    · rw [show getF (evF v E) 4 = some ⟨4, false, qN v E, []⟩ from rfl, nz_num, t4, h.num rfl]
    · rw [show getF (evF v E) 5 = some ⟨5, false, E.price.toNat, []⟩ from rfl, nz_num, t5, h.num rfl]
    · rw [show getF (evF v E) 6 = some ⟨6, false, E.cur.toNat, []⟩ from rfl, nz_num, t6, h.num rfl]
    · rw [show getF (evF v E) 7 = some ⟨7, false, E.tax.toNat, []⟩ from rfl, nz_num, t7, h.num rfl]
    · rw [show getF (evF v E) 8 = some ⟨8, true, 0, nums8 E.who⟩ from rfl, nz_txt, t8, h.txt rfl]
    · rw [show getF (evF v E) 9 = some ⟨9, false, E.stamp.toNat, []⟩ from rfl, nz_num, t9, h.num rfl]
    · rw [show getF (evF v E) 10 = some ⟨10, true, 0, nums8 E.note⟩ from rfl, nz_txt, t10, h.txt rfl]
  · rw [getF_none.2 (fun f hf e => ?_), getF_none.2 (fun f hf e => ?_)]
    · have := h.tags f hf; omega
    · have := (evF_text f (List.mem_filter.1 hf).1).2.2; omega
theorem fine_of {v : Int} {l : List Nat} (hl : ∀ x ∈ l, x < 256) (h1 : 1 ≤ v) (h5 : v ≤ 5) (h : (recs l).2.2 = 0) (he : errR (tkF (recs l).1 (tgV v)) (tkE (recs l).1 (tgV v)) = 0) : Fine v (recs l).1 := by
  obtain ⟨_, r2, r3, _⟩ := recs_ok l hl h
  obtain ⟨r5, r6⟩ := encs_rise _ _ _ _ r2
  obtain ⟨e1, e2⟩ := errR_zero.1 he
  refine ⟨r5, fun f hf => ⟨r3 f hf, (r6 f hf).2.2.2⟩, fun f hf => (tgV_mem h1 h5 f.tag).1 (e2 f hf), fun f hf => ?_⟩
  obtain ⟨x, hx, hfx⟩ := e2 f hf
  rw [hfx, ← tgV_text h1 h5 x hx]
  exact tk_right (tgV v) _ (tgV_apart h1 h5) e1 x hx f (by rw [← hfx]; exact getF_of_mem r5 hf)
/-- what schema.Decode reads is a right event, and its record is what was read -/
theorem sdec_form {v : Int} {l : List Nat} (hl : ∀ x ∈ l, x < 256) (h : (sdec v l).2 = 0) : Right v (sdec v l).1 ∧ ones (efs v (sdec v l).1) = l := by
  by_cases hv : v < 1 ∨ 5 < v
  · rw [show sdec v l = (zeroE, 30) from if_pos hv] at h; cases h
  · rw [show sdec v l = sdR v (evV v) (qtyV v) (tgV v) l from if_neg hv] at h ⊢
    unfold sdR at h ⊢
    by_cases c1 : (recs l).2.2 = 0
    · rw [if_neg (by simp [c1])] at h ⊢
      by_cases c2 : errR (tkF (recs l).1 (tgV v)) (tkE (recs l).1 (tgV v)) = 0
      · rw [if_neg (by simp [c2])] at h ⊢
        by_cases c3 : chk v { evV v (recs l).1 with qty := qtyV v (recs l).1 } = 0
        · rw [if_neg (by simp [c3])]
          have hf := fine_of hl (by omega) (by omega) c1 c2
          have r := right_of c3
          refine ⟨r, ?_⟩
          have h7 := efs_encs r
          have h8 := efs_eq hf rfl r
          simp only at h7 ⊢
          rw [h8] at h7 ⊢
          rw [(recs_ok l hl c1).2.1] at h7
          exact (Prod.mk.inj h7).1.symm
        · rw [if_pos c3] at h; exact absurd h c3
      · rw [if_pos c2] at h; simp only at h; omega
    · rw [if_pos c1] at h; simp only at h; omega
/-- where there is an error there is no event -/
theorem sdec_err {v : Int} {l : List Nat} (h : (sdec v l).2 ≠ 0) : (sdec v l).1 = zeroE := by
  by_cases hv : v < 1 ∨ 5 < v
  · rw [show sdec v l = (zeroE, 30) from if_pos hv]
  · rw [show sdec v l = sdR v (evV v) (qtyV v) (tgV v) l from if_neg hv] at h ⊢
    unfold sdR at h ⊢
    split
    · rfl
    · rename_i c1
      rw [if_neg c1] at h
      split
      · rfl
      · rename_i c2
        rw [if_neg c2] at h
        split
        · rfl
        · rename_i c3
          rw [if_neg c3] at h
          exact absurd rfl h
end Go.Proofs.YtfcgcpfckbmgnaaGreat
namespace Go.Proofs.YtfcgcpfckbmgnaaGreat
open Go.ChangeShapes Go.WideShapes Go.ChangeAt Go.RowKit
set_option linter.unusedVariables false
theorem dec_encC {u : Nat} (r : List Nat) (h : u < 18446744073709551616) : dec 0 0 (enc u ++ r) = (u, (enc u).length, 0) := by
  have h := dec_enc 9 0 0 u r rfl (by decide) (by simpa using h) (by omega)
  simpa [enc] using h
theorem capN_natC {x : Int} (h0 : 0 ≤ x) (h1 : x ≤ 4611686018427387904) : capN x.toNat = x := by
  unfold capN
  rw [if_pos (by omega)]; omega
theorem capN_invC {u : Nat} {x : Int} (h : x = capN u) (h1 : x < 4611686018427387904) : x.toNat = u := by
  unfold capN at h
  split at h <;> omega
/-- a line within its bounds -/
abbrev LnOk (l : Ln) : Prop := 0 ≤ l.item ∧ l.item ≤ 65535 ∧ 0 ≤ l.price ∧ l.price ≤ 100000000 ∧ 1 ≤ l.qty ∧ l.qty ≤ 100000 ∧ 0 ≤ l.shipped ∧ l.shipped ≤ l.qty
theorem rdLn_back {l : Ln} (h : LnOk l) : rdLn (lnT l) = (l, true) := by
  obtain ⟨h1, h2, h3, h4, h5, h6, h7, h8⟩ := h
  unfold rdLn rdK lnT lnL
  rw [if_neg (by decide), if_neg (by decide), if_neg (by decide), if_neg (by decide)]
  unfold rdK4
  rw [dec_encC _ (by omega)]
  simp only [ne_eq, not_true_eq_false, if_false, List.drop_left]
  unfold rdK3
  rw [dec_encC _ (by omega)]
  simp only [ne_eq, not_true_eq_false, if_false, List.drop_left]
  unfold rdK2
  rw [dec_encC _ (by omega)]
  simp only [ne_eq, not_true_eq_false, if_false, List.drop_left]
  unfold rdK1
  have e4 := dec_encC (u := l.shipped.toNat) [] (by omega)
  rw [List.append_nil] at e4
  rw [e4]
  simp only [ne_eq, not_true_eq_false, if_false, List.drop_length]
  unfold rdK0
  rw [capN_natC h1 (by omega), capN_natC h3 (by omega), capN_natC (by omega) (by omega), capN_natC h7 (by omega)]
  rfl
theorem rdAll_back : ∀ (L : List Ln), (∀ l ∈ L, LnOk l) → rdAll (L.map lnT) = (L, true)
  | [], _ => rfl
  | l :: r, h => by
    have h1 := rdLn_back (h l (List.mem_cons_self ..))
    have h2 := rdAll_back r (fun x hx => h x (List.mem_cons_of_mem _ hx))
    simp only [List.map_cons, rdAll, h1, h2]
    rfl
theorem lnT_ne (l : Ln) (h : LnOk l) : lnT l ≠ [] := by
  intro h2
  have h1 := (enc_length_le l.item.toNat (by omega)).1
  have h3 : (lnT l).length = 0 := by rw [h2]; rfl
  unfold lnT lnL at h3
  simp only [List.length_append] at h3
  omega
theorem getF_lines : ∀ (L : List Ln) (j k : Nat), getF (lnFs j L) (12 + ((j + k : Nat) : Int)) = (L[k]?).map (fun l => (⟨12 + ((j + k : Nat) : Int), true, 0, lnT l⟩ : Fld))
  | [], j, k => by simp [lnFs, getF]
  | l :: r, j, 0 => by
    simp only [lnFs]
    rw [getF_cons, if_pos (by simp)]
    simp
  | l :: r, j, k + 1 => by
    simp only [lnFs]
    rw [getF_cons, if_neg (by show ¬ 12 + (j : Int) = _; omega)]
    have h := getF_lines r (j + 1) k
    rw [show j + 1 + k = j + (k + 1) from by omega] at h
    rw [h]
    simp
theorem getF_appendC {fs gs : List Fld} {t : Int} (h : ∀ f ∈ fs, f.tag ≠ t) : getF (fs ++ gs) t = getF gs t := by
  induction fs with
  | nil => rfl
  | cons f r ih =>
    rw [List.cons_append, getF_cons, if_neg (h f (List.mem_cons_self ..)), ih (fun g hg => h g (List.mem_cons_of_mem _ hg))]
theorem tenS_tags (s : St) : ∀ f ∈ tenS s.order.toNat s.status.toNat s.prior.toNat s.cur.toNat s.tax.toNat s.paid.toNat s.refunded.toNat s.events.toNat s.refused.toNat s.stamp.toNat s.who, 1 ≤ f.tag ∧ f.tag ≤ 11 := by
  intro f hf
  simp only [tenS, List.mem_cons, List.not_mem_nil, or_false] at hf
  rcases hf with rfl | rfl | rfl | rfl | rfl | rfl | rfl | rfl | rfl | rfl | rfl <;> exact ⟨by simp, by simp⟩
theorem getF_line (s : St) (k : Nat) : getF (stFs s) (12 + (k : Int)) = (s.lines[k]?).map (fun l => (⟨12 + (k : Int), true, 0, lnT l⟩ : Fld)) := by
  unfold stFs
  rw [getF_appendC (fun f hf => by have := tenS_tags s f hf; omega)]
  have h := getF_lines s.lines 0 k
  rw [Nat.zero_add] at h
  exact h
theorem stFs_pw {s : St} (v : VSt s) : (stFs s).Pairwise (fun f g => f.tag < g.tag) := v.ris.pw.1
theorem sfs_line {s : St} (v : VSt s) (k : Nat) : getF (sfs s) (12 + (k : Int)) = (s.lines[k]?).map (fun l => (⟨12 + (k : Int), true, 0, lnT l⟩ : Fld)) := by
  unfold sfs
  rw [getF_filter nz _ _ (stFs_pw v), getF_line]
  rcases hk : s.lines[k]? with _ | l
  · rfl
  · show (some _).bind _ = _
    rw [nz_txt, if_neg (lnT_ne l (v.each.2 l (List.mem_of_getElem? hk)))]
    rfl
theorem sfs_num {s : St} (v : VSt s) {t : Int} {n : Nat} (h : getF (stFs s) t = some ⟨t, false, n, []⟩) : getF (sfs s) t = (if n = 0 then none else some ⟨t, false, n, []⟩) ∧ numF (sfs s) t = n := by
  have e : getF (sfs s) t = if n = 0 then none else some ⟨t, false, n, []⟩ := by
    unfold sfs
    rw [getF_filter nz _ _ (stFs_pw v), h, nz_num]
  refine ⟨e, ?_⟩
  unfold numF
  rw [e]
  by_cases hn : n = 0
  · subst hn; rfl
  · rw [if_neg hn]; rfl
theorem sfs_txt {s : St} (v : VSt s) {t : Int} {l : List Nat} (h : getF (stFs s) t = some ⟨t, true, 0, l⟩) : getF (sfs s) t = (if l = [] then none else some ⟨t, true, 0, l⟩) ∧ txtF (sfs s) t = l := by
  have e : getF (sfs s) t = if l = [] then none else some ⟨t, true, 0, l⟩ := by
    unfold sfs
    rw [getF_filter nz _ _ (stFs_pw v), h, nz_txt]
  refine ⟨e, ?_⟩
  unfold txtF
  rw [e]
  by_cases hn : l = []
  · subst hn; rfl
  · rw [if_neg hn]; rfl
theorem sfs_txl {s : St} (v : VSt s) (k : Nat) : txtF (sfs s) (12 + (k : Int)) = ((s.lines[k]?).map lnT).getD [] := by
  unfold txtF
  rw [sfs_line v]
  rcases s.lines[k]? with _ | l <;> rfl
theorem txs_of {fs : List Fld} : ∀ (f k : Nat) (L : List Ln), (∀ j, txtF fs (12 + ((k + j : Nat) : Int)) = ((L[j]?).map lnT).getD []) → L.length ≤ f → (∀ l ∈ L, lnT l ≠ []) → txsFrom fs f k = L.map lnT
  | 0, k, L, _, h2, _ => by
    have : L = [] := List.length_eq_zero_iff.1 (by omega)
    subst this; rfl
  | f + 1, k, L, h1, h2, h3 => by
    have h0 := h1 0
    rw [Nat.add_zero] at h0
    simp only [txsFrom, h0]
    cases L with
    | nil => rfl
    | cons l r =>
      show (if lnT l = [] then [] else lnT l :: txsFrom fs f (k + 1)) = _
      rw [if_neg (h3 l (List.mem_cons_self ..)), txs_of f (k + 1) r (fun j => ?_) (by simpa using h2) (fun x hx => h3 x (List.mem_cons_of_mem _ hx))]
      · rfl
      · have := h1 (j + 1)
        rw [show k + (j + 1) = k + 1 + j from by omega] at this
        rw [this]; simp
/-- the tags that are asked for -/
theorem tgs_form {fs : List Fld} : ∀ (f k : Nat) (x : Int × Bool), x ∈ tgsFrom fs f k ↔ ∃ j, j < f ∧ x = (12 + ((k + j : Nat) : Int), true) ∧ ∀ i, i < j → txtF fs (12 + ((k + i : Nat) : Int)) ≠ []
  | 0, k, x => by simp [tgsFrom]
  | f + 1, k, x => by
    simp only [tgsFrom, List.mem_cons]
    constructor
    · rintro (rfl | h)
      · exact ⟨0, by omega, rfl, fun i hi => by omega⟩
      · split at h
        · cases h
        · rename_i hne
          obtain ⟨j, hj, rfl, hall⟩ := (tgs_form f (k + 1) x).1 h
          refine ⟨j + 1, by omega, by rw [show k + 1 + j = k + (j + 1) from by omega], fun i hi => ?_⟩
          cases i with
          | zero => exact hne
          | succ i =>
            have := hall i (by omega)
            rwa [show k + 1 + i = k + (i + 1) from by omega] at this
    · rintro ⟨j, hj, rfl, hall⟩
      cases j with
      | zero => exact .inl rfl
      | succ j =>
        right
        have h00 : txtF fs (12 + (k : Int)) ≠ [] := hall 0 (by omega)
        rw [if_neg h00]
        refine (tgs_form f (k + 1) _).2 ⟨j, by omega, by rw [show k + 1 + j = k + (j + 1) from by omega], fun i hi => ?_⟩
        have := hall (i + 1) (by omega)
        rwa [show k + (i + 1) = k + 1 + i from by omega] at this
theorem tg11_mem (t : Int) : (∃ x ∈ tg11, t = x.1) ↔ 1 ≤ t ∧ t ≤ 11 := by
  unfold tg11; simp; omega
theorem tg11_text : ∀ x ∈ tg11, x.2 = decide (11 ≤ x.1) ∧ 1 ≤ x.1 ∧ x.1 ≤ 11 := by decide
theorem stFs_form (s : St) : ∀ f ∈ stFs s, f.text = decide (11 ≤ f.tag) ∧ norm f = f ∧ 1 ≤ f.tag := by
  intro f hf
  simp only [stFs, tenS, List.cons_append, List.nil_append, List.mem_cons] at hf
  rcases hf with rfl | rfl | rfl | rfl | rfl | rfl | rfl | rfl | rfl | rfl | rfl | hf
  all_goals try (exact ⟨rfl, rfl, by simp⟩)
  obtain ⟨j, l, hl1, hj, rfl⟩ := mem_lnFs _ _ _ hf
  exact ⟨by show true = decide (11 ≤ 12 + ((0 + j : Nat) : Int)); rw [decide_eq_true (by omega)], rfl, by show 1 ≤ 12 + ((0 + j : Nat) : Int); omega⟩
theorem sfs_err {s : St} (v : VSt s) : errR (tkF (sfs s) (ctg (sfs s))) (tkE (sfs s) (ctg (sfs s))) = 0 := by
  refine errR_zero.2 ⟨?_, ?_⟩
  · refine tk_zero (ctg (sfs s)) (sfs s) (fun x hx f hf => ?_)
    obtain ⟨m1, m2⟩ := getF_mem hf
    have h1 := (stFs_form s f (List.mem_filter.1 m1).1).1
    rw [h1, m2]
    rcases List.mem_append.1 hx with h | h
    · exact (tg11_text x h).1.symm
    · obtain ⟨j, _, rfl, _⟩ := (tgs_form 16 0 x).1 h
      show decide (11 ≤ 12 + ((0 + j : Nat) : Int)) = true
      exact decide_eq_true (by omega)
  · intro f hf
    have hm := (List.mem_filter.1 hf).1
    simp only [stFs, List.mem_append] at hm
    rcases hm with h | h
    · obtain ⟨x, hx, e⟩ := (tg11_mem f.tag).2 (tenS_tags s f h)
      exact ⟨x, List.mem_append_left _ hx, e⟩
    · obtain ⟨j, l, hl1, hj, rfl⟩ := mem_lnFs _ _ _ h
      have h16 := v.each.1
      refine ⟨_, List.mem_append_right _ ((tgs_form 16 0 (12 + ((0 + j : Nat) : Int), true)).2 ⟨j, by omega, rfl, fun i hi => ?_⟩), rfl⟩
      rw [Nat.zero_add, sfs_txl v]
      obtain ⟨p, hp⟩ := ln_get (L := s.lines) (k := i) (by omega)
      rw [hp]
      exact lnT_ne p (v.each.2 p (List.mem_of_getElem? hp))
/-- written and read -/
theorem cdec_back {s : St} (hv : vldB s = true) : cdec (ones (sfs s)) = (s, 0) := by
  have v := vst_of hv
  have hr : recs (ones (sfs s)) = (sfs s, 0, 0) := by
    have h := recs_back (sfs s) (ones (sfs s)) (fun f hf => (v.flds f (List.mem_filter.1 hf).1).1) (sfs_encs v)
    rw [h]
    have : (sfs s).map norm = sfs s := by
      conv => rhs; rw [← List.map_id (sfs s)]
      exact List.map_congr_left (fun f hf => (stFs_form s f (List.mem_filter.1 hf).1).2.1)
    rw [this]
  have ht : txsFrom (sfs s) 16 0 = s.lines.map lnT := txs_of 16 0 s.lines (fun j => by rw [Nat.zero_add]; exact sfs_txl v j) v.each.1 (fun l hl => lnT_ne l (v.each.2 l hl))
  have ha : rdAll (txsFrom (sfs s) 16 0) = (s.lines, true) := by rw [ht]; exact rdAll_back _ v.each.2
  have hS : stL (sfs s) = s := by
    unfold stL stOf
    rw [ha]
    have n1 := (sfs_num v (t := 1) (n := s.order.toNat) rfl).2
    have n2 := (sfs_num v (t := 2) (n := s.status.toNat) rfl).2
    have n3 := (sfs_num v (t := 3) (n := s.prior.toNat) rfl).2
    have n4 := (sfs_num v (t := 4) (n := s.cur.toNat) rfl).2
    have n5 := (sfs_num v (t := 5) (n := s.tax.toNat) rfl).2
    have n6 := (sfs_num v (t := 6) (n := s.paid.toNat) rfl).2
    have n7 := (sfs_num v (t := 7) (n := s.refunded.toNat) rfl).2
    have n8 := (sfs_num v (t := 8) (n := s.events.toNat) rfl).2
    have n9 := (sfs_num v (t := 9) (n := s.refused.toNat) rfl).2
    have n10 := (sfs_num v (t := 10) (n := s.stamp.toNat) rfl).2
    have n11 := (sfs_txt v (t := 11) (l := nums8 s.who) rfl).2
    rw [n1, n2, n3, n4, n5, n6, n7, n8, n9, n10, n11, str8_nums8]
    obtain ⟨a1, a2, b1, b2, c1, c2, d1, d2, e1, e2, p1, p2, r1, r2, ev1, ev2, f1, f2, g1, g2, hw, hl⟩ := v
    rw [capN_natC (by omega) (by omega), capN_natC (by omega) (by omega), capN_natC (by omega) (by omega), capN_natC (by omega) (by omega), capN_natC (by omega) (by omega), capN_natC (by omega) (by omega), capN_natC (by omega) (by omega), capN_natC (by omega) (by omega), capN_natC (by omega) (by omega), capN_natC (by omega) (by omega)]
  unfold cdec
  rw [hr]
  simp only [ne_eq, not_true_eq_false, if_false]
  rw [sfs_err v]
  simp only [not_true_eq_false, if_false]
  rw [ha, hS, if_pos ⟨rfl, hv⟩]
end Go.Proofs.YtfcgcpfckbmgnaaGreat
namespace Go.Proofs.YtfcgcpfckbmgnaaGreat
open Go.ChangeShapes Go.WideShapes Go.ChangeAt Go.RowKit
set_option linter.unusedVariables false
/-- a line that is read is what would be written -/
theorem rdLn_form {t : List Nat} (ht : ∀ x ∈ t, x < 256) {p : Ln} (h : rdLn t = (p, true)) (hp : LnOk p) : lnT p = t := by
  obtain ⟨h1, h2, h3, h4, h5, h6, h7, h8⟩ := hp
  have hr : rdK4 0 0 0 0 t = (p, true) := h
  unfold rdK4 at hr
  by_cases e1 : (dec 0 0 t).2.2 = 0
  · rw [if_neg (by simp [e1])] at hr
    obtain ⟨_, a2, _, a4, a5⟩ := vdec_form t ht e1
    obtain ⟨u1, hu1⟩ : ∃ u, (dec 0 0 t).1 = u := ⟨_, rfl⟩
    obtain ⟨t1, ht1⟩ : ∃ r, t.drop (dec 0 0 t).2.1 = r := ⟨_, rfl⟩
    have s1 : t = enc u1 ++ t1 := by rw [← hu1, a5, ← ht1, List.take_append_drop]
    rw [hu1, ht1] at hr
    have l1 : ∀ x ∈ t1, x < 256 := fun x hx => ht x (by rw [s1]; exact List.mem_append_right _ hx)
    unfold rdK3 at hr
    by_cases e2 : (dec 0 0 t1).2.2 = 0
    · rw [if_neg (by simp [e2])] at hr
      obtain ⟨_, _, _, _, b5⟩ := vdec_form t1 l1 e2
      obtain ⟨u2, hu2⟩ : ∃ u, (dec 0 0 t1).1 = u := ⟨_, rfl⟩
      obtain ⟨t2, ht2⟩ : ∃ r, t1.drop (dec 0 0 t1).2.1 = r := ⟨_, rfl⟩
      have s2 : t1 = enc u2 ++ t2 := by rw [← hu2, b5, ← ht2, List.take_append_drop]
      rw [hu2, ht2] at hr
      have l2 : ∀ x ∈ t2, x < 256 := fun x hx => l1 x (by rw [s2]; exact List.mem_append_right _ hx)
      unfold rdK2 at hr
      by_cases e3 : (dec 0 0 t2).2.2 = 0
      · rw [if_neg (by simp [e3])] at hr
        obtain ⟨_, _, _, _, c5⟩ := vdec_form t2 l2 e3
        obtain ⟨u3, hu3⟩ : ∃ u, (dec 0 0 t2).1 = u := ⟨_, rfl⟩
        obtain ⟨t3, ht3⟩ : ∃ r, t2.drop (dec 0 0 t2).2.1 = r := ⟨_, rfl⟩
        have s3 : t2 = enc u3 ++ t3 := by rw [← hu3, c5, ← ht3, List.take_append_drop]
        rw [hu3, ht3] at hr
        have l3 : ∀ x ∈ t3, x < 256 := fun x hx => l2 x (by rw [s3]; exact List.mem_append_right _ hx)
        unfold rdK1 at hr
        by_cases e4 : (dec 0 0 t3).2.2 = 0
        · rw [if_neg (by simp [e4])] at hr
          obtain ⟨_, _, _, _, d5⟩ := vdec_form t3 l3 e4
          obtain ⟨u4, hu4⟩ : ∃ u, (dec 0 0 t3).1 = u := ⟨_, rfl⟩
          obtain ⟨t4, ht4⟩ : ∃ r, t3.drop (dec 0 0 t3).2.1 = r := ⟨_, rfl⟩
          have s4 : t3 = enc u4 ++ t4 := by rw [← hu4, d5, ← ht4, List.take_append_drop]
          rw [hu4, ht4] at hr
          unfold rdK0 at hr
          obtain ⟨q1, q2⟩ := Prod.mk.inj hr
          have ht4n : t4 = [] := by simpa using q2
          subst q1
          simp only at h1 h2 h3 h4 h5 h6 h7 h8
          have k1 := capN_invC (u := u1) rfl (by omega)
          have k2 := capN_invC (u := u2) rfl (by omega)
          have k3 := capN_invC (u := u3) rfl (by omega)
          have k4 := capN_invC (u := u4) rfl (by omega)
          unfold lnT lnL
          simp only
          rw [k1, k2, k3, k4, s1, s2, s3, s4, ht4n, List.append_nil]
        · rw [if_pos e4] at hr; cases hr
      · rw [if_pos e3] at hr; cases hr
    · rw [if_pos e2] at hr; cases hr
  · rw [if_pos e1] at hr; cases hr
theorem rdAll_form : ∀ (T : List (List Nat)), (∀ t ∈ T, ∀ x ∈ t, x < 256) → (rdAll T).2 = true → (∀ l ∈ (rdAll T).1, LnOk l) → (rdAll T).1.map lnT = T
  | [], _, _, _ => rfl
  | t :: r, ht, h, hl => by
    simp only [rdAll] at h hl ⊢
    by_cases hc : (rdLn t).2 = true ∧ (rdAll r).2 = true
    · rw [if_pos hc] at h hl ⊢
      simp only [List.map_cons]
      have h1 := rdLn_form (ht t (List.mem_cons_self ..)) (p := (rdLn t).1) (Prod.ext rfl hc.1) (hl _ (List.mem_cons_self ..))
      rw [h1, rdAll_form r (fun x hx => ht x (List.mem_cons_of_mem _ hx)) hc.2 (fun l hm => hl l (List.mem_cons_of_mem _ hm))]
    · rw [if_neg hc] at h; cases h
theorem txs_get {fs : List Fld} : ∀ (f k j : Nat), j < (txsFrom fs f k).length → (txsFrom fs f k)[j]? = some (txtF fs (12 + ((k + j : Nat) : Int))) ∧ txtF fs (12 + ((k + j : Nat) : Int)) ≠ []
  | 0, k, j, h => by simp [txsFrom] at h
  | f + 1, k, j, h => by
    simp only [txsFrom] at h ⊢
    by_cases hc : txtF fs (12 + (k : Int)) = []
    · rw [if_pos hc] at h; simp at h
    · rw [if_neg hc] at h ⊢
      cases j with
      | zero => exact ⟨rfl, hc⟩
      | succ j =>
        have := txs_get f (k + 1) j (by simpa using h)
        rw [show k + 1 + j = k + (j + 1) from by omega] at this
        simpa using this
theorem txs_end {fs : List Fld} : ∀ (f k : Nat), (txsFrom fs f k).length < f → txtF fs (12 + ((k + (txsFrom fs f k).length : Nat) : Int)) = []
  | 0, k, h => by omega
  | f + 1, k, h => by
    simp only [txsFrom] at h ⊢
    by_cases hc : txtF fs (12 + (k : Int)) = []
    · rw [if_pos hc]; exact hc
    · rw [if_neg hc] at h ⊢
      have := txs_end f (k + 1) (by simpa using h)
      rw [List.length_cons, show k + ((txsFrom fs f (k + 1)).length + 1) = k + 1 + (txsFrom fs f (k + 1)).length from by omega]
      exact this
theorem txs_lt {fs : List Fld} (h : ∀ f ∈ fs, FRight f) : ∀ (f k : Nat), ∀ t ∈ txsFrom fs f k, ∀ x ∈ t, x < 256
  | 0, k, t, ht => by simp [txsFrom] at ht
  | f + 1, k, t, ht => by
    simp only [txsFrom] at ht
    split at ht
    · cases ht
    · rcases List.mem_cons.1 ht with rfl | ht
      · exact (txtF_lt h _).1
      · exact txs_lt h f (k + 1) t ht
theorem ctg_apart (fs : List Fld) : (ctg fs).Pairwise (fun x y => x.1 ≠ y.1) := by
  have key : ∀ (f k : Nat), (tgsFrom fs f k).Pairwise (fun x y => x.1 ≠ y.1) := by
    intro f
    induction f with
    | zero => intro k; exact .nil
    | succ f ih =>
      intro k
      simp only [tgsFrom]
      refine List.pairwise_cons.2 ⟨fun y hy => ?_, ?_⟩
      · split at hy
        · cases hy
        · obtain ⟨j, _, rfl, _⟩ := (tgs_form f (k + 1) y).1 hy
          show 12 + (k : Int) ≠ 12 + ((k + 1 + j : Nat) : Int)
          omega
      · split
        · exact .nil
        · exact ih (k + 1)
  unfold ctg
  refine List.pairwise_append.2 ⟨by decide, key 16 0, fun x hx y hy => ?_⟩
  obtain ⟨j, _, rfl, _⟩ := (tgs_form 16 0 y).1 hy
  have := (tg11_text x hx).2.2
  show x.1 ≠ 12 + ((0 + j : Nat) : Int)
  omega
/-- fields that were read as a state -/
structure FineC (fs : List Fld) : Prop where
  rise : fs.Pairwise (fun f g => f.tag < g.tag)
  right : ∀ f ∈ fs, FRight f ∧ flt f 0 = 0 ∧ 1 ≤ f.tag ∧ f.tag ≤ 31
  tags : ∀ f ∈ fs, ∃ x ∈ ctg fs, f.tag = x.1
  forms : ∀ f ∈ fs, f.text = decide (11 ≤ f.tag)
theorem fineC_of {l : List Nat} (hl : ∀ x ∈ l, x < 256) (h : (recs l).2.2 = 0) (he : errR (tkF (recs l).1 (ctg (recs l).1)) (tkE (recs l).1 (ctg (recs l).1)) = 0) : FineC (recs l).1 := by
  obtain ⟨_, r2, r3, _⟩ := recs_ok l hl h
  obtain ⟨r5, r6⟩ := encs_rise _ _ _ _ r2
  obtain ⟨e1, e2⟩ := errR_zero.1 he
  refine ⟨r5, fun f hf => ⟨r3 f hf, (r6 f hf).2.2.2, (r6 f hf).2.1, (r6 f hf).2.2.1⟩, e2, fun f hf => ?_⟩
  obtain ⟨x, hx, hfx⟩ := e2 f hf
  have h1 := tk_right (ctg (recs l).1) _ (ctg_apart _) e1 x hx f (by rw [← hfx]; exact getF_of_mem r5 hf)
  rw [h1, hfx]
  rcases List.mem_append.1 hx with h | h
  · exact (tg11_text x h).1
  · obtain ⟨j, _, rfl, _⟩ := (tgs_form 16 0 x).1 h
    show true = decide (11 ≤ 12 + ((0 + j : Nat) : Int))
    exact (decide_eq_true (by omega)).symm
theorem FineC.nzf {fs : List Fld} (h : FineC fs) : ∀ f ∈ fs, nz f = true := by
  intro f hf
  obtain ⟨⟨_, hb, _, _⟩, hz, t1, t2⟩ := h.right f hf
  have h3 := flt_nz (F := f) (A := 0) (by omega) t1 t2 (fun _ => hb)
  rw [hz] at h3
  by_cases hn : nz f = true
  · exact hn
  · rw [if_neg hn] at h3; cases h3
theorem FineC.num {fs : List Fld} (h : FineC fs) {t : Int} (ht : t ≤ 10) : getF fs t = if numF fs t = 0 then none else some ⟨t, false, numF fs t, []⟩ := by
  unfold numF
  rcases hg : getF fs t with _ | f
  · rfl
  · obtain ⟨m1, m2⟩ := getF_mem hg
    have hx := h.forms f m1
    rw [m2, decide_eq_false (by omega)] at hx
    obtain ⟨⟨_, _, hn, _⟩, hf⟩ := h.right f m1
    have hnz : f.num ≠ 0 := by
      intro e
      have h9 := h.nzf f m1
      unfold nz at h9
      rw [if_neg (by rw [hx]; simp), e] at h9
      cases h9
    have hb : f.bytes = [] := by
      have h9 : norm f = { f with bytes := [] } := by unfold norm; rw [if_neg (by rw [hx]; simp)]
      rw [h9] at hn
      exact (congrArg Fld.bytes hn).symm
    simp only [hx, if_true]
    rw [if_neg hnz]
    obtain ⟨a, b, c, d⟩ := f
    simp only at m2 hx hb
    rw [m2, hx, hb]
theorem FineC.txt {fs : List Fld} (h : FineC fs) {t : Int} (ht : 11 ≤ t) : getF fs t = if txtF fs t = [] then none else some ⟨t, true, 0, txtF fs t⟩ := by
  unfold txtF
  rcases hg : getF fs t with _ | f
  · rfl
  · obtain ⟨m1, m2⟩ := getF_mem hg
    have hx := h.forms f m1
    rw [m2, decide_eq_true ht] at hx
    obtain ⟨⟨_, _, hn, _⟩, hf⟩ := h.right f m1
    have hnz : f.bytes ≠ [] := by
      intro e
      have h9 := h.nzf f m1
      unfold nz at h9
      rw [if_pos hx, e] at h9
      cases h9
    have hb : f.num = 0 := by
      have h9 : norm f = { f with num := 0 } := by unfold norm; rw [if_pos hx]
      rw [h9] at hn
      exact (congrArg Fld.num hn).symm
    simp only [hx, if_true]
    rw [if_neg hnz]
    obtain ⟨a, b, c, d⟩ := f
    simp only at m2 hx hb
    rw [m2, hx, hb]
theorem sfs_eq {fs : List Fld} (h : FineC fs) (ha : (rdAll (txsFrom fs 16 0)).2 = true) {s : St} (hS : stL fs = s) (hv : vldB s = true) : sfs s = fs := by
  have v := vst_of hv
  have hR : ∀ f ∈ fs, FRight f := fun f hf => (h.right f hf).1
  have hln : s.lines = (rdAll (txsFrom fs 16 0)).1 := by rw [← hS]; rfl
  have hmap : s.lines.map lnT = txsFrom fs 16 0 := by rw [hln]; exact rdAll_form _ (txs_lt hR 16 0) ha (by rw [← hln]; exact v.each.2)
  have hlen : s.lines.length = (txsFrom fs 16 0).length := by rw [← hmap, List.length_map]
  have hnum : ∀ (t : Int) (x : Int) (n : Nat), x.toNat = n → getF (stFs s) t = some ⟨t, false, n, []⟩ → x = capN (numF fs t) → x < 4611686018427387904 → t ≤ 10 → getF (sfs s) t = getF fs t := by
    intro t x n hx h1 h2 h3 h4
    rw [(sfs_num v h1).1, h.num h4, ← hx, capN_invC h2 h3]
  have hS1 : s.order = capN (numF fs 1) ∧ s.status = capN (numF fs 2) ∧ s.prior = capN (numF fs 3) ∧ s.cur = capN (numF fs 4) ∧ s.tax = capN (numF fs 5) ∧ s.paid = capN (numF fs 6) ∧ s.refunded = capN (numF fs 7) ∧ s.events = capN (numF fs 8) ∧ s.refused = capN (numF fs 9) ∧ s.stamp = capN (numF fs 10) ∧ s.who = str8 (txtF fs 11) := by
    rw [← hS]; exact ⟨rfl, rfl, rfl, rfl, rfl, rfl, rfl, rfl, rfl, rfl, rfl⟩
  obtain ⟨n1, n2, n3, n4, n5, n6, n7, n8, n9, n10, n11⟩ := hS1
  refine rise_ext _ _ ((stFs_pw v).filter _) h.rise (fun t => ?_)
  by_cases ht : 1 ≤ t ∧ t ≤ 11
  · obtain ⟨a1, a2, b1, b2, c1, c2, d1, d2, e1, e2, p1, p2, r1, r2, ev1, ev2, f1, f2, g1, g2, hw, hl⟩ := v
    have hv : t = 1 ∨ t = 2 ∨ t = 3 ∨ t = 4 ∨ t = 5 ∨ t = 6 ∨ t = 7 ∨ t = 8 ∨ t = 9 ∨ t = 10 ∨ t = 11 := by omega
    rcases hv with rfl | rfl | rfl | rfl | rfl | rfl | rfl | rfl | rfl | rfl | rfl
    · exact hnum 1 s.order _ rfl rfl n1 (by omega) (by omega)
    · exact hnum 2 s.status _ rfl rfl n2 (by omega) (by omega)
    · exact hnum 3 s.prior _ rfl rfl n3 (by omega) (by omega)
    · exact hnum 4 s.cur _ rfl rfl n4 (by omega) (by omega)
    · exact hnum 5 s.tax _ rfl rfl n5 (by omega) (by omega)
    · exact hnum 6 s.paid _ rfl rfl n6 (by omega) (by omega)
    · exact hnum 7 s.refunded _ rfl rfl n7 (by omega) (by omega)
    · exact hnum 8 s.events _ rfl rfl n8 (by omega) (by omega)
    · exact hnum 9 s.refused _ rfl rfl n9 (by omega) (by omega)
    · exact hnum 10 s.stamp _ rfl rfl n10 (by omega) (by omega)
    · rw [(sfs_txt ⟨a1, a2, b1, b2, c1, c2, d1, d2, e1, e2, p1, p2, r1, r2, ev1, ev2, f1, f2, g1, g2, hw, hl⟩ (t := 11) (l := nums8 s.who) rfl).1, h.txt (by omega), n11, nums8_str8 _ (txtF_lt hR 11).1]
  · by_cases h12 : 12 ≤ t
    · obtain ⟨k, rfl⟩ : ∃ k : Nat, t = 12 + (k : Int) := ⟨(t - 12).toNat, by omega⟩
      rw [sfs_line v, h.txt (by omega)]
      by_cases hk : k < (txsFrom fs 16 0).length
      · obtain ⟨g1, g2⟩ := txs_get 16 0 k hk
        rw [Nat.zero_add] at g1 g2
        rw [if_neg g2]
        obtain ⟨p, hp⟩ := ln_get (L := s.lines) (k := k) (by omega)
        rw [hp]
        have : lnT p = txtF fs (12 + (k : Int)) := by
          rw [← hmap, List.getElem?_map, hp] at g1
          exact Option.some.inj g1
        rw [← this]; rfl
      · rw [List.getElem?_eq_none (by omega)]
        show none = _
        by_cases hg : txtF fs (12 + (k : Int)) = []
        · rw [if_pos hg]
        · exfalso
          have hsome := h.txt (t := 12 + (k : Int)) (by omega)
          rw [if_neg hg] at hsome
          obtain ⟨m1, m2⟩ := getF_mem hsome
          obtain ⟨x, hx, hfx⟩ := h.tags _ m1
          rcases List.mem_append.1 hx with h' | h'
          · have := (tg11_text x h').2.2
            rw [m2] at hfx; omega
          · obtain ⟨j, hj, rfl, hall⟩ := (tgs_form 16 0 x).1 h'
            rw [m2] at hfx
            have hjk : j = k := by simp only [Nat.zero_add] at hfx; omega
            subst hjk
            have hlt : (txsFrom fs 16 0).length < 16 := by omega
            have hend := txs_end 16 0 hlt
            rw [Nat.zero_add] at hend
            by_cases hjl : (txsFrom fs 16 0).length < j
            · exact hall _ hjl (by rw [Nat.zero_add]; exact hend)
            · have : j = (txsFrom fs 16 0).length := by omega
              rw [← this] at hend
              exact hg hend
    · rw [getF_none.2 (fun f hf e => ?_), getF_none.2 (fun f hf e => ?_)]
      · have := (h.right f hf).2.2.1; omega
      · have := (stFs_form s f (List.mem_filter.1 hf).1).2.2; omega
/-- what canon.Decode reads is a valid state, and its record is what was read -/
theorem cdec_form {l : List Nat} (hl : ∀ x ∈ l, x < 256) (h : (cdec l).2 = 0) : vldB (cdec l).1 = true ∧ ones (sfs (cdec l).1) = l := by
  unfold cdec at h ⊢
  by_cases c1 : (recs l).2.2 = 0
  · rw [if_neg (by simp [c1])] at h ⊢
    by_cases c2 : errR (tkF (recs l).1 (ctg (recs l).1)) (tkE (recs l).1 (ctg (recs l).1)) = 0
    · rw [if_neg (by simp [c2])] at h ⊢
      by_cases c3 : (rdAll (txsFrom (recs l).1 16 0)).2 = true ∧ vldB (stL (recs l).1) = true
      · rw [if_pos c3]
        refine ⟨c3.2, ?_⟩
        have h8 := sfs_eq (fineC_of hl c1 c2) c3.1 rfl c3.2
        have h7 := sfs_encs (vst_of c3.2)
        simp only
        rw [h8] at h7 ⊢
        rw [(recs_ok l hl c1).2.1] at h7
        exact (Prod.mk.inj h7).1.symm
      · rw [if_neg c3] at h; cases h
    · rw [if_pos c2] at h; simp only at h; omega
  · rw [if_pos c1] at h; simp only at h; omega
theorem cdec_err {l : List Nat} (h : (cdec l).2 ≠ 0) : (cdec l).1 = zeroS := by
  unfold cdec at h ⊢
  split
  · rfl
  · rename_i c1
    rw [if_neg c1] at h
    split
    · rfl
    · rename_i c2
      rw [if_neg c2] at h
      split
      · rename_i c3
        rw [if_pos c3] at h
        exact absurd rfl h
      · rfl
end Go.Proofs.YtfcgcpfckbmgnaaGreat
namespace Go.Proofs.YtfcgcpfckbmgnaaGreat
open Go.ChangeShapes Go.WideShapes Go.ChangeAt Go.RowKit
set_option linter.unusedVariables false
/-- while a state is copied -/
structure Cp (w wr : World) (s : St) (v v0 : Value) (L : List Ln) : Prop where
  src : StAt wr w.heap.size s v
  res : StAt wr (w.heap.size + 1) zeroS (.slice none 0 0)
  tmp : StAt wr (w.heap.size + 1 + 1) s v0
  row : OwnL wr (w.heap.size + 3) v0 L
  bel : Below w.heap.size w wr
theorem StAt.set5' {w : World} {b : Nat} {s : St} {v : Value} (h : StAt w b s v) (v2 : Value) : StAt (w.setCell ⟨b, 5, none⟩ v2) b s v2 := by
  unfold StAt at h ⊢
  rw [heap_setCell_same w b 5 _ _ _ h]
  rfl
theorem Cp.grow {w wr w4 : World} {s : St} {v v0 : Value} {L : List Ln} {p : Ln} {g c : Nat} (h : Cp w wr s v v0 L) (ho : w4.ownsRow (w.heap.size + 3) 37 4 (.slice (some ⟨g, 0, none⟩) (L.length + 1) c) (L.length + 1) (lfl L ++ [.int .i64 p.item, .int .i64 p.price, .int .i64 p.qty, .int .i64 p.shipped]))
    (hg : (wr.drew.alloc (.cells (lnA p) 37)).grownBy w4 v0.ownBlock) : Cp w (w4.setCell ⟨w.heap.size + 1 + 1, 5, none⟩ (.slice (some ⟨g, 0, none⟩) (L.length + 1) c)) s v (.slice (some ⟨g, 0, none⟩) (L.length + 1) c) (L ++ [p]) ∧ StAt w4 (w.heap.size + 1 + 1) s v0 := by
  have hB : Below wr.heap.size wr (wr.drew.alloc (.cells (lnA p) 37)) := (Below.refl _ _).drew.alloc (Nat.le_refl _) _
  have hlt := h.tmp.lt
  have key : ∀ k, k < w.heap.size + 3 → w4.heap[k]? = wr.heap[k]? := by
    intro k hk
    have h1 : w4.heap[k]? = (wr.drew.alloc (.cells (lnA p) 37)).heap[k]? := hg.block k (by have := hB.size; omega) (fun hv => by
      have := (row_blk (OwnL.keep h.row hB) hv.symm).1; omega)
    exact h1.trans (hB.block k (by omega))
  have t4 : StAt w4 (w.heap.size + 1 + 1) s v0 := (key _ (by omega)).trans h.tmp
  refine ⟨⟨?_, ?_, t4.set5' _, ?_, ?_⟩, t4⟩
  · exact (heap_setCell_other w4 ⟨w.heap.size + 1 + 1, 5, none⟩ w.heap.size _ (by show w.heap.size ≠ w.heap.size + 1 + 1; omega)).trans ((key _ (by omega)).trans h.src)
  · exact (heap_setCell_other w4 ⟨w.heap.size + 1 + 1, 5, none⟩ (w.heap.size + 1) _ (by show w.heap.size + 1 ≠ w.heap.size + 1 + 1; omega)).trans ((key _ (by omega)).trans h.res)
  · exact OwnL.other (OwnL.snoc rfl ho) (k := w.heap.size + 1 + 1) (by omega) (fun j hj => heap_setCell_other w4 ⟨w.heap.size + 1 + 1, 5, none⟩ j _ hj)
  · have hb1 : Below w.heap.size w (wr.drew.alloc (.cells (lnA p) 37)) := h.bel.drew.alloc h.bel.size _
    have hb2 : Below w.heap.size w w4 := hb1.grown hg (by have := hB.size; have := h.bel.size; omega) (fun k hk => by have := (row_blk (OwnL.keep h.row hB) hk).1; omega)
    exact hb2.setCell (p := ⟨w.heap.size + 1 + 1, 5, none⟩) (by show w.heap.size ≤ w.heap.size + 1 + 1; omega) _
theorem three_st (w : World) (s : St) (v : Value) : ∃ W, ((w.alloc (.cells (stA s v) 28)).alloc (.cells (stA zeroS (.slice none 0 0)) 28)).alloc (.cells (stA zeroS (.slice none 0 0)) 28) = W ∧ StAt W w.heap.size s v ∧ StAt W (w.heap.size + 1) zeroS (.slice none 0 0) ∧ StAt W (w.heap.size + 1 + 1) zeroS (.slice none 0 0) ∧ Below w.heap.size w W ∧ W.heap.size = w.heap.size + 3 := by
  refine ⟨_, rfl, ?_, ?_, ?_, (((Below.refl _ _).alloc (Nat.le_refl _) _).alloc (by simp) _).alloc (by simp; omega) _, by simp⟩
  · exact ((StAt.new w s v).after ((Below.refl _ _).alloc (Nat.le_refl _) _)).after ((Below.refl _ _).alloc (Nat.le_refl _) _)
  · have := (StAt.new (w.alloc (.cells (stA s v) 28)) zeroS (.slice none 0 0)).after ((Below.refl _ _).alloc (Nat.le_refl _) (.cells (stA zeroS (.slice none 0 0)) 28))
    simpa using this
  · have := StAt.new ((w.alloc (.cells (stA s v) 28)).alloc (.cells (stA zeroS (.slice none 0 0)) 28)) zeroS (.slice none 0 0)
    simpa using this
theorem Cp.start {w x1 : World} {s : St} {v : Value} (h1 : StAt x1 w.heap.size s v) (h2 : StAt x1 (w.heap.size + 1) zeroS (.slice none 0 0)) (h3 : StAt x1 (w.heap.size + 1 + 1) s v) (hb : Below w.heap.size w x1) (hs : x1.heap.size = w.heap.size + 3) :
    Cp w ((x1.alloc (.cells #[] 37)).setCell ⟨w.heap.size + 1 + 1, 5, none⟩ (.slice (some ⟨x1.heap.size, 0, none⟩) 0 0)) s v (.slice (some ⟨x1.heap.size, 0, none⟩) 0 0) [] ∧ (x1.alloc (.cells #[] 37)).frozen? ⟨w.heap.size + 1 + 1, 5, none⟩ = false ∧ (x1.alloc (.cells #[] 37)).cell? ⟨w.heap.size + 1 + 1, 5, none⟩ = some v := by
  have hB : Below x1.heap.size x1 (x1.alloc (.cells #[] 37)) := (Below.refl _ _).alloc (Nat.le_refl _) _
  have k3 := h3.after hB
  refine ⟨⟨?_, ?_, k3.set5' _, ?_, ?_⟩, k3.froz 5, k3.cell 5 _ rfl⟩
  · exact (heap_setCell_other _ ⟨w.heap.size + 1 + 1, 5, none⟩ w.heap.size _ (by show w.heap.size ≠ w.heap.size + 1 + 1; omega)).trans (h1.after hB)
  · exact (heap_setCell_other _ ⟨w.heap.size + 1 + 1, 5, none⟩ (w.heap.size + 1) _ (by show w.heap.size + 1 ≠ w.heap.size + 1 + 1; omega)).trans (h2.after hB)
  · exact (OwnL.other (OwnL.lit x1) (k := w.heap.size + 1 + 1) (by omega) (fun j hj => heap_setCell_other _ ⟨w.heap.size + 1 + 1, 5, none⟩ j _ hj)).mono (by omega)
  · exact (hb.alloc hb.size _).setCell (p := ⟨w.heap.size + 1 + 1, 5, none⟩) (by show w.heap.size ≤ w.heap.size + 1 + 1; omega) _
end Go.Proofs.YtfcgcpfckbmgnaaGreat
