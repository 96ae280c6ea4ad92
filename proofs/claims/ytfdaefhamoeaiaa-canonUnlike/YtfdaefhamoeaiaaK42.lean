/- Own texts, joined: Sd8, Sd9, Sda. -/
import Derived.Test.YtfdaefhamoeaiaaK40
import Derived.Test.YtfdaefhamoeaiaaK32
import Derived.Test.YtfdaefhamoeaiaaK38
import Derived.Test.YtfdaefhamoeaiaaK33
namespace Go.Proofs.Ytfdaefhamoeaiaa
open Go.ChangeShapes Go.WideShapes Go.ChangeAt Go.RowKit
set_option linter.unusedVariables false
/-- what a version takes -/
def evV (v : Int) (fs : List Fld) : Ev := if v ≤ 1 then ev1 fs else if v ≤ 2 then ev2 fs else if v ≤ 3 then ev3 fs else if v ≤ 4 then ev4 fs else ev5 fs
def qtyV (v : Int) (fs : List Fld) : Int := if v ≤ 2 then zag (numF fs 4 : Int) else capN (numF fs 4)
def tgV (v : Int) : List (Int × Bool) := (if v ≤ 1 then tg1 else if v ≤ 2 then tg2 else if v ≤ 3 then tg3 else if v ≤ 4 then tg4 else tg5) ++ [(4, false)]
/-- what schema.Decode answers -/
def sdec (v : Int) (l : List Nat) : Ev × Int := if v < 1 ∨ 5 < v then (zeroE, 30) else sdR v (evV v) (qtyV v) (tgV v) l
end Go.Proofs.Ytfdaefhamoeaiaa
namespace Go.Proofs.Ytfdaefhamoeaiaa
open Go.ChangeShapes Go.WideShapes Go.ChangeAt Go.RowKit
set_option linter.unusedVariables false
theorem lt_all {l : List Nat} (h : ∀ i, l.getD i 0 < 256) : ∀ x ∈ l, x < 256 := by
  intro x hx
  obtain ⟨i, hi, rfl⟩ := List.mem_iff_getElem.1 hx
  have := h i
  simpa [List.getD_eq_getElem?_getD, hi] using this
theorem lt_getD {l : List Nat} (h : ∀ x ∈ l, x < 256) : ∀ i, l.getD i 0 < 256 := by
  intro i
  rw [List.getD_eq_getElem?_getD]
  rcases hx : l[i]? with _ | x
  · decide
  · exact h x (List.mem_of_getElem? hx)
/-- what schema.Pack answers -/
def spk (v : Int) (E : Ev) : List Nat × Int := if chk v E ≠ 0 then ([], chk v E) else (enc v.toNat ++ ones (efs v E), 0)
def SpkPost (w : World) (v : Int) (E : Ev) (r : Ending) (w' : World) : Prop := ∃ v', r = .returned (.tuple #[v', .int .i64 (spk v E).2]) ∧ Own w' w.heap.size v' (spk v E).1 ∧ Below w.heap.size w w'
theorem step_load_ev {ops : Array Oper} {o : Oper} {a : Act} {w : World} {K : Act → World → Prop} {Q : Exit → Act → World → Prop} {X : Prop} (hg : o.guard = none) (x : Operand) (ho : o.op = .load 89 x)
    {b : Nat} {e : Ev} (hL : EvAt w b e) (hx : a.eval x = .pointer (some ⟨b, 0, none⟩)) (hK : K (a.put o.dst (.agg (evA e))) w) :
    if Region.wanted o (yielded ops a.tmps) = true then Oper.wp Try.prog o a w K Q else X := by
  have hw : Region.wanted o (yielded ops a.tmps) = true := by simp [Region.wanted, hg]
  rw [if_pos hw]
  unfold Oper.wp execOp
  simp only [ho, hx, Sem.run_bind, Sem.run_pure, Result.andThen_ok, hL.load]
  exact hK
theorem step_store_ev {ops : Array Oper} {o : Oper} {a : Act} {w : World} {K : Act → World → Prop} {Q : Exit → Act → World → Prop} {X : Prop} (hg : o.guard = none) (x y : Operand) (ho : o.op = .store 89 x y)
    {b : Nat} {e e2 : Ev} (hL : EvAt w b e) (hx : a.eval x = .pointer (some ⟨b, 0, none⟩)) (hy : a.eval y = .agg (evA e2))
    (hK : ∀ w2, EvAt w2 b e2 → (∀ B a, Below B a w → B ≤ b → Below B a w2) → K (a.put o.dst undef) w2) :
    if Region.wanted o (yielded ops a.tmps) = true then Oper.wp Try.prog o a w K Q else X := by
  have hw : Region.wanted o (yielded ops a.tmps) = true := by simp [Region.wanted, hg]
  rw [if_pos hw]
  obtain ⟨w2, h1, h2, h3, _, _⟩ := hL.store e2
  unfold Oper.wp execOp
  simp only [ho, hx, hy, Sem.run_bind, Sem.run_pure, Result.andThen_ok, h1]
  exact hK w2 h2 h3
/-- what schema.Unpack answers -/
def sunp (l : List Nat) : Int × Ev × Int :=
  if (dec 0 0 l).2.2 ≠ 0 then (0, zeroE, (dec 0 0 l).2.2)
  else if (sdec (capN (dec 0 0 l).1) (l.drop (dec 0 0 l).2.1)).2 ≠ 0 then (0, zeroE, (sdec (capN (dec 0 0 l).1) (l.drop (dec 0 0 l).2.1)).2)
  else (capN (dec 0 0 l).1, (sdec (capN (dec 0 0 l).1) (l.drop (dec 0 0 l).2.1)).1, 0)
theorem results_ev3 {fn : Func} {p t u : Tmp} (h : fn.results = #[.tmp t, .cell p 89, .tmp u]) (tmps : Array Value) (w : World) (b : Nat) (e : Ev) (x y : Value) (ht : tmps.getD t undef = x) (hp : tmps.getD p undef = .pointer (some ⟨b, 0, none⟩)) (hx : tmps.getD u undef = y) (hl : EvAt w b e) :
    (results fn tmps).run Try.prog w = .ok (.tuple #[x, .agg (evA e), y]) w := by
  simp only [Array.getD_eq_getD_getElem?] at hp ht hx
  simp [results, h, hp, ht, hx, asAddr, hl.loadVar]
theorem dec_nn (l : List Nat) (a : Option Addr) (n cap : Nat) (w : World) (hn : l.length = n) (hb : Bytes w a l) (hl : n ≤ maxLen) :
    Calls Try.prog 63 #[.slice a n cap] w fun e w' => e = .returned (.tuple #[.int .u64 ((dec 0 0 l).1 : Int), .int .i64 ((dec 0 0 l).2.1 : Int), .int .i64 ((dec 0 0 l).2.2 : Int)]) ∧ w = w' := by
  subst hn
  exact dec_any l a cap w hb hl
end Go.Proofs.Ytfdaefhamoeaiaa
namespace Go.Proofs.Ytfdaefhamoeaiaa
open Go.ChangeShapes Go.WideShapes Go.ChangeAt Go.RowKit
set_option linter.unusedVariables false
theorem nilB_iff (s : ByteArray) : nilB s = true ↔ nums8 s = [] := by
  have h : s.toList = (nums8 s).map fun n => UInt8.ofNat n := by
    conv => lhs; rw [← str8_nums8 s]
    unfold str8
    rw [Lib.strOfNums_toList]
    unfold Lib.bytesOf
    rw [List.map_map]
    exact List.map_congr_left (fun x _ => by simp)
  unfold nilB
  rw [h]
  cases nums8 s <;> simp
theorem zag_zig (x : Int) : zag (zig x) = x := by
  unfold zag zig
  split <;> split <;> omega
theorem zig_zag (u : Int) (h : 0 ≤ u) : zig (zag u) = u := by
  unfold zag zig
  split <;> split <;> omega
/-- two lists of rising tags that have the same field at each tag are one -/
theorem getF_mem {fs : List Fld} {t : Int} {f : Fld} (h : getF fs t = some f) : f ∈ fs ∧ f.tag = t := by
  unfold getF at h
  exact ⟨List.mem_of_find?_eq_some h, by simpa using List.find?_some h⟩
theorem getF_none {fs : List Fld} {t : Int} : getF fs t = none ↔ ∀ f ∈ fs, f.tag ≠ t := by
  unfold getF
  rw [List.find?_eq_none]
  simp
theorem getF_cons (f : Fld) (r : List Fld) (t : Int) : getF (f :: r) t = if f.tag = t then some f else getF r t := by
  unfold getF
  rw [List.find?_cons]
  by_cases h : f.tag = t
  · rw [if_pos h, show (f.tag == t) = true from by simpa using h]
  · rw [if_neg h, show (f.tag == t) = false from by simpa using h]
theorem getF_of_mem {fs : List Fld} (h : fs.Pairwise (fun f g => f.tag < g.tag)) {f : Fld} (hf : f ∈ fs) : getF fs f.tag = some f := by
  induction fs with
  | nil => cases hf
  | cons g r ih =>
    obtain ⟨h1, h2⟩ := List.pairwise_cons.1 h
    rw [getF_cons]
    rcases List.mem_cons.1 hf with rfl | hf
    · rw [if_pos rfl]
    · rw [if_neg (by have := h1 f hf; omega)]
      exact ih h2 hf
theorem rise_ext : ∀ (fs gs : List Fld), fs.Pairwise (fun f g => f.tag < g.tag) → gs.Pairwise (fun f g => f.tag < g.tag) → (∀ t, getF fs t = getF gs t) → fs = gs
  | [], [], _, _, _ => rfl
  | [], g :: s, _, hg, h => by
    have := h g.tag
    rw [getF_of_mem hg (List.mem_cons_self ..)] at this
    cases this
  | f :: r, [], hf, _, h => by
    have := h f.tag
    rw [getF_of_mem hf (List.mem_cons_self ..)] at this
    cases this
  | f :: r, g :: s, hf, hg, h => by
    obtain ⟨f1, f2⟩ := List.pairwise_cons.1 hf
    obtain ⟨g1, g2⟩ := List.pairwise_cons.1 hg
    have a1 := h f.tag
    rw [getF_of_mem hf (List.mem_cons_self ..)] at a1
    have a2 := h g.tag
    rw [getF_of_mem hg (List.mem_cons_self ..)] at a2
    have b1 := (getF_mem a1.symm).1
    have b2 := (getF_mem a2).1
    have hle : g.tag ≤ f.tag := by
      rcases List.mem_cons.1 b1 with rfl | h
      · exact Int.le_refl _
      · exact Int.le_of_lt (g1 f h)
    have hge : f.tag ≤ g.tag := by
      rcases List.mem_cons.1 b2 with rfl | h
      · exact Int.le_refl _
      · exact Int.le_of_lt (f1 g h)
    have hfg : f = g := by
      rw [show f.tag = g.tag from by omega, getF_of_mem hg (List.mem_cons_self ..)] at a1
      exact Option.some.inj a1
    subst hfg
    congr 1
    refine rise_ext r s f2 g2 (fun t => ?_)
    have ht := h t
    rw [getF_cons, getF_cons] at ht
    by_cases e : f.tag = t
    · subst e
      rw [getF_none.2 (fun x hx => by have := f1 x hx; omega), getF_none.2 (fun x hx => by have := g1 x hx; omega)]
    · rwa [if_neg e, if_neg e] at ht
theorem getF_filter (p : Fld → Bool) : ∀ (fs : List Fld) (t : Int), fs.Pairwise (fun f g => f.tag < g.tag) → getF (fs.filter p) t = (getF fs t).bind (fun f => if p f = true then some f else none)
  | [], t, _ => rfl
  | f :: r, t, h => by
    obtain ⟨h1, h2⟩ := List.pairwise_cons.1 h
    have ih := getF_filter p r t h2
    rw [List.filter_cons, getF_cons]
    by_cases e : f.tag = t
    · have hr : getF r t = none := getF_none.2 (fun x hx => by have := h1 x hx; omega)
      rw [if_pos e]
      by_cases hp : p f = true
      · rw [if_pos hp, getF_cons, if_pos e]
        show _ = if p f = true then _ else _
        rw [if_pos hp]
      · rw [if_neg hp, ih, hr]
        show _ = if p f = true then _ else _
        rw [if_neg hp]; rfl
    · rw [if_neg e]
      by_cases hp : p f = true
      · rw [if_pos hp, getF_cons, if_neg e, ih]
      · rw [if_neg hp, ih]
theorem Ris.pw : ∀ {fs : List Fld} {A : Int}, Ris A fs → fs.Pairwise (fun f g => f.tag < g.tag) ∧ ∀ f ∈ fs, A < f.tag
  | [], _, _ => ⟨.nil, by simp⟩
  | f :: r, A, h => by
    obtain ⟨h1, _, _, _, h5⟩ := h
    obtain ⟨a, b⟩ := Ris.pw h5
    refine ⟨List.pairwise_cons.2 ⟨b, a⟩, fun g hg => ?_⟩
    rcases List.mem_cons.1 hg with rfl | hg
    · exact h1
    · have := b g hg; omega
/-- takes of right forms tell no error -/
theorem tk_zero : ∀ (ts : List (Int × Bool)) (fs : List Fld), (∀ x ∈ ts, ∀ f, getF fs x.1 = some f → f.text = x.2) → (ts.foldl (fun (S : List Fld × Nat) x => (delF S.1 x.1, errF S.1 S.2 x.1 x.2)) (fs, 0)).2 = 0
  | [], fs, _ => rfl
  | x :: r, fs, h => by
    have e1 : errF fs 0 x.1 x.2 = 0 := by
      unfold errF
      rcases hg : getF fs x.1 with _ | f
      · rfl
      · simp only
        rw [if_pos (h x (List.mem_cons_self ..) f hg)]
    rw [List.foldl_cons]
    show (List.foldl _ (delF fs x.1, errF fs 0 x.1 x.2) r).2 = 0
    rw [e1]
    refine tk_zero r _ (fun y hy f hf => ?_)
    by_cases e : y.1 = x.1
    · obtain ⟨m1, m2⟩ := getF_mem hf
      have := (List.mem_filter.1 m1).2
      rw [m2, e] at this
      simp at this
    · rw [getF_del_other fs e] at hf
      exact h y (List.mem_cons_of_mem _ hy) f hf
/-- an error stays -/
theorem tk_stay : ∀ (ts : List (Int × Bool)) (fs : List Fld) (e : Nat), e ≠ 0 → (ts.foldl (fun (S : List Fld × Nat) x => (delF S.1 x.1, errF S.1 S.2 x.1 x.2)) (fs, e)).2 ≠ 0
  | [], fs, e, h => h
  | x :: r, fs, e, h => by
    rw [List.foldl_cons]
    refine tk_stay r _ _ ?_
    show errF fs e x.1 x.2 ≠ 0
    unfold errF
    rcases getF fs x.1 with _ | f
    · exact h
    · simp only
      split
      · exact h
      · decide
theorem tk_right : ∀ (ts : List (Int × Bool)) (fs : List Fld), ts.Pairwise (fun x y => x.1 ≠ y.1) → (ts.foldl (fun (S : List Fld × Nat) x => (delF S.1 x.1, errF S.1 S.2 x.1 x.2)) (fs, 0)).2 = 0 → ∀ x ∈ ts, ∀ f, getF fs x.1 = some f → f.text = x.2
  | [], fs, _, _ => by simp
  | x :: r, fs, hp, h => by
    obtain ⟨p1, p2⟩ := List.pairwise_cons.1 hp
    rw [List.foldl_cons] at h
    have e1 : errF fs 0 x.1 x.2 = 0 := by
      by_cases hh : errF fs 0 x.1 x.2 = 0
      · exact hh
      · exact absurd h (tk_stay r _ _ hh)
    intro y hy f hf
    rcases List.mem_cons.1 hy with rfl | hy
    · unfold errF at e1
      rw [hf] at e1
      simp only at e1
      by_cases ht : f.text = y.2
      · exact ht
      · rw [if_neg ht] at e1; cases e1
    · have h2 : (List.foldl (fun (S : List Fld × Nat) x => (delF S.1 x.1, errF S.1 S.2 x.1 x.2)) (delF fs x.1, 0) r).2 = 0 := by
        have h3 : (List.foldl (fun (S : List Fld × Nat) x => (delF S.1 x.1, errF S.1 S.2 x.1 x.2)) (delF fs x.1, errF fs 0 x.1 x.2) r).2 = 0 := h
        rwa [e1] at h3
      refine tk_right r _ p2 h2 y hy f ?_
      rw [getF_del_other fs (fun e => p1 y hy e.symm)]
      exact hf
theorem tkF_mem (f : Fld) : ∀ (ts : List (Int × Bool)) (fs : List Fld), f ∈ tkF fs ts ↔ f ∈ fs ∧ ∀ x ∈ ts, f.tag ≠ x.1
  | [], fs => by simp [tkF]
  | x :: r, fs => by
    show f ∈ tkF (delF fs x.1) r ↔ _
    rw [tkF_mem f r]
    unfold delF
    simp only [List.mem_filter, List.mem_cons, forall_eq_or_imp]
    simp
    constructor
    · rintro ⟨⟨a, b⟩, c⟩; exact ⟨a, b, c⟩
    · rintro ⟨a, b, c⟩; exact ⟨⟨a, b⟩, c⟩
theorem errR_zero {fs : List Fld} {ts : List (Int × Bool)} : errR (tkF fs ts) (tkE fs ts) = 0 ↔ tkE fs ts = 0 ∧ ∀ f ∈ fs, ∃ x ∈ ts, f.tag = x.1 := by
  unfold errR
  by_cases he : tkE fs ts = 0
  · rw [if_neg (by simp [he])]
    constructor
    · intro h
      refine ⟨he, fun f hf => ?_⟩
      by_cases hh : ∃ x ∈ ts, f.tag = x.1
      · exact hh
      · exfalso
        have hm : f ∈ tkF fs ts := (tkF_mem f ts fs).2 ⟨hf, fun x hx e => hh ⟨x, hx, e⟩⟩
        rw [if_pos (List.length_pos_of_mem hm)] at h
        cases h
    · rintro ⟨_, h⟩
      have : tkF fs ts = [] := by
        rw [List.eq_nil_iff_forall_not_mem]
        intro f hf
        obtain ⟨h1, h2⟩ := (tkF_mem f ts fs).1 hf
        obtain ⟨x, hx, e⟩ := h f h1
        exact h2 x hx e
      rw [this]; rfl
  · rw [if_pos he]
    constructor
    · intro h; exact absurd h he
    · rintro ⟨h, _⟩; exact absurd h he
end Go.Proofs.Ytfdaefhamoeaiaa
