/- Own texts, joined: Sd9. -/
import Derived.Test.YtofealmjggpacaaDoorJ14
import Derived.Test.YtofealmjggpacaaDoorJ36
import Derived.Test.YtofealmjggpacaaDoorJ17
namespace Go.Proofs.YtofealmjggpacaaDoor
open Go.ChangeShapes Go.WideShapes Go.ChangeAt Go.RowKit
set_option linter.unusedVariables false
theorem lt_all {l : List Nat} (h : ∀ i, l.getD i 0 < 256) : ∀ x ∈ l, x < 256 := by
  intro x hx
  obtain ⟨i, hi, rfl⟩ := List.mem_iff_getElem.1 hx
  have := h i
  simpa [List.getD_eq_getElem?_getD, hi] using this
theorem lt_getD {l : List Nat} (h : ∀ x ∈ l, x < 256) : ∀ i, l.getD i 0 < 256 := by
  intro i
  rw [List.getD_eq_getElem?_getD]
  rcases hx : l[i]? with _ | x
  · decide
  · exact h x (List.mem_of_getElem? hx)
/-- what schema.Pack answers -/
def spk (v : Int) (E : Ev) : List Nat × Int := if chk v E ≠ 0 then ([], chk v E) else (enc v.toNat ++ ones (efs v E), 0)
def SpkPost (w : World) (v : Int) (E : Ev) (r : Ending) (w' : World) : Prop := ∃ v', r = .returned (.tuple #[v', .int .i64 (spk v E).2]) ∧ Own w' w.heap.size v' (spk v E).1 ∧ Below w.heap.size w w'
theorem step_load_ev {ops : Array Oper} {o : Oper} {a : Act} {w : World} {K : Act → World → Prop} {Q : Exit → Act → World → Prop} {X : Prop} (hg : o.guard = none) (x : Operand) (ho : o.op = .load 25 x)
    {b : Nat} {e : Ev} (hL : EvAt w b e) (hx : a.eval x = .pointer (some ⟨b, 0, none⟩)) (hK : K (a.put o.dst (.agg (evA e))) w) :
    if Region.wanted o (yielded ops a.tmps) = true then Oper.wp Tryd.prog o a w K Q else X := by
  have hw : Region.wanted o (yielded ops a.tmps) = true := by simp [Region.wanted, hg]
  rw [if_pos hw]
  unfold Oper.wp execOp
  simp only [ho, hx, Sem.run_bind, Sem.run_pure, Result.andThen_ok, hL.load]
  exact hK
theorem step_store_ev {ops : Array Oper} {o : Oper} {a : Act} {w : World} {K : Act → World → Prop} {Q : Exit → Act → World → Prop} {X : Prop} (hg : o.guard = none) (x y : Operand) (ho : o.op = .store 25 x y)
    {b : Nat} {e e2 : Ev} (hL : EvAt w b e) (hx : a.eval x = .pointer (some ⟨b, 0, none⟩)) (hy : a.eval y = .agg (evA e2))
    (hK : ∀ w2, EvAt w2 b e2 → (∀ B a, Below B a w → B ≤ b → Below B a w2) → K (a.put o.dst undef) w2) :
    if Region.wanted o (yielded ops a.tmps) = true then Oper.wp Tryd.prog o a w K Q else X := by
  have hw : Region.wanted o (yielded ops a.tmps) = true := by simp [Region.wanted, hg]
  rw [if_pos hw]
  obtain ⟨w2, h1, h2, h3, _, _⟩ := hL.store e2
  unfold Oper.wp execOp
  simp only [ho, hx, hy, Sem.run_bind, Sem.run_pure, Result.andThen_ok, h1]
  exact hK w2 h2 h3
/-- what schema.Unpack answers -/
def sunp (l : List Nat) : Int × Ev × Int :=
  if (dec 0 0 l).2.2 ≠ 0 then (0, zeroE, (dec 0 0 l).2.2)
  else if (sdec (capN (dec 0 0 l).1) (l.drop (dec 0 0 l).2.1)).2 ≠ 0 then (0, zeroE, (sdec (capN (dec 0 0 l).1) (l.drop (dec 0 0 l).2.1)).2)
  else (capN (dec 0 0 l).1, (sdec (capN (dec 0 0 l).1) (l.drop (dec 0 0 l).2.1)).1, 0)
theorem results_ev3 {fn : Func} {p t u : Tmp} (h : fn.results = #[.tmp t, .cell p 25, .tmp u]) (tmps : Array Value) (w : World) (b : Nat) (e : Ev) (x y : Value) (ht : tmps.getD t undef = x) (hp : tmps.getD p undef = .pointer (some ⟨b, 0, none⟩)) (hx : tmps.getD u undef = y) (hl : EvAt w b e) :
    (results fn tmps).run Tryd.prog w = .ok (.tuple #[x, .agg (evA e), y]) w := by
  simp only [Array.getD_eq_getD_getElem?] at hp ht hx
  simp [results, h, hp, ht, hx, asAddr, hl.loadVar]
theorem dec_nn (l : List Nat) (a : Option Addr) (n cap : Nat) (w : World) (hn : l.length = n) (hb : Bytes w a l) (hl : n ≤ maxLen) :
    Calls Tryd.prog 31 #[.slice a n cap] w fun e w' => e = .returned (.tuple #[.int .u64 ((dec 0 0 l).1 : Int), .int .i64 ((dec 0 0 l).2.1 : Int), .int .i64 ((dec 0 0 l).2.2 : Int)]) ∧ w = w' := by
  subst hn
  exact dec_any l a cap w hb hl
set_option maxRecDepth 20000 in
set_option maxHeartbeats 1000000 in
theorem sunp_any (l : List Nat) (a : Option Addr) (n cap : Nat) (w : World) (hn : l.length = n) (hb : Bytes w a l) (hcap : n ≤ cap) (hm : n ≤ maxLen) :
    Calls Tryd.prog 14 #[.slice a n cap] w fun r w' => r = .returned (.tuple #[.int .i64 (sunp l).1, .agg (evA (sunp l).2.1), .int .i64 (sunp l).2.2]) ∧ Below w.heap.size w w' := by
  have hl := lt_all hb.1
  have HN : Hid (_) := hn
  have HA : Hid (EvAt (w.alloc (.cells (evA zeroE) 25)) w.heap.size zeroE) := evAt_new w zeroE
  have hAB : Below w.heap.size w (w.alloc (.cells (evA zeroE) 25)) := (Below.refl _ _).alloc (Nat.le_refl _) _
  have HAB : Hid (Below w.heap.size w (w.alloc (.cells (evA zeroE) 25))) := hAB
  have HBY : Hid (Bytes (w.alloc (.cells (evA zeroE) 25)) a l) := hb.keep hAB
  have HLT : Hid (w.heap.size < (w.alloc (.cells (evA zeroE) 25)).heap.size) := by show _ < _; simp
  rcases hd : dec 0 0 l with ⟨u, sz, e⟩
  have HD : Hid (_) := hd
  by_cases he : e = 0
  · subst he
    have hf := vdec_form l hl (by rw [hd])
    rw [hd] at hf
    obtain ⟨_, hsz, _, _, _⟩ := hf
    simp only at hsz
    have hszn : sz ≤ n := by omega
    obtain ⟨E, c, hEc⟩ : ∃ E c, sdec (capN u) (l.drop sz) = (E, c) := ⟨_, _, rfl⟩
    have HE : Hid (_) := hEc
    have HSU : Hid (sunp l = if c ≠ 0 then (0, zeroE, c) else (capN u, E, 0)) := by
      show _ = _
      unfold sunp
      rw [hd]
      simp only [ne_eq, not_true_eq_false, if_false]
      rw [hEc]
    have HDL : Hid ((l.drop sz).length = n - sz) := by show _ = _; rw [List.length_drop]; omega
    have hcap2 : n - sz ≤ cap - sz := by omega
    have hm2 : n - sz ≤ maxLen := by omega
    clear hn hb hAB hd hl hEc
    have T1 : Hid True := trivial
    by_cases hc : c = 0
    · subst hc
      have HR : Hid (sunp l = (capN u, E, 0)) := by show _ = _; rw [HSU.out]; rfl
      clear HSU
      go_enter Tryd.func14, Tryd.ntmps14
      go_wp2_with (first
        | (go_at_call 31; refine (dec_nn l a n cap _ HN.out HBY.out hm).mono ?_; rw [HD.out]; rintro _ w1 ⟨rfl, rfl⟩)
        | (go_at_call 32; refine (capped_any u _).mono ?_; rintro _ w2 ⟨rfl, rfl⟩)
        | (refine wpList_slice_l rfl _ _ rfl (l := l) rfl rfl hszn hcap HN.out HBY.out ?_; intro xa hxa; have HXA : Hid (_) := hxa; clear hxa)
        | (go_at_call 33; refine (sdecode_any (capN u) (l.drop sz) xa (n - sz) (cap - sz) _ HDL.out HXA.out hcap2 hm2).mono ?_; rw [HE.out]; rintro _ w3 ⟨rfl, hb3⟩; have HB3 : Hid (Below w.heap.size w w3) := below_next HAB.out hb3; have HA3 : Hid (EvAt w3 w.heap.size zeroE) := HA.out.after hb3; clear hb3)
        | ((with_reducible refine guard_store 25 ?_); clear T1; refine wpList_store_ev (e := zeroE) (e2 := E) rfl _ _ rfl (evAt_new w3 zeroE) rfl rfl ?_; intro x2 z1 z2 z3 z4; have hlt3 := HA3.out.lt; have HA4 : Hid (EvAt x2 w.heap.size zeroE) := (z3 _ (by omega)).trans (HA3.out.after ((Below.refl _ _).alloc (Nat.le_refl _) _)); have HB4 : Hid (Below w.heap.size w x2) := z2 _ _ (below_next HB3.out ((Below.refl _ _).alloc (Nat.le_refl _) _)) (by omega); have HZ1 : Hid (EvAt x2 w3.heap.size E) := z1; clear z1 z2 z3 z4 hlt3))
      refine wp_region_any (by kernel_rfl) ?_
      change wpAny _ _ _ _ _ _ _ (World.drew _)
      refine wpAny_take (i := 0) (v := ?_) rfl (by kernel_rfl) (by kernel_rfl) (by kernel_rfl) (fun _ _ _ h => h) (Or.inl ⟨by rfl, ?_⟩) ?_
      rotate_left
      · (intro w; go_simp; try (with_reducible rfl))
      refine wpAny_take (i := 2) (v := ?_) rfl (by kernel_rfl) (by kernel_rfl) (by kernel_rfl) (fun _ _ _ h => h) (Or.inl ⟨by rfl, ?_⟩) ?_
      rotate_left
      · (intro w; go_simp; try (with_reducible rfl))
      refine wpAny_ready (rs := [1]) (by kernel_rfl) (by simp) ?_
      refine AllReady.cons rfl (fun K hK => ?_) AllReady.nil
      refine step_load_ev rfl _ rfl (show EvAt x2.drew w3.heap.size E from HZ1.out) rfl ?_
      (refine hK _ _ ?_; clear hK K)
      refine wpAny_ready (rs := [3]) (by kernel_rfl) (by simp) ?_
      refine AllReady.cons rfl (fun K hK => ?_) AllReady.nil
      refine step_store_ev (e := zeroE) (e2 := E) rfl _ _ rfl (show EvAt x2.drew w.heap.size zeroE from HA4.out) rfl rfl ?_
      intro x5 z1 z2
      (refine hK _ _ ?_; clear hK K)
      refine wpAny_ready (rs := [4]) (by kernel_rfl) (by simp) ?_
      refine AllReady.cons rfl (fun K hK => ?_) AllReady.nil
      go_simp
      (refine hK _ _ ?_; clear hK K)
      refine wpAny_done (by kernel_rfl) ?_ _
      go_wp2
      rw [HR.out]
      exact bodyPost_ret (results_ev3 rfl _ _ _ _ _ _ rfl rfl rfl z1) rfl ⟨rfl, z2 _ _ HB4.out.drew (Nat.le_refl _)⟩
    · have HR : Hid (sunp l = (0, zeroE, c)) := by show _ = _; rw [HSU.out, if_pos hc]
      have hcb : (c != 0) = true := by simpa using hc
      clear HSU
      go_enter Tryd.func14, Tryd.ntmps14
      go_wp2_with (first
        | (go_at_call 31; refine (dec_nn l a n cap _ HN.out HBY.out hm).mono ?_; rw [HD.out]; rintro _ w1 ⟨rfl, rfl⟩)
        | (go_at_call 32; refine (capped_any u _).mono ?_; rintro _ w2 ⟨rfl, rfl⟩)
        | (refine wpList_slice_l rfl _ _ rfl (l := l) rfl rfl hszn hcap HN.out HBY.out ?_; intro xa hxa; have HXA : Hid (_) := hxa; clear hxa)
        | (go_at_call 33; refine (sdecode_any (capN u) (l.drop sz) xa (n - sz) (cap - sz) _ HDL.out HXA.out hcap2 hm2).mono ?_; rw [HE.out]; rintro _ w3 ⟨rfl, hb3⟩; have HB3 : Hid (Below w.heap.size w w3) := below_next HAB.out hb3; have HA3 : Hid (EvAt w3 w.heap.size zeroE) := HA.out.after hb3; clear hb3)
        | ((with_reducible refine guard_store 25 ?_); clear T1; refine wpList_store_ev (e := zeroE) (e2 := E) rfl _ _ rfl (evAt_new w3 zeroE) rfl rfl ?_; intro x2 z1 z2 z3 z4; have hlt3 := HA3.out.lt; have HA4 : Hid (EvAt x2 w.heap.size zeroE) := (z3 _ (by omega)).trans (HA3.out.after ((Below.refl _ _).alloc (Nat.le_refl _) _)); have HB4 : Hid (Below w.heap.size w x2) := z2 _ _ (below_next HB3.out ((Below.refl _ _).alloc (Nat.le_refl _) _)) (by omega); clear z1 z2 z3 z4 hlt3)
        | ((with_reducible refine guard_store 25 ?_); refine wpList_store_ev (e := zeroE) (e2 := zeroE) rfl _ _ rfl HA4.out rfl rfl ?_; intro x5 z1 z2 z3 z4))
      rw [HR.out]
      exact bodyPost_ret (results_ev3 rfl _ _ _ _ _ _ rfl rfl rfl z1) rfl ⟨rfl, z2 _ _ HB4.out (Nat.le_refl _)⟩
  · have HR : Hid (sunp l = (0, zeroE, (e : Int))) := by show _ = _; unfold sunp; rw [hd]; exact if_pos he
    have heb : ((e : Int) != 0) = true := by simp; omega
    have heb2 : ¬ (e : Int) = 0 := by omega
    clear hn hb hAB hd hl he
    go_enter Tryd.func14, Tryd.ntmps14
    go_wp2_with (first
      | (go_at_call 31; refine (dec_nn l a n cap _ HN.out HBY.out hm).mono ?_; rw [HD.out]; rintro _ w1 ⟨rfl, rfl⟩)
      | ((with_reducible refine guard_store 25 ?_); refine wpList_store_ev (e := zeroE) (e2 := zeroE) rfl _ _ rfl HA.out rfl rfl ?_; intro x5 z1 z2 z3 z4))
    rw [HR.out]
    exact bodyPost_ret (results_ev3 rfl _ _ _ _ _ _ rfl rfl rfl z1) rfl ⟨rfl, z2 _ _ HAB.out (Nat.le_refl _)⟩
end Go.Proofs.YtofealmjggpacaaDoor
