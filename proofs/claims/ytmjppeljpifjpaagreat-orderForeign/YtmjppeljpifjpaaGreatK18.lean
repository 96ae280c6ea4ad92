/- Own texts, joined: Od5. -/
import Derived.Test.YtmjppeljpifjpaaGreatK17
namespace Go.Proofs.YtmjppeljpifjpaaGreat
open Go.ChangeShapes Go.WideShapes Go.ChangeAt Go.RowKit
set_option linter.unusedVariables false
set_option maxRecDepth 20000 in
set_option maxHeartbeats 1000000 in
theorem both1_any (lo : Nat) (w : World) (va vb : Value) (f g : St → Bool) (ha : SuitsOk lo w va f) (hb : SuitsOk lo w vb g) (ba bb : Nat) (x : World) (hx : Same lo w x) (ca : x.cell? ⟨ba, 0, none⟩ = some va) (cb : x.cell? ⟨bb, 0, none⟩ = some vb) (hba : ba < x.heap.size) (hbb : bb < x.heap.size)
    (s : St) (a : Option Addr) (n cap : Nat) (hn : s.lines.length = n) (hl : Lns x a s.lines) (hm : n ≤ maxLen) :
    Calls Tryz.prog 107 #[.agg (stA s (.slice a n cap)), .pointer (some ⟨ba, 0, none⟩), .pointer (some ⟨bb, 0, none⟩)] x fun r x' => r = .returned (.bool (f s && g s)) ∧ Below x.heap.size x x' := by
  obtain ⟨ga, cba, rfl, ea, Ca⟩ := ha
  obtain ⟨gb, cbb, rfl, eb, Cb⟩ := hb
  have HC0 : Hid (StC x x.heap.size s a n cap (x.alloc (.cells (stA s (.slice a n cap)) 25))) := StC.new x s a n cap hl
  have CA : Hid (∀ (y : World), Same lo w y → Lns y a s.lines → Calls Tryz.prog ga (#[.agg (stA s (.slice a n cap))] ++ cba) y fun r x' => r = .returned (.bool (f s)) ∧ Below y.heap.size y x') := fun y hy hly => Ca y s a n cap hy hn hly hm
  have CB : Hid (∀ (y : World), Same lo w y → Lns y a s.lines → Calls Tryz.prog gb (#[.agg (stA s (.slice a n cap))] ++ cbb) y fun r x' => r = .returned (.bool (g s)) ∧ Below y.heap.size y x') := fun y hy hly => Cb y s a n cap hy hn hly hm
  have HX : Hid (Same lo w x) := hx
  have HCB : Hid (x.cell? ⟨bb, 0, none⟩ = some (.func (Fn.func gb) #[] cbb) ∧ bb < x.heap.size) := ⟨cb, hbb⟩
  obtain ⟨F, hF⟩ : ∃ F, f s = F := ⟨_, rfl⟩
  obtain ⟨G, hG⟩ : ∃ G, g s = G := ⟨_, rfl⟩
  rw [hF] at CA ⊢
  rw [hG] at CB ⊢
  clear Ca Cb hn hl hx hF hG hbb cb
  cases F
  all_goals
    go_enter Tryz.func107, Tryz.ntmps107
    go_wp2_with (first
      | ((with_reducible refine guard_load 25 ?_); refine wpList_load_st rfl _ rfl HC0.out.1 rfl ?_)
      | ((with_reducible refine guard_loadg 25 ?_); refine wpList_load_stg rfl _ rfl HC1.out.1 rfl ?_)
      | ((with_reducible refine (CA.out _ ?_ ?_).mono ?_); (exact HX.out.next HC0.out.2.2); (exact HC0.out.2.1); rintro _ x1 ⟨rfl, hb1⟩; have HC1 : Hid (StC x x.heap.size s a n cap x1) := StC.keep HC0.out hb1; have cb1 : x1.cell? ⟨bb, 0, none⟩ = some (.func (Fn.func gb) #[] cbb) := (HC1.out.2.2.cell (p := ⟨bb, 0, none⟩) HCB.out.2).trans HCB.out.1; clear hb1)
      | ((with_reducible refine (CB.out _ ?_ ?_).mono ?_); (exact HX.out.next HC1.out.2.2); (exact HC1.out.2.1); rintro _ x2 ⟨rfl, hb2⟩; have HC2 : Hid (StC x x.heap.size s a n cap x2) := StC.keep HC1.out hb2; clear hb2))
    go_ret
    first | exact ⟨rfl, HC2.out.2.2⟩ | exact ⟨rfl, HC1.out.2.2⟩
set_option maxRecDepth 20000 in
theorem both_any (lo : Nat) (w : World) (va vb : Value) (f g : St → Bool) (ha : SuitsOk lo w va f) (hb : SuitsOk lo w vb g) (hlo : lo ≤ w.heap.size) :
    Calls Tryz.prog 72 #[va, vb] w fun r w' => ∃ v, r = .returned v ∧ SuitsOk lo w' v (fun s => f s && g s) ∧ Below w.heap.size w w' := by
  have HA : Hid (SuitsOk lo w va f) := ha
  have HB : Hid (SuitsOk lo w vb g) := hb
  obtain ⟨ga, cba, rfl, ea, _⟩ := ha
  obtain ⟨gb, cbb, rfl, eb, _⟩ := hb
  clear ea eb
  go_enter Tryz.func72, Tryz.ntmps72
  go_wp2
  go_ret
  have hb1 : ∀ O1 O2, Below w.heap.size w ((w.alloc O1).alloc O2) := fun O1 O2 => ((Below.refl _ _).alloc (Nat.le_refl _) _).alloc (by simp) _
  refine ⟨_, rfl, ⟨_, _, rfl, cf_both1, fun x s a n cap hx hn hl hmx => ?_⟩, hb1 _ _⟩
  have hs := hx.1
  simp at hs
  refine both1_any lo w _ _ f g HA.out HB.out w.heap.size (w.heap.size + 1) x ((same_of (hb1 _ _)).trans hx) ?_ ?_ (by omega) (by omega) s a n cap hn hl hmx
  · rw [hx.cell 0 hlo (by first | (simp; done) | (simp; omega))]
    simp
  · rw [hx.cell 0 (Nat.le_succ_of_le hlo) (by first | (simp; done) | (simp; omega))]
    simp
end Go.Proofs.YtmjppeljpifjpaaGreat
