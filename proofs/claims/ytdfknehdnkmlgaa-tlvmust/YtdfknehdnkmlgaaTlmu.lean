/- tlv.Must, the law's mustOf and its deferred closure. -/
import Derived.Test.YtdfknehdnkmlgaaTlq
namespace Go.Proofs.Ytdfknehdnkmlgaa
open Go.ChangeShapes Go.WideShapes Go.ChangeAt Go.RowKit
set_option linter.unusedVariables false
set_option maxRecDepth 20000 in
set_option maxHeartbeats 400000 in
theorem must_ok (L : List (Fld × Value)) (a : Option Addr) (n cap : Nat) (r0 : List Nat) (w : World) (hn : L.length = n) (hfs : FsAt w a L) (hm : n ≤ 140737488355328) (he : encs (L.map Prod.fst) 0 [] = (r0, 0)) :
    Calls Try.prog 25 #[.slice a n cap] w fun r w' => ∃ v, r = .returned v ∧ Own w' w.heap.size v r0 ∧ Below w.heap.size w w' := by
  have HF : Hid (FsAt w a L) := hfs
  have HN : Hid (L.length = n) := hn
  have HE : Hid (encs (L.map Prod.fst) 0 [] = (r0, 0)) := he
  clear hfs hn he
  go_enter Try.func25, Try.ntmps25
  go_wp2_with (go_at_call 12; refine (tenc L a n cap w HN.out HF.out hm).mono ?_; rw [HE.out]; rintro r w1 ⟨v1, rfl, ho1, hb1⟩; have HO1 : Hid (Own w1 w.heap.size v1 r0) := ho1; have HB1 : Hid (Below w.heap.size w w1) := hb1; clear ho1 hb1)
  go_ret
  exact ⟨_, rfl, HO1.out, HB1.out⟩
set_option maxRecDepth 20000 in
set_option maxHeartbeats 400000 in
theorem must_bad (L : List (Fld × Value)) (a : Option Addr) (n cap : Nat) (e : Nat) (w : World) (hn : L.length = n) (hfs : FsAt w a L) (hm : n ≤ 140737488355328) (he : (encs (L.map Prod.fst) 0 []).2 = e) (hz : e ≠ 0) :
    Calls Try.prog 25 #[.slice a n cap] w fun r w' => r = errP e ∧ Below w.heap.size w w' := by
  have HF : Hid (FsAt w a L) := hfs
  have HN : Hid (L.length = n) := hn
  have HE : Hid ((encs (L.map Prod.fst) 0 []).2 = e) := he
  have heb : ((e : Int) != 0) = true := by simp; omega
  clear hfs hn he
  go_enter Try.func25, Try.ntmps25
  go_wp2_with (go_at_call 12; refine (tenc L a n cap w HN.out HF.out hm).mono ?_; rw [HE.out]; rintro r w1 ⟨v1, rfl, ho1, hb1⟩; have HB1 : Hid (Below w.heap.size w w1) := hb1; clear ho1 hb1)
  exact body_panic ⟨rfl, HB1.out⟩
theorem mclos_idle (p0 p1 : Addr) (w : World) : CallsD Try.prog 24 #[.pointer (some p0), .pointer (some p1)] .returning w fun e u' w' => e = .returned (.tuple #[]) ∧ u' = .returning ∧ w' = w := by
  refine callsD_of_wpS Try.func24 rfl fun c₀ cs hu => ?_
  apply wpS_seq
  apply wpS_region
  simp [wpOpsS, go_sem, recoverD, hu, Try.ntmps24, Exit.thenS]
  refine wpS_of_wp ?_
  simp only [Array.replicate, List.replicate]
  go_wp2
  cases c₀
  simp_all [bodyPostS, results, Try.results24]
theorem mclos_catch (p0 p1 : Nat) (e : Int) (x0 : Value) (y1 : Int) (older : List PanicEntry) (w : World) (h0 : w.cell? ⟨p0, 0, none⟩ = some x0) (h1 : w.cell? ⟨p1, 0, none⟩ = some (.int .i64 y1))
    (n01 : ¬ p0 = p1) (z0 : w.frozen? ⟨p0, 0, none⟩ = false) (z1 : w.frozen? ⟨p1, 0, none⟩ = false) :
    CallsD Try.prog 24 #[.pointer (some ⟨p0, 0, none⟩), .pointer (some ⟨p1, 0, none⟩)] (.panicking ({ v := .iface 28 (.int .i64 e), recovered := false } :: older)) w fun r u' w' => r = .returned (.tuple #[]) ∧ u' = .panicking ({ v := .iface 28 (.int .i64 e), recovered := true } :: older) ∧ ∃ m, w' = ((w.setCell ⟨p0, 0, none⟩ (.slice none 0 0)).setCell ⟨p1, 0, none⟩ (.int .i64 e)).drewN m := by
  refine callsD_of_wpS Try.func24 rfl fun c₀ cs hu => ?_
  apply wpS_seq
  apply wpS_region
  simp [wpOpsS, go_sem, recoverD, hu, Try.ntmps24, Exit.thenS]
  refine wpS_of_wp ?_
  simp only [Array.replicate, List.replicate]
  have hta : ∀ w : World, (Instr.typeAssert (.iface 28 (.int .i64 e)) 20 28 true).run Try.prog w = .ok (.tuple #[.int .i64 e, .bool true]) w := fun _ => by kernel_rfl
  have m01 : ¬ p1 = p0 := fun h => n01 h.symm
  go_wp2
  all_goals exact ⟨rfl, _, rfl, .tuple #[], by simp [results, Try.results24], rfl, rfl, 0, rfl⟩
theorem results_cells2m {fn : Func} {t s : Tmp} {ty tz : TypeId} (h : fn.results = #[.cell t ty, .cell s tz]) (tmps : Array Value) (w : World) (b c : Nat) (v x : Value) (ht : tmps.getD t undef = .pointer (some ⟨b, 0, none⟩)) (hs : tmps.getD s undef = .pointer (some ⟨c, 0, none⟩)) (hl : (Go.loadVar ty ⟨b, 0, none⟩).run Try.prog w = .ok v w) (hm : (Go.loadVar tz ⟨c, 0, none⟩).run Try.prog w = .ok x w) :
    (results fn tmps).run Try.prog w = .ok (.tuple #[v, x]) w := by
  simp only [Array.getD_eq_getD_getElem?] at ht hs
  simp [results, h, ht, hs, asAddr, hl, hm]
theorem loadB8 {w : World} {b : Nat} {v : Value} (h : w.cell? ⟨b, 0, none⟩ = some v) : (Go.loadVar 25 ⟨b, 0, none⟩).run Try.prog w = .ok v w := by
  have ha : (isAgg 25).run Try.prog w = .ok false w := by kernel_rfl
  simp [go_sem, h, ha]
/-- the two cells of mustOf's results -/
theorem lay2m (w : World) : ∃ W, (w.alloc (.cells #[.slice none 0 0] 25)).alloc (.cells #[.int .i64 0] 28) = W ∧ W.heap[w.heap.size]? = some (.cells #[.slice none 0 0] 25) ∧ W.heap[w.heap.size + 1]? = some (.cells #[.int .i64 0] 28) ∧ Below w.heap.size w W ∧ W.heap.size = w.heap.size + 2 := by
  refine ⟨_, rfl, ?_, ?_, ((Below.refl _ _).alloc (Nat.le_refl _) _).alloc (by simp) _, by simp⟩
  · simp only [World.alloc, Array.getElem?_push, Array.size_push]
    rw [if_neg (by omega), if_pos trivial]
  · simp only [World.alloc, Array.getElem?_push, Array.size_push]
    rw [if_pos trivial]
/-- both cells written -/
theorem put2m {w w2 : World} (x : Value) (e : Int) {v y : Value} (h1 : w2.heap[w.heap.size]? = some (.cells #[v] 25)) (h2 : w2.heap[w.heap.size + 1]? = some (.cells #[y] 28)) (hb : Below w.heap.size w w2) (m : Nat) :
    ∃ W, ((w2.setCell ⟨w.heap.size, 0, none⟩ x).setCell ⟨w.heap.size + 1, 0, none⟩ (.int .i64 e)).drewN m = W ∧ W.cell? ⟨w.heap.size, 0, none⟩ = some x ∧ W.cell? ⟨w.heap.size + 1, 0, none⟩ = some (.int .i64 e) ∧ Below w.heap.size w W ∧ ∀ k, w.heap.size + 2 ≤ k → W.heap[k]? = w2.heap[k]? := by
  have a1 := heap_setCell_same w2 (w.heap.size) 0 _ _ x h1
  have b1 := (heap_setCell_other w2 ⟨w.heap.size, 0, none⟩ (w.heap.size + 1) x (by show w.heap.size + 1 ≠ w.heap.size; omega)).trans h2
  have a2 := (heap_setCell_other (w2.setCell ⟨w.heap.size, 0, none⟩ x) ⟨w.heap.size + 1, 0, none⟩ (w.heap.size) (.int .i64 e) (by show w.heap.size ≠ w.heap.size + 1; omega)).trans a1
  have b2 := heap_setCell_same (w2.setCell ⟨w.heap.size, 0, none⟩ x) (w.heap.size + 1) 0 _ _ (.int .i64 e) b1
  have hd : ∀ (X : World) (p : Addr), (X.drewN m).cell? p = X.cell? p := fun X p => by simp
  have hh : ∀ (X : World) (k : Nat), (X.drewN m).heap[k]? = X.heap[k]? := fun X k => by simp
  refine ⟨_, rfl, ?_, ?_, ?_, ?_⟩
  · rw [hd, cell_of_row _ _ 0 _ _ _ a2]; rfl
  · rw [hd, cell_of_row _ _ 0 _ _ _ b2]; rfl
  · exact below_drewN ((hb.setCell (Nat.le_refl _) _).setCell (Nat.le_succ _) _) m
  · intro k hk
    rw [hh]
    exact (heap_setCell_other _ ⟨w.heap.size + 1, 0, none⟩ k _ (by show k ≠ w.heap.size + 1; omega)).trans (heap_setCell_other _ ⟨w.heap.size, 0, none⟩ k _ (by show k ≠ w.heap.size; omega))
theorem own_moved {w w2 : World} {base : Nat} {v : Value} {l : List Nat} (h : Own w base v l) (hk : ∀ k, base ≤ k → w2.heap[k]? = w.heap[k]?) (B : Nat) (hB : B ≤ base) : Own w2 B v l := by
  obtain ⟨h0, h1⟩ := own_same2 h.2 (w' := w2) (fun k hb _ => hk k hb)
  refine ⟨h.1, h0, ?_⟩
  rcases h1 with h2 | ⟨g, cap, cur, e1, e2, e3⟩
  · exact .inl h2
  · exact .inr ⟨g, cap, cur, e1, Nat.le_trans hB e2, e3⟩
set_option maxRecDepth 20000 in
set_option maxHeartbeats 400000 in
theorem mustof (L : List (Fld × Value)) (a : Option Addr) (n cap : Nat) (w : World) (hn : L.length = n) (hfs : FsAt w a L) (hm : n ≤ 140737488355328) (r0 : List Nat) (e : Nat) (hre : encs (L.map Prod.fst) 0 [] = (r0, e)) (hz : e ≠ 0 → r0 = []) :
    Calls Try.prog 15 #[.slice a n cap] w fun r w' => ∃ v, r = .returned (.tuple #[v, .int .i64 (e : Int)]) ∧ Own w' w.heap.size v r0 ∧ Below w.heap.size w w' := by
  have hmf : ∀ (fn : Fn) (first cap : Array Value) (w : World), (Instr.makeFunc fn first cap).run Try.prog w = .ok (.func fn first cap) w := fun _ _ _ _ => rfl
  obtain ⟨W, hW, y1, y2, y3, y4⟩ := lay2m w
  have HW : Hid (_ = W) := hW
  have HY : Hid (W.heap[w.heap.size]? = some (.cells #[.slice none 0 0] 25) ∧ W.heap[w.heap.size + 1]? = some (.cells #[.int .i64 0] 28) ∧ Below w.heap.size w W ∧ W.heap.size = w.heap.size + 2) := ⟨y1, y2, y3, y4⟩
  have HF : Hid (FsAt W a L) := hfs.keep y3
  have HN : Hid (L.length = n) := hn
  have HE : Hid (encs (L.map Prod.fst) 0 [] = (r0, e)) := hre
  have hn1 : ¬ w.heap.size = w.heap.size + 1 := by omega
  have hn2 : ¬ w.heap.size + 1 = w.heap.size := by omega
  clear hW hfs hn y1 y2 y3 y4 hre
  by_cases he : e = 0
  · subst he
    go_enter_defers Try.func15, Try.ntmps15
    go_wp2_with (go_at_call 25; rw [HW.out]; refine (must_ok L a n cap r0 W HN.out HF.out hm HE.out).mono ?_; rintro r w1 ⟨v1, rfl, ho1, hb1⟩; obtain ⟨xa, xc, hv1, _, _, _, _⟩ := ho1.shape; obtain ⟨xn, hxn⟩ : ∃ xn, r0.length = xn := ⟨_, rfl⟩; rw [hxn] at hv1; subst hv1; clear hxn; have HO1 : Hid (Own w1 W.heap.size (.slice xa xn xc) r0) := ho1; have HB1 : Hid (Below W.heap.size W w1) := hb1; have x1 := (hb1.block w.heap.size (by rw [HY.out.2.2.2]; omega)).trans HY.out.1; have x2 := (hb1.block (w.heap.size + 1) (by rw [HY.out.2.2.2]; omega)).trans HY.out.2.1; have HX : Hid (w1.heap[w.heap.size]? = some (.cells #[.slice none 0 0] 25) ∧ w1.heap[w.heap.size + 1]? = some (.cells #[.int .i64 0] 28)) := ⟨x1, x2⟩; have c1 : w1.cell? ⟨w.heap.size, 0, none⟩ = some (.slice none 0 0) := (by rw [cell_of_row _ _ 0 _ _ _ x1]; rfl); have c2 : w1.cell? ⟨w.heap.size + 1, 0, none⟩ = some (.int .i64 0) := (by rw [cell_of_row _ _ 0 _ _ _ x2]; rfl); have z1 := frozen_of_row _ _ 0 _ _ x1; have z2 := frozen_of_row _ _ 0 _ _ x2; clear ho1 hb1 x1 x2)
    refine leaves_cons (f := 24) (args := #[.pointer (some ⟨w.heap.size, 0, none⟩), .pointer (some ⟨w.heap.size + 1, 0, none⟩)]) (by simp) (by simp [go_sem]) ?_
    refine (mclos_idle _ _ _).mono ?_
    rintro r u' w3 ⟨rfl, rfl, rfl⟩
    obtain ⟨W3, hW3, s1, s2, s3, s4⟩ := put2m (.slice xa xn xc) 0 HX.out.1 HX.out.2 (HY.out.2.2.1.trans (HB1.out.mono (by rw [HY.out.2.2.2]; omega))) 0
    have hW4 : (w1.setCell ⟨w.heap.size, 0, none⟩ (.slice xa xn xc)).setCell ⟨w.heap.size + 1, 0, none⟩ (.int .i64 0) = W3 := hW3
    rw [hW4]
    exact ⟨_, results_cells2m rfl _ _ _ _ _ _ rfl rfl (loadB8 s1) (loadE s2), _, rfl, own_moved HO1.out (fun k hk => s4 k (by rw [HY.out.2.2.2] at hk; exact hk)) _ (by rw [HY.out.2.2.2]; omega), s3⟩
  · have hr := hz he
    subst hr
    go_enter_defers Try.func15, Try.ntmps15
    go_wp2_with (go_at_call 25; rw [HW.out]; refine (must_bad L a n cap e W HN.out HF.out hm (by rw [HE.out]) he).mono ?_; rintro r w1 ⟨rfl, hb1⟩; have HB1 : Hid (Below W.heap.size W w1) := hb1; have x1 := (hb1.block w.heap.size (by rw [HY.out.2.2.2]; omega)).trans HY.out.1; have x2 := (hb1.block (w.heap.size + 1) (by rw [HY.out.2.2.2]; omega)).trans HY.out.2.1; have HX : Hid (w1.heap[w.heap.size]? = some (.cells #[.slice none 0 0] 25) ∧ w1.heap[w.heap.size + 1]? = some (.cells #[.int .i64 0] 28)) := ⟨x1, x2⟩; clear hb1 x1 x2)
    refine leaves_cons (f := 24) (args := #[.pointer (some ⟨w.heap.size, 0, none⟩), .pointer (some ⟨w.heap.size + 1, 0, none⟩)]) (by simp) (by simp [go_sem]) ?_
    refine (mclos_catch w.heap.size (w.heap.size + 1) (e : Int) (.slice none 0 0) 0 [] w1 (by rw [cell_of_row _ _ 0 _ _ _ HX.out.1]; rfl) (by rw [cell_of_row _ _ 0 _ _ _ HX.out.2]; rfl) (by omega) (frozen_of_row _ _ 0 _ _ HX.out.1) (frozen_of_row _ _ 0 _ _ HX.out.2)).mono ?_
    rintro r u' w3 ⟨rfl, rfl, m3, rfl⟩
    obtain ⟨W3, hW3, s1, s2, s3, s4⟩ := put2m (.slice none 0 0) (e : Int) HX.out.1 HX.out.2 (HY.out.2.2.1.trans (HB1.out.mono (by rw [HY.out.2.2.2]; omega))) m3
    rw [hW3]
    exact ⟨_, results_cells2m rfl _ _ _ _ _ _ rfl rfl (loadB8 s1) (loadE s2), _, rfl, own_nil _ _, s3⟩
end Go.Proofs.Ytdfknehdnkmlgaa
