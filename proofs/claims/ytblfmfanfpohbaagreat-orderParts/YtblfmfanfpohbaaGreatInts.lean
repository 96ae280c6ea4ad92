/- Rows of numbers with a sign: what lies in memory, what a call's own row holds. -/
import Derived.Test.YtblfmfanfpohbaaGreatNum
namespace Go.Proofs.YtblfmfanfpohbaaGreat
open Go.ChangeShapes Go.WideShapes Go.ChangeAt Go.RowKit
/-- the numbers l lie from address a on -/
def Ints (w : World) (a : Option Addr) (l : List Int) : Prop :=
  (∀ x ∈ l, inI x) ∧ (l = [] ∨ ∃ b off, a = some ⟨b, off, none⟩ ∧ b < w.heap.size ∧ ∀ i, i < l.length → w.cell? ⟨b, off + i, none⟩ = some (.int .i64 (l.getD i 0)))
theorem Ints.keep {w w' : World} {a : Option Addr} {l : List Int} (h : Ints w a l) (hb : Below w.heap.size w w') : Ints w' a l := by
  refine ⟨h.1, ?_⟩
  rcases h.2 with h | ⟨b, off, rfl, hlt, hc⟩
  · exact .inl h
  · exact .inr ⟨b, off, rfl, Nat.lt_of_lt_of_le hlt hb.size, fun i hi => (hb.cell (p := ⟨b, off + i, none⟩) hlt).trans (hc i hi)⟩
theorem row_ints (w : World) (x : Addr) (zs : List Int) (len : Nat) (hl : len ≤ zs.length)
    (hc : ∀ i, i < zs.length → w.cell? (x.add i) = some (.int .i64 (zs.getD i 0))) (hw : ∀ n ∈ zs, (Lit.int .i64 n).wf = true) :
    ∃ l : List Int, l.length = len ∧ (∀ x ∈ l, inI x) ∧ (l = [] ∨ ∃ b off, some x = some (⟨b, off, none⟩ : Addr) ∧ b < w.heap.size ∧ ∀ i, i < l.length → w.cell? ⟨b, off + i, none⟩ = some (.int .i64 (l.getD i 0))) := by
  refine ⟨zs.take len, by simp; omega, fun y hy => wf_i64 _ (hw _ (List.mem_of_mem_take hy)), ?_⟩
  by_cases hz : len = 0
  · left; subst hz; simp
  · right
    obtain ⟨b, off, spot⟩ := x
    have hc0 := hc 0 (by omega)
    have hspot : spot = none := by simpa [Addr.add] using World.cell?_spot hc0
    subst hspot
    refine ⟨b, off, rfl, World.block_lt_of_cell? _ _ hc0, fun i hi => ?_⟩
    have hi2 : i < zs.length := by simp at hi; omega
    have hi3 : i < len := by simp at hi; omega
    have := hc i hi2
    rw [show (⟨b, off, none⟩ : Addr).add i = ⟨b, off + i, none⟩ from by simp [Addr.add]] at this
    rw [this]
    simp [List.getD_eq_getElem?_getD, hi2, hi3]
def BI (l : List Int) : List Value := l.map fun n => Value.int .i64 n
theorem BI_append (l m : List Int) : BI (l ++ m) = BI l ++ BI m := by simp [BI]
theorem BI_get (l : List Int) (i : Nat) (h : i < l.length) : (BI l)[i]? = some (.int .i64 (l.getD i 0)) := by simp [BI, h]
theorem BI_one (m : List Int) : ∀ u ∈ BI m, u.oneCell' = true := by
  intro u hu
  simp only [BI, List.mem_map] at hu
  obtain ⟨n, _, rfl⟩ := hu
  rfl
theorem BI_length (m : List Int) : (BI m).length = m.length * 1 := by simp [BI]
/-- the value v is a row of the call's own that holds the numbers l -/
def OwnI (w : World) (base : Nat) (v : Value) (l : List Int) : Prop := (∀ x ∈ l, inI x) ∧ w.ownsRow base 2 1 v l.length (BI l)
theorem OwnI.shape {w : World} {base : Nat} {v : Value} {l : List Int} (h : OwnI w base v l) : ∃ a cap, v = .slice a l.length cap ∧ l.length ≤ cap ∧ cap ≤ maxLen ∧ Ints w a l := by
  obtain ⟨h0, h1, h2⟩ := h
  rcases h2 with ⟨rfl, hn⟩ | ⟨g, cap, cur, rfl, hb, hg, hnc, hcm, hcs, htake⟩
  · have : l = [] := List.length_eq_zero_iff.1 hn
    subst this
    exact ⟨none, 0, rfl, Nat.le_refl _, by simp, h0, .inl rfl⟩
  · have hlt : g < w.heap.size := by
      by_cases hh : g < w.heap.size
      · exact hh
      · rw [Array.getElem?_eq_none (by omega)] at hg; cases hg
    have ho : w.ownsRow base 2 1 (.slice (some ⟨g, 0, none⟩) l.length cap) l.length (BI l) := ⟨h1, .inr ⟨g, cap, cur, rfl, hb, hg, hnc, hcm, hcs, htake⟩⟩
    refine ⟨some ⟨g, 0, none⟩, cap, rfl, hnc, hcm, h0, .inr ⟨g, 0, rfl, hlt, fun i hi => ?_⟩⟩
    rw [Nat.zero_add, ho.cellAt i (by omega), BI_get l i hi]
theorem ints_cells {w : World} {x : Addr} {m : List Int} (h : Ints w (some x) m) : ∀ j u, (BI m)[j]? = some u → w.cell? (x.add j) = some u := by
  intro j u hj
  have hlt : j < m.length := by
    by_cases hh : j < m.length
    · exact hh
    · rw [List.getElem?_eq_none (by simp [BI]; omega)] at hj; cases hj
  rw [BI_get m j hlt] at hj
  rcases h.2 with rfl | ⟨b, off, hx, _, hc⟩
  · simp at hlt
  · cases hx
    rw [← hj, show (⟨b, off, none⟩ : Addr).add j = ⟨b, off + j, none⟩ from by simp [Addr.add]]
    exact hc j hlt
theorem ints_lit (w : World) (l : List Int) (h : ∀ x ∈ l, inI x) : Ints (w.alloc (.cells (BI l).toArray 2)) (some ⟨w.heap.size, 0, none⟩) l := by
  refine ⟨h, .inr ⟨w.heap.size, 0, rfl, by simp, fun i hi => ?_⟩⟩
  rw [Nat.zero_add]
  have hc := cell_of_row (w.alloc (.cells (BI l).toArray 2)) w.heap.size i (BI l).toArray 2 (0, 0) (heap_alloc_new w _)
  rw [hc]
  simpa using BI_get l i hi
theorem Tryz.infoI : (Tryz.prog.info? 2).map (fun i => (i.zero, i.size, i.bytes)) = some (some (.int .i64 0), 1, 8) := by kernel_rfl
theorem sum_bound (l : List Int) (h : ∀ x ∈ l, inI x) : -9223372036854775808 * (l.length : Int) ≤ l.sum ∧ l.sum ≤ 9223372036854775808 * (l.length : Int) := by
  induction l with
  | nil => simp
  | cons x r ih =>
    have h1 := ih fun y hy => h y (List.mem_cons_of_mem _ hy)
    have h2 := h x (List.mem_cons_self ..)
    unfold inI at h2
    rw [List.sum_cons, List.length_cons]
    omega
theorem sum_range (l : List Int) (h : ∀ x ∈ l, inI x) (hl : l.length ≤ maxLen) (k : Nat) : -170141183460469231731687303715884105728 ≤ (l.take k).sum ∧ (l.take k).sum ≤ 170141183460469231731687303715884105727 := by
  have h1 := sum_bound (l.take k) fun y hy => h y (List.mem_of_mem_take hy)
  have h2 : (l.take k).length ≤ l.length := by rw [List.length_take]; omega
  unfold maxLen at hl
  omega
theorem sum_step (l : List Int) (k : Nat) (h : k < l.length) : (l.take (k + 1)).sum = (l.take k).sum + l.getD k 0 := by
  rw [List.take_add_one, List.sum_append, List.getD_eq_getElem?_getD, List.getElem?_eq_getElem h]
  simp
/-- the wide number S lies in block b, to be written -/
structure WideAt (w : World) (b : Nat) (S : Int) : Prop where
  c0 : w.cell? ⟨b, 0, none⟩ = some (.int .i64 (S / 18446744073709551616))
  c1 : w.cell? ⟨b, 1, none⟩ = some (.int .u64 (S % 18446744073709551616))
  f0 : w.frozen? ⟨b, 0, none⟩ = false
  f1 : w.frozen? ⟨b, 1, none⟩ = false
theorem WideAt.lt {w : World} {b : Nat} {S : Int} (h : WideAt w b S) : b < w.heap.size := World.block_lt_of_cell? _ _ h.c0
theorem WideAt.keep {w w' : World} {b : Nat} {S : Int} (h : WideAt w b S) (hb : Below w.heap.size w w') : WideAt w' b S :=
  ⟨(hb.cell (p := ⟨b, 0, none⟩) h.lt).trans h.c0, (hb.cell (p := ⟨b, 1, none⟩) h.lt).trans h.c1, (hb.frozen (p := ⟨b, 0, none⟩) h.lt).trans h.f0, (hb.frozen (p := ⟨b, 1, none⟩) h.lt).trans h.f1⟩
theorem WideAt.store {w : World} {b : Nat} {S : Int} (h : WideAt w b S) (T : Int) : WideAt ((w.setCell ⟨b, 0, none⟩ (.int .i64 (T / 18446744073709551616))).setCell ⟨b, 1, none⟩ (.int .u64 (T % 18446744073709551616))) b T := by
  have e : (⟨b, 1, none⟩ : Addr) ≠ ⟨b, 0, none⟩ := by simp
  refine ⟨?_, ?_, ?_, ?_⟩
  · rw [World.cell?_setCell_other _ _ _ _ e]; exact World.cell?_setCell_same _ _ _ h.c0
  · exact World.cell?_setCell_same _ _ _ (u := .int .u64 (S % 18446744073709551616)) (by rw [World.cell?_setCell_other _ _ _ _ e.symm]; exact h.c1)
  · rw [World.frozen?_setCell, World.frozen?_setCell]; exact h.f0
  · rw [World.frozen?_setCell, World.frozen?_setCell]; exact h.f1
theorem widen_b (a : Int) (w : World) (h : inI a) : Calls Tryz.prog 99 #[.int .i64 a] w fun e w' => e = .returned (W128 a) ∧ Below w.heap.size w w' := by
  refine (widen_any a w h.1 h.2).mono ?_
  rintro e w' ⟨rfl, c, rfl⟩
  exact ⟨rfl, bal (Below.refl _ _) _⟩
theorem plus_b (x y : Int) (w : World) (h0 : -170141183460469231731687303715884105728 ≤ x + y) (h1 : x + y ≤ 170141183460469231731687303715884105727) :
    Calls Tryz.prog 98 #[W128 x, W128 y] w fun e w' => e = .returned (W128 (x + y)) ∧ Below w.heap.size w w' := by
  refine (plus_any x y w h0 h1).mono ?_
  rintro e w' ⟨rfl, c, c2, c3, rfl⟩
  exact ⟨rfl, bal (bel2 _ _ _) _⟩
set_option maxRecDepth 20000 in
set_option maxHeartbeats 1000000 in
theorem sum_any (l : List Int) (n : Nat) (a : Option Addr) (cap : Nat) (w : World) (hn : l.length = n) (hI : Ints w a l) (hl : n ≤ maxLen) :
    Calls Tryz.prog 80 #[.slice a n cap] w fun e w' => e = .returned (.tuple #[.int .i64 (fitV l.sum), .bool (fitB l.sum)]) ∧ Below w.heap.size w w' := by
  have HN : Hid (l.length = n) := hn
  have HI : Hid (Ints w a l) := hI
  have HS : Hid (∀ k, -170141183460469231731687303715884105728 ≤ (l.take k).sum ∧ (l.take k).sum ≤ 170141183460469231731687303715884105727) := sum_range l hI.1 (by rw [hn]; exact hl)
  have hl2 : (n : Int) ≤ 9223372036854775807 := by unfold maxLen at hl; omega
  clear hn hI hl
  go_enter Tryz.func80, Tryz.ntmps80
  go_wp2
  go_loopw [6, 9] (fun vx vi wr => ∃ k : Nat, k ≤ n ∧ vi = .int .i64 k ∧ Hid (WideAt wr w.heap.size (l.take k).sum ∧ Below w.heap.size w wr)) (fun _ vi _ => n - (intOf vi).toNat)
  case atStart => exact ⟨0, Nat.zero_le _, rfl, ⟨by simp [go_sem], by simp [go_sem], by simp [go_sem], by simp [go_sem]⟩, (Below.refl _ _).alloc (Nat.le_refl _) _⟩
  case round =>
    obtain ⟨k, hk, rfl, HC⟩ := hrel
    obtain ⟨S, eS⟩ : ∃ S, (l.take k).sum = S := ⟨_, rfl⟩
    have HSk := HS.out k
    have HC' := HC.out
    rw [eS] at HC' HSk
    have HE : Hid ((l.take k).sum = S) := eS
    have HR : Hid (_ ∧ _) := HSk
    have HB : Hid (Below w.heap.size w wr) := HC'.2
    have hc0 := HC'.1.c0
    have hc1 := HC'.1.c1
    have HW : Hid (WideAt wr w.heap.size S) := HC'.1
    clear HC HC' eS HSk
    by_cases hkn : k < n
    · have hIw := HI.out.keep HB.out
      obtain ⟨b, off, ha, hx⟩ : ∃ b off, a = some ⟨b, off, none⟩ ∧ wr.cell? ⟨b, off + k, none⟩ = some (.int .i64 (l.getD k 0)) := by
        rcases hIw.2 with h | ⟨b, off, ha, _, hc⟩
        · have := HN.out; rw [h] at this; simp at this; omega
        · exact ⟨b, off, ha, hc k (by rw [HN.out]; exact hkn)⟩
      subst ha
      have HX : Hid (inI (l.getD k 0)) := by
        show inI _
        rw [List.getD_eq_getElem?_getD, List.getElem?_eq_getElem (by rw [HN.out]; exact hkn)]
        exact hIw.1 _ (List.getElem_mem _)
      obtain ⟨x, ex⟩ : ∃ x, l.getD k 0 = x := ⟨_, rfl⟩
      rw [ex] at hx HX
      have HXE : Hid ((l.take (k + 1)).sum = S + x) := by show _ = _; rw [sum_step l k (by rw [HN.out]; exact hkn), HE.out, ex]
      have HR2 := HS.out (k + 1)
      rw [HXE.out] at HR2
      have HR3 : Hid (_ ∧ _) := HR2
      clear hIw ex HR2
      go_wp2
      have hsb : w.heap.size ≤ wr.heap.size := HB.out.size
      go_region_with (first
        | (go_at_call 99; refine (widen_b x _ HX.out).mono ?_; rintro e w2 ⟨rfl, hb2⟩; have hc2 := (show WideAt wr.drew w.heap.size S from ⟨HW.out.c0, HW.out.c1, HW.out.f0, HW.out.f1⟩).keep hb2; have HW2 : Hid (WideAt w2 w.heap.size S) := hc2; obtain ⟨m0, m1, m2, m3⟩ := hc2)
        | (go_at_call 98; rw [show (Value.agg #[.int .i64 (S / 18446744073709551616), .int .u64 (S % 18446744073709551616)]) = W128 S from rfl]; refine (plus_b S x _ HR3.out.1 HR3.out.2).mono ?_; unfold W128; rintro e w3 ⟨rfl, hb3⟩; have hc3 := HW2.out.keep hb3; have HW3 : Hid (WideAt w3 w.heap.size S) := hc3; obtain ⟨k0, k1, k2, k3⟩ := hc3))
      all_goals
        go_wp2
        go_round
        case rel => exact ⟨k + 1, by omega, by go_num, by rw [HXE.out]; exact HW3.out.store (S + x), (((HB.out.drew.trans (hb2.mono HB.out.size)).trans (hb3.mono (Nat.le_trans HB.out.size hb2.size))).setCell (Nat.le_refl _) _).setCell (Nat.le_refl _) _⟩
        case measure => first | (simp [intOf]; done) | (simp [intOf]; omega)
    · have hkn' : k = n := by omega
      subst hkn'
      have HE2 : Hid (l.sum = S) := by show _ = _; rw [← HE.out, ← HN.out, List.take_length]
      go_wp2_with (first
        | (go_at_call 87; rw [show (Value.agg #[.int .i64 (S / 18446744073709551616), .int .u64 (S % 18446744073709551616)]) = W128 S from rfl]; refine (narrow_any S _ HR.out.1 HR.out.2).mono ?_; unfold fitT; rintro e w2 ⟨rfl, hb2⟩))
      go_ret2
      exact ⟨by rw [HE2.out]; rfl, bnx HB.out hb2⟩
end Go.Proofs.YtblfmfanfpohbaaGreat
