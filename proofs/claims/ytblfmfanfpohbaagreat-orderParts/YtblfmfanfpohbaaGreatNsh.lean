/- num.byRest: the places of the rests, the greatest first. -/
import Derived.Test.YtblfmfanfpohbaaGreatNsg
import Derived.Test.YtblfmfanfpohbaaGreatNsm
import Derived.Test.YtblfmfanfpohbaaGreatSameI
import Derived.Laws.MakeOwn
namespace Go.Proofs.YtblfmfanfpohbaaGreat
open Go.ChangeShapes Go.WideShapes Go.ChangeAt Go.RowKit Go.Sort
/-- block b holds n numbers, each free to be written -/
structure RowF (mk : Int → Value) (w : World) (b n : Nat) (g : Nat → Int) : Prop where
  cell : ∀ i, i < n → w.cell? ⟨b, i, none⟩ = some (mk (g i))
  free : ∀ i, i < n → w.frozen? ⟨b, i, none⟩ = false
  lt : b < w.heap.size
def updI (g : Nat → Int) (j : Nat) (v : Int) : Nat → Int := fun i => if i = j then v else g i
theorem RowF.keep {mk : Int → Value} {w w' : World} {b n B : Nat} {g : Nat → Int} (h : RowF mk w b n g) (hb : Below B w w') (hB : b < B) : RowF mk w' b n g :=
  ⟨fun i hi => (hb.cell (p := ⟨b, i, none⟩) hB).trans (h.cell i hi), fun i hi => (hb.frozen (p := ⟨b, i, none⟩) hB).trans (h.free i hi), Nat.lt_of_lt_of_le h.lt hb.size⟩
theorem RowF.set {mk : Int → Value} {w : World} {b n : Nat} {g : Nat → Int} (h : RowF mk w b n g) (j : Nat) (v : Int) (hj : j < n) : RowF mk (w.setCell ⟨b, j, none⟩ (mk v)) b n (updI g j v) := by
  refine ⟨fun i hi => ?_, fun i hi => by rw [World.frozen?_setCell]; exact h.free i hi, by simpa [World.setCell] using h.lt⟩
  unfold updI
  by_cases c : i = j
  · subst c
    rw [if_pos rfl]
    exact World.cell?_setCell_same _ _ _ (h.cell i hi)
  · rw [if_neg c, World.cell?_setCell_other _ _ _ _ (by intro e; cases e; exact c rfl)]
    exact h.cell i hi
theorem RowF.other {mk : Int → Value} {w : World} {b n : Nat} {g : Nat → Int} (h : RowF mk w b n g) (a : Addr) (v : Value) (hne : b ≠ a.block) : RowF mk (w.setCell a v) b n g := by
  refine ⟨fun i hi => ?_, fun i hi => by rw [World.frozen?_setCell]; exact h.free i hi, by simpa [World.setCell] using h.lt⟩
  rw [World.cell?_setCell_other _ _ _ _ (fun e => hne (by rw [e]))]
  exact h.cell i hi
theorem RowF.drewN {mk : Int → Value} {w : World} {b n : Nat} {g : Nat → Int} (h : RowF mk w b n g) (q : Nat) : RowF mk (w.drewN q) b n g := ⟨h.cell, h.free, h.lt⟩
theorem RowF.congr {mk : Int → Value} {w : World} {b n : Nat} {g g' : Nat → Int} (h : RowF mk w b n g) (e : ∀ i, i < n → g i = g' i) : RowF mk w b n g' := ⟨fun i hi => by rw [← e i hi]; exact h.cell i hi, h.free, h.lt⟩
theorem madeCells_one (z : Value) (n i : Nat) (hi : i < n) : (madeCells #[z] n)[i]? = some z := by simp [madeCells, hi, Nat.mod_one]
theorem made_row (mk : Int → Value) (w : World) (n t : Nat) : RowF mk (w.alloc (.cells (madeCells #[mk 0] n) t)) w.heap.size n (fun _ => 0) := by
  refine ⟨fun i hi => ?_, fun i hi => ?_, by simp⟩
  · rw [cell_of_row _ w.heap.size i _ t (0, 0) (heap_alloc_new w _)]
    exact madeCells_one _ _ _ hi
  · exact frozen_of_row _ _ _ _ _ (heap_alloc_new w _)
theorem mk_row (t e : TypeId) (z : Value) (ht : Tryz.prog.underlying t = some (.slice e)) (hi : (Tryz.prog.info? e).map (fun i => (i.zero, i.size, i.bytes)) = some (some z, 1, 8)) (hz : z.cells = #[z]) (n : Nat) (hn : n ≤ 64) (w : World) :
    (Instr.makeSlice t (.int .i64 (n : Int)) (.int .i64 (n : Int))).run Tryz.prog w = .ok (.slice (some ⟨w.heap.size, 0, none⟩) n n) (w.alloc (.cells (madeCells #[z] n) e)) := by
  obtain ⟨i0, h0, h1, h2, h3⟩ := info_parts hi
  have := run_make (P := Tryz.prog) w t e i0 z ht h0 h1 .i64 .i64 n n (by omega) (Int.le_refl _) (by rw [h3]; omega) (by omega)
  rw [Int.toNat_natCast, h2, Nat.mul_one, hz] at this
  exact this
theorem Tryz.infoInt : (Tryz.prog.info? 3).map (fun i => (i.zero, i.size, i.bytes)) = some (some (.int .i64 0), 1, 8) := by kernel_rfl
theorem Tryz.infoU : (Tryz.prog.info? 58).map (fun i => (i.zero, i.size, i.bytes)) = some (some (.int .u64 0), 1, 8) := by kernel_rfl
theorem below_putRow {B b : Nat} {a w : World} (h : Below B a w) (d : Array Nat) (hB : B ≤ b) : Below B a (putRow eN w b 0 d) := by
  refine ⟨h.os, h.tape, h.output, ?_, fun k hk => ?_⟩
  · have := h.size; simp [putRow, mapBlock]; exact this
  · rw [← h.block k hk]
    simp only [putRow, mapBlock, Array.getElem?_modify]
    rw [if_neg (by omega)]
theorem below_rowW {B b : Nat} {a w : World} (h : Below B a w) (d : Array Nat) (q : Nat) (hB : B ≤ b) : Below B a (rowW w b d q) := below_drewN (below_putRow h d hB) q
set_option maxRecDepth 20000 in
set_option maxHeartbeats 2000000 in
theorem cmpu_any (x y : Nat) (w : World) : Calls Tryz.prog 84 #[.int .u64 x, .int .u64 y] w fun e w' => e = .returned (.int .i64 (cfk id y x)) ∧ w' = w := by
  have hx : ∀ (z : Int) (w : World), Calls Tryz.prog 102 #[.int .u64 z] w fun e w' => e = .returned (.bool false) ∧ w' = w := by
    intro z w
    have hz : (z != z) = false := by simp
    go_enter Tryz.func102, Tryz.ntmps102
    go_wp2
    go_ret
    exact ⟨rfl, rfl⟩
  rcases Nat.lt_trichotomy x y with c | c | c
  · have h1 : (x : Int) < (y : Int) := by omega
    have HR : Hid (cfk id y x = -1) := by show _ = _; unfold cfk; rw [if_pos (by simpa using c)]
    clear c
    go_enter Tryz.func84, Tryz.ntmps84
    go_wp2_with (first | (go_at_call 102; refine (hx _ _).mono ?_; rintro e w1 ⟨rfl, rfl⟩))
    go_ret
    exact ⟨by rw [HR.out]; rfl, rfl⟩
  · subst c
    have h1 : ¬ (x : Int) < (x : Int) := by omega
    have HR : Hid (cfk id x x = 0) := by show _ = _; unfold cfk; rw [if_neg (by simp), if_neg (by simp)]
    go_enter Tryz.func84, Tryz.ntmps84
    go_wp2_with (first | (go_at_call 102; refine (hx _ _).mono ?_; rintro e w1 ⟨rfl, rfl⟩))
    go_ret
    exact ⟨by rw [HR.out]; rfl, rfl⟩
  · have h1 : ¬ (x : Int) < (y : Int) := by omega
    have h2 : (y : Int) < (x : Int) := by omega
    have HR : Hid (cfk id y x = 1) := by show _ = _; unfold cfk; rw [if_neg (by simp; omega), if_pos (by simpa using c)]
    clear c
    go_enter Tryz.func84, Tryz.ntmps84
    go_wp2_with (first | (go_at_call 102; refine (hx _ _).mono ?_; rintro e w1 ⟨rfl, rfl⟩))
    go_ret
    exact ⟨by rw [HR.out]; rfl, rfl⟩
theorem cfk_id (k : Nat → Nat) (x y : Nat) : cfk id (k x) (k y) = cfk k x y := rfl
set_option maxRecDepth 20000 in
set_option maxHeartbeats 2000000 in
theorem less_any (k : Nat → Nat) (x y N bx br : Nat) (w : World) (hx : x < N) (hy : y < N) (_ : N ≤ 64) (hb : w.cell? ⟨bx, 0, none⟩ = some (.slice (some ⟨br, 0, none⟩) N N)) (hr : ∀ i, i < N → w.cell? ⟨br, i, none⟩ = some (.int .u64 (k i : Nat))) :
    Calls Tryz.prog 83 #[.int .i64 x, .int .i64 y, .pointer (some ⟨bx, 0, none⟩)] w fun e w' => e = .returned (.int .i64 (cfk k x y)) ∧ ∃ n, w' = w.drewN n := by
  have e1 := hr x hx
  have e2 := hr y hy
  obtain ⟨u, hu⟩ : ∃ u, k x = u := ⟨_, rfl⟩
  obtain ⟨v, hv⟩ : ∃ v, k y = v := ⟨_, rfl⟩
  rw [hu] at e1
  rw [hv] at e2
  have HU : Hid (k x = u ∧ k y = v) := ⟨hu, hv⟩
  have hxz : (x : Int) < (N : Int) := by omega
  have hyz : (y : Int) < (N : Int) := by omega
  clear hu hv hr
  go_enter Tryz.func83, Tryz.ntmps83
  go_wp2_with fail
  go_quiet (first | (go_at_call 84; exact Calls.quiet_of_same (cmpu_any v u _)))
  go_wp2
  go_ret
  refine ⟨?_, nq, rfl⟩
  rw [← cfk_id k x y, HU.out.1, HU.out.2]
  rfl
theorem cmpR_of (k : Nat → Nat) (N bx br b : Nat) (w : World) (hN : N ≤ 64) (hb : w.cell? ⟨bx, 0, none⟩ = some (.slice (some ⟨br, 0, none⟩) N N)) (hr : ∀ i, i < N → w.cell? ⟨br, i, none⟩ = some (.int .u64 (k i : Nat))) (h1 : bx ≠ b) (h2 : br ≠ b) :
    CmpR w b N 83 #[.pointer (some ⟨bx, 0, none⟩)] k := by
  intro X x y q hX hx hy
  refine less_any k x y N bx br _ hx hy hN ?_ fun i hi => ?_
  · exact (cell?_putRow_other eN w b 0 X _ (.inl h1)).trans hb
  · exact (cell?_putRow_other eN w b 0 X _ (.inl h2)).trans (hr i hi)
set_option maxRecDepth 20000 in
set_option maxHeartbeats 4000000 in
theorem byRest_any (k : Nat → Nat) (N br : Nat) (w : World) (hN : N ≤ 64) (hN0 : 0 < N) (hR : RowF (.int .u64) w br N (fun i => (k i : Int))) :
    Calls Tryz.prog 45 #[.slice (some ⟨br, 0, none⟩) N N] w fun e w' => ∃ b, e = .returned (.slice (some ⟨b, 0, none⟩) N N) ∧ w.heap.size ≤ b ∧ ∃ f : Nat → Nat, Ord N k f ∧ RowF (.int .i64) w' b N (fun i => (f i : Int)) ∧ Below w.heap.size w w' := by
  have HR : Hid (RowF (.int .u64) w br N (fun i => (k i : Int))) := hR
  have hmk := mk_row 27 3 (.int .i64 0) Tryz.underlying27 Tryz.infoInt rfl N hN
  clear hR
  go_enter Tryz.func45, Tryz.ntmps45
  go_wp2
  have hbox : (((w.alloc (.cells #[.slice (some ⟨br, 0, none⟩) N N] 74)).alloc (.cells (madeCells #[.int .i64 0] N) 3))).cell? ⟨w.heap.size, 0, none⟩ = some (.slice (some ⟨br, 0, none⟩) N N) := by simp [go_sem]
  have hrow : RowF (.int .i64) (((w.alloc (.cells #[.slice (some ⟨br, 0, none⟩) N N] 74)).alloc (.cells (madeCells #[.int .i64 0] N) 3))) (w.heap.size + 1) N (fun _ => 0) := by
    have h := made_row (.int .i64) (w.alloc (.cells #[.slice (some ⟨br, 0, none⟩) N N] 74)) N 3
    rw [show (w.alloc (.cells #[.slice (some ⟨br, 0, none⟩) N N] 74)).heap.size = w.heap.size + 1 from by simp] at h
    exact h
  have hbel : Below w.heap.size w (((w.alloc (.cells #[.slice (some ⟨br, 0, none⟩) N N] 74)).alloc (.cells (madeCells #[.int .i64 0] N) 3))) := bal (bal (Below.refl _ _) _) _
  obtain ⟨w2, hw2⟩ : ∃ w2, w2 = (((w.alloc (.cells #[.slice (some ⟨br, 0, none⟩) N N] 74)).alloc (.cells (madeCells #[.int .i64 0] N) 3))) := ⟨_, rfl⟩
  rw [← hw2] at hbox hrow hbel
  rw [← hw2]
  obtain ⟨b, hb⟩ : ∃ b, b = w.heap.size + 1 := ⟨_, rfl⟩
  rw [← hb] at hrow
  rw [← hb]
  have HW2 : Hid (Below w.heap.size w w2 ∧ RowF (.int .u64) w2 br N (fun i => (k i : Int)) ∧ br < w.heap.size ∧ b = w.heap.size + 1) := ⟨hbel, HR.out.keep hbel HR.out.lt, HR.out.lt, hb⟩
  have HH : Hid (Holds eN w2 b 0 (Array.replicate N 0)) := fun j hj => by
    rw [Array.size_replicate] at hj
    rw [Nat.zero_add]
    refine ⟨?_, hrow.free j hj⟩
    rw [hrow.cell j hj, getElem!_pos _ j (by simpa using hj)]
    simp
  have HBX : Hid (w2.cell? ⟨w.heap.size, 0, none⟩ = some (.slice (some ⟨br, 0, none⟩) N N)) := hbox
  have hself : rowW w2 b (Array.replicate N 0) 0 = w2 := putRow_self eN w2 b 0 _ HH.out
  have HSELF : Hid (rowW w2 b (Array.replicate N 0) 0 = w2) := hself
  clear hbox hrow hbel hself hmk hw2 hb
  go_loopw [10] (fun vi wr => ∃ (i : Nat) (dk : Array Nat), vi = .int .i64 i ∧ i ≤ N ∧ Hid (dk.size = N ∧ ∀ j, j < i → dk[j]! = j) ∧ wr = rowW w2 b dk 0) (fun vi _ => N - (intOf vi).toNat)
  case atStart => exact ⟨0, Array.replicate N 0, rfl, Nat.zero_le _, ⟨by simp, fun j hj => by omega⟩, HSELF.out.symm⟩
  case round =>
    obtain ⟨i, dk, rfl, hiN, HK, rfl⟩ := hrel
    by_cases hi : i < N
    · obtain ⟨cx, fx⟩ := rowW_cell HH.out (by rw [HK.out.1]; simp) 0 i (d := dk) (by rw [HK.out.1]; exact hi)
      obtain ⟨X, eX⟩ : ∃ X, dk[i]! = X := ⟨_, rfl⟩
      rw [eX] at cx
      generalize hwq : rowW w2 b dk 0 = wq at cx fx ⊢
      have HW : Hid (rowW w2 b dk 0 = wq) := hwq
      have hiz : (i : Int) < (N : Int) := by omega
      clear hwq eX
      go_wp2
      go_roundw
      case rel =>
        refine ⟨i + 1, dk.setIfInBounds i i, by go_num, by omega, ⟨by simpa using HK.out.1, fun j hj => ?_⟩, ?_⟩
        · by_cases c : j = i
          · subst c; exact getElem!_set_same dk j j (by rw [HK.out.1]; exact hi)
          · rw [getElem!_set_other dk i j i c]; exact HK.out.2 j (by omega)
        · rw [← HW.out]
          have := putRow_set eN w2 b 0 dk i i (by rw [HK.out.1]; exact hi)
          rw [Nat.zero_add] at this
          exact this
      case measure => first | (simp [intOf]; done) | (simp [intOf]; omega)
    · obtain rfl : i = N := by omega
      have HBS : Hid (Bnd dk ∧ Stb k dk) := by
        obtain ⟨k1, k2⟩ := HK.out
        refine ⟨fun j hj => ?_, fun a c hac hc _ => ?_⟩
        · rw [k2 j (by omega)]; exact hj
        · rw [k2 a (by omega), k2 c (by omega)]; exact hac
      have HC : Hid (CmpR w2 b i 83 #[.pointer (some ⟨w.heap.size, 0, none⟩)] k) := cmpR_of k i w.heap.size br b w2 hN HBX.out HW2.out.2.1.cell (by have := HW2.out; omega) (by have := HW2.out; omega)
      go_wp2_with (first
        | (go_at_call 82; refine (sstable_any k 0 i i _ dk (Array.replicate i 0) w2 b HH (by simp) HK.out.1 hN HC HBS).mono ?_; rintro e w3 ⟨rfl, d3, hp, q3, rfl⟩; have HP : Hid (Mv 0 i dk d3 ∧ Srt k 0 i d3 ∧ Stb k d3) := hp; clear hp))
      go_ret
      obtain ⟨p1, p2, p3⟩ := HP.out
      obtain ⟨v1, v2, v3, v4⟩ := HW2.out
      have hsz : d3.size = i := p1.size.trans HK.out.1
      refine ⟨b, rfl, by omega, fun j => d3[j]!, ⟨fun j hj => ?_, fun a c hac hc => ⟨p2 a c (Nat.zero_le _) hac hc, fun e => p3 a c hac (by rw [hsz]; exact hc) e⟩⟩, ⟨fun j hj => ?_, fun j hj => ?_, ?_⟩, below_rowW v1 _ _ (by omega)⟩
      · have := p1.bnd (by rw [HK.out.1]; exact Nat.le_refl _) HBS.out.1 j (by rw [hsz]; exact hj)
        rw [hsz] at this
        exact this
      · exact (rowW_cell HH.out (by rw [hsz]; simp) q3 j (by rw [hsz]; exact hj)).1
      · exact (rowW_cell HH.out (by rw [hsz]; simp) q3 j (by rw [hsz]; exact hj)).2
      · have := (below_rowW (Below.refl b w2) d3 q3 (Nat.le_refl _)).size
        have hb2 : b < w2.heap.size := by
          by_cases h0 : 0 < i
          · exact World.block_lt_of_cell? _ _ (HH.out 0 (by simpa using h0)).1
          · omega
        omega
end Go.Proofs.YtblfmfanfpohbaaGreat
