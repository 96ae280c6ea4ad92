/- Own texts, joined: Fr2, Fr3. -/
import Derived.Test.YtnfkdgjgglnniaaDoorK04
import Derived.Laws.AppendOwnNone
namespace Go.Proofs.YtnfkdgjgglnniaaDoor
open Go.ChangeShapes Go.WideShapes Go.ChangeAt Go.RowKit
set_option linter.unusedVariables false
/-- a frame's value -/
abbrev FrV (kind seq : Int) (bv : Value) : Value := .agg #[.int .i64 kind, .int .i64 seq, bv]
/-- a frame lies in block k -/
def FrmAt (w : World) (k : Nat) (kind seq : Int) (bv : Value) : Prop := w.heap[k]? = some (.cells #[.int .i64 kind, .int .i64 seq, bv] 70)
theorem FrmAt.cells {w : World} {k : Nat} {kind seq : Int} {bv : Value} (h : FrmAt w k kind seq bv) : w.cell? ⟨k, 0, none⟩ = some (.int .i64 kind) ∧ w.cell? ⟨k, 1, none⟩ = some (.int .i64 seq) ∧ w.cell? ⟨k, 2, none⟩ = some bv :=
  ⟨by rw [cell_of_row _ _ 0 _ _ _ h]; rfl, by rw [cell_of_row _ _ 1 _ _ _ h]; rfl, by rw [cell_of_row _ _ 2 _ _ _ h]; rfl⟩
theorem FrmAt.new (w : World) (kind seq : Int) (bv : Value) : FrmAt (w.alloc (.cells #[.int .i64 kind, .int .i64 seq, bv] 70)) w.heap.size kind seq bv := by
  unfold FrmAt; simp only [World.alloc, Array.getElem?_push]; rw [if_pos trivial]
theorem FrmAt.nb {w w' : World} {k : Nat} {kind seq : Int} {bv : Value} (h : FrmAt w k kind seq bv) (hb : NB w w') : FrmAt w' k kind seq bv := hb k _ _ _ h (by decide)
theorem FrmAt.keep {w w' : World} {k : Nat} {kind seq : Int} {bv : Value} (h : FrmAt w k kind seq bv) (hb : Below w.heap.size w w') : FrmAt w' k kind seq bv := h.nb (NB.of_below hb)
def encE (kind seq : Int) (n : Nat) : Nat := if inB kind seq = false then 63 else if 16384 < n then 24 else 0
def encL (kind seq : Int) (body : List Nat) : List Nat := if encE kind seq body.length = 0 then frameL kind.toNat seq.toNat body else []
theorem cells_two (w : World) (x y : Value) (e : TypeId) : ∀ j u, [x, y][j]? = some u → (w.alloc (.cells #[x, y] e)).cell? ((⟨w.heap.size, 0, none⟩ : Addr).add j) = some u := by
  intro j u hj
  match j, hj with
  | 0, hj => simp at hj; subst hj; simp [Addr.add]
  | 1, hj => simp at hj; subst hj; simp [Addr.add]
theorem two_new {k : IntKind} (n m : Int) : ∀ u ∈ [Value.int k n, Value.int k m], u.oneCell' = true := by
  intro u hu; simp at hu; rcases hu with rfl | rfl <;> rfl
theorem alloc_size1 (w : World) (o : Obj) : (w.alloc o).heap.size = w.heap.size + 1 := by simp
/-- what stands while a frame is laid: memory as it was, the frame's parts where they lay, the row of the call's own -/
def EncI (w : World) (k s : Nat) (bv : Value) (wi : World) (v : Value) (l : List Nat) : Prop :=
  Below w.heap.size w wi ∧ NB (w.alloc (.cells #[.int .i64 k, .int .i64 s, bv] 70)) wi ∧ w.heap.size + 1 ≤ wi.heap.size ∧ wi.ownsRow w.heap.size 5 1 v l.length (B8 l)
theorem EncI.cells {w wi : World} {k s : Nat} {bv v : Value} {l : List Nat} (h : EncI w k s bv wi v l) : wi.cell? ⟨w.heap.size, 0, none⟩ = some (.int .i64 k) ∧ wi.cell? ⟨w.heap.size, 1, none⟩ = some (.int .i64 s) ∧ wi.cell? ⟨w.heap.size, 2, none⟩ = some bv :=
  ((FrmAt.new w k s bv).nb h.2.1).cells
theorem EncI.grow {w wi wj : World} {k s : Nat} {bv v v2 : Value} {l m : List Nat} (h : EncI w k s bv wi v l) (hg : wi.grownBy wj v.ownBlock) (ho : wj.ownsRow w.heap.size 5 1 v2 (l.length + m.length) (B8 l ++ B8 m)) : EncI w k s bv wj v2 (l ++ m) := by
  have hb := grown_row h.1 h.2.2.2 h.1.size hg
  refine ⟨hb, h.2.1.trans (NB.of_grown h.2.2.2 hg), Nat.le_trans h.2.2.1 hg.size, ?_⟩
  rw [List.length_append, B8_append]; exact ho
theorem EncI.low {w wi wj : World} {k s K x : Nat} {bv v v2 : Value} {l : List Nat} (h : EncI w k s bv wi v l) (ho : wj.ownsRow w.heap.size 5 1 v2 (l.length + K) (B8 l ++ B8 (le K x))) (hb : Below w.heap.size wi wj) (hq : NB wi wj) : EncI w k s bv wj v2 (l ++ le K x) := by
  refine ⟨h.1.trans hb, h.2.1.trans hq, Nat.le_trans h.2.2.1 hb.size, ?_⟩
  rw [List.length_append, B8_append, le_length]; exact ho
theorem EncI.call {w wi wj : World} {k s : Nat} {bv v : Value} {l : List Nat} (h : EncI w k s bv wi v l) (hb : Below wi.heap.size wi wj) : EncI w k s bv wj v l :=
  ⟨below_next h.1 hb, h.2.1.trans (NB.of_below hb), Nat.le_trans h.2.2.1 hb.size, own_below h.2.2.2 hb⟩
theorem EncI.row {w wi : World} {k s : Nat} {bv v : Value} {l : List Nat} (h : EncI w k s bv wi v l) (hl : ∀ i, l.getD i 0 < 256) (hne : l ≠ []) : ∃ g cap, v = .slice (some ⟨g, 0, none⟩) l.length cap ∧ Bytes wi (some ⟨g, 0, none⟩) l := by
  obtain ⟨g, cap, h1, _, h3⟩ := Own.row (w := wi) (base := w.heap.size) ⟨hl, h.2.2.2⟩ hne
  exact ⟨g, cap, h1, h3⟩

set_option maxRecDepth 20000 in
set_option maxHeartbeats 1000000 in
theorem fenc_some (k s : Nat) (body : List Nat) (b off cap : Nat) (w : World) (hk1 : 1 ≤ k) (hk7 : k ≤ 7) (hs : s ≤ 1099511627776) (hn : body.length ≤ 16384) (hb : Bytes w (some ⟨b, off, none⟩) body) (ht : Tab w) :
    Calls Tryd.prog 32 #[FrV (k : Int) (s : Int) (.slice (some ⟨b, off, none⟩) body.length cap)] w fun r w' => ∃ v, r = .returned (.tuple #[v, .int .i64 0]) ∧ Own w' w.heap.size v (frameL k s body) ∧ Below w.heap.size w w' := by
  obtain ⟨i0, hi, hz0, hz1, hz2⟩ := info_parts Tryd.info5f
  have HI : Hid (inB (k : Int) (s : Int) = true) := by show _ = _; simp [inB]; omega
  obtain ⟨n, hN⟩ : ∃ n, body.length = n := ⟨_, rfl⟩
  rw [hN] at hn ⊢
  have HN : Hid (body.length = n) := hN
  have HB : Hid (Bytes w (some ⟨b, off, none⟩) body) := hb
  clear hb hN
  have hnI : (n : Int) ≤ 16384 := by omega
  have HZ : Hid (fsz (n : Int) = ((n + 20 : Nat) : Int)) := by show _ = _; unfold fsz; rw [if_neg (by omega)]; omega
  have HBL : Hid (∀ i, (body).getD i 0 < 256) := HB.out.1
  have HSB : Hid (Crcm.sum body < 4294967296) := Crcm.sum_lt _ HB.out.mem
  have HH : Hid ([165, k] ++ le 2 n ++ le 8 s = head12 k n s) := rfl
  have HHL : Hid (∀ i, (head12 k n s).getD i 0 < 256) := fun i => getD_lt (head12_lt k n s (by omega)) i
  have HHS : Hid (Crcm.sum (head12 k n s) < 4294967296) := Crcm.sum_lt _ (head12_lt k n s (by omega))
  have HT : Hid (Tab w) := ht
  have hsI : (s : Int) ≤ 1099511627776 := by omega
  have hkI : (k : Int) ≤ 7 := by omega
  clear ht
  have T1 : Hid True := trivial
  have T2 : Hid True := trivial
  have T3 : Hid True := trivial
  have T4 : Hid True := trivial
  have T5 : Hid True := trivial
  have T6 : Hid True := trivial
  have T7 : Hid True := trivial
  go_enter Tryd.func32, Tryd.ntmps32
  go_wp2_with (first
    | (go_at_call 46; refine (inb_any _ _ _).mono ?_; rw [HI.out]; rintro r w0 ⟨rfl, rfl⟩)
    | (go_at_call 47; refine (fsize_any (n : Int) _).mono ?_; rw [HZ.out]; rintro r w0 ⟨rfl, rfl⟩)
    | (at_make; refine wpList_make_own _ rfl _ _ 40 rfl w.heap.size 5 i0 (.int .u8 0) 1 Tryd.underlying40 hi hz0 hz1 _ _ _ (n + 20) rfl rfl rfl (by rw [hz2]; omega) (by unfold maxLen; omega) (by simp) ?_; intro w1 ho1 hg1; rw [alloc_size1] at ho1; have HE1 : Hid (EncI w k s (.slice (some ⟨b, off, none⟩) n cap) w1 (.slice (some ⟨w.heap.size + 1, 0, none⟩) 0 (n + 20)) []) := ⟨((Below.refl w.heap.size w).alloc (Nat.le_refl _) _).grown hg1 (by simp) (fun k hk => by cases hk), NB.of_below ((Below.refl _ _).grown hg1 (Nat.le_refl _) (fun k hk => by cases hk)), by have := hg1.size; simp at this; omega, ho1⟩; obtain ⟨c10, c11, c12⟩ := HE1.out.cells; clear ho1 hg1)
    | (at_builtin; clear T1; refine wpList_append_own _ rfl _ _ 40 rfl w.heap.size 5 i0 (.int .u8 0) 1 1 Tryd.underlying40 hi hz0 hz1 hz2 rfl (by decide) _ _ _ rfl (HE1.out.2.2.2.alloc _) ⟨w1.heap.size, 0, none⟩ 2 2 [.int .u8 165, .int .u8 (k : Int)] rfl rfl (cells_two _ _ _ _) (two_new _ _) (by unfold maxLen; simp) (by simp) (by have := HE1.out.2.2.1; simp; omega) ?_; intro v2 w2 ho2 hg2 _; have HE2 : Hid (EncI w k s (.slice (some ⟨b, off, none⟩) n cap) w2 v2 [165, k]) := (HE1.out.call ((Below.refl _ _).alloc (Nat.le_refl _) _)).grow hg2 ho2; obtain ⟨c20, c21, c22⟩ := HE2.out.cells; clear ho2 hg2 HE1 c10 c11 c12)
    | (go_at_call 48; clear T2; refine (alow_any n 2 w.heap.size v2 _ _ _ (by omega) (by omega) HE2.out.2.2.2 HE2.out.1.size (by simp)).mono ?_; rintro r w3 ⟨v3, rfl, ho3, hb3, hq3⟩; have HE3 : Hid (EncI w k s (.slice (some ⟨b, off, none⟩) n cap) w3 v3 ([165, k] ++ le 2 n)) := HE2.out.low ho3 hb3 hq3; obtain ⟨c30, c31, c32⟩ := HE3.out.cells; clear ho3 hb3 hq3 HE2 c20 c21 c22)
    | (go_at_call 48; clear T3; refine (alow_any s 8 w.heap.size v3 _ _ _ (by omega) (by omega) HE3.out.2.2.2 HE3.out.1.size (by simp [le_length])).mono ?_; rintro r w4 ⟨v4, rfl, ho4, hb4, hq4⟩; have HE4 : Hid (EncI w k s (.slice (some ⟨b, off, none⟩) n cap) w4 v4 (head12 k n s)) := (HH.out ▸ HE3.out.low ho4 hb4 hq4); obtain ⟨g4, d4, rfl, hy4⟩ := HE4.out.row HHL.out (by simp [head12]); obtain ⟨c40, c41, c42⟩ := HE4.out.cells; clear ho4 hb4 hq4 HE3 c30 c31 c32)
    | (go_at_call 50; clear T4; refine (sum_any (head12 k n s) _ _ _ _ rfl hy4 (by rw [head12_length]; unfold maxLen; omega) (HT.out.keep HE4.out.1)).mono ?_; rintro r w5 ⟨rfl, rfl⟩)
    | (go_at_call 49; clear T5; refine (four_any _ _ HHS.out).mono ?_; rintro r w6 ⟨g6, rfl, hy6, hb6⟩; have HE6 : Hid (EncI w k s (.slice (some ⟨b, off, none⟩) n cap) w6 _ (head12 k n s)) := HE4.out.call hb6; obtain ⟨c60, c61, c62⟩ := HE6.out.cells; clear hb6 HE4 c40 c41 c42 hy4)
    | (at_builtin; clear T6; refine wpList_append_own _ rfl _ _ 40 rfl w.heap.size 5 i0 (.int .u8 0) 1 1 Tryd.underlying40 hi hz0 hz1 hz2 rfl (by decide) _ _ _ rfl HE6.out.2.2.2 ⟨g6, 0, none⟩ 4 4 (B8 (Crcm.four (Crcm.sum (head12 k n s)))) rfl (B8_length _) (bytes_cells hy6) (B8_one _) (by rw [head12_length]; unfold maxLen; omega) (by rw [head12_length]; omega) HE6.out.1.size ?_; intro v7 w7 ho7 hg7 _; have HE7 : Hid (EncI w k s (.slice (some ⟨b, off, none⟩) n cap) w7 v7 (headL k n s)) := HE6.out.grow hg7 ho7; obtain ⟨c70, c71, c72⟩ := HE7.out.cells; clear ho7 hg7 HE6 c60 c61 c62 hy6)
    | (at_builtin; clear T7; refine wpList_append_own _ rfl _ _ 40 rfl w.heap.size 5 i0 (.int .u8 0) 1 1 Tryd.underlying40 hi hz0 hz1 hz2 rfl (by decide) _ _ _ rfl HE7.out.2.2.2 ⟨b, off, none⟩ n cap (B8 body) rfl ((B8_length _).trans (by rw [HN.out])) (bytes_cells (HB.out.keep HE7.out.1)) (B8_one _) (by rw [headL_length]; unfold maxLen; omega) (by rw [headL_length]; omega) HE7.out.1.size ?_; intro v8 w8 ho8 hg8 _; have HE8 : Hid (EncI w k s (.slice (some ⟨b, off, none⟩) n cap) w8 v8 (headL k n s ++ body)) := HE7.out.grow hg8 (by rw [HN.out]; exact ho8); obtain ⟨c80, c81, c82⟩ := HE8.out.cells; clear ho8 hg8 HE7 c70 c71 c72)
    | (go_at_call 50; refine (sum_any body _ _ _ _ HN.out (HB.out.keep HE8.out.1) (by rw [HN.out]; unfold maxLen; omega) (HT.out.keep HE8.out.1)).mono ?_; rintro r w9 ⟨rfl, rfl⟩)
    | (go_at_call 49; refine (four_any _ _ HSB.out).mono ?_; rintro r wa ⟨ga, rfl, hya, hba⟩; have HEa : Hid (EncI w k s (.slice (some ⟨b, off, none⟩) n cap) wa _ (headL k n s ++ body)) := HE8.out.call hba; clear hba HE8 c80 c81 c82)
    | (at_builtin; refine wpList_append_own _ rfl _ _ 40 rfl w.heap.size 5 i0 (.int .u8 0) 1 1 Tryd.underlying40 hi hz0 hz1 hz2 rfl (by decide) _ _ _ rfl HEa.out.2.2.2 ⟨ga, 0, none⟩ 4 4 (B8 (Crcm.four (Crcm.sum body))) rfl (B8_length _) (bytes_cells hya) (B8_one _) (by rw [List.length_append, headL_length, HN.out]; unfold maxLen; omega) (by rw [List.length_append, headL_length, HN.out]; omega) HEa.out.1.size ?_; intro vb wb hob hgb _; have HEb : Hid (EncI w k s (.slice (some ⟨b, off, none⟩) n cap) wb vb (headL k n s ++ body ++ Crcm.four (Crcm.sum body))) := HEa.out.grow hgb hob; clear hob hgb HEa hya))
  go_ret2
  have hfr : headL k n s ++ body ++ Crcm.four (Crcm.sum body) = frameL k s body := by unfold frameL; rw [List.append_assoc, HN.out]
  have hE := HEb.out
  rw [hfr] at hE
  exact ⟨vb, rfl, ⟨fun i => getD_lt (frameL_lt k s _ (by omega) HB.out.mem) i, hE.2.2.2⟩, hE.1⟩
set_option maxRecDepth 20000 in
set_option maxHeartbeats 1000000 in
theorem fenc_none (k s : Nat)  (w : World) (hk1 : 1 ≤ k) (hk7 : k ≤ 7) (hs : s ≤ 1099511627776) (ht : Tab w) :
    Calls Tryd.prog 32 #[FrV (k : Int) (s : Int) (.slice none 0 0)] w fun r w' => ∃ v, r = .returned (.tuple #[v, .int .i64 0]) ∧ Own w' w.heap.size v (frameL k s []) ∧ Below w.heap.size w w' := by
  obtain ⟨i0, hi, hz0, hz1, hz2⟩ := info_parts Tryd.info5f
  have HI : Hid (inB (k : Int) (s : Int) = true) := by show _ = _; simp [inB]; omega
  have HB : Hid (Bytes w none []) := Bytes.none _ _
  have HZ : Hid (fsz (0 : Int) = ((0 + 20 : Nat) : Int)) := by show _ = _; unfold fsz; rw [if_neg (by omega)]; omega
  have HBL : Hid (∀ i, ([]).getD i 0 < 256) := HB.out.1
  have HSB : Hid (Crcm.sum [] < 4294967296) := Crcm.sum_lt _ HB.out.mem
  have HH : Hid ([165, k] ++ le 2 0 ++ le 8 s = head12 k 0 s) := rfl
  have HHL : Hid (∀ i, (head12 k 0 s).getD i 0 < 256) := fun i => getD_lt (head12_lt k 0 s (by omega)) i
  have HHS : Hid (Crcm.sum (head12 k 0 s) < 4294967296) := Crcm.sum_lt _ (head12_lt k 0 s (by omega))
  have HT : Hid (Tab w) := ht
  have hsI : (s : Int) ≤ 1099511627776 := by omega
  have hkI : (k : Int) ≤ 7 := by omega
  clear ht
  have T1 : Hid True := trivial
  have T2 : Hid True := trivial
  have T3 : Hid True := trivial
  have T4 : Hid True := trivial
  have T5 : Hid True := trivial
  have T6 : Hid True := trivial
  have T7 : Hid True := trivial
  go_enter Tryd.func32, Tryd.ntmps32
  go_wp2_with (first
    | (go_at_call 46; refine (inb_any _ _ _).mono ?_; rw [HI.out]; rintro r w0 ⟨rfl, rfl⟩)
    | (go_at_call 47; refine (fsize_any (0 : Int) _).mono ?_; rw [HZ.out]; rintro r w0 ⟨rfl, rfl⟩)
    | (at_make; refine wpList_make_own _ rfl _ _ 40 rfl w.heap.size 5 i0 (.int .u8 0) 1 Tryd.underlying40 hi hz0 hz1 _ _ _ (0 + 20) rfl rfl rfl (by rw [hz2]; omega) (by unfold maxLen; omega) (by simp) ?_; intro w1 ho1 hg1; rw [alloc_size1] at ho1; have HE1 : Hid (EncI w k s (.slice none 0 0) w1 (.slice (some ⟨w.heap.size + 1, 0, none⟩) 0 (0 + 20)) []) := ⟨((Below.refl w.heap.size w).alloc (Nat.le_refl _) _).grown hg1 (by simp) (fun k hk => by cases hk), NB.of_below ((Below.refl _ _).grown hg1 (Nat.le_refl _) (fun k hk => by cases hk)), by have := hg1.size; simp at this; omega, ho1⟩; obtain ⟨c10, c11, c12⟩ := HE1.out.cells; clear ho1 hg1)
    | (at_builtin; clear T1; refine wpList_append_own _ rfl _ _ 40 rfl w.heap.size 5 i0 (.int .u8 0) 1 1 Tryd.underlying40 hi hz0 hz1 hz2 rfl (by decide) _ _ _ rfl (HE1.out.2.2.2.alloc _) ⟨w1.heap.size, 0, none⟩ 2 2 [.int .u8 165, .int .u8 (k : Int)] rfl rfl (cells_two _ _ _ _) (two_new _ _) (by unfold maxLen; simp) (by simp) (by have := HE1.out.2.2.1; simp; omega) ?_; intro v2 w2 ho2 hg2 _; have HE2 : Hid (EncI w k s (.slice none 0 0) w2 v2 [165, k]) := (HE1.out.call ((Below.refl _ _).alloc (Nat.le_refl _) _)).grow hg2 ho2; obtain ⟨c20, c21, c22⟩ := HE2.out.cells; clear ho2 hg2 HE1 c10 c11 c12)
    | (go_at_call 48; clear T2; refine (alow_any 0 2 w.heap.size v2 _ _ _ (by omega) (by omega) HE2.out.2.2.2 HE2.out.1.size (by simp)).mono ?_; rintro r w3 ⟨v3, rfl, ho3, hb3, hq3⟩; have HE3 : Hid (EncI w k s (.slice none 0 0) w3 v3 ([165, k] ++ le 2 0)) := HE2.out.low ho3 hb3 hq3; obtain ⟨c30, c31, c32⟩ := HE3.out.cells; clear ho3 hb3 hq3 HE2 c20 c21 c22)
    | (go_at_call 48; clear T3; refine (alow_any s 8 w.heap.size v3 _ _ _ (by omega) (by omega) HE3.out.2.2.2 HE3.out.1.size (by simp [le_length])).mono ?_; rintro r w4 ⟨v4, rfl, ho4, hb4, hq4⟩; have HE4 : Hid (EncI w k s (.slice none 0 0) w4 v4 (head12 k 0 s)) := (HH.out ▸ HE3.out.low ho4 hb4 hq4); obtain ⟨g4, d4, rfl, hy4⟩ := HE4.out.row HHL.out (by simp [head12]); obtain ⟨c40, c41, c42⟩ := HE4.out.cells; clear ho4 hb4 hq4 HE3 c30 c31 c32)
    | (go_at_call 50; clear T4; refine (sum_any (head12 k 0 s) _ _ _ _ rfl hy4 (by rw [head12_length]; unfold maxLen; omega) (HT.out.keep HE4.out.1)).mono ?_; rintro r w5 ⟨rfl, rfl⟩)
    | (go_at_call 49; clear T5; refine (four_any _ _ HHS.out).mono ?_; rintro r w6 ⟨g6, rfl, hy6, hb6⟩; have HE6 : Hid (EncI w k s (.slice none 0 0) w6 _ (head12 k 0 s)) := HE4.out.call hb6; obtain ⟨c60, c61, c62⟩ := HE6.out.cells; clear hb6 HE4 c40 c41 c42 hy4)
    | (at_builtin; clear T6; refine wpList_append_own _ rfl _ _ 40 rfl w.heap.size 5 i0 (.int .u8 0) 1 1 Tryd.underlying40 hi hz0 hz1 hz2 rfl (by decide) _ _ _ rfl HE6.out.2.2.2 ⟨g6, 0, none⟩ 4 4 (B8 (Crcm.four (Crcm.sum (head12 k 0 s)))) rfl (B8_length _) (bytes_cells hy6) (B8_one _) (by rw [head12_length]; unfold maxLen; omega) (by rw [head12_length]; omega) HE6.out.1.size ?_; intro v7 w7 ho7 hg7 _; have HE7 : Hid (EncI w k s (.slice none 0 0) w7 v7 (headL k 0 s)) := HE6.out.grow hg7 ho7; obtain ⟨c70, c71, c72⟩ := HE7.out.cells; clear ho7 hg7 HE6 c60 c61 c62 hy6)
    | (at_builtin; clear T7; refine wpList_append_own_none rfl _ _ 40 rfl w.heap.size 5 i0 1 Tryd.underlying40 hi _ _ _ rfl HE7.out.2.2.2 rfl ?_; have HE8 : Hid (EncI w k s (.slice none 0 0) w7 v7 (headL k 0 s ++ [])) := (by rw [List.append_nil]; exact HE7.out); obtain ⟨w8, rfl⟩ : ∃ w8, w8 = w7 := ⟨_, rfl⟩; obtain ⟨v8, rfl⟩ : ∃ v8, v8 = v7 := ⟨_, rfl⟩; obtain ⟨c80, c81, c82⟩ := HE8.out.cells; clear HE7 c70 c71 c72)
    | (go_at_call 50; refine (sum_any [] _ _ _ _ rfl (HB.out.keep HE8.out.1) (by unfold maxLen; simp) (HT.out.keep HE8.out.1)).mono ?_; rintro r w9 ⟨rfl, rfl⟩)
    | (go_at_call 49; refine (four_any _ _ HSB.out).mono ?_; rintro r wa ⟨ga, rfl, hya, hba⟩; have HEa : Hid (EncI w k s (.slice none 0 0) wa _ (headL k 0 s ++ [])) := HE8.out.call hba; clear hba HE8 c80 c81 c82)
    | (at_builtin; refine wpList_append_own _ rfl _ _ 40 rfl w.heap.size 5 i0 (.int .u8 0) 1 1 Tryd.underlying40 hi hz0 hz1 hz2 rfl (by decide) _ _ _ rfl HEa.out.2.2.2 ⟨ga, 0, none⟩ 4 4 (B8 (Crcm.four (Crcm.sum []))) rfl (B8_length _) (bytes_cells hya) (B8_one _) (by rw [List.length_append, headL_length]; simp only [List.length_nil]; unfold maxLen; omega) (by rw [List.length_append, headL_length]; simp only [List.length_nil]; omega) HEa.out.1.size ?_; intro vb wb hob hgb _; have HEb : Hid (EncI w k s (.slice none 0 0) wb vb (headL k 0 s ++ [] ++ Crcm.four (Crcm.sum []))) := HEa.out.grow hgb hob; clear hob hgb HEa hya))
  go_ret2
  have hfr : headL k 0 s ++ [] ++ Crcm.four (Crcm.sum []) = frameL k s [] := by unfold frameL; rw [List.append_assoc]; rfl
  have hE := HEb.out
  rw [hfr] at hE
  exact ⟨vb, rfl, ⟨fun i => getD_lt (frameL_lt k s _ (by omega) HB.out.mem) i, hE.2.2.2⟩, hE.1⟩
set_option maxRecDepth 20000 in
set_option maxHeartbeats 1000000 in
theorem fenc_bad (kind seq : Int) (a : Option Addr) (n cap : Nat) (w : World) (hn : n ≤ 281474976710656) (hE : encE kind seq n ≠ 0) :
    Calls Tryd.prog 32 #[FrV kind seq (.slice a n cap)] w fun r w' => r = .returned (.tuple #[.slice none 0 0, .int .i64 (encE kind seq n : Nat)]) ∧ Below w.heap.size w w' := by
  by_cases h1 : inB kind seq = false
  · have HI : Hid (inB kind seq = false) := h1
    have HE : Hid (encE kind seq n = 63) := by show _ = _; unfold encE; rw [if_pos h1]
    clear h1 hE
    go_enter Tryd.func32, Tryd.ntmps32
    go_wp2_with (go_at_call 46; refine (inb_any _ _ _).mono ?_; rw [HI.out]; rintro r w0 ⟨rfl, rfl⟩)
    go_ret2
    exact ⟨by rw [HE.out]; rfl, (Below.refl _ _).alloc (Nat.le_refl _) _⟩
  · have h2 : 16384 < n := by
      unfold encE at hE
      rw [if_neg h1] at hE
      by_cases h : 16384 < n
      · exact h
      · rw [if_neg h] at hE; exact absurd rfl hE
    have HI : Hid (inB kind seq = true) := by show _ = _; simpa using h1
    have HE : Hid (encE kind seq n = 24) := by show _ = _; unfold encE; rw [if_neg h1, if_pos h2]
    have hnI : (16384 : Int) < (n : Int) := by omega
    have hn2 : (n : Int) ≤ 281474976710656 := by omega
    clear h1 hE h2
    go_enter Tryd.func32, Tryd.ntmps32
    go_wp2_with (go_at_call 46; refine (inb_any _ _ _).mono ?_; rw [HI.out]; rintro r w0 ⟨rfl, rfl⟩)
    go_ret2
    exact ⟨by rw [HE.out]; rfl, (Below.refl _ _).alloc (Nat.le_refl _) _⟩
theorem fenc_any (kind seq : Int) (body : List Nat) (n : Nat) (a : Option Addr) (cap : Nat) (w : World) (hn : body.length = n) (hb : Bytes w a body) (hc : a = none → cap = 0) (hl : n ≤ 281474976710656) (ha : ∀ x, a = some x → ∃ b off, x = ⟨b, off, none⟩) (ht : Tab w) :
    Calls Tryd.prog 32 #[FrV kind seq (.slice a n cap)] w fun r w' => ∃ v, r = .returned (.tuple #[v, .int .i64 (encE kind seq n : Nat)]) ∧ Own w' w.heap.size v (encL kind seq body) ∧ Below w.heap.size w w' := by
  subst hn
  by_cases hE : encE kind seq body.length = 0
  · have hx := hE
    unfold encE at hx
    have h1 : inB kind seq = true := by
      by_cases h : inB kind seq = false
      · rw [if_pos h] at hx; omega
      · simpa using h
    rw [if_neg (by rw [h1]; simp)] at hx
    have h2 : ¬ 16384 < body.length := fun h => by rw [if_pos h] at hx; omega
    obtain ⟨k1, k7, s0, s1⟩ := of_decide_eq_true h1
    obtain ⟨k, rfl⟩ := Int.eq_ofNat_of_zero_le (show 0 ≤ kind by omega)
    obtain ⟨s, rfl⟩ := Int.eq_ofNat_of_zero_le s0
    unfold encL
    rw [if_pos hE, hE]
    simp only [Int.toNat_natCast]
    cases a with
    | none =>
      have h3 := hc rfl
      subst h3
      rcases hb.2 with h4 | ⟨b, off, h4, _⟩
      · subst h4
        exact fenc_none k s w (by omega) (by omega) (by omega) ht
      · cases h4
    | some x =>
      obtain ⟨b, off, rfl⟩ := ha x rfl
      exact fenc_some k s body b off cap w (by omega) (by omega) (by omega) (by omega) hb ht
  · refine (fenc_bad kind seq a body.length cap w hl hE).mono ?_
    rintro r w' ⟨rfl, hb'⟩
    refine ⟨_, rfl, ?_, hb'⟩
    unfold encL
    rw [if_neg hE]
    exact ⟨by simp, rfl, .inl ⟨rfl, rfl⟩⟩
end Go.Proofs.YtnfkdgjgglnniaaDoor
namespace Go.Proofs.YtnfkdgjgglnniaaDoor
open Go.ChangeShapes Go.WideShapes Go.ChangeAt Go.RowKit
set_option linter.unusedVariables false
theorem low_q (l : List Nat) (n : Nat) (b off cap : Nat) (w : World) (hn : l.length = n) (h8 : n ≤ 8) (hb : Bytes w (some ⟨b, off, none⟩) l) :
    Calls Tryd.prog 70 #[.slice (some ⟨b, off, none⟩) n cap] w fun e w' => e = .returned (.int .i64 (wrap64 (Crcm.val l))) ∧ w' = w :=
  (low_any l n b off cap w hn h8 hb).mono fun _ _ ⟨h1, h2⟩ => ⟨h1, h2.symm⟩
theorem fsize_q (n : Int) (w : World) : Calls Tryd.prog 47 #[.int .i64 n] w fun e w' => e = .returned (.int .i64 (fsz n)) ∧ w' = w :=
  (fsize_any n w).mono fun _ _ ⟨h1, h2⟩ => ⟨h1, h2.symm⟩
theorem val2 (l : List Nat) (h : 4 ≤ l.length) : Crcm.val ((l.drop 2).take 2) = pn l := by
  rw [drop_at l 2 _ (by omega) rfl, drop_at l 3 _ (by omega) rfl]
  rfl
theorem bytes_sub {w : World} {b off : Nat} {l : List Nat} (h : Bytes w (some ⟨b, off, none⟩) l) (i n : Nat) : Bytes w (some ⟨b, off + i, none⟩) ((l.drop i).take n) := (h.drop i).take n
theorem peekE_60 {l : List Nat} (h : l.length < 16) : peekE l = 60 := by unfold peekE; rw [if_pos h]
theorem peekE_61 {l : List Nat} (h : ¬ l.length < 16) (h2 : l.getD 0 0 ≠ 165) : peekE l = 61 := by unfold peekE; rw [if_neg h, if_pos h2]
theorem peekE_62 {l : List Nat} (h : ¬ l.length < 16) (h2 : ¬ l.getD 0 0 ≠ 165) (h3 : closedB (l.take 16) = false) : peekE l = 62 := by unfold peekE; rw [if_neg h, if_neg h2, if_pos h3]
theorem peekE_63 {l : List Nat} (h : ¬ l.length < 16) (h2 : ¬ l.getD 0 0 ≠ 165) (h3 : ¬ closedB (l.take 16) = false) (h4 : ¬ (pn l ≤ 16384 ∧ 1 ≤ pk l ∧ pk l ≤ 7 ∧ ps l ≤ 1099511627776)) : peekE l = 63 := by unfold peekE; rw [if_neg h, if_neg h2, if_neg h3, if_neg h4]
theorem peekE_0 {l : List Nat} (h : ¬ l.length < 16) (h2 : ¬ l.getD 0 0 ≠ 165) (h3 : ¬ closedB (l.take 16) = false) (h4 : pn l ≤ 16384 ∧ 1 ≤ pk l ∧ pk l ≤ 7 ∧ ps l ≤ 1099511627776) : peekE l = 0 := by unfold peekE; rw [if_neg h, if_neg h2, if_neg h3, if_pos h4]
/-- the answer of Peek -/
abbrev PV (l : List Nat) : Value := .tuple #[.int .i64 (peekK l : Nat), .int .i64 (peekS l : Nat), .int .i64 (peekN l : Nat), .int .i64 (peekE l : Nat)]
theorem pv_bad (l : List Nat) (e : Nat) (h : peekE l = e) (he : e ≠ 0) : PV l = .tuple #[.int .i64 0, .int .i64 0, .int .i64 0, .int .i64 (e : Int)] := by
  have h1 : peekE l ≠ 0 := by rw [h]; exact he
  show Value.tuple #[.int .i64 (peekK l : Nat), .int .i64 (peekS l : Nat), .int .i64 (peekN l : Nat), .int .i64 (peekE l : Nat)] = _
  rw [show peekK l = 0 from if_neg h1, show peekS l = 0 from if_neg h1, show peekN l = 0 from if_neg h1, h]
  rfl
theorem pv_good (l : List Nat) (h : peekE l = 0) : PV l = .tuple #[.int .i64 (pk l : Int), .int .i64 (ps l : Int), .int .i64 ((pn l : Int) + 20), .int .i64 0] := by
  show Value.tuple #[.int .i64 (peekK l : Nat), .int .i64 (peekS l : Nat), .int .i64 (peekN l : Nat), .int .i64 (peekE l : Nat)] = _
  rw [show peekK l = pk l from if_pos h, show peekS l = ps l from if_pos h, show peekN l = pn l + 20 from if_pos h, h]
  rfl
theorem wrap64_small (n : Nat) (h : n ≤ 9223372036854775807) : wrap64 (n : Int) = n := by unfold wrap64; omega
theorem inB_ps (k s : Nat) (hs : s < 18446744073709551616) : inB (k : Int) (wrap64 (s : Int)) = decide (1 ≤ k ∧ k ≤ 7 ∧ s ≤ 1099511627776) := by
  unfold inB
  rw [decide_eq_decide]
  unfold wrap64
  omega
set_option maxRecDepth 20000 in
set_option maxHeartbeats 1000000 in
theorem peek_any (l : List Nat) (n : Nat) (a : Option Addr) (cap : Nat) (w : World) (hn : l.length = n) (hb : Bytes w a l) (hl : l.length ≤ 281474976710656) (hcap : l.length ≤ cap) (ht : Tab w) :
    Calls Tryd.prog 63 #[.slice a n cap] w fun e w' => e = .returned (PV l) ∧ Below w.heap.size w w' := by
  subst hn
  by_cases h16 : l.length < 16
  · have HP : Hid (PV l = _) := pv_bad l 60 (peekE_60 h16) (by decide)
    obtain ⟨n, hN⟩ : ∃ n, l.length = n := ⟨_, rfl⟩
    rw [hN] at h16 ⊢
    have h16I : (n : Int) < 16 := by omega
    clear hN hb ht hl hcap h16
    go_enter Tryd.func63, Tryd.ntmps63
    go_wp2
    exact bodyPost_ret (v := .tuple #[.int .i64 0, .int .i64 0, .int .i64 0, .int .i64 60]) (by simp [results, Tryd.results63, go_sem]) rfl ⟨by rw [HP.out]; rfl, Below.refl _ _⟩
  · have hne : l ≠ [] := by intro h; subst h; simp at h16
    obtain ⟨b, off, rfl, hlt, hcell⟩ := hb.nonempty hne
    have c0 := hcell 0 (by omega)
    have c1 := hcell 1 (by omega)
    rw [Nat.add_zero] at c0
    obtain ⟨x0, e0⟩ : ∃ x, x = l.getD 0 0 := ⟨_, rfl⟩
    obtain ⟨x1, e1⟩ : ∃ x, x = l.getD 1 0 := ⟨_, rfl⟩
    rw [← e0] at c0
    rw [← e1] at c1
    have HC1 : Hid (∀ w', Below w.heap.size w w' → w'.cell? ⟨b, off + 1, none⟩ = some (.int .u8 (x1 : Int))) := fun w' hw' => (hw'.cell (p := ⟨b, off + 1, none⟩) hlt).trans c1
    obtain ⟨n, hN⟩ : ∃ n, l.length = n := ⟨_, rfl⟩
    have hx0 : x0 < 256 := by rw [e0]; exact hb.1 0
    have hx1 : x1 < 256 := by rw [e1]; exact hb.1 1
    by_cases hm : l.getD 0 0 ≠ 165
    · have HP : Hid (PV l = _) := pv_bad l 61 (peekE_61 h16 hm) (by decide)
      rw [hN] at h16 hl hcap ⊢
      have hx : ((x0 : Int) != 165) = true := by simp; omega
      have h16I : ¬ (n : Int) < 16 := by omega
      clear hb ht hcell HC1 e0 e1 hne hm hN c1
      go_enter Tryd.func63, Tryd.ntmps63
      go_wp2
      exact bodyPost_ret (v := .tuple #[.int .i64 0, .int .i64 0, .int .i64 0, .int .i64 61]) (by simp [results, Tryd.results63, go_sem]) rfl ⟨by rw [HP.out]; rfl, Below.refl _ _⟩
    · have hx : ((x0 : Int) != 165) = false := by simp; omega
      have HT : Hid (Tab w) := ht
      have HB : Hid (Bytes w (some ⟨b, off, none⟩) l) := hb
      have HL16 : Hid ((l.take 16).length = 16) := by show _ = _; rw [List.length_take]; omega
      have HM16 : Hid ((l.take 16).length ≤ maxLen) := by show _ ≤ _; rw [HL16.out]; unfold maxLen; omega
      have HC16 : Hid ((l.take 16).length ≤ cap) := by show _ ≤ _; rw [HL16.out]; omega
      by_cases hcl : closedB (l.take 16) = false
      · have HP : Hid (PV l = _) := pv_bad l 62 (peekE_62 h16 hm hcl) (by decide)
        have HCL : Hid (closedB (l.take 16) = false) := hcl
        rw [hN] at h16 hl hcap ⊢
        have h16I : ¬ (n : Int) < 16 := by omega
        have h16c : (16 : Int) ≤ (cap : Int) := by omega
        clear hb ht hcell HC1 e0 e1 hne hm hN c1 hcl
        go_enter Tryd.func63, Tryd.ntmps63
        go_wp2_with (go_at_call 64; refine (closed_any (l.take 16) _ _ _ _ HL16.out (HB.out.take 16) HM16.out HC16.out HT.out).mono ?_; rw [HCL.out]; rintro e w1 ⟨rfl, hb1⟩)
        exact bodyPost_ret (v := .tuple #[.int .i64 0, .int .i64 0, .int .i64 0, .int .i64 62]) (by simp [results, Tryd.results63, go_sem]) rfl ⟨by rw [HP.out]; rfl, hb1⟩
      · have HCL : Hid (closedB (l.take 16) = true) := by show _ = _; simpa using hcl
        have HV2 : Hid (Crcm.val ((l.drop 2).take 2) = pn l) := val2 l (by omega)
        have HV8 : Hid (Crcm.val ((l.drop 4).take 8) = ps l) := rfl
        have hpn : pn l < 65536 := by have := hb.1 2; have := hb.1 3; unfold pn; omega
        have hps : ps l < 18446744073709551616 := by
          have := Crcm.val_lt ((l.drop 4).take 8) (fun x hx => hb.mem x (List.mem_of_mem_drop (List.mem_of_mem_take hx)))
          rw [List.length_take, List.length_drop, Nat.min_eq_left (by omega)] at this
          rw [show (2 : Nat) ^ (8 * 8) = 18446744073709551616 from by decide] at this
          exact this
        have HPK : Hid (pk l = x1) := e1.symm
        have HS2 : Hid (((l.drop 2).take 2).length = 2) := by show _ = _; rw [List.length_take, List.length_drop]; omega
        have HS8 : Hid (((l.drop 4).take 8).length = 8) := by show _ = _; rw [List.length_take, List.length_drop]; omega
        by_cases hall : pn l ≤ 16384 ∧ 1 ≤ pk l ∧ pk l ≤ 7 ∧ ps l ≤ 1099511627776
        · have HP : Hid (PV l = _) := pv_good l (peekE_0 h16 hm hcl hall)
          obtain ⟨p, hp⟩ : ∃ p, pn l = p := ⟨_, rfl⟩
          obtain ⟨s, hs⟩ : ∃ s, ps l = s := ⟨_, rfl⟩
          rw [HPK.out, hp, hs] at HP hall
          rw [hp] at hpn HV2
          rw [hs] at hps HV8
          have HW2 : Hid (wrap64 (p : Int) = p) := wrap64_small p (by omega)
          have HW8 : Hid (wrap64 (s : Int) = s) := wrap64_small s (by omega)
          have HF : Hid (fsz (p : Int) = (p : Int) + 20) := by show _ = _; unfold fsz; rw [if_neg (by omega)]
          have HI : Hid (inB (x1 : Int) (s : Int) = true) := by show _ = _; unfold inB; rw [decide_eq_true_eq]; omega
          have hz : ((p : Int) + 20 == 0) = false := by simp; omega
          rw [hN] at h16 hl hcap ⊢
          have h16I : ¬ (n : Int) < 16 := by omega
          have h16n : 16 ≤ n := by omega
          have h1n : (1 : Int) < (n : Int) := by omega
          have h12n : (12 : Int) ≤ (cap : Int) := by omega
          have h4n : (4 : Int) ≤ (cap : Int) := by omega
          have h16c : (16 : Int) ≤ (cap : Int) := by omega
          have hq2 : ¬ cap = 2 := by omega
          have hq4 : ¬ cap = 4 := by omega
          clear hb ht hcell e0 e1 hne hm hN c1 hcl hp hs HPK hps hpn hall
          go_enter Tryd.func63, Tryd.ntmps63
          go_wp2_with (go_at_call 64; refine (closed_any (l.take 16) _ _ _ _ HL16.out (HB.out.take 16) HM16.out HC16.out HT.out).mono ?_; rw [HCL.out]; rintro e w1 ⟨rfl, hb1⟩; have d1 := HC1.out w1 hb1; clear c0)
          have HB1 : Hid (Bytes w1 (some ⟨b, off, none⟩) l) := HB.out.keep hb1
          have HL8 : Hid (∀ c m, Calls Tryd.prog 70 #[.slice (some ⟨b, off + 4, none⟩) 8 c] (w1.drewN m) fun e w' => e = .returned (.int .i64 (s : Int)) ∧ w' = w1.drewN m) := fun c m => by
            have := low_q ((l.drop 4).take 8) 8 b (off + 4) c (w1.drewN m) HS8.out (by decide) ((bytes_sub HB1.out 4 8).drewN _)
            rw [HV8.out, HW8.out] at this
            exact this
          have HL2 : Hid (∀ c m, Calls Tryd.prog 70 #[.slice (some ⟨b, off + 2, none⟩) 2 c] (w1.drewN m) fun e w' => e = .returned (.int .i64 (p : Int)) ∧ w' = w1.drewN m) := fun c m => by
            have := low_q ((l.drop 2).take 2) 2 b (off + 2) c (w1.drewN m) HS2.out (by decide) ((bytes_sub HB1.out 2 2).drewN _)
            rw [HV2.out, HW2.out] at this
            exact this
          have HFZ : Hid (∀ m, Calls Tryd.prog 47 #[.int .i64 (p : Int)] (w1.drewN m) fun e w' => e = .returned (.int .i64 ((p : Int) + 20)) ∧ w' = w1.drewN m) := fun m => by
            have := fsize_q (p : Int) (w1.drewN m)
            rw [HF.out] at this
            exact this
          go_quiet ((first
            | (go_at_call 70; with_reducible exact Calls.quiet_of_same (HL8.out _ _))
            | (go_at_call 70; with_reducible exact Calls.quiet_of_same (HL2.out _ _))
            | (go_at_call 47; with_reducible exact Calls.quiet_of_same (HFZ.out _))))
          go_wp2_with (go_at_call 46; refine (inb_any _ _ _).mono ?_; rw [HI.out]; rintro e w2 ⟨rfl, rfl⟩)
          exact bodyPost_ret (v := .tuple #[.int .i64 (x1 : Int), .int .i64 (s : Int), .int .i64 ((p : Int) + 20), .int .i64 0]) (by simp [results, Tryd.results63, go_sem]) rfl ⟨by rw [HP.out], below_drewN hb1 _⟩
        · have HP : Hid (PV l = _) := pv_bad l 63 (peekE_63 h16 hm hcl hall) (by decide)
          obtain ⟨p, hp⟩ : ∃ p, pn l = p := ⟨_, rfl⟩
          have hI := inB_ps x1 (ps l) hps
          rw [HPK.out, hp] at hall
          rw [hp] at hpn HV2
          obtain ⟨s, hs⟩ : ∃ s : Int, wrap64 (ps l : Int) = s := ⟨_, rfl⟩
          rw [hs] at hI
          have HW2 : Hid (wrap64 (p : Int) = p) := wrap64_small p (by omega)
          have HW8 : Hid (wrap64 (Crcm.val ((l.drop 4).take 8) : Int) = s) := hs
          rw [hN] at h16 hl hcap ⊢
          have h16I : ¬ (n : Int) < 16 := by omega
          have h16n : 16 ≤ n := by omega
          have h1n : (1 : Int) < (n : Int) := by omega
          have h12n : (12 : Int) ≤ (cap : Int) := by omega
          have h4n : (4 : Int) ≤ (cap : Int) := by omega
          have h16c : (16 : Int) ≤ (cap : Int) := by omega
          have hq2 : ¬ cap = 2 := by omega
          have hq4 : ¬ cap = 4 := by omega
          clear hb ht hcell e0 e1 hne hm hN c1 hcl hp HPK hps HV8 hs
          by_cases hp2 : 16384 < p
          · have HF : Hid (fsz (p : Int) = 0) := by show _ = _; unfold fsz; rw [if_pos (by omega)]
            clear hall hI hpn hp2
            go_enter Tryd.func63, Tryd.ntmps63
            go_wp2_with (go_at_call 64; refine (closed_any (l.take 16) _ _ _ _ HL16.out (HB.out.take 16) HM16.out HC16.out HT.out).mono ?_; rw [HCL.out]; rintro e w1 ⟨rfl, hb1⟩; have d1 := HC1.out w1 hb1; clear c0)
            have HB1 : Hid (Bytes w1 (some ⟨b, off, none⟩) l) := HB.out.keep hb1
            have HL8 : Hid (∀ c m, Calls Tryd.prog 70 #[.slice (some ⟨b, off + 4, none⟩) 8 c] (w1.drewN m) fun e w' => e = .returned (.int .i64 s) ∧ w' = w1.drewN m) := fun c m => by
              have := low_q ((l.drop 4).take 8) 8 b (off + 4) c (w1.drewN m) HS8.out (by decide) ((bytes_sub HB1.out 4 8).drewN _)
              rw [HW8.out] at this
              exact this
            have HL2 : Hid (∀ c m, Calls Tryd.prog 70 #[.slice (some ⟨b, off + 2, none⟩) 2 c] (w1.drewN m) fun e w' => e = .returned (.int .i64 (p : Int)) ∧ w' = w1.drewN m) := fun c m => by
              have := low_q ((l.drop 2).take 2) 2 b (off + 2) c (w1.drewN m) HS2.out (by decide) ((bytes_sub HB1.out 2 2).drewN _)
              rw [HV2.out, HW2.out] at this
              exact this
            have HFZ : Hid (∀ m, Calls Tryd.prog 47 #[.int .i64 (p : Int)] (w1.drewN m) fun e w' => e = .returned (.int .i64 0) ∧ w' = w1.drewN m) := fun m => by
              have := fsize_q (p : Int) (w1.drewN m)
              rw [HF.out] at this
              exact this
            go_quiet ((first
              | (go_at_call 70; with_reducible exact Calls.quiet_of_same (HL8.out _ _))
              | (go_at_call 70; with_reducible exact Calls.quiet_of_same (HL2.out _ _))
              | (go_at_call 47; with_reducible exact Calls.quiet_of_same (HFZ.out _))))
            go_wp2
            exact bodyPost_ret (v := .tuple #[.int .i64 0, .int .i64 0, .int .i64 0, .int .i64 63]) (by simp [results, Tryd.results63, go_sem]) rfl ⟨by rw [HP.out]; rfl, below_drewN hb1 _⟩
          · have HF : Hid (fsz (p : Int) = (p : Int) + 20) := by show _ = _; unfold fsz; rw [if_neg (by omega)]
            have HI : Hid (inB (x1 : Int) s = false) := by show _ = _; rw [hI, decide_eq_false_iff_not]; omega
            have hz : ((p : Int) + 20 == 0) = false := by simp; omega
            clear hall hI hp2
            go_enter Tryd.func63, Tryd.ntmps63
            go_wp2_with (go_at_call 64; refine (closed_any (l.take 16) _ _ _ _ HL16.out (HB.out.take 16) HM16.out HC16.out HT.out).mono ?_; rw [HCL.out]; rintro e w1 ⟨rfl, hb1⟩; have d1 := HC1.out w1 hb1; clear c0)
            have HB1 : Hid (Bytes w1 (some ⟨b, off, none⟩) l) := HB.out.keep hb1
            have HL8 : Hid (∀ c m, Calls Tryd.prog 70 #[.slice (some ⟨b, off + 4, none⟩) 8 c] (w1.drewN m) fun e w' => e = .returned (.int .i64 s) ∧ w' = w1.drewN m) := fun c m => by
              have := low_q ((l.drop 4).take 8) 8 b (off + 4) c (w1.drewN m) HS8.out (by decide) ((bytes_sub HB1.out 4 8).drewN _)
              rw [HW8.out] at this
              exact this
            have HL2 : Hid (∀ c m, Calls Tryd.prog 70 #[.slice (some ⟨b, off + 2, none⟩) 2 c] (w1.drewN m) fun e w' => e = .returned (.int .i64 (p : Int)) ∧ w' = w1.drewN m) := fun c m => by
              have := low_q ((l.drop 2).take 2) 2 b (off + 2) c (w1.drewN m) HS2.out (by decide) ((bytes_sub HB1.out 2 2).drewN _)
              rw [HV2.out, HW2.out] at this
              exact this
            have HFZ : Hid (∀ m, Calls Tryd.prog 47 #[.int .i64 (p : Int)] (w1.drewN m) fun e w' => e = .returned (.int .i64 ((p : Int) + 20)) ∧ w' = w1.drewN m) := fun m => by
              have := fsize_q (p : Int) (w1.drewN m)
              rw [HF.out] at this
              exact this
            go_quiet ((first
              | (go_at_call 70; with_reducible exact Calls.quiet_of_same (HL8.out _ _))
              | (go_at_call 70; with_reducible exact Calls.quiet_of_same (HL2.out _ _))
              | (go_at_call 47; with_reducible exact Calls.quiet_of_same (HFZ.out _))))
            go_wp2_with (go_at_call 46; refine (inb_any _ _ _).mono ?_; rw [HI.out]; rintro e w2 ⟨rfl, rfl⟩)
            exact bodyPost_ret (v := .tuple #[.int .i64 0, .int .i64 0, .int .i64 0, .int .i64 63]) (by simp [results, Tryd.results63, go_sem]) rfl ⟨by rw [HP.out]; rfl, below_drewN hb1 _⟩
end Go.Proofs.YtnfkdgjgglnniaaDoor
