/- Own texts, joined: Fr2, Fr3, Fr4, Sc1. -/
import Derived.Test.YtaegmeilhdbnnaaDoorJ02
import Derived.Laws.AppendOwnNone
import Derived.Laws.ResultCell
import Derived.Laws.CopyOwn
import Derived.Shelf.RegionOpen
import Derived.Deep.Onto
namespace Go.Proofs.YtaegmeilhdbnnaaDoor
open Go.ChangeShapes Go.WideShapes Go.ChangeAt Go.RowKit
set_option linter.unusedVariables false
/-- a frame's value -/
abbrev FrV (kind seq : Int) (bv : Value) : Value := .agg #[.int .i64 kind, .int .i64 seq, bv]
/-- a frame lies in block k -/
def FrmAt (w : World) (k : Nat) (kind seq : Int) (bv : Value) : Prop := w.heap[k]? = some (.cells #[.int .i64 kind, .int .i64 seq, bv] 65)
theorem FrmAt.cells {w : World} {k : Nat} {kind seq : Int} {bv : Value} (h : FrmAt w k kind seq bv) : w.cell? ⟨k, 0, none⟩ = some (.int .i64 kind) ∧ w.cell? ⟨k, 1, none⟩ = some (.int .i64 seq) ∧ w.cell? ⟨k, 2, none⟩ = some bv :=
  ⟨by rw [cell_of_row _ _ 0 _ _ _ h]; rfl, by rw [cell_of_row _ _ 1 _ _ _ h]; rfl, by rw [cell_of_row _ _ 2 _ _ _ h]; rfl⟩
theorem FrmAt.new (w : World) (kind seq : Int) (bv : Value) : FrmAt (w.alloc (.cells #[.int .i64 kind, .int .i64 seq, bv] 65)) w.heap.size kind seq bv := by
  unfold FrmAt; simp only [World.alloc, Array.getElem?_push]; rw [if_pos trivial]
theorem FrmAt.nb {w w' : World} {k : Nat} {kind seq : Int} {bv : Value} (h : FrmAt w k kind seq bv) (hb : NB w w') : FrmAt w' k kind seq bv := hb k _ _ _ h (by decide)
theorem FrmAt.keep {w w' : World} {k : Nat} {kind seq : Int} {bv : Value} (h : FrmAt w k kind seq bv) (hb : Below w.heap.size w w') : FrmAt w' k kind seq bv := h.nb (NB.of_below hb)
def encE (kind seq : Int) (n : Nat) : Nat := if inB kind seq = false then 63 else if 16384 < n then 24 else 0
def encL (kind seq : Int) (body : List Nat) : List Nat := if encE kind seq body.length = 0 then frameL kind.toNat seq.toNat body else []
theorem cells_two (w : World) (x y : Value) (e : TypeId) : ∀ j u, [x, y][j]? = some u → (w.alloc (.cells #[x, y] e)).cell? ((⟨w.heap.size, 0, none⟩ : Addr).add j) = some u := by
  intro j u hj
  match j, hj with
  | 0, hj => simp at hj; subst hj; simp [Addr.add]
  | 1, hj => simp at hj; subst hj; simp [Addr.add]
theorem two_new {k : IntKind} (n m : Int) : ∀ u ∈ [Value.int k n, Value.int k m], u.oneCell' = true := by
  intro u hu; simp at hu; rcases hu with rfl | rfl <;> rfl
theorem alloc_size1 (w : World) (o : Obj) : (w.alloc o).heap.size = w.heap.size + 1 := by simp
/-- what stands while a frame is laid: memory as it was, the frame's parts where they lay, the row of the call's own -/
def EncI (w : World) (k s : Nat) (bv : Value) (wi : World) (v : Value) (l : List Nat) : Prop :=
  Below w.heap.size w wi ∧ NB (w.alloc (.cells #[.int .i64 k, .int .i64 s, bv] 65)) wi ∧ w.heap.size + 1 ≤ wi.heap.size ∧ wi.ownsRow w.heap.size 5 1 v l.length (B8 l)
theorem EncI.cells {w wi : World} {k s : Nat} {bv v : Value} {l : List Nat} (h : EncI w k s bv wi v l) : wi.cell? ⟨w.heap.size, 0, none⟩ = some (.int .i64 k) ∧ wi.cell? ⟨w.heap.size, 1, none⟩ = some (.int .i64 s) ∧ wi.cell? ⟨w.heap.size, 2, none⟩ = some bv :=
  ((FrmAt.new w k s bv).nb h.2.1).cells
theorem EncI.grow {w wi wj : World} {k s : Nat} {bv v v2 : Value} {l m : List Nat} (h : EncI w k s bv wi v l) (hg : wi.grownBy wj v.ownBlock) (ho : wj.ownsRow w.heap.size 5 1 v2 (l.length + m.length) (B8 l ++ B8 m)) : EncI w k s bv wj v2 (l ++ m) := by
  have hb := grown_row h.1 h.2.2.2 h.1.size hg
  refine ⟨hb, h.2.1.trans (NB.of_grown h.2.2.2 hg), Nat.le_trans h.2.2.1 hg.size, ?_⟩
  rw [List.length_append, B8_append]; exact ho
theorem EncI.low {w wi wj : World} {k s K x : Nat} {bv v v2 : Value} {l : List Nat} (h : EncI w k s bv wi v l) (ho : wj.ownsRow w.heap.size 5 1 v2 (l.length + K) (B8 l ++ B8 (le K x))) (hb : Below w.heap.size wi wj) (hq : NB wi wj) : EncI w k s bv wj v2 (l ++ le K x) := by
  refine ⟨h.1.trans hb, h.2.1.trans hq, Nat.le_trans h.2.2.1 hb.size, ?_⟩
  rw [List.length_append, B8_append, le_length]; exact ho
theorem EncI.call {w wi wj : World} {k s : Nat} {bv v : Value} {l : List Nat} (h : EncI w k s bv wi v l) (hb : Below wi.heap.size wi wj) : EncI w k s bv wj v l :=
  ⟨below_next h.1 hb, h.2.1.trans (NB.of_below hb), Nat.le_trans h.2.2.1 hb.size, own_below h.2.2.2 hb⟩
theorem EncI.row {w wi : World} {k s : Nat} {bv v : Value} {l : List Nat} (h : EncI w k s bv wi v l) (hl : ∀ i, l.getD i 0 < 256) (hne : l ≠ []) : ∃ g cap, v = .slice (some ⟨g, 0, none⟩) l.length cap ∧ Bytes wi (some ⟨g, 0, none⟩) l := by
  obtain ⟨g, cap, h1, _, h3⟩ := Own.row (w := wi) (base := w.heap.size) ⟨hl, h.2.2.2⟩ hne
  exact ⟨g, cap, h1, h3⟩

set_option maxRecDepth 20000 in
set_option maxHeartbeats 1000000 in
theorem fenc_some (k s : Nat) (body : List Nat) (b off cap : Nat) (w : World) (hk1 : 1 ≤ k) (hk7 : k ≤ 7) (hs : s ≤ 1099511627776) (hn : body.length ≤ 16384) (hb : Bytes w (some ⟨b, off, none⟩) body) (ht : Tab w) :
    Calls Tryd.prog 32 #[FrV (k : Int) (s : Int) (.slice (some ⟨b, off, none⟩) body.length cap)] w fun r w' => ∃ v, r = .returned (.tuple #[v, .int .i64 0]) ∧ Own w' w.heap.size v (frameL k s body) ∧ Below w.heap.size w w' := by
  obtain ⟨i0, hi, hz0, hz1, hz2⟩ := info_parts Tryd.info5f
  have HI : Hid (inB (k : Int) (s : Int) = true) := by show _ = _; simp [inB]; omega
  obtain ⟨n, hN⟩ : ∃ n, body.length = n := ⟨_, rfl⟩
  rw [hN] at hn ⊢
  have HN : Hid (body.length = n) := hN
  have HB : Hid (Bytes w (some ⟨b, off, none⟩) body) := hb
  clear hb hN
  have hnI : (n : Int) ≤ 16384 := by omega
  have HZ : Hid (fsz (n : Int) = ((n + 20 : Nat) : Int)) := by show _ = _; unfold fsz; rw [if_neg (by omega)]; omega
  have HBL : Hid (∀ i, (body).getD i 0 < 256) := HB.out.1
  have HSB : Hid (Crcm.sum body < 4294967296) := Crcm.sum_lt _ HB.out.mem
  have HH : Hid ([165, k] ++ le 2 n ++ le 8 s = head12 k n s) := rfl
  have HHL : Hid (∀ i, (head12 k n s).getD i 0 < 256) := fun i => getD_lt (head12_lt k n s (by omega)) i
  have HHS : Hid (Crcm.sum (head12 k n s) < 4294967296) := Crcm.sum_lt _ (head12_lt k n s (by omega))
  have HT : Hid (Tab w) := ht
  have hsI : (s : Int) ≤ 1099511627776 := by omega
  have hkI : (k : Int) ≤ 7 := by omega
  clear ht
  have T1 : Hid True := trivial
  have T2 : Hid True := trivial
  have T3 : Hid True := trivial
  have T4 : Hid True := trivial
  have T5 : Hid True := trivial
  have T6 : Hid True := trivial
  have T7 : Hid True := trivial
  go_enter Tryd.func32, Tryd.ntmps32
  go_wp2_with (first
    | (go_at_call 58; refine (inb_any _ _ _).mono ?_; rw [HI.out]; rintro r w0 ⟨rfl, rfl⟩)
    | (go_at_call 59; refine (fsize_any (n : Int) _).mono ?_; rw [HZ.out]; rintro r w0 ⟨rfl, rfl⟩)
    | (at_make; refine wpList_make_own _ rfl _ _ 22 rfl w.heap.size 5 i0 (.int .u8 0) 1 Tryd.underlying22 hi hz0 hz1 _ _ _ (n + 20) rfl rfl rfl (by rw [hz2]; omega) (by unfold maxLen; omega) (by simp) ?_; intro w1 ho1 hg1; rw [alloc_size1] at ho1; have HE1 : Hid (EncI w k s (.slice (some ⟨b, off, none⟩) n cap) w1 (.slice (some ⟨w.heap.size + 1, 0, none⟩) 0 (n + 20)) []) := ⟨((Below.refl w.heap.size w).alloc (Nat.le_refl _) _).grown hg1 (by simp) (fun k hk => by cases hk), NB.of_below ((Below.refl _ _).grown hg1 (Nat.le_refl _) (fun k hk => by cases hk)), by have := hg1.size; simp at this; omega, ho1⟩; obtain ⟨c10, c11, c12⟩ := HE1.out.cells; clear ho1 hg1)
    | (at_builtin; clear T1; refine wpList_append_own _ rfl _ _ 22 rfl w.heap.size 5 i0 (.int .u8 0) 1 1 Tryd.underlying22 hi hz0 hz1 hz2 rfl (by decide) _ _ _ rfl (HE1.out.2.2.2.alloc _) ⟨w1.heap.size, 0, none⟩ 2 2 [.int .u8 165, .int .u8 (k : Int)] rfl rfl (cells_two _ _ _ _) (two_new _ _) (by unfold maxLen; simp) (by simp) (by have := HE1.out.2.2.1; simp; omega) ?_; intro v2 w2 ho2 hg2 _; have HE2 : Hid (EncI w k s (.slice (some ⟨b, off, none⟩) n cap) w2 v2 [165, k]) := (HE1.out.call ((Below.refl _ _).alloc (Nat.le_refl _) _)).grow hg2 ho2; obtain ⟨c20, c21, c22⟩ := HE2.out.cells; clear ho2 hg2 HE1 c10 c11 c12)
    | (go_at_call 60; clear T2; refine (alow_any n 2 w.heap.size v2 _ _ _ (by omega) (by omega) HE2.out.2.2.2 HE2.out.1.size (by simp)).mono ?_; rintro r w3 ⟨v3, rfl, ho3, hb3, hq3⟩; have HE3 : Hid (EncI w k s (.slice (some ⟨b, off, none⟩) n cap) w3 v3 ([165, k] ++ le 2 n)) := HE2.out.low ho3 hb3 hq3; obtain ⟨c30, c31, c32⟩ := HE3.out.cells; clear ho3 hb3 hq3 HE2 c20 c21 c22)
    | (go_at_call 60; clear T3; refine (alow_any s 8 w.heap.size v3 _ _ _ (by omega) (by omega) HE3.out.2.2.2 HE3.out.1.size (by simp [le_length])).mono ?_; rintro r w4 ⟨v4, rfl, ho4, hb4, hq4⟩; have HE4 : Hid (EncI w k s (.slice (some ⟨b, off, none⟩) n cap) w4 v4 (head12 k n s)) := (HH.out ▸ HE3.out.low ho4 hb4 hq4); obtain ⟨g4, d4, rfl, hy4⟩ := HE4.out.row HHL.out (by simp [head12]); obtain ⟨c40, c41, c42⟩ := HE4.out.cells; clear ho4 hb4 hq4 HE3 c30 c31 c32)
    | (go_at_call 62; clear T4; refine (sum_any (head12 k n s) _ _ _ _ rfl hy4 (by rw [head12_length]; unfold maxLen; omega) (HT.out.keep HE4.out.1)).mono ?_; rintro r w5 ⟨rfl, rfl⟩)
    | (go_at_call 61; clear T5; refine (four_any _ _ HHS.out).mono ?_; rintro r w6 ⟨g6, rfl, hy6, hb6⟩; have HE6 : Hid (EncI w k s (.slice (some ⟨b, off, none⟩) n cap) w6 _ (head12 k n s)) := HE4.out.call hb6; obtain ⟨c60, c61, c62⟩ := HE6.out.cells; clear hb6 HE4 c40 c41 c42 hy4)
    | (at_builtin; clear T6; refine wpList_append_own _ rfl _ _ 22 rfl w.heap.size 5 i0 (.int .u8 0) 1 1 Tryd.underlying22 hi hz0 hz1 hz2 rfl (by decide) _ _ _ rfl HE6.out.2.2.2 ⟨g6, 0, none⟩ 4 4 (B8 (Crcm.four (Crcm.sum (head12 k n s)))) rfl (B8_length _) (bytes_cells hy6) (B8_one _) (by rw [head12_length]; unfold maxLen; omega) (by rw [head12_length]; omega) HE6.out.1.size ?_; intro v7 w7 ho7 hg7 _; have HE7 : Hid (EncI w k s (.slice (some ⟨b, off, none⟩) n cap) w7 v7 (headL k n s)) := HE6.out.grow hg7 ho7; obtain ⟨c70, c71, c72⟩ := HE7.out.cells; clear ho7 hg7 HE6 c60 c61 c62 hy6)
    | (at_builtin; clear T7; refine wpList_append_own _ rfl _ _ 22 rfl w.heap.size 5 i0 (.int .u8 0) 1 1 Tryd.underlying22 hi hz0 hz1 hz2 rfl (by decide) _ _ _ rfl HE7.out.2.2.2 ⟨b, off, none⟩ n cap (B8 body) rfl ((B8_length _).trans (by rw [HN.out])) (bytes_cells (HB.out.keep HE7.out.1)) (B8_one _) (by rw [headL_length]; unfold maxLen; omega) (by rw [headL_length]; omega) HE7.out.1.size ?_; intro v8 w8 ho8 hg8 _; have HE8 : Hid (EncI w k s (.slice (some ⟨b, off, none⟩) n cap) w8 v8 (headL k n s ++ body)) := HE7.out.grow hg8 (by rw [HN.out]; exact ho8); obtain ⟨c80, c81, c82⟩ := HE8.out.cells; clear ho8 hg8 HE7 c70 c71 c72)
    | (go_at_call 62; refine (sum_any body _ _ _ _ HN.out (HB.out.keep HE8.out.1) (by rw [HN.out]; unfold maxLen; omega) (HT.out.keep HE8.out.1)).mono ?_; rintro r w9 ⟨rfl, rfl⟩)
    | (go_at_call 61; refine (four_any _ _ HSB.out).mono ?_; rintro r wa ⟨ga, rfl, hya, hba⟩; have HEa : Hid (EncI w k s (.slice (some ⟨b, off, none⟩) n cap) wa _ (headL k n s ++ body)) := HE8.out.call hba; clear hba HE8 c80 c81 c82)
    | (at_builtin; refine wpList_append_own _ rfl _ _ 22 rfl w.heap.size 5 i0 (.int .u8 0) 1 1 Tryd.underlying22 hi hz0 hz1 hz2 rfl (by decide) _ _ _ rfl HEa.out.2.2.2 ⟨ga, 0, none⟩ 4 4 (B8 (Crcm.four (Crcm.sum body))) rfl (B8_length _) (bytes_cells hya) (B8_one _) (by rw [List.length_append, headL_length, HN.out]; unfold maxLen; omega) (by rw [List.length_append, headL_length, HN.out]; omega) HEa.out.1.size ?_; intro vb wb hob hgb _; have HEb : Hid (EncI w k s (.slice (some ⟨b, off, none⟩) n cap) wb vb (headL k n s ++ body ++ Crcm.four (Crcm.sum body))) := HEa.out.grow hgb hob; clear hob hgb HEa hya))
  go_ret2
  have hfr : headL k n s ++ body ++ Crcm.four (Crcm.sum body) = frameL k s body := by unfold frameL; rw [List.append_assoc, HN.out]
  have hE := HEb.out
  rw [hfr] at hE
  exact ⟨vb, rfl, ⟨fun i => getD_lt (frameL_lt k s _ (by omega) HB.out.mem) i, hE.2.2.2⟩, hE.1⟩
set_option maxRecDepth 20000 in
set_option maxHeartbeats 1000000 in
theorem fenc_none (k s : Nat)  (w : World) (hk1 : 1 ≤ k) (hk7 : k ≤ 7) (hs : s ≤ 1099511627776) (ht : Tab w) :
    Calls Tryd.prog 32 #[FrV (k : Int) (s : Int) (.slice none 0 0)] w fun r w' => ∃ v, r = .returned (.tuple #[v, .int .i64 0]) ∧ Own w' w.heap.size v (frameL k s []) ∧ Below w.heap.size w w' := by
  obtain ⟨i0, hi, hz0, hz1, hz2⟩ := info_parts Tryd.info5f
  have HI : Hid (inB (k : Int) (s : Int) = true) := by show _ = _; simp [inB]; omega
  have HB : Hid (Bytes w none []) := Bytes.none _ _
  have HZ : Hid (fsz (0 : Int) = ((0 + 20 : Nat) : Int)) := by show _ = _; unfold fsz; rw [if_neg (by omega)]; omega
  have HBL : Hid (∀ i, ([]).getD i 0 < 256) := HB.out.1
  have HSB : Hid (Crcm.sum [] < 4294967296) := Crcm.sum_lt _ HB.out.mem
  have HH : Hid ([165, k] ++ le 2 0 ++ le 8 s = head12 k 0 s) := rfl
  have HHL : Hid (∀ i, (head12 k 0 s).getD i 0 < 256) := fun i => getD_lt (head12_lt k 0 s (by omega)) i
  have HHS : Hid (Crcm.sum (head12 k 0 s) < 4294967296) := Crcm.sum_lt _ (head12_lt k 0 s (by omega))
  have HT : Hid (Tab w) := ht
  have hsI : (s : Int) ≤ 1099511627776 := by omega
  have hkI : (k : Int) ≤ 7 := by omega
  clear ht
  have T1 : Hid True := trivial
  have T2 : Hid True := trivial
  have T3 : Hid True := trivial
  have T4 : Hid True := trivial
  have T5 : Hid True := trivial
  have T6 : Hid True := trivial
  have T7 : Hid True := trivial
  go_enter Tryd.func32, Tryd.ntmps32
  go_wp2_with (first
    | (go_at_call 58; refine (inb_any _ _ _).mono ?_; rw [HI.out]; rintro r w0 ⟨rfl, rfl⟩)
    | (go_at_call 59; refine (fsize_any (0 : Int) _).mono ?_; rw [HZ.out]; rintro r w0 ⟨rfl, rfl⟩)
    | (at_make; refine wpList_make_own _ rfl _ _ 22 rfl w.heap.size 5 i0 (.int .u8 0) 1 Tryd.underlying22 hi hz0 hz1 _ _ _ (0 + 20) rfl rfl rfl (by rw [hz2]; omega) (by unfold maxLen; omega) (by simp) ?_; intro w1 ho1 hg1; rw [alloc_size1] at ho1; have HE1 : Hid (EncI w k s (.slice none 0 0) w1 (.slice (some ⟨w.heap.size + 1, 0, none⟩) 0 (0 + 20)) []) := ⟨((Below.refl w.heap.size w).alloc (Nat.le_refl _) _).grown hg1 (by simp) (fun k hk => by cases hk), NB.of_below ((Below.refl _ _).grown hg1 (Nat.le_refl _) (fun k hk => by cases hk)), by have := hg1.size; simp at this; omega, ho1⟩; obtain ⟨c10, c11, c12⟩ := HE1.out.cells; clear ho1 hg1)
    | (at_builtin; clear T1; refine wpList_append_own _ rfl _ _ 22 rfl w.heap.size 5 i0 (.int .u8 0) 1 1 Tryd.underlying22 hi hz0 hz1 hz2 rfl (by decide) _ _ _ rfl (HE1.out.2.2.2.alloc _) ⟨w1.heap.size, 0, none⟩ 2 2 [.int .u8 165, .int .u8 (k : Int)] rfl rfl (cells_two _ _ _ _) (two_new _ _) (by unfold maxLen; simp) (by simp) (by have := HE1.out.2.2.1; simp; omega) ?_; intro v2 w2 ho2 hg2 _; have HE2 : Hid (EncI w k s (.slice none 0 0) w2 v2 [165, k]) := (HE1.out.call ((Below.refl _ _).alloc (Nat.le_refl _) _)).grow hg2 ho2; obtain ⟨c20, c21, c22⟩ := HE2.out.cells; clear ho2 hg2 HE1 c10 c11 c12)
    | (go_at_call 60; clear T2; refine (alow_any 0 2 w.heap.size v2 _ _ _ (by omega) (by omega) HE2.out.2.2.2 HE2.out.1.size (by simp)).mono ?_; rintro r w3 ⟨v3, rfl, ho3, hb3, hq3⟩; have HE3 : Hid (EncI w k s (.slice none 0 0) w3 v3 ([165, k] ++ le 2 0)) := HE2.out.low ho3 hb3 hq3; obtain ⟨c30, c31, c32⟩ := HE3.out.cells; clear ho3 hb3 hq3 HE2 c20 c21 c22)
    | (go_at_call 60; clear T3; refine (alow_any s 8 w.heap.size v3 _ _ _ (by omega) (by omega) HE3.out.2.2.2 HE3.out.1.size (by simp [le_length])).mono ?_; rintro r w4 ⟨v4, rfl, ho4, hb4, hq4⟩; have HE4 : Hid (EncI w k s (.slice none 0 0) w4 v4 (head12 k 0 s)) := (HH.out ▸ HE3.out.low ho4 hb4 hq4); obtain ⟨g4, d4, rfl, hy4⟩ := HE4.out.row HHL.out (by simp [head12]); obtain ⟨c40, c41, c42⟩ := HE4.out.cells; clear ho4 hb4 hq4 HE3 c30 c31 c32)
    | (go_at_call 62; clear T4; refine (sum_any (head12 k 0 s) _ _ _ _ rfl hy4 (by rw [head12_length]; unfold maxLen; omega) (HT.out.keep HE4.out.1)).mono ?_; rintro r w5 ⟨rfl, rfl⟩)
    | (go_at_call 61; clear T5; refine (four_any _ _ HHS.out).mono ?_; rintro r w6 ⟨g6, rfl, hy6, hb6⟩; have HE6 : Hid (EncI w k s (.slice none 0 0) w6 _ (head12 k 0 s)) := HE4.out.call hb6; obtain ⟨c60, c61, c62⟩ := HE6.out.cells; clear hb6 HE4 c40 c41 c42 hy4)
    | (at_builtin; clear T6; refine wpList_append_own _ rfl _ _ 22 rfl w.heap.size 5 i0 (.int .u8 0) 1 1 Tryd.underlying22 hi hz0 hz1 hz2 rfl (by decide) _ _ _ rfl HE6.out.2.2.2 ⟨g6, 0, none⟩ 4 4 (B8 (Crcm.four (Crcm.sum (head12 k 0 s)))) rfl (B8_length _) (bytes_cells hy6) (B8_one _) (by rw [head12_length]; unfold maxLen; omega) (by rw [head12_length]; omega) HE6.out.1.size ?_; intro v7 w7 ho7 hg7 _; have HE7 : Hid (EncI w k s (.slice none 0 0) w7 v7 (headL k 0 s)) := HE6.out.grow hg7 ho7; obtain ⟨c70, c71, c72⟩ := HE7.out.cells; clear ho7 hg7 HE6 c60 c61 c62 hy6)
    | (at_builtin; clear T7; refine wpList_append_own_none rfl _ _ 22 rfl w.heap.size 5 i0 1 Tryd.underlying22 hi _ _ _ rfl HE7.out.2.2.2 rfl ?_; have HE8 : Hid (EncI w k s (.slice none 0 0) w7 v7 (headL k 0 s ++ [])) := (by rw [List.append_nil]; exact HE7.out); obtain ⟨w8, rfl⟩ : ∃ w8, w8 = w7 := ⟨_, rfl⟩; obtain ⟨v8, rfl⟩ : ∃ v8, v8 = v7 := ⟨_, rfl⟩; obtain ⟨c80, c81, c82⟩ := HE8.out.cells; clear HE7 c70 c71 c72)
    | (go_at_call 62; refine (sum_any [] _ _ _ _ rfl (HB.out.keep HE8.out.1) (by unfold maxLen; simp) (HT.out.keep HE8.out.1)).mono ?_; rintro r w9 ⟨rfl, rfl⟩)
    | (go_at_call 61; refine (four_any _ _ HSB.out).mono ?_; rintro r wa ⟨ga, rfl, hya, hba⟩; have HEa : Hid (EncI w k s (.slice none 0 0) wa _ (headL k 0 s ++ [])) := HE8.out.call hba; clear hba HE8 c80 c81 c82)
    | (at_builtin; refine wpList_append_own _ rfl _ _ 22 rfl w.heap.size 5 i0 (.int .u8 0) 1 1 Tryd.underlying22 hi hz0 hz1 hz2 rfl (by decide) _ _ _ rfl HEa.out.2.2.2 ⟨ga, 0, none⟩ 4 4 (B8 (Crcm.four (Crcm.sum []))) rfl (B8_length _) (bytes_cells hya) (B8_one _) (by rw [List.length_append, headL_length]; simp only [List.length_nil]; unfold maxLen; omega) (by rw [List.length_append, headL_length]; simp only [List.length_nil]; omega) HEa.out.1.size ?_; intro vb wb hob hgb _; have HEb : Hid (EncI w k s (.slice none 0 0) wb vb (headL k 0 s ++ [] ++ Crcm.four (Crcm.sum []))) := HEa.out.grow hgb hob; clear hob hgb HEa hya))
  go_ret2
  have hfr : headL k 0 s ++ [] ++ Crcm.four (Crcm.sum []) = frameL k s [] := by unfold frameL; rw [List.append_assoc]; rfl
  have hE := HEb.out
  rw [hfr] at hE
  exact ⟨vb, rfl, ⟨fun i => getD_lt (frameL_lt k s _ (by omega) HB.out.mem) i, hE.2.2.2⟩, hE.1⟩
set_option maxRecDepth 20000 in
set_option maxHeartbeats 1000000 in
theorem fenc_bad (kind seq : Int) (a : Option Addr) (n cap : Nat) (w : World) (hn : n ≤ 281474976710656) (hE : encE kind seq n ≠ 0) :
    Calls Tryd.prog 32 #[FrV kind seq (.slice a n cap)] w fun r w' => r = .returned (.tuple #[.slice none 0 0, .int .i64 (encE kind seq n : Nat)]) ∧ Below w.heap.size w w' := by
  by_cases h1 : inB kind seq = false
  · have HI : Hid (inB kind seq = false) := h1
    have HE : Hid (encE kind seq n = 63) := by show _ = _; unfold encE; rw [if_pos h1]
    clear h1 hE
    go_enter Tryd.func32, Tryd.ntmps32
    go_wp2_with (go_at_call 58; refine (inb_any _ _ _).mono ?_; rw [HI.out]; rintro r w0 ⟨rfl, rfl⟩)
    go_ret2
    exact ⟨by rw [HE.out]; rfl, (Below.refl _ _).alloc (Nat.le_refl _) _⟩
  · have h2 : 16384 < n := by
      unfold encE at hE
      rw [if_neg h1] at hE
      by_cases h : 16384 < n
      · exact h
      · rw [if_neg h] at hE; exact absurd rfl hE
    have HI : Hid (inB kind seq = true) := by show _ = _; simpa using h1
    have HE : Hid (encE kind seq n = 24) := by show _ = _; unfold encE; rw [if_neg h1, if_pos h2]
    have hnI : (16384 : Int) < (n : Int) := by omega
    have hn2 : (n : Int) ≤ 281474976710656 := by omega
    clear h1 hE h2
    go_enter Tryd.func32, Tryd.ntmps32
    go_wp2_with (go_at_call 58; refine (inb_any _ _ _).mono ?_; rw [HI.out]; rintro r w0 ⟨rfl, rfl⟩)
    go_ret2
    exact ⟨by rw [HE.out]; rfl, (Below.refl _ _).alloc (Nat.le_refl _) _⟩
theorem fenc_any (kind seq : Int) (body : List Nat) (n : Nat) (a : Option Addr) (cap : Nat) (w : World) (hn : body.length = n) (hb : Bytes w a body) (hc : a = none → cap = 0) (hl : n ≤ 281474976710656) (ha : ∀ x, a = some x → ∃ b off, x = ⟨b, off, none⟩) (ht : Tab w) :
    Calls Tryd.prog 32 #[FrV kind seq (.slice a n cap)] w fun r w' => ∃ v, r = .returned (.tuple #[v, .int .i64 (encE kind seq n : Nat)]) ∧ Own w' w.heap.size v (encL kind seq body) ∧ Below w.heap.size w w' := by
  subst hn
  by_cases hE : encE kind seq body.length = 0
  · have hx := hE
    unfold encE at hx
    have h1 : inB kind seq = true := by
      by_cases h : inB kind seq = false
      · rw [if_pos h] at hx; omega
      · simpa using h
    rw [if_neg (by rw [h1]; simp)] at hx
    have h2 : ¬ 16384 < body.length := fun h => by rw [if_pos h] at hx; omega
    obtain ⟨k1, k7, s0, s1⟩ := of_decide_eq_true h1
    obtain ⟨k, rfl⟩ := Int.eq_ofNat_of_zero_le (show 0 ≤ kind by omega)
    obtain ⟨s, rfl⟩ := Int.eq_ofNat_of_zero_le s0
    unfold encL
    rw [if_pos hE, hE]
    simp only [Int.toNat_natCast]
    cases a with
    | none =>
      have h3 := hc rfl
      subst h3
      rcases hb.2 with h4 | ⟨b, off, h4, _⟩
      · subst h4
        exact fenc_none k s w (by omega) (by omega) (by omega) ht
      · cases h4
    | some x =>
      obtain ⟨b, off, rfl⟩ := ha x rfl
      exact fenc_some k s body b off cap w (by omega) (by omega) (by omega) (by omega) hb ht
  · refine (fenc_bad kind seq a body.length cap w hl hE).mono ?_
    rintro r w' ⟨rfl, hb'⟩
    refine ⟨_, rfl, ?_, hb'⟩
    unfold encL
    rw [if_neg hE]
    exact ⟨by simp, rfl, .inl ⟨rfl, rfl⟩⟩
end Go.Proofs.YtaegmeilhdbnnaaDoor
namespace Go.Proofs.YtaegmeilhdbnnaaDoor
open Go.ChangeShapes Go.WideShapes Go.ChangeAt Go.RowKit
set_option linter.unusedVariables false
theorem low_q (l : List Nat) (n : Nat) (b off cap : Nat) (w : World) (hn : l.length = n) (h8 : n ≤ 8) (hb : Bytes w (some ⟨b, off, none⟩) l) :
    Calls Tryd.prog 87 #[.slice (some ⟨b, off, none⟩) n cap] w fun e w' => e = .returned (.int .i64 (wrap64 (Crcm.val l))) ∧ w' = w :=
  (low_any l n b off cap w hn h8 hb).mono fun _ _ ⟨h1, h2⟩ => ⟨h1, h2.symm⟩
theorem fsize_q (n : Int) (w : World) : Calls Tryd.prog 59 #[.int .i64 n] w fun e w' => e = .returned (.int .i64 (fsz n)) ∧ w' = w :=
  (fsize_any n w).mono fun _ _ ⟨h1, h2⟩ => ⟨h1, h2.symm⟩
theorem val2 (l : List Nat) (h : 4 ≤ l.length) : Crcm.val ((l.drop 2).take 2) = pn l := by
  rw [drop_at l 2 _ (by omega) rfl, drop_at l 3 _ (by omega) rfl]
  rfl
theorem bytes_sub {w : World} {b off : Nat} {l : List Nat} (h : Bytes w (some ⟨b, off, none⟩) l) (i n : Nat) : Bytes w (some ⟨b, off + i, none⟩) ((l.drop i).take n) := (h.drop i).take n
theorem peekE_60 {l : List Nat} (h : l.length < 16) : peekE l = 60 := by unfold peekE; rw [if_pos h]
theorem peekE_61 {l : List Nat} (h : ¬ l.length < 16) (h2 : l.getD 0 0 ≠ 165) : peekE l = 61 := by unfold peekE; rw [if_neg h, if_pos h2]
theorem peekE_62 {l : List Nat} (h : ¬ l.length < 16) (h2 : ¬ l.getD 0 0 ≠ 165) (h3 : closedB (l.take 16) = false) : peekE l = 62 := by unfold peekE; rw [if_neg h, if_neg h2, if_pos h3]
theorem peekE_63 {l : List Nat} (h : ¬ l.length < 16) (h2 : ¬ l.getD 0 0 ≠ 165) (h3 : ¬ closedB (l.take 16) = false) (h4 : ¬ (pn l ≤ 16384 ∧ 1 ≤ pk l ∧ pk l ≤ 7 ∧ ps l ≤ 1099511627776)) : peekE l = 63 := by unfold peekE; rw [if_neg h, if_neg h2, if_neg h3, if_neg h4]
theorem peekE_0 {l : List Nat} (h : ¬ l.length < 16) (h2 : ¬ l.getD 0 0 ≠ 165) (h3 : ¬ closedB (l.take 16) = false) (h4 : pn l ≤ 16384 ∧ 1 ≤ pk l ∧ pk l ≤ 7 ∧ ps l ≤ 1099511627776) : peekE l = 0 := by unfold peekE; rw [if_neg h, if_neg h2, if_neg h3, if_pos h4]
/-- the answer of Peek -/
abbrev PV (l : List Nat) : Value := .tuple #[.int .i64 (peekK l : Nat), .int .i64 (peekS l : Nat), .int .i64 (peekN l : Nat), .int .i64 (peekE l : Nat)]
theorem pv_bad (l : List Nat) (e : Nat) (h : peekE l = e) (he : e ≠ 0) : PV l = .tuple #[.int .i64 0, .int .i64 0, .int .i64 0, .int .i64 (e : Int)] := by
  have h1 : peekE l ≠ 0 := by rw [h]; exact he
  show Value.tuple #[.int .i64 (peekK l : Nat), .int .i64 (peekS l : Nat), .int .i64 (peekN l : Nat), .int .i64 (peekE l : Nat)] = _
  rw [show peekK l = 0 from if_neg h1, show peekS l = 0 from if_neg h1, show peekN l = 0 from if_neg h1, h]
  rfl
theorem pv_good (l : List Nat) (h : peekE l = 0) : PV l = .tuple #[.int .i64 (pk l : Int), .int .i64 (ps l : Int), .int .i64 ((pn l : Int) + 20), .int .i64 0] := by
  show Value.tuple #[.int .i64 (peekK l : Nat), .int .i64 (peekS l : Nat), .int .i64 (peekN l : Nat), .int .i64 (peekE l : Nat)] = _
  rw [show peekK l = pk l from if_pos h, show peekS l = ps l from if_pos h, show peekN l = pn l + 20 from if_pos h, h]
  rfl
theorem wrap64_small (n : Nat) (h : n ≤ 9223372036854775807) : wrap64 (n : Int) = n := by unfold wrap64; omega
theorem inB_ps (k s : Nat) (hs : s < 18446744073709551616) : inB (k : Int) (wrap64 (s : Int)) = decide (1 ≤ k ∧ k ≤ 7 ∧ s ≤ 1099511627776) := by
  unfold inB
  rw [decide_eq_decide]
  unfold wrap64
  omega
set_option maxRecDepth 20000 in
set_option maxHeartbeats 1000000 in
theorem peek_any (l : List Nat) (n : Nat) (a : Option Addr) (cap : Nat) (w : World) (hn : l.length = n) (hb : Bytes w a l) (hl : l.length ≤ 281474976710656) (hcap : l.length ≤ cap) (ht : Tab w) :
    Calls Tryd.prog 65 #[.slice a n cap] w fun e w' => e = .returned (PV l) ∧ Below w.heap.size w w' := by
  subst hn
  by_cases h16 : l.length < 16
  · have HP : Hid (PV l = _) := pv_bad l 60 (peekE_60 h16) (by decide)
    obtain ⟨n, hN⟩ : ∃ n, l.length = n := ⟨_, rfl⟩
    rw [hN] at h16 ⊢
    have h16I : (n : Int) < 16 := by omega
    clear hN hb ht hl hcap h16
    go_enter Tryd.func65, Tryd.ntmps65
    go_wp2
    exact bodyPost_ret (v := .tuple #[.int .i64 0, .int .i64 0, .int .i64 0, .int .i64 60]) (by simp [results, Tryd.results65, go_sem]) rfl ⟨by rw [HP.out]; rfl, Below.refl _ _⟩
  · have hne : l ≠ [] := by intro h; subst h; simp at h16
    obtain ⟨b, off, rfl, hlt, hcell⟩ := hb.nonempty hne
    have c0 := hcell 0 (by omega)
    have c1 := hcell 1 (by omega)
    rw [Nat.add_zero] at c0
    obtain ⟨x0, e0⟩ : ∃ x, x = l.getD 0 0 := ⟨_, rfl⟩
    obtain ⟨x1, e1⟩ : ∃ x, x = l.getD 1 0 := ⟨_, rfl⟩
    rw [← e0] at c0
    rw [← e1] at c1
    have HC1 : Hid (∀ w', Below w.heap.size w w' → w'.cell? ⟨b, off + 1, none⟩ = some (.int .u8 (x1 : Int))) := fun w' hw' => (hw'.cell (p := ⟨b, off + 1, none⟩) hlt).trans c1
    obtain ⟨n, hN⟩ : ∃ n, l.length = n := ⟨_, rfl⟩
    have hx0 : x0 < 256 := by rw [e0]; exact hb.1 0
    have hx1 : x1 < 256 := by rw [e1]; exact hb.1 1
    by_cases hm : l.getD 0 0 ≠ 165
    · have HP : Hid (PV l = _) := pv_bad l 61 (peekE_61 h16 hm) (by decide)
      rw [hN] at h16 hl hcap ⊢
      have hx : ((x0 : Int) != 165) = true := by simp; omega
      have h16I : ¬ (n : Int) < 16 := by omega
      clear hb ht hcell HC1 e0 e1 hne hm hN c1
      go_enter Tryd.func65, Tryd.ntmps65
      go_wp2
      exact bodyPost_ret (v := .tuple #[.int .i64 0, .int .i64 0, .int .i64 0, .int .i64 61]) (by simp [results, Tryd.results65, go_sem]) rfl ⟨by rw [HP.out]; rfl, Below.refl _ _⟩
    · have hx : ((x0 : Int) != 165) = false := by simp; omega
      have HT : Hid (Tab w) := ht
      have HB : Hid (Bytes w (some ⟨b, off, none⟩) l) := hb
      have HL16 : Hid ((l.take 16).length = 16) := by show _ = _; rw [List.length_take]; omega
      have HM16 : Hid ((l.take 16).length ≤ maxLen) := by show _ ≤ _; rw [HL16.out]; unfold maxLen; omega
      have HC16 : Hid ((l.take 16).length ≤ cap) := by show _ ≤ _; rw [HL16.out]; omega
      by_cases hcl : closedB (l.take 16) = false
      · have HP : Hid (PV l = _) := pv_bad l 62 (peekE_62 h16 hm hcl) (by decide)
        have HCL : Hid (closedB (l.take 16) = false) := hcl
        rw [hN] at h16 hl hcap ⊢
        have h16I : ¬ (n : Int) < 16 := by omega
        have h16c : (16 : Int) ≤ (cap : Int) := by omega
        clear hb ht hcell HC1 e0 e1 hne hm hN c1 hcl
        go_enter Tryd.func65, Tryd.ntmps65
        go_wp2_with (go_at_call 66; refine (closed_any (l.take 16) _ _ _ _ HL16.out (HB.out.take 16) HM16.out HC16.out HT.out).mono ?_; rw [HCL.out]; rintro e w1 ⟨rfl, hb1⟩)
        exact bodyPost_ret (v := .tuple #[.int .i64 0, .int .i64 0, .int .i64 0, .int .i64 62]) (by simp [results, Tryd.results65, go_sem]) rfl ⟨by rw [HP.out]; rfl, hb1⟩
      · have HCL : Hid (closedB (l.take 16) = true) := by show _ = _; simpa using hcl
        have HV2 : Hid (Crcm.val ((l.drop 2).take 2) = pn l) := val2 l (by omega)
        have HV8 : Hid (Crcm.val ((l.drop 4).take 8) = ps l) := rfl
        have hpn : pn l < 65536 := by have := hb.1 2; have := hb.1 3; unfold pn; omega
        have hps : ps l < 18446744073709551616 := by
          have := Crcm.val_lt ((l.drop 4).take 8) (fun x hx => hb.mem x (List.mem_of_mem_drop (List.mem_of_mem_take hx)))
          rw [List.length_take, List.length_drop, Nat.min_eq_left (by omega)] at this
          rw [show (2 : Nat) ^ (8 * 8) = 18446744073709551616 from by decide] at this
          exact this
        have HPK : Hid (pk l = x1) := e1.symm
        have HS2 : Hid (((l.drop 2).take 2).length = 2) := by show _ = _; rw [List.length_take, List.length_drop]; omega
        have HS8 : Hid (((l.drop 4).take 8).length = 8) := by show _ = _; rw [List.length_take, List.length_drop]; omega
        by_cases hall : pn l ≤ 16384 ∧ 1 ≤ pk l ∧ pk l ≤ 7 ∧ ps l ≤ 1099511627776
        · have HP : Hid (PV l = _) := pv_good l (peekE_0 h16 hm hcl hall)
          obtain ⟨p, hp⟩ : ∃ p, pn l = p := ⟨_, rfl⟩
          obtain ⟨s, hs⟩ : ∃ s, ps l = s := ⟨_, rfl⟩
          rw [HPK.out, hp, hs] at HP hall
          rw [hp] at hpn HV2
          rw [hs] at hps HV8
          have HW2 : Hid (wrap64 (p : Int) = p) := wrap64_small p (by omega)
          have HW8 : Hid (wrap64 (s : Int) = s) := wrap64_small s (by omega)
          have HF : Hid (fsz (p : Int) = (p : Int) + 20) := by show _ = _; unfold fsz; rw [if_neg (by omega)]
          have HI : Hid (inB (x1 : Int) (s : Int) = true) := by show _ = _; unfold inB; rw [decide_eq_true_eq]; omega
          have hz : ((p : Int) + 20 == 0) = false := by simp; omega
          rw [hN] at h16 hl hcap ⊢
          have h16I : ¬ (n : Int) < 16 := by omega
          have h16n : 16 ≤ n := by omega
          have h1n : (1 : Int) < (n : Int) := by omega
          have h12n : (12 : Int) ≤ (cap : Int) := by omega
          have h4n : (4 : Int) ≤ (cap : Int) := by omega
          have h16c : (16 : Int) ≤ (cap : Int) := by omega
          have hq2 : ¬ cap = 2 := by omega
          have hq4 : ¬ cap = 4 := by omega
          clear hb ht hcell e0 e1 hne hm hN c1 hcl hp hs HPK hps hpn hall
          go_enter Tryd.func65, Tryd.ntmps65
          go_wp2_with (go_at_call 66; refine (closed_any (l.take 16) _ _ _ _ HL16.out (HB.out.take 16) HM16.out HC16.out HT.out).mono ?_; rw [HCL.out]; rintro e w1 ⟨rfl, hb1⟩; have d1 := HC1.out w1 hb1; clear c0)
          have HB1 : Hid (Bytes w1 (some ⟨b, off, none⟩) l) := HB.out.keep hb1
          have HL8 : Hid (∀ c m, Calls Tryd.prog 87 #[.slice (some ⟨b, off + 4, none⟩) 8 c] (w1.drewN m) fun e w' => e = .returned (.int .i64 (s : Int)) ∧ w' = w1.drewN m) := fun c m => by
            have := low_q ((l.drop 4).take 8) 8 b (off + 4) c (w1.drewN m) HS8.out (by decide) ((bytes_sub HB1.out 4 8).drewN _)
            rw [HV8.out, HW8.out] at this
            exact this
          have HL2 : Hid (∀ c m, Calls Tryd.prog 87 #[.slice (some ⟨b, off + 2, none⟩) 2 c] (w1.drewN m) fun e w' => e = .returned (.int .i64 (p : Int)) ∧ w' = w1.drewN m) := fun c m => by
            have := low_q ((l.drop 2).take 2) 2 b (off + 2) c (w1.drewN m) HS2.out (by decide) ((bytes_sub HB1.out 2 2).drewN _)
            rw [HV2.out, HW2.out] at this
            exact this
          have HFZ : Hid (∀ m, Calls Tryd.prog 59 #[.int .i64 (p : Int)] (w1.drewN m) fun e w' => e = .returned (.int .i64 ((p : Int) + 20)) ∧ w' = w1.drewN m) := fun m => by
            have := fsize_q (p : Int) (w1.drewN m)
            rw [HF.out] at this
            exact this
          go_quiet ((first
            | (go_at_call 87; with_reducible exact Calls.quiet_of_same (HL8.out _ _))
            | (go_at_call 87; with_reducible exact Calls.quiet_of_same (HL2.out _ _))
            | (go_at_call 59; with_reducible exact Calls.quiet_of_same (HFZ.out _))))
          go_wp2_with (go_at_call 58; refine (inb_any _ _ _).mono ?_; rw [HI.out]; rintro e w2 ⟨rfl, rfl⟩)
          exact bodyPost_ret (v := .tuple #[.int .i64 (x1 : Int), .int .i64 (s : Int), .int .i64 ((p : Int) + 20), .int .i64 0]) (by simp [results, Tryd.results65, go_sem]) rfl ⟨by rw [HP.out], below_drewN hb1 _⟩
        · have HP : Hid (PV l = _) := pv_bad l 63 (peekE_63 h16 hm hcl hall) (by decide)
          obtain ⟨p, hp⟩ : ∃ p, pn l = p := ⟨_, rfl⟩
          have hI := inB_ps x1 (ps l) hps
          rw [HPK.out, hp] at hall
          rw [hp] at hpn HV2
          obtain ⟨s, hs⟩ : ∃ s : Int, wrap64 (ps l : Int) = s := ⟨_, rfl⟩
          rw [hs] at hI
          have HW2 : Hid (wrap64 (p : Int) = p) := wrap64_small p (by omega)
          have HW8 : Hid (wrap64 (Crcm.val ((l.drop 4).take 8) : Int) = s) := hs
          rw [hN] at h16 hl hcap ⊢
          have h16I : ¬ (n : Int) < 16 := by omega
          have h16n : 16 ≤ n := by omega
          have h1n : (1 : Int) < (n : Int) := by omega
          have h12n : (12 : Int) ≤ (cap : Int) := by omega
          have h4n : (4 : Int) ≤ (cap : Int) := by omega
          have h16c : (16 : Int) ≤ (cap : Int) := by omega
          have hq2 : ¬ cap = 2 := by omega
          have hq4 : ¬ cap = 4 := by omega
          clear hb ht hcell e0 e1 hne hm hN c1 hcl hp HPK hps HV8 hs
          by_cases hp2 : 16384 < p
          · have HF : Hid (fsz (p : Int) = 0) := by show _ = _; unfold fsz; rw [if_pos (by omega)]
            clear hall hI hpn hp2
            go_enter Tryd.func65, Tryd.ntmps65
            go_wp2_with (go_at_call 66; refine (closed_any (l.take 16) _ _ _ _ HL16.out (HB.out.take 16) HM16.out HC16.out HT.out).mono ?_; rw [HCL.out]; rintro e w1 ⟨rfl, hb1⟩; have d1 := HC1.out w1 hb1; clear c0)
            have HB1 : Hid (Bytes w1 (some ⟨b, off, none⟩) l) := HB.out.keep hb1
            have HL8 : Hid (∀ c m, Calls Tryd.prog 87 #[.slice (some ⟨b, off + 4, none⟩) 8 c] (w1.drewN m) fun e w' => e = .returned (.int .i64 s) ∧ w' = w1.drewN m) := fun c m => by
              have := low_q ((l.drop 4).take 8) 8 b (off + 4) c (w1.drewN m) HS8.out (by decide) ((bytes_sub HB1.out 4 8).drewN _)
              rw [HW8.out] at this
              exact this
            have HL2 : Hid (∀ c m, Calls Tryd.prog 87 #[.slice (some ⟨b, off + 2, none⟩) 2 c] (w1.drewN m) fun e w' => e = .returned (.int .i64 (p : Int)) ∧ w' = w1.drewN m) := fun c m => by
              have := low_q ((l.drop 2).take 2) 2 b (off + 2) c (w1.drewN m) HS2.out (by decide) ((bytes_sub HB1.out 2 2).drewN _)
              rw [HV2.out, HW2.out] at this
              exact this
            have HFZ : Hid (∀ m, Calls Tryd.prog 59 #[.int .i64 (p : Int)] (w1.drewN m) fun e w' => e = .returned (.int .i64 0) ∧ w' = w1.drewN m) := fun m => by
              have := fsize_q (p : Int) (w1.drewN m)
              rw [HF.out] at this
              exact this
            go_quiet ((first
              | (go_at_call 87; with_reducible exact Calls.quiet_of_same (HL8.out _ _))
              | (go_at_call 87; with_reducible exact Calls.quiet_of_same (HL2.out _ _))
              | (go_at_call 59; with_reducible exact Calls.quiet_of_same (HFZ.out _))))
            go_wp2
            exact bodyPost_ret (v := .tuple #[.int .i64 0, .int .i64 0, .int .i64 0, .int .i64 63]) (by simp [results, Tryd.results65, go_sem]) rfl ⟨by rw [HP.out]; rfl, below_drewN hb1 _⟩
          · have HF : Hid (fsz (p : Int) = (p : Int) + 20) := by show _ = _; unfold fsz; rw [if_neg (by omega)]
            have HI : Hid (inB (x1 : Int) s = false) := by show _ = _; rw [hI, decide_eq_false_iff_not]; omega
            have hz : ((p : Int) + 20 == 0) = false := by simp; omega
            clear hall hI hp2
            go_enter Tryd.func65, Tryd.ntmps65
            go_wp2_with (go_at_call 66; refine (closed_any (l.take 16) _ _ _ _ HL16.out (HB.out.take 16) HM16.out HC16.out HT.out).mono ?_; rw [HCL.out]; rintro e w1 ⟨rfl, hb1⟩; have d1 := HC1.out w1 hb1; clear c0)
            have HB1 : Hid (Bytes w1 (some ⟨b, off, none⟩) l) := HB.out.keep hb1
            have HL8 : Hid (∀ c m, Calls Tryd.prog 87 #[.slice (some ⟨b, off + 4, none⟩) 8 c] (w1.drewN m) fun e w' => e = .returned (.int .i64 s) ∧ w' = w1.drewN m) := fun c m => by
              have := low_q ((l.drop 4).take 8) 8 b (off + 4) c (w1.drewN m) HS8.out (by decide) ((bytes_sub HB1.out 4 8).drewN _)
              rw [HW8.out] at this
              exact this
            have HL2 : Hid (∀ c m, Calls Tryd.prog 87 #[.slice (some ⟨b, off + 2, none⟩) 2 c] (w1.drewN m) fun e w' => e = .returned (.int .i64 (p : Int)) ∧ w' = w1.drewN m) := fun c m => by
              have := low_q ((l.drop 2).take 2) 2 b (off + 2) c (w1.drewN m) HS2.out (by decide) ((bytes_sub HB1.out 2 2).drewN _)
              rw [HV2.out, HW2.out] at this
              exact this
            have HFZ : Hid (∀ m, Calls Tryd.prog 59 #[.int .i64 (p : Int)] (w1.drewN m) fun e w' => e = .returned (.int .i64 ((p : Int) + 20)) ∧ w' = w1.drewN m) := fun m => by
              have := fsize_q (p : Int) (w1.drewN m)
              rw [HF.out] at this
              exact this
            go_quiet ((first
              | (go_at_call 87; with_reducible exact Calls.quiet_of_same (HL8.out _ _))
              | (go_at_call 87; with_reducible exact Calls.quiet_of_same (HL2.out _ _))
              | (go_at_call 59; with_reducible exact Calls.quiet_of_same (HFZ.out _))))
            go_wp2_with (go_at_call 58; refine (inb_any _ _ _).mono ?_; rw [HI.out]; rintro e w2 ⟨rfl, rfl⟩)
            exact bodyPost_ret (v := .tuple #[.int .i64 0, .int .i64 0, .int .i64 0, .int .i64 63]) (by simp [results, Tryd.results65, go_sem]) rfl ⟨by rw [HP.out]; rfl, below_drewN hb1 _⟩
end Go.Proofs.YtaegmeilhdbnnaaDoor
namespace Go.Proofs.YtaegmeilhdbnnaaDoor
open Go.ChangeShapes Go.WideShapes Go.ChangeAt Go.RowKit
set_option linter.unusedVariables false
theorem Tryd.infoFr : (Tryd.prog.info? 65).map (·.size) = some 3 := by kernel_rfl
theorem Tryd.info5s : (Tryd.prog.info? 5).map (·.size) = some 1 := by kernel_rfl
theorem FrmAt.loadVar {w : World} {k : Nat} {kind seq : Int} {bv : Value} (h : FrmAt w k kind seq bv) : (Go.loadVar 65 ⟨k, 0, none⟩).run Tryd.prog w = .ok (FrV kind seq bv) w :=
  run_loadVar_row _ _ _ _ _ _ _ h Tryd.underlying65 rfl Tryd.infoFr
theorem FrmAt.load {w : World} {k : Nat} {kind seq : Int} {bv : Value} (h : FrmAt w k kind seq bv) : (Instr.loadAt 65 (.pointer (some ⟨k, 0, none⟩))).run Tryd.prog w = .ok (FrV kind seq bv) w := by
  simp only [Instr.loadAt, Instr.sureAddr, Sem.run_bind, Sem.run_pure, Result.andThen_ok, h.loadVar]
theorem frm_one (kind seq : Int) (bv : Value) (hv : bv.oneCell' = true) : (#[.int .i64 kind, .int .i64 seq, bv] : Array Value).all (·.oneCell') = true := by
  simp [hv]; exact ⟨rfl, rfl⟩
theorem FrmAt.store {w : World} {k : Nat} {kind seq : Int} {bv : Value} (h : FrmAt w k kind seq bv) (kind2 seq2 : Int) (bv2 : Value) (hv : bv2.oneCell' = true) : ∃ w2, (Instr.storeAt 65 (.pointer (some ⟨k, 0, none⟩)) (FrV kind2 seq2 bv2)).run Tryd.prog w = .ok () w2 ∧ FrmAt w2 k kind2 seq2 bv2 ∧ (w2.os = w.os ∧ w2.tape = w.tape ∧ w2.output = w.output) ∧ (∀ j, j ≠ k → w2.heap[j]? = w.heap[j]?) ∧ w2.heap.size = w.heap.size := by
  refine ⟨w.setRow k #[.int .i64 kind2, .int .i64 seq2, bv2], ?_, ?_, ⟨rfl, rfl, rfl⟩, fun j hj => ?_, ?_⟩
  · simp only [Instr.storeAt, Instr.sureAddr, Sem.run_bind, Sem.run_pure, Result.andThen_ok, run_storeVar_row w k 65 65 #[.int .i64 kind, .int .i64 seq, bv] #[.int .i64 kind2, .int .i64 seq2, bv2] h Tryd.infoFr rfl (frm_one kind2 seq2 bv2 hv)]
  · unfold FrmAt at h ⊢
    simp [World.setRow, Array.getElem?_modify, h]
  · simp only [World.setRow, Array.getElem?_modify]
    rw [if_neg (Ne.symm hj)]
  · simp [World.setRow]
theorem frm_load {ops : Array Oper} {rest : List Oper} {a : Act} {w : World} {Q : Exit → Act → World → Prop} {dst : Option Tmp} {ty : TypeId} {pos : String} {after : Array Edge} {x : Operand} (t : TypeId)
    (h : wpList Tryd.prog ops Q (⟨dst, .load t x, ty, pos, after, none⟩ :: rest) a w) : wpList Tryd.prog ops Q (⟨dst, .load t x, ty, pos, after, none⟩ :: rest) a w := h
theorem frm_store {ops : Array Oper} {rest : List Oper} {a : Act} {w : World} {Q : Exit → Act → World → Prop} {dst : Option Tmp} {ty : TypeId} {pos : String} {after : Array Edge} {x y : Operand} (t : TypeId)
    (h : wpList Tryd.prog ops Q (⟨dst, .store t x y, ty, pos, after, none⟩ :: rest) a w) : wpList Tryd.prog ops Q (⟨dst, .store t x y, ty, pos, after, none⟩ :: rest) a w := h
theorem wpList_load_frm {ops : Array Oper} {rest : List Oper} {o : Oper} {a : Act} {w : World} {Q : Exit → Act → World → Prop} (hgd : o.guard = none) (x : Operand) (ho : o.op = .load 65 x)
    {k : Nat} {kind seq : Int} {bv : Value} (hL : FrmAt w k kind seq bv) (hx : a.eval x = .pointer (some ⟨k, 0, none⟩)) (h : wpList Tryd.prog ops Q rest (a.put o.dst (FrV kind seq bv)) w) : wpList Tryd.prog ops Q (o :: rest) a w :=
  wpList_plain hgd fun _ hK => by
    unfold Oper.wp execOp
    simp only [ho, hx, Sem.run_bind, Sem.run_pure, Result.andThen_ok, hL.load]
    exact hK _ _ h
theorem at_copy {ops : Array Oper} {rest : List Oper} {a : Act} {w : World} {Q : Exit → Act → World → Prop} {dst : Option Tmp} {ty : TypeId} {pos : String} {after : Array Edge} {args : Array Operand} {ts : Array TypeId}
    (h : wpList Tryd.prog ops Q (⟨dst, .call { callee := .builtin .copy, args := args, argTypes := ts }, ty, pos, after, none⟩ :: rest) a w) : wpList Tryd.prog ops Q (⟨dst, .call { callee := .builtin .copy, args := args, argTypes := ts }, ty, pos, after, none⟩ :: rest) a w := h
/-- one block, at or above base, is written anew -/
theorem below_one {base k : Nat} {w w1 w2 : World} (hb : Below base w w1) (ho : w2.os = w1.os ∧ w2.tape = w1.tape ∧ w2.output = w1.output) (hh : ∀ j, j ≠ k → w2.heap[j]? = w1.heap[j]?) (hs : w2.heap.size = w1.heap.size) (hk : base ≤ k) : Below base w w2 :=
  ⟨ho.1.trans hb.os, ho.2.1.trans hb.tape, ho.2.2.trans hb.output, by rw [hs]; exact hb.size, fun j hj => (hh j (by omega)).trans (hb.block j hj)⟩
theorem wpList_store_frm {ops : Array Oper} {rest : List Oper} {o : Oper} {a : Act} {w : World} {Q : Exit → Act → World → Prop} (hgd : o.guard = none) (x y : Operand) (ho : o.op = .store 65 x y) (hd : o.dst = none)
    {k : Nat} {kind seq kind2 seq2 : Int} {bv bv2 : Value} (hL : FrmAt w k kind seq bv) (hv : bv2.oneCell' = true) (hx : a.eval x = .pointer (some ⟨k, 0, none⟩)) (hy : a.eval y = FrV kind2 seq2 bv2)
    (h : ∀ w2, FrmAt w2 k kind2 seq2 bv2 → (w2.os = w.os ∧ w2.tape = w.tape ∧ w2.output = w.output) → (∀ j, j ≠ k → w2.heap[j]? = w.heap[j]?) → w2.heap.size = w.heap.size → wpList Tryd.prog ops Q rest a w2) : wpList Tryd.prog ops Q (o :: rest) a w :=
  wpList_plain hgd fun _ hK => by
    obtain ⟨w2, h1, h2, h3, h4, h5⟩ := hL.store kind2 seq2 bv2 hv
    unfold Oper.wp execOp
    simp only [ho, hx, hy, Sem.run_bind, Sem.run_pure, Result.andThen_ok, h1]
    have hp : a.put o.dst undef = a := by rw [hd]; rfl
    exact hK _ _ (by rw [hp]; exact h w2 h2 h3 h4 h5)
theorem results_frm3 {fn : Func} {p t u : Tmp} (h : fn.results = #[.cell p 65, .tmp t, .tmp u]) (tmps : Array Value) (w : World) (k : Nat) {kind seq : Int} {bv : Value} (hp : tmps.getD p undef = .pointer (some ⟨k, 0, none⟩)) (hl : FrmAt w k kind seq bv) :
    (results fn tmps).run Tryd.prog w = .ok (.tuple #[FrV kind seq bv, tmps.getD t undef, tmps.getD u undef]) w := by
  simp only [Array.getD_eq_getD_getElem?] at hp
  simp [results, h, hp, asAddr, hl.loadVar]
theorem results_frm2 {fn : Func} {p t : Tmp} (h : fn.results = #[.cell p 65, .tmp t]) (tmps : Array Value) (w : World) (k : Nat) {kind seq : Int} {bv : Value} (hp : tmps.getD p undef = .pointer (some ⟨k, 0, none⟩)) (hl : FrmAt w k kind seq bv) :
    (results fn tmps).run Tryd.prog w = .ok (.tuple #[FrV kind seq bv, tmps.getD t undef]) w := by
  simp only [Array.getD_eq_getD_getElem?] at hp
  simp [results, h, hp, asAddr, hl.loadVar]
/-- the answer of Decode -/
abbrev DV (l : List Nat) (v : Value) : Value := .tuple #[FrV (decK l : Nat) (decS l : Nat) v, .int .i64 (decN l : Nat), .int .i64 (decE l : Nat)]
theorem dv_bad (l : List Nat) (e : Nat) (h : decE l = e) (he : e ≠ 0) : DV l (.slice none 0 0) = .tuple #[FrV 0 0 (.slice none 0 0), .int .i64 0, .int .i64 (e : Int)] ∧ decB l = [] := by
  have h1 : decE l ≠ 0 := by rw [h]; exact he
  refine ⟨?_, if_neg h1⟩
  show Value.tuple #[FrV (decK l : Nat) (decS l : Nat) _, .int .i64 (decN l : Nat), .int .i64 (decE l : Nat)] = _
  rw [show decK l = 0 from if_neg h1, show decS l = 0 from if_neg h1, show decN l = 0 from if_neg h1, h]
  rfl
theorem dv_none (l : List Nat) (v : Value) (e : Nat) (h : decE l = e) (he : e ≠ 0) : DV l v = .tuple #[FrV 0 0 v, .int .i64 0, .int .i64 (e : Int)] ∧ decB l = [] := by
  have h1 : decE l ≠ 0 := by rw [h]; exact he
  refine ⟨?_, if_neg h1⟩
  show Value.tuple #[FrV (decK l : Nat) (decS l : Nat) _, .int .i64 (decN l : Nat), .int .i64 (decE l : Nat)] = _
  rw [show decK l = 0 from if_neg h1, show decS l = 0 from if_neg h1, show decN l = 0 from if_neg h1, h]
  rfl
theorem dv_good (l : List Nat) (v : Value) (h : decE l = 0) : DV l v = .tuple #[FrV (pk l : Int) (ps l : Int) v, .int .i64 ((pn l : Int) + 20), .int .i64 0] ∧ decB l = (l.drop 16).take (pn l) := by
  refine ⟨?_, if_pos h⟩
  show Value.tuple #[FrV (decK l : Nat) (decS l : Nat) _, .int .i64 (decN l : Nat), .int .i64 (decE l : Nat)] = _
  rw [show decK l = pk l from if_pos h, show decS l = ps l from if_pos h, show decN l = pn l + 20 from if_pos h, h]
  rfl
theorem own_none (w : World) (base : Nat) : Own w base (.slice none 0 0) [] := ⟨by simp, rfl, .inl ⟨rfl, rfl⟩⟩
theorem own_heap {w : World} {base g m : Nat} {xs : List Value} (h : w.ownsRow base 5 1 (.slice (some ⟨g, 0, none⟩) m m) m xs) : w.heap[g]? = some (.cells xs.toArray 5 (0, 0)) := by
  rcases h.2 with ⟨h2, _⟩ | ⟨g', cap, cur, h3, h4, h5, h6, h7, h8, h9⟩
  · cases h2
  · cases h3
    have e1 : cur.toList = xs := by
      rw [← h9, List.take_of_length_le (by simp; omega)]
    rw [h5, ← e1]
theorem own_of_heap {w : World} {base g m : Nat} {xs : List Value} (hb : base ≤ g) (hm : m ≤ maxLen) (hl : xs.length = m) (h : w.heap[g]? = some (.cells xs.toArray 5 (0, 0))) : w.ownsRow base 5 1 (.slice (some ⟨g, 0, none⟩) m m) m xs :=
  ⟨by omega, .inr ⟨g, m, xs.toArray, rfl, hb, h, Nat.le_refl _, hm, by simp; omega, by rw [List.take_of_length_le (by simp; omega)]⟩⟩
theorem splice_whole {α : Type} (L cs : List α) (h : cs.length = L.length) : splice L 0 cs = cs := by
  unfold splice
  rw [Nat.zero_add, h, List.drop_of_length_le (Nat.le_refl _), List.take_zero, List.nil_append, List.append_nil]
theorem own_but {w w' : World} {base j g n m cap : Nat} {v : Value} {xs : List Value} (h : w.ownsRow base 5 1 v n xs) (hv : v = .slice (some ⟨g, 0, none⟩) m cap) (hh : ∀ k, k ≠ j → w'.heap[k]? = w.heap[k]?) (hj : j < g) : w'.ownsRow base 5 1 v n xs := by
  refine ⟨h.1, ?_⟩
  rcases h.2 with h2 | ⟨g', cap', cur, h3, h4, h5, h6⟩
  · exact .inl h2
  · have hg : g' = g := by rw [hv] at h3; cases h3; rfl
    subst hg
    exact .inr ⟨g', cap', cur, h3, h4, (hh g' (by omega)).trans h5, h6⟩
set_option maxRecDepth 20000 in
set_option maxHeartbeats 1000000 in
theorem fdec_any (l : List Nat) (n : Nat) (a : Option Addr) (cap : Nat) (w : World) (hn : l.length = n) (hb : Bytes w a l) (hl : l.length ≤ 281474976710656) (hcap : l.length ≤ cap) (ht : Tab w) :
    Calls Tryd.prog 36 #[.slice a n cap] w fun r w' => ∃ v, r = .returned (DV l v) ∧ Own w' w.heap.size v (decB l) ∧ Below w.heap.size w w' := by
  have HF0 : Hid (FrmAt (w.alloc (.cells #[.int .i64 0, .int .i64 0, .slice none 0 0] 65)) w.heap.size 0 0 (.slice none 0 0)) := FrmAt.new w 0 0 (.slice none 0 0)
  have HB0 : Hid (Below w.heap.size w (w.alloc (.cells #[.int .i64 0, .int .i64 0, .slice none 0 0] 65))) := (Below.refl _ _).alloc (Nat.le_refl _) _
  have HPK : Hid (∀ w1, Below w.heap.size w w1 → Calls Tryd.prog 65 #[.slice a n cap] w1 fun e w' => e = .returned (PV l) ∧ Below w1.heap.size w1 w') := fun w1 hb1 => peek_any l n a cap w1 hn (hb.keep hb1) hl hcap (ht.keep hb1)
  by_cases hp : peekE l = 0
  · obtain ⟨h16, h1, h2, h3, h4, h5, h6⟩ := peekE_zero hp
    have hne : l ≠ [] := by intro h; subst h; simp at h16
    obtain ⟨b, off, rfl, hlt, _⟩ := hb.nonempty hne
    have HPV : Hid (PV l = _) := pv_good l hp
    have HB : Hid (Bytes w (some ⟨b, off, none⟩) l) := hb
    have HT : Hid (Tab w) := ht
    obtain ⟨p, hpp⟩ : ∃ p, pn l = p := ⟨_, rfl⟩
    obtain ⟨s, hss⟩ : ∃ s, ps l = s := ⟨_, rfl⟩
    obtain ⟨k, hkk⟩ : ∃ k, pk l = k := ⟨_, rfl⟩
    rw [hpp, hss, hkk] at HPV
    rw [hpp] at h3
    by_cases hsz : l.length < pn l + 20
    · have HD : Hid (_ ∧ _) := dv_bad l 60 (by unfold decE; rw [if_neg (by omega), if_pos hsz]) (by decide)
      rw [hpp] at hsz
      rw [hn] at hsz
      have hszI : (n : Int) < (p : Int) + 20 := by omega
      clear hb ht hcap hl hn h1 h2 h4 h5 h6 hne hp hsz hpp hss hkk h16
      go_enter Tryd.func36, Tryd.ntmps36
      go_wp2_with (first
        | (go_at_call 65; refine (HPK.out _ HB0.out).mono ?_; rw [HPV.out]; rintro r w1 ⟨rfl, hb1⟩; have HF1 : Hid (FrmAt w1 w.heap.size 0 0 (.slice none 0 0)) := HF0.out.keep hb1; have HB1 : Hid (Below w.heap.size w w1) := HB0.out.trans (hb1.mono (by simp)); clear hb1)
        | ((with_reducible refine frm_store 65 ?_); refine wpList_store_frm rfl _ _ rfl rfl HF1.out rfl rfl rfl ?_; intro w2 hf2 ho2 hh2 hs2; have HF2 : Hid (FrmAt w2 w.heap.size 0 0 (.slice none 0 0)) := hf2; have HB2 : Hid (Below w.heap.size w w2) := below_one HB1.out ho2 hh2 hs2 (Nat.le_refl _); clear hf2 ho2 hh2 hs2))
      refine bodyPost_ret (results_frm3 rfl _ _ w.heap.size rfl HF2.out) rfl ⟨.slice none 0 0, by rw [HD.out.1]; rfl, by rw [HD.out.2]; exact own_none _ _, HB2.out⟩
    · obtain ⟨q, hq⟩ : ∃ q, p + 20 = q := ⟨_, rfl⟩
      have hlq : q ≤ n := by rw [← hn]; omega
      have HL4 : Hid (((l.take (pn l + 20)).drop 16).length = p + 4) := by show _ = _; rw [List.length_drop, List.length_take]; omega
      have HLM : Hid (((l.take (pn l + 20)).drop 16).length ≤ maxLen) := by show _ ≤ _; rw [HL4.out]; unfold maxLen; omega
      have HLC : Hid (((l.take (pn l + 20)).drop 16).length ≤ cap - 16) := by show _ ≤ _; rw [HL4.out]; omega
      have HBc : Hid (∀ w1, Below w.heap.size w w1 → Bytes w1 (some ⟨b, off + 16, none⟩) ((l.take (pn l + 20)).drop 16)) := fun w1 hb1 => ((hb.keep hb1).take (pn l + 20)).drop 16
      rw [show (p : Int) + 20 = (q : Int) from by omega] at HPV
      have hqI : ¬ (n : Int) < (q : Int) := by omega
      have hq16 : q - 16 = p + 4 := by omega
      have hqc : (q : Int) ≤ (cap : Int) := by omega
      have hq1 : (16 : Int) ≤ (q : Int) := by omega
      have hqn : ¬ cap = 16 := by omega
      have hqp : (q : Int) - 16 - 4 = (p : Int) := by omega
      have hnI : (n : Int) ≤ 281474976710656 := by omega
      have hnc : n ≤ cap := by omega
      have h16n : 16 ≤ n := by omega
      by_cases hcl : closedB ((l.take (pn l + 20)).drop 16) = false
      · have HD : Hid (_ ∧ _) := dv_bad l 62 (by unfold decE; rw [if_neg (by omega), if_neg hsz, if_pos hcl]) (by decide)
        have HCL : Hid (_ = false) := hcl
        clear hb ht hcap hl hn h1 h2 h4 h5 h6 hne hp hsz hpp hss hkk h16 hcl
        go_enter Tryd.func36, Tryd.ntmps36
        go_wp2_with (first
          | (go_at_call 65; refine (HPK.out _ HB0.out).mono ?_; rw [HPV.out]; rintro r w1 ⟨rfl, hb1⟩; have HF1 : Hid (FrmAt w1 w.heap.size 0 0 (.slice none 0 0)) := HF0.out.keep hb1; have HB1 : Hid (Below w.heap.size w w1) := HB0.out.trans (hb1.mono (by simp)); clear hb1)
          | (go_at_call 66; refine (closed_any ((l.take (pn l + 20)).drop 16) _ _ _ _ HL4.out (HBc.out _ HB1.out) HLM.out HLC.out (HT.out.keep HB1.out)).mono ?_; rw [HCL.out]; rintro r w3 ⟨rfl, hb3⟩; have HF3 : Hid (FrmAt w3 w.heap.size 0 0 (.slice none 0 0)) := HF1.out.keep hb3; have HB3 : Hid (Below w.heap.size w w3) := below_next HB1.out hb3; clear hb3)
          | ((with_reducible refine frm_store 65 ?_); refine wpList_store_frm rfl _ _ rfl rfl HF3.out rfl rfl rfl ?_; intro w2 hf2 ho2 hh2 hs2; have HF2 : Hid (FrmAt w2 w.heap.size _ _ _) := hf2; have HB2 : Hid (Below w.heap.size w w2) := below_one HB3.out ho2 hh2 hs2 (Nat.le_refl _); clear hf2 ho2 hh2 hs2))
        refine bodyPost_ret (results_frm3 rfl _ _ w.heap.size rfl HF2.out) rfl ⟨.slice none 0 0, by rw [HD.out.1]; rfl, by rw [HD.out.2]; exact own_none _ _, HB2.out⟩
      · obtain ⟨i0, hi, hz0, hz1, hz2⟩ := info_parts Tryd.info5f
        have HD : Hid (∀ v, _ ∧ _) := fun v => dv_good l v (by unfold decE; rw [if_neg (by omega), if_neg hsz, if_neg hcl])
        have HCL : Hid (closedB ((l.take (pn l + 20)).drop 16) = true) := by show _ = _; simpa using hcl
        rw [hpp, hss, hkk] at HD
        have HBD : Hid (((l.drop 16).take p).length = p) := by show _ = _; rw [List.length_take, List.length_drop]; omega
        have HBB : Hid (∀ w1, Below w.heap.size w w1 → Bytes w1 (some ⟨b, off + 16, none⟩) ((l.drop 16).take p)) := fun w1 hb1 => ((hb.keep hb1).drop 16).take p
        have HBY : Hid (∀ i, ((l.drop 16).take p).getD i 0 < 256) := fun i => (HBB.out w (Below.refl _ _)).1 i
        have hpm : p ≤ maxLen := by unfold maxLen; omega
        have hqz : (p : Int) + 20 = (q : Int) := by omega
        have HQZ : Hid ((p : Int) + 20 = (q : Int)) := hqz
        clear hb ht hcap hl hn h1 h2 h4 h5 h6 hne hp hsz hpp hss hkk h16 hcl hqz
        go_enter Tryd.func36, Tryd.ntmps36
        go_wp2_with (first
          | (go_at_call 65; refine (HPK.out _ HB0.out).mono ?_; rw [HPV.out]; rintro r w1 ⟨rfl, hb1⟩; have HF1 : Hid (FrmAt w1 w.heap.size 0 0 (.slice none 0 0)) := HF0.out.keep hb1; have HB1 : Hid (Below w.heap.size w w1) := HB0.out.trans (hb1.mono (by simp)); clear hb1)
          | (go_at_call 66; refine (closed_any ((l.take (pn l + 20)).drop 16) _ _ _ _ HL4.out (HBc.out _ HB1.out) HLM.out HLC.out (HT.out.keep HB1.out)).mono ?_; rw [HCL.out]; rintro r w3 ⟨rfl, hb3⟩; have HF3 : Hid (FrmAt w3 w.heap.size 0 0 (.slice none 0 0)) := HF1.out.keep hb3; have HB3 : Hid (Below w.heap.size w w3) := below_next HB1.out hb3; clear hb3)
          | (at_make; refine wpList_make_full _ rfl _ _ 22 rfl w3.heap.size 5 i0 (.int .u8 0) 1 Tryd.underlying22 hi hz0 hz1 _ _ _ _ p rfl rfl (by omega) (by omega) (by rw [hz2]; omega) hpm (Nat.le_refl _) ?_; intro w4 ho4 hg4; rw [show (p * 1) = p from Nat.mul_one p, show (Value.int IntKind.u8 0).cells = #[.int .u8 0] from rfl, toList_madeCells_one] at ho4; have hb4 : Below w3.heap.size w3 w4 := (Below.refl _ _).grown hg4 (Nat.le_refl _) (fun k hk => by cases hk); have HF4 : Hid (FrmAt w4 w.heap.size 0 0 (.slice none 0 0)) := HF3.out.keep hb4; have HB4 : Hid (Below w.heap.size w w4) := below_next HB3.out hb4; have HO4 : Hid (_) := own_heap ho4; have HS3 : Hid (w.heap.size < w3.heap.size) := lt_of_heap HF3.out; clear ho4 hg4 hb4)
          | ((with_reducible refine at_copy ?_); refine wpList_copy_splice rfl _ _ _ _ rfl 5 Tryd.underlying22 Tryd.info5s _ _ _ _ _ _ rfl rfl w3.heap.size 0 _ 5 HO4.out (B8 ((l.drop 16).take p)) (by rw [B8_length, HBD.out]; simp only [Nat.mul_one]; exact (Nat.min_eq_right (by omega)).symm) (fun _ => ⟨rfl, _, rfl, bytes_cells (HBB.out w4 HB4.out)⟩) (by rw [B8_length, HBD.out]; simp) (B8_one _) w3.heap.size w4 (Below.refl _ _) (Nat.le_refl _) ?_; intro w5 hg5 hb5; have HO5 : Hid (Own w5 w.heap.size (.slice (some ⟨w3.heap.size, 0, none⟩) p p) ((l.drop 16).take p)) := ⟨HBY.out, by rw [HBD.out]; refine own_of_heap (Nat.le_of_lt HS3.out) hpm (by rw [B8_length, HBD.out]; simp) ?_; rw [hg5.out, splice_whole _ _ (by rw [List.length_replicate, B8_length, HBD.out, Nat.mul_one])]⟩; have HB5 : Hid (Below w.heap.size w w5) := HB4.out.trans (hb5.mono (Nat.le_of_lt HS3.out)); have HF5 : Hid (FrmAt w5 w.heap.size 0 0 (.slice none 0 0)) := (hb5.block w.heap.size HS3.out).trans HF4.out; clear hg5 hb5 HO4)
          | ((with_reducible refine frm_store 65 ?_); refine wpList_store_frm rfl _ _ rfl rfl HF5.out rfl rfl rfl ?_; intro w2 hf2 ho2 hh2 hs2; have HF2 : Hid (FrmAt w2 w.heap.size _ _ _) := hf2; have HB2 : Hid (Below w.heap.size w w2) := below_one HB5.out ho2 hh2 hs2 (Nat.le_refl _); have HO2 : Hid (Own w2 w.heap.size (.slice (some ⟨w3.heap.size, 0, none⟩) p p) ((l.drop 16).take p)) := ⟨HO5.out.1, own_but HO5.out.2 rfl hh2 HS3.out⟩; clear hf2 ho2 hh2 hs2))
        refine bodyPost_ret (results_frm3 rfl _ _ w.heap.size rfl HF2.out) rfl ⟨.slice (some ⟨w3.heap.size, 0, none⟩) p p, by rw [(HD.out _).1, HQZ.out]; rfl, by rw [(HD.out (.slice none 0 0)).2]; exact HO2.out, HB2.out⟩
  · obtain ⟨e, he⟩ : ∃ e, peekE l = e := ⟨_, rfl⟩
    have HPV : Hid (PV l = _) := pv_bad l e he (by omega)
    have HD : Hid (_ ∧ _) := dv_bad l e (by unfold decE; rw [if_pos hp, he]) (by omega)
    have heI : ((e : Int) != 0) = true := by simp; omega
    clear hb ht hcap hl hn hp he
    go_enter Tryd.func36, Tryd.ntmps36
    go_wp2_with (first
      | (go_at_call 65; refine (HPK.out _ HB0.out).mono ?_; rw [HPV.out]; rintro r w1 ⟨rfl, hb1⟩; have HF1 : Hid (FrmAt w1 w.heap.size 0 0 (.slice none 0 0)) := HF0.out.keep hb1; have HB1 : Hid (Below w.heap.size w w1) := HB0.out.trans (hb1.mono (by simp)); clear hb1)
      | ((with_reducible refine frm_store 65 ?_); refine wpList_store_frm rfl _ _ rfl rfl HF1.out rfl rfl rfl ?_; intro w2 hf2 ho2 hh2 hs2; have HF2 : Hid (FrmAt w2 w.heap.size _ _ _) := hf2; have HB2 : Hid (Below w.heap.size w w2) := below_one HB1.out ho2 hh2 hs2 (Nat.le_refl _); clear hf2 ho2 hh2 hs2))
    refine bodyPost_ret (results_frm3 rfl _ _ w.heap.size rfl HF2.out) rfl ⟨.slice none 0 0, by rw [HD.out.1]; rfl, by rw [HD.out.2]; exact own_none _ _, HB2.out⟩
end Go.Proofs.YtaegmeilhdbnnaaDoor
namespace Go.Proofs.YtaegmeilhdbnnaaDoor
open Go.ChangeShapes Go.WideShapes Go.ChangeAt Go.RowKit Go.Shelf
set_option linter.unusedVariables false
attribute [local go_sem] Oper.semAt_some
/-- a frame of a text, and where it begins -/
structure Fm where
  pos : Nat
  kind : Nat
  seq : Nat
  body : List Nat
/-- the frames from a place on, up to the first that is none -/
def scanN : Nat → List Nat → Nat → List Fm
  | 0, _, _ => []
  | f + 1, l, p => if p < l.length ∧ decE (l.drop p) = 0 then ⟨p, decK (l.drop p), decS (l.drop p), decB (l.drop p)⟩ :: scanN f l (p + decN (l.drop p)) else []
def scanL (l : List Nat) : List Fm := scanN (l.length + 1) l 0
theorem decN_pos {l : List Nat} (h : decE l = 0) : 20 ≤ decN l ∧ decN l ≤ l.length ∧ decN l = (decB l).length + 20 := by
  obtain ⟨h1, h2, h3⟩ := decE_zero h
  unfold decN decB
  rw [if_pos h, if_pos h, List.length_take, List.length_drop]
  omega
theorem scanN_fuel (l : List Nat) : ∀ (f g p : Nat), l.length + 1 ≤ f + p → l.length + 1 ≤ g + p → scanN f l p = scanN g l p
  | 0, 0, p, _, _ => rfl
  | 0, g + 1, p, h1, _ => by unfold scanN; rw [if_neg (by omega)]
  | f + 1, 0, p, _, h2 => by unfold scanN; rw [if_neg (by omega)]
  | f + 1, g + 1, p, h1, h2 => by
    unfold scanN
    by_cases h : p < l.length ∧ decE (l.drop p) = 0
    · rw [if_pos h, if_pos h, scanN_fuel l f g _ (by have := (decN_pos h.2).1; omega) (by have := (decN_pos h.2).1; omega)]
    · rw [if_neg h, if_neg h]
/-- the frames from place p on -/
def scanAt (l : List Nat) (p : Nat) : List Fm := scanN (l.length + 1) l p
theorem scanAt_step (l : List Nat) (p : Nat) (h1 : p < l.length) (h2 : decE (l.drop p) = 0) : scanAt l p = ⟨p, decK (l.drop p), decS (l.drop p), decB (l.drop p)⟩ :: scanAt l (p + decN (l.drop p)) := by
  unfold scanAt
  rw [scanN, if_pos ⟨h1, h2⟩, scanN_fuel l l.length (l.length + 1) _ (by have := (decN_pos h2).1; omega) (by omega)]
theorem scanAt_end (l : List Nat) (p : Nat) (h : ¬ (p < l.length ∧ decE (l.drop p) = 0)) : scanAt l p = [] := by
  unfold scanAt
  rw [scanN, if_neg h]
/-- how many bytes the frame has with which a text begins -/
def AtN (l : List Nat) : Nat := decN l
/-- what the iterator hands on: a frame, and the value that bears its body -/
structure It where
  fm : Fm
  bv : Value
abbrev itV (x : It) : Array Value := #[.int .i64 (x.fm.pos : Int), FrV (x.fm.kind : Int) (x.fm.seq : Int) x.bv]
/-- what a round keeps: all below n₀, and block k -/
def KB (n₀ k : Nat) (W W' : World) : Prop := Below n₀ W W' ∧ (k < W.heap.size → W'.heap[k]? = W.heap[k]?)
theorem KB.trans {n₀ k : Nat} {A B C : World} (h : KB n₀ k A B) (g : KB n₀ k B C) : KB n₀ k A C :=
  ⟨h.1.trans g.1, fun hk => (g.2 (Nat.lt_of_lt_of_le hk h.1.size)).trans (h.2 hk)⟩
theorem KB.put {n₀ k : Nat} (W : World) (l : Nat) (o o' : Obj) (h1 : n₀ ≤ l) (h2 : k < l) (hl : W.heap[l]? = some o) : KB n₀ k W (W.putObj l o') := by
  have hlt := (Array.getElem?_eq_some_iff.1 hl).1
  exact ⟨(Below.refl n₀ W).grown (grownBy_putObj' W l o') (by omega) (fun j e => by cases e; exact h1), fun hk => World.putObj_heap_other (by omega)⟩
theorem grown_of_below {w w' : World} (h : Below w.heap.size w w') : w.grownBy w' none := ⟨h.os, h.tape, h.output, h.size, fun k hk _ => h.block k hk⟩
theorem AbidesFrom.below {α : Type} {B : Nat} {J : List α → World → Prop} (h : AbidesFrom B J) {s : List α} {w w' : World} (hs : J s w) (hb : Below w.heap.size w w') : J s w' := h s w w' none hs (grown_of_below hb) (fun r e => by cases e)
set_option maxHeartbeats 1000000 in
theorem each_in (n : Nat) (a : Option Addr) (m cap : Nat) (w : World) :
    CallsIn Fence.wide n Tryd.prog 70 #[.slice a m cap] w fun e w' => e = .returned (.func (.func 88) #[] #[.pointer (some ⟨w.heap.size, 0, none⟩)]) ∧ w' = w.alloc (.cells #[.slice a m cap] 22) := by
  refine callsIn_of_wp Tryd.func70 rfl trivial ?_ rfl
  simp only [Tryd.ntmps70, List.size_toArray, List.length_cons, List.length_nil, Nat.reduceAdd, Nat.reduceSub, Array.replicate_succ, Array.replicate_zero, List.push_toArray, List.append_toArray, List.nil_append, List.cons_append]
  gi_wp2
  go_ret
  exact ⟨rfl, rfl⟩
set_option maxRecDepth 100000 in
set_option maxHeartbeats 4000000 in
/-- the iterator itself -/
theorem each1_in (n : Nat) (hn : 1 ≤ n) (l : List Nat) (m k : Nat) (a : Option Addr) (cap : Nat) (w : World) (hm : l.length = m) (hb : Bytes w a l) (hcap : m ≤ cap) (hl : m ≤ 140737488351232) (ht : Tab w)
    (lp : Nat) (J Jx : List It → World → Prop) (W : World) (hk0 : w.heap.size ≤ k) (hk : W.heap[k]? = some (.cells #[.slice a m cap] 22)) (hbe : Below w.heap.size w W) (hJ : AbidesFrom W.heap.size J)
    (hY : ∀ pre x W1, J pre W1 → ((pre ++ [x]).map It.fm <+: scanL l ∧ Own W1 w.heap.size x.bv x.fm.body) → YieldAt Fence.wide (n - 1) Tryd.prog lp (itV x) W1 fun e W' =>
      (e = .returned (.bool true) ∧ J (pre ++ [x]) W' ∧ KB w.heap.size k W1 W') ∨ (e = .returned (.bool false) ∧ Jx (pre ++ [x]) W')) (h0 : J [] W) :
    CallsIn Fence.wide n Tryd.prog 88 (#[.func (.yield lp) #[] #[]] ++ #[.pointer (some ⟨k, 0, none⟩)]) W fun e W' => (∃ v, e = .returned v) ∧ ((∃ xs : List It, xs.map It.fm = scanL l ∧ J xs W') ∨ (∃ pre : List It, pre.map It.fm <+: scanL l ∧ Jx pre W')) := by
  have HX : Hid (l.length = m ∧ Bytes w a l ∧ m ≤ cap ∧ Tab w) := ⟨hm, hb, hcap, ht⟩
  have HY : Hid (∀ pre x W1, J pre W1 → ((pre ++ [x]).map It.fm <+: scanL l ∧ Own W1 w.heap.size x.bv x.fm.body) → YieldAt Fence.wide (n - 1) Tryd.prog lp (itV x) W1 fun e W' =>
      (e = .returned (.bool true) ∧ J (pre ++ [x]) W' ∧ KB w.heap.size k W1 W') ∨ (e = .returned (.bool false) ∧ Jx (pre ++ [x]) W')) := hY
  have HJ : Hid (AbidesFrom W.heap.size J) := hJ
  have hmI : (m : Int) ≤ 140737488351232 := by omega
  have f24 : Fence.wide.fn 36 := trivial
  clear hm hb hcap ht hY hJ
  refine callsIn_of_wp Tryd.func88 rfl trivial ?_ rfl
  simp only [Tryd.ntmps88, List.size_toArray, List.length_cons, List.length_nil, Nat.reduceAdd, Nat.reduceSub, Array.replicate_succ, Array.replicate_zero, List.push_toArray, List.append_toArray, List.nil_append, List.cons_append]
  gi_wp2
  gi_loopw [3] (fun vp wr => ∃ (pre : List It) (p : Nat), vp = .int .i64 p ∧ p ≤ m ∧ pre.map It.fm ++ scanAt l p = scanL l ∧ J pre wr ∧ wr.heap[k]? = some (.cells #[.slice a m cap] 22) ∧ Below w.heap.size w wr ∧ W.heap.size ≤ wr.heap.size) (fun vp _ => m - (intOf vp).toNat)
  case atStart => exact ⟨[], 0, rfl, Nat.zero_le _, rfl, h0, hk, hbe, Nat.le_refl _⟩
  case round =>
    obtain ⟨pre, p, rfl, hp, hsc, hJp, hkr, hbr, hsz⟩ := hrel
    have c0 : wr.cell? ⟨k, 0, none⟩ = some (.slice a m cap) := by rw [cell_of_row _ _ 0 _ _ _ hkr]; rfl
    have HSC : Hid (pre.map It.fm ++ scanAt l p = scanL l) := hsc
    by_cases hpm : p < m
    · have hlp : p < l.length := by rw [HX.out.1]; exact hpm
      have hne : l ≠ [] := by intro h; rw [h] at hlp; simp at hlp
      obtain ⟨b, off, rfl, hlt, _⟩ := HX.out.2.1.nonempty hne
      have HBq : Hid (Bytes wr (some ⟨b, off + p, none⟩) (l.drop p)) := (HX.out.2.1.keep hbr).drop p
      have HTr : Hid (Tab wr) := HX.out.2.2.2.keep hbr
      obtain ⟨q, hq⟩ : ∃ q, l.drop p = q := ⟨_, rfl⟩
      have hql : q.length = m - p := by rw [← hq, List.length_drop, HX.out.1]
      have HQL : Hid (q.length = m - p ∧ q.length ≤ 281474976710656 ∧ q.length ≤ cap - p) := ⟨hql, by omega, by have := HX.out.2.2.1; omega⟩
      have HBQ : Hid (Bytes wr (some ⟨b, off + p, none⟩) q) := by rw [← hq]; exact HBq.out
      have HQ : Hid (l.drop p = q) := hq
      have hpc : (p : Int) ≤ (cap : Int) := by have := HX.out.2.2.1; omega
      have hpn : (p : Int) ≤ (m : Int) := by omega
      have hpc2 : (p : Int) < (cap : Int) := by have := HX.out.2.2.1; omega
      obtain ⟨K, hK⟩ : ∃ K, decK q = K := ⟨_, rfl⟩
      obtain ⟨S, hS⟩ : ∃ S, decS q = S := ⟨_, rfl⟩
      obtain ⟨N, hN⟩ : ∃ N, AtN q = N := ⟨_, rfl⟩
      obtain ⟨E, hE⟩ : ∃ E, decE q = E := ⟨_, rfl⟩
      obtain ⟨B, hB⟩ : ∃ B, decB q = B := ⟨_, rfl⟩
      have HV : Hid (∀ v, DV q v = .tuple #[FrV (K : Int) (S : Int) v, .int .i64 (N : Int), .int .i64 (E : Int)] ∧ decB q = B) := fun v => ⟨by rw [← hK, ← hS, ← hN, ← hE]; rfl, hB⟩
      by_cases hE0 : E = 0
      · subst hE0
        have hdn := decN_pos hE
        have hN2 : 20 ≤ N ∧ p + N ≤ m := by rw [← hN]; unfold AtN; omega
        have HST : Hid (scanAt l p = ⟨p, K, S, B⟩ :: scanAt l (p + N)) := by show _ = _; rw [scanAt_step l p hlp (by rw [hq]; exact hE), hq, hK, hS, hB, ← hN]; rfl
        clear hq hql hK hS hN hE hB hdn hsc hlp hne HBq
        gi_wp2_with (gi_at_call 36; refine (callsIn_wide.2 (fdec_any q _ _ _ _ HQL.out.1 HBQ.out HQL.out.2.1 HQL.out.2.2 HTr.out)).mono ?_; rintro e w2 ⟨v2, rfl, ho2, hb2⟩; rw [(HV.out v2).1]; rw [(HV.out v2).2] at ho2; obtain ⟨a2, c2, hv2, _⟩ := ho2.shape; subst hv2; have hb1 : Below wr.heap.size wr (w2.alloc (.cells #[.int .i64 (K : Int), .int .i64 (S : Int), .slice a2 B.length c2] 65)) := hb2.alloc hb2.size _; have hX1 : (pre ++ [(⟨⟨p, K, S, B⟩, .slice a2 B.length c2⟩ : It)]).map It.fm <+: scanL l ∧ Own (w2.alloc (.cells #[.int .i64 (K : Int), .int .i64 (S : Int), .slice a2 B.length c2] 65)) w.heap.size (.slice a2 B.length c2) B := ⟨⟨scanAt l (p + N), (by rw [← HSC.out, HST.out]; simp)⟩, ⟨ho2.1, World.ownsRow.alloc (World.ownsRow.mono ho2.2 hbr.size) _⟩⟩; obtain ⟨fn, tmps, assign, body, hy, hR⟩ := HY.out pre ⟨⟨p, K, S, B⟩, .slice a2 B.length c2⟩ (w2.alloc (.cells #[.int .i64 (K : Int), .int .i64 (S : Int), .slice a2 B.length c2] 65)) (AbidesFrom.below HJ.out hJp hb1) hX1; have HR : Hid (_) := hR; have HK1 : Hid ((w2.alloc (.cells #[.int .i64 (K : Int), .int .i64 (S : Int), .slice a2 B.length c2] 65)).heap[k]? = some (.cells #[.slice (some ⟨b, off, none⟩) m cap] 22) ∧ Below w.heap.size w (w2.alloc (.cells #[.int .i64 (K : Int), .int .i64 (S : Int), .slice a2 B.length c2] 65)) ∧ W.heap.size ≤ (w2.alloc (.cells #[.int .i64 (K : Int), .int .i64 (S : Int), .slice a2 B.length c2] 65)).heap.size) := ⟨(hb1.block k (lt_of_heap hkr)).trans hkr, hbr.trans (hb1.mono hbr.size), Nat.le_trans hsz hb1.size⟩; clear ho2 hb2 hX1 hb1 hR)
        refine RoundIn.mono HR.out ?_
        clear HR
        rintro e W3 (⟨rfl, hJ3, hk3⟩ | ⟨rfl, hJx3⟩)
        · have HK3 : Hid (W3.heap[k]? = some (.cells #[.slice (some ⟨b, off, none⟩) m cap] 22) ∧ Below w.heap.size w W3 ∧ W.heap.size ≤ W3.heap.size) := ⟨(hk3.2 (lt_of_heap HK1.out.1)).trans HK1.out.1, HK1.out.2.1.trans hk3.1, Nat.le_trans HK1.out.2.2 hk3.1.size⟩
          clear hk3 HK1
          gi_wp2
          go_roundw
          case rel => exact ⟨_, p + N, by go_num, by omega, by rw [← HSC.out, HST.out]; simp, hJ3, HK3.out.1, HK3.out.2.1, HK3.out.2.2⟩
          case measure => simp [intOf]; omega
        · gi_wp2
          refine bodyPost_ret (results_none rfl _ _ _) rfl ?_
          exact ⟨⟨_, rfl⟩, .inr ⟨_, ⟨scanAt l (p + N), by rw [← HSC.out, HST.out]; simp⟩, hJx3⟩⟩
      · have heb : ((E : Int) != 0) = true := by simp; omega
        have HFI : Hid (pre.map It.fm = scanL l) := by
          have h := HSC.out
          rw [scanAt_end l p (by rw [hq, hE]; exact fun h => hE0 h.2), List.append_nil] at h
          exact h
        clear hq hql hK hS hN hE hB hsc hlp hne HBq hE0
        gi_wp2_with (gi_at_call 36; refine (callsIn_wide.2 (fdec_any q _ _ _ _ HQL.out.1 HBQ.out HQL.out.2.1 HQL.out.2.2 HTr.out)).mono ?_; rintro e w2 ⟨v2, rfl, ho2, hb2⟩; rw [(HV.out v2).1]; rw [(HV.out v2).2] at ho2; obtain ⟨a2, c2, hv2, _⟩ := ho2.shape; subst hv2; have hJ1 : J pre (w2.alloc (.cells #[.int .i64 (K : Int), .int .i64 (S : Int), .slice a2 B.length c2] 65)) := AbidesFrom.below HJ.out hJp (hb2.alloc hb2.size _); clear ho2 hb2)
        refine ⟨fun _ h => (by cases h), ?_⟩
        gi_wp2
        refine bodyPost_ret (results_none rfl _ _ _) rfl ?_
        exact ⟨⟨_, rfl⟩, .inl ⟨pre, HFI.out, hJ1⟩⟩
    · have HFI : Hid (pre.map It.fm = scanL l) := by
        have h := HSC.out
        rw [scanAt_end l p (by rw [HX.out.1]; exact fun h => hpm h.1), List.append_nil] at h
        exact h
      clear hsc
      gi_wp2
      go_end0
      exact ⟨⟨_, rfl⟩, .inl ⟨pre, HFI.out, hJp⟩⟩
end Go.Proofs.YtaegmeilhdbnnaaDoor
