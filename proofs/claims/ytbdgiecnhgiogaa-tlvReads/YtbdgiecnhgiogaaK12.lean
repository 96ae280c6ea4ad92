/- Own texts, joined: Tlk, Rd0. -/
import Derived.Test.YtbdgiecnhgiogaaK11
import Derived.Deep.LoopGhost
import Derived.Maps.OwnSet
namespace Go.Proofs.Ytbdgiecnhgiogaa
open Go.ChangeShapes Go.WideShapes Go.ChangeAt Go.RowKit
set_option linter.unusedVariables false
theorem Try.infoFd : (Try.prog.info? 32).map (fun i => (i.zero, i.size, i.bytes)) = some (some (.agg #[.int .i64 0, .bool false, .int .u64 0, .slice none 0 0]), 4, 48) := by kernel_rfl
/-- Decode's answer -/
def DecPost (w : World) (l : List Nat) (r : Ending) (w' : World) : Prop := ∃ v L, r = .returned (.tuple #[v, .int .i64 ((recs l).2.1 : Int), .int .i64 ((recs l).2.2 : Int)]) ∧ (recs l).1 = L.map Prod.fst ∧ Rws w' w.heap.size v L ∧ Below w.heap.size w w'
theorem news4 (w : World) (p : Fld) (bv : Value) (e : TypeId) : ∀ j u, [Value.int .i64 p.tag, .bool p.text, .int .u64 (p.num : Int), bv][j]? = some u → (w.alloc (.cells #[.int .i64 p.tag, .bool p.text, .int .u64 (p.num : Int), bv] e)).cell? ((⟨w.heap.size, 0, none⟩ : Addr).add j) = some u := by
  intro j u hj
  have hr : (w.alloc (.cells #[.int .i64 p.tag, .bool p.text, .int .u64 (p.num : Int), bv] e)).heap[w.heap.size]? = some (.cells #[.int .i64 p.tag, .bool p.text, .int .u64 (p.num : Int), bv] e) := by simp only [World.alloc, Array.getElem?_push]; rw [if_pos trivial]
  rw [show (⟨w.heap.size, 0, none⟩ : Addr).add j = ⟨w.heap.size, j, none⟩ from by simp [Addr.add]; exact fun h => h.symm, cell_of_row _ _ j _ _ _ hr]
  simpa using hj
theorem one4 (p : Fld) (bv : Value) (h : bv.oneCell' = true) : ∀ u ∈ [Value.int .i64 p.tag, .bool p.text, .int .u64 (p.num : Int), bv], u.oneCell' = true := by
  intro u hu
  simp only [List.mem_cons, List.not_mem_nil, or_false] at hu
  rcases hu with rfl | rfl | rfl | rfl
  · rfl
  · rfl
  · rfl
  · exact h
theorem DecB.cells {w wr : World} {a : Option Addr} {n cap i bg : Nat} {v0 : Value} (h : DecB w wr a n cap i bg v0) : wr.cell? ⟨w.heap.size + 1 + 1 + 1, 1, none⟩ = some (.int .i64 (i : Int)) ∧ wr.cell? ⟨w.heap.size + 1 + 1 + 1 + 1, 0, none⟩ = some (.int .i64 (bg : Int)) ∧ wr.frozen? ⟨w.heap.size + 1 + 1 + 1 + 1, 0, none⟩ = false ∧ wr.cell? ⟨w.heap.size, 0, none⟩ = some v0 ∧ wr.frozen? ⟨w.heap.size, 0, none⟩ = false ∧ wr.cell? ⟨w.heap.size + 1, 0, none⟩ = some (.int .i64 0) ∧ wr.frozen? ⟨w.heap.size + 1, 0, none⟩ = false ∧ wr.cell? ⟨w.heap.size + 1 + 1, 0, none⟩ = some (.int .i64 0) ∧ wr.frozen? ⟨w.heap.size + 1 + 1, 0, none⟩ = false :=
  ⟨h.cur.cells.2.1, by rw [cell_of_row _ _ 0 _ _ _ h.beg]; rfl, frozen_of_row _ _ 0 _ _ h.beg, by rw [cell_of_row _ _ 0 _ _ _ h.fs]; rfl, frozen_of_row _ _ 0 _ _ h.fs, by rw [cell_of_row _ _ 0 _ _ _ h.at0]; rfl, frozen_of_row _ _ 0 _ _ h.at0, by rw [cell_of_row _ _ 0 _ _ _ h.er]; rfl, frozen_of_row _ _ 0 _ _ h.er⟩
theorem Rws.drewN {w : World} {base : Nat} {v : Value} {L : List (Fld × Value)} (h : Rws w base v L) (m : Nat) : Rws (w.drewN m) base v L := by
  induction m with
  | zero => exact h
  | succ m ih => exact ih.same (fun _ _ _ => rfl)
theorem Rws.alloc {w : World} {base : Nat} {v : Value} {L : List (Fld × Value)} (h : Rws w base v L) (o : Obj) : Rws (w.alloc o) base v L := h.same (fun k _ hk => Below.heap_alloc w o k hk)
/-- behind the closure that caught a panic -/
theorem caught {w w2 : World} (x : Value) (bg e : Int) {v : Value} (h1 : w2.heap[w.heap.size]? = some (.cells #[v] 26)) (h2 : w2.heap[w.heap.size + 1]? = some (.cells #[.int .i64 0] 3)) (h3 : w2.heap[w.heap.size + 1 + 1]? = some (.cells #[.int .i64 0] 38)) (hb : Below w.heap.size w w2) (m : Nat) :
    ∃ W, (((w2.setCell ⟨w.heap.size, 0, none⟩ x).setCell ⟨w.heap.size + 1, 0, none⟩ (.int .i64 bg)).setCell ⟨w.heap.size + 1 + 1, 0, none⟩ (.int .i64 e)).drewN m = W ∧ W.cell? ⟨w.heap.size, 0, none⟩ = some x ∧ W.cell? ⟨w.heap.size + 1, 0, none⟩ = some (.int .i64 bg) ∧ W.cell? ⟨w.heap.size + 1 + 1, 0, none⟩ = some (.int .i64 e) ∧ Below w.heap.size w W := by
  have a1 := heap_setCell_same w2 (w.heap.size) 0 _ _ x h1
  have b1 := (heap_setCell_other w2 ⟨w.heap.size, 0, none⟩ (w.heap.size + 1) x (by show w.heap.size + 1 ≠ w.heap.size; omega)).trans h2
  have c1 := (heap_setCell_other w2 ⟨w.heap.size, 0, none⟩ (w.heap.size + 1 + 1) x (by show w.heap.size + 1 + 1 ≠ w.heap.size; omega)).trans h3
  have a2 := (heap_setCell_other (w2.setCell ⟨w.heap.size, 0, none⟩ x) ⟨w.heap.size + 1, 0, none⟩ (w.heap.size) (.int .i64 bg) (by show w.heap.size ≠ w.heap.size + 1; omega)).trans a1
  have b2 := heap_setCell_same (w2.setCell ⟨w.heap.size, 0, none⟩ x) (w.heap.size + 1) 0 _ _ (.int .i64 bg) b1
  have c2 := (heap_setCell_other (w2.setCell ⟨w.heap.size, 0, none⟩ x) ⟨w.heap.size + 1, 0, none⟩ (w.heap.size + 1 + 1) (.int .i64 bg) (by show w.heap.size + 1 + 1 ≠ w.heap.size + 1; omega)).trans c1
  have a3 := (heap_setCell_other ((w2.setCell ⟨w.heap.size, 0, none⟩ x).setCell ⟨w.heap.size + 1, 0, none⟩ (.int .i64 bg)) ⟨w.heap.size + 1 + 1, 0, none⟩ (w.heap.size) (.int .i64 e) (by show w.heap.size ≠ w.heap.size + 1 + 1; omega)).trans a2
  have b3 := (heap_setCell_other ((w2.setCell ⟨w.heap.size, 0, none⟩ x).setCell ⟨w.heap.size + 1, 0, none⟩ (.int .i64 bg)) ⟨w.heap.size + 1 + 1, 0, none⟩ (w.heap.size + 1) (.int .i64 e) (by show w.heap.size + 1 ≠ w.heap.size + 1 + 1; omega)).trans b2
  have c3 := heap_setCell_same ((w2.setCell ⟨w.heap.size, 0, none⟩ x).setCell ⟨w.heap.size + 1, 0, none⟩ (.int .i64 bg)) (w.heap.size + 1 + 1) 0 _ _ (.int .i64 e) c2
  have hd : ∀ (X : World) (p : Addr), (X.drewN m).cell? p = X.cell? p := fun X p => by simp
  refine ⟨_, rfl, ?_, ?_, ?_, ?_⟩
  · rw [hd, cell_of_row _ _ 0 _ _ _ a3]; rfl
  · rw [hd, cell_of_row _ _ 0 _ _ _ b3]; rfl
  · rw [hd, cell_of_row _ _ 0 _ _ _ c3]; rfl
  · have hB := ((hb.setCell (p := ⟨w.heap.size, 0, none⟩) (Nat.le_refl _) x).setCell (p := ⟨w.heap.size + 1, 0, none⟩) (by show w.heap.size ≤ w.heap.size + 1; omega) (.int .i64 bg)).setCell (p := ⟨w.heap.size + 1 + 1, 0, none⟩) (by show w.heap.size ≤ w.heap.size + 1 + 1; omega) (.int .i64 e)
    clear hd
    induction m with
    | zero => exact hB
    | succ m ih => exact ih.drew
theorem own_form {w : World} {base : Nat} {e : TypeId} {size : Nat} {v : Value} {n : Nat} {xs : List Value} (h : w.ownsRow base e size v n xs) (hn : 0 < n) : ∃ g cap, v = .slice (some ⟨g, 0, none⟩) n cap := by
  rcases h.2 with ⟨_, h2⟩ | ⟨g, cap, cur, h3, _⟩
  · omega
  · exact ⟨g, cap, h3⟩
theorem next_parts {l : List Nat} {A : Int} {F : Fld} {sz : Nat} (h : next l A = (F, sz, 0)) : (next l A).1 = F ∧ (next l A).2.1 = sz ∧ (next l A).2.2 = 0 := by rw [h]; exact ⟨rfl, rfl, rfl⟩
/-- f's own block is not touched by the append -/
theorem tag_kept {w2 w4 : World} {base n : Nat} {v : Value} {xs : List Value} {T : TypeId} {t0 t1 t2 t3 : Value} {o : Obj} (ho : w2.ownsRow base T 4 v n xs) (hg : ((w2.alloc (.cells #[t0, t1, t2, t3] T)).alloc o).grownBy w4 v.ownBlock) : w4.cell? ⟨w2.heap.size, 0, none⟩ = some t0 := by
  have h1 : ((w2.alloc (.cells #[t0, t1, t2, t3] T)).alloc o).heap[w2.heap.size]? = some (.cells #[t0, t1, t2, t3] T) := by
    simp only [World.alloc, Array.getElem?_push, Array.size_push]
    rw [if_neg (by omega), if_pos trivial]
  have h2 : w4.heap[w2.heap.size]? = some (.cells #[t0, t1, t2, t3] T) := by
    rw [hg.block _ (lt_of_heap h1) (fun h => ?_)]
    · exact h1
    · have := (ho.lt _ h.symm).2
      omega
  rw [cell_of_row _ _ 0 _ _ _ h2]; rfl
set_option maxRecDepth 20000 in
set_option maxHeartbeats 1000000 in
theorem tdec_any (l : List Nat) (b off n cap : Nat) (w : World) (hn : l.length = n) (hb : Bytes w (some ⟨b, off, none⟩) l) (hcap : n ≤ cap) (hl : n ≤ 1024) (h0 : 0 < n) :
    Calls Try.prog 26 #[.slice (some ⟨b, off, none⟩) n cap] w fun r w' => DecPost w l r w' := by
  have hmf : ∀ (fn : Fn) (first cap : Array Value) (w : World), (Instr.makeFunc fn first cap).run Try.prog w = .ok (.func fn first cap) w := fun _ _ _ _ => rfl
  obtain ⟨i0, hi, hz0, hz1, hz2⟩ := info_parts Try.infoFd
  obtain ⟨W, hW, hD⟩ := lay5 w (some ⟨b, off, none⟩) n cap
  have HW : Hid (_ = W) := hW
  have hblt : b < w.heap.size := by
    obtain ⟨b', off', hx, hlt, _⟩ := hb.nonempty (by intro h; subst h; simp at hn; omega)
    cases hx; exact hlt
  have hbc : b ≠ w.heap.size + 1 + 1 + 1 := by omega
  have HB : Hid (∀ w', Below w.heap.size w w' → Bytes w' (some ⟨b, off, none⟩) l) := fun w' h => hb.keep h
  have HMEM : Hid (∀ j, ∀ x ∈ l.drop j, x < 256) := fun j x hx => hb.mem x (List.mem_of_mem_drop hx)
  have HN : Hid (l.length = n) := hn
  have HD : Hid (DecB w W (some ⟨b, off, none⟩) n cap 0 0 (.slice none 0 0)) := hD
  have HR : Hid (recs l = decs (n + 1) l 0 0 []) := by show _ = _; unfold recs; rw [if_neg (by omega), hn]
  clear hb hn hD hW
  go_enter_defers Try.func26, Try.ntmps26
  go_wp2
  rw [HW.out]
  go_loopg [7] n (fun k va wr => ∃ (fuel i bg : Nat) (A : Int) (L : List (Fld × Value)) (v : Value), va = .int .i64 A ∧ i ≤ n ∧ k = n - i ∧ Hid (recs l = decs (fuel + 1) l A i (L.map Prod.fst) ∧ n - i ≤ fuel ∧ L.length ≤ i ∧ DecB w wr (some ⟨b, off, none⟩) n cap i bg v ∧ Rws wr (w.heap.size + 5) v L))
  case atStart => exact ⟨n, 0, 0, 0, [], .slice none 0 0, rfl, Nat.zero_le _, rfl, HR.out, by omega, by simp, HD.out, Rws.nil _ _⟩
  case round =>
    obtain ⟨fuel, i, bg, A, L, v, rfl, hin, hgk, HI⟩ := hrel
    have HGK : Hid (gk = n - i) := hgk
    obtain ⟨k1, k2, z2, _, _, _, _, _, _⟩ := HI.out.2.2.2.1.cells
    clear HR HD HW hmf hgk
    by_cases hlt : i < n
    · have hne : decide (i = n) = false := by simp; omega
      have HNE : Hid (decide (i = n) = false) := hne
      clear hne
      go_wp2_with (first
        | (go_at_call 39; refine (done_any _ _ n cap i _ HI.out.2.2.2.1.cur).mono ?_; rw [HNE.out]; rintro r w1 ⟨rfl, m1, rfl⟩)
        | (go_at_call 40; have hD1 := (HI.out.2.2.2.1.drewN m1).begin i; have hR1 : Rws ((wr.drewN m1).setCell ⟨w.heap.size + 1 + 1 + 1 + 1, 0, none⟩ (.int .i64 (i : Int))) (w.heap.size + 5) v L := (HI.out.2.2.2.2.drewN m1).same (fun k hk _ => heap_setCell_other _ ⟨w.heap.size + 1 + 1 + 1 + 1, 0, none⟩ k _ (by show k ≠ w.heap.size + 1 + 1 + 1 + 1; omega)); refine (field_any l b off n cap i _ A _ hD1.cur HN.out (HB.out _ hD1.bel) hbc hcap hl hin).mono ?_; rintro r w2 ⟨hr, hk2⟩; have HD1 : Hid (DecB w _ (some ⟨b, off, none⟩) n cap i i v) := hD1; have HR1 : Hid (Rws _ (w.heap.size + 5) v L) := hR1; have HK2 : Hid (Kept _ _ _ w2) := hk2; clear hD1 hR1 hk2; rcases hr with ⟨F, sz, bv, hnx, rfl, hob, hc2⟩ | ⟨e, he, hnx, rfl⟩; (obtain ⟨a5, cap5, rfl, _, _, _, _⟩ := hob.shape; obtain ⟨_, _, _, hsz1, hsz2, _, _, _, _, _, _⟩ := next_right (l.drop i) (HMEM.out i) A F sz hnx; rw [List.length_drop, HN.out] at hsz1; have hD2 := HD1.out.kept HK2.out hc2; have HD2 : Hid (DecB w w2 (some ⟨b, off, none⟩) n cap (i + sz) i v) := hD2; have HR2 : Hid (Rws w2 (w.heap.size + 5) v L) := HR1.out.same (fun k hk hlt => HK2.out.block k hlt (by omega) (by omega)); have HOB : Hid (Own w2 (w.heap.size + 5) (.slice a5 F.bytes.length cap5) F.bytes) := ⟨hob.1, hob.2.mono HD1.out.size⟩; have HNX : Hid (next (l.drop i) A = (F, sz, 0)) := hnx; obtain ⟨_, _, _, hv, hzv, _, _, _, _⟩ := hD2.cells; have hvA := (hD2.alloc (.cells #[.int .i64 F.tag, .bool F.text, .int .u64 (F.num : Int), .slice a5 F.bytes.length cap5] 32)).cells.2.2.2.1; have hs2 := hD2.size; have hS1 : ¬ w.heap.size = w2.heap.size := (by omega); have hS2 : ¬ w2.heap.size = w.heap.size := (by omega); clear hD2 hob hc2 hnx))
        | ((with_reducible refine guard_load 32 ?_); refine wpList_load_fld rfl _ rfl (FldAt.new w2 F.tag F.text F.num _) rfl ?_)
        | (at_builtin; have hR3 : Rws ((w2.alloc (.cells #[.int .i64 F.tag, .bool F.text, .int .u64 (F.num : Int), .slice a5 F.bytes.length cap5] 32)).alloc (.cells #[.int .i64 F.tag, .bool F.text, .int .u64 (F.num : Int), .slice a5 F.bytes.length cap5] 32)) (w.heap.size + 5) v L := (HR2.out.alloc _).alloc _; refine wpList_append_own _ rfl _ _ 26 rfl (w.heap.size + 5) 32 i0 _ 4 48 Try.underlying26 hi hz0 hz1 hz2 rfl (by decide) _ _ _ rfl hR3.own ⟨w2.heap.size + 1, 0, none⟩ 1 1 [.int .i64 F.tag, .bool F.text, .int .u64 (F.num : Int), .slice a5 F.bytes.length cap5] rfl rfl (by have h := news4 (w2.alloc (.cells #[.int .i64 F.tag, .bool F.text, .int .u64 (F.num : Int), .slice a5 F.bytes.length cap5] 32)) F (.slice a5 F.bytes.length cap5) 32; simpa using h) (one4 _ _ rfl) (by have := HI.out.2.2.1; unfold maxLen; omega) (by have := HI.out.2.2.1; omega) (by simp; omega) ?_; intro v4 w4 ho4 hg4 _; obtain ⟨g4, cap4, rfl⟩ := own_form ho4 (by omega); have HR3 : Hid (Rws ((w2.alloc (.cells #[.int .i64 F.tag, .bool F.text, .int .u64 (F.num : Int), .slice a5 F.bytes.length cap5] 32)).alloc (.cells #[.int .i64 F.tag, .bool F.text, .int .u64 (F.num : Int), .slice a5 F.bytes.length cap5] 32)) (w.heap.size + 5) v L) := hR3; have HG4 : Hid (((w2.alloc (.cells #[.int .i64 F.tag, .bool F.text, .int .u64 (F.num : Int), .slice a5 F.bytes.length cap5] 32)).alloc (.cells #[.int .i64 F.tag, .bool F.text, .int .u64 (F.num : Int), .slice a5 F.bytes.length cap5] 32)).grownBy w4 v.ownBlock) := hg4; have HO4 : Hid (w4.ownsRow (w.heap.size + 5) 32 4 (.slice (some ⟨g4, 0, none⟩) (L.length + 1) cap4) (L.length + 1) (flat L ++ [.int .i64 F.tag, .bool F.text, .int .u64 (F.num : Int), .slice a5 F.bytes.length cap5])) := ho4; have hD4 := ((HD2.out.alloc (.cells #[.int .i64 F.tag, .bool F.text, .int .u64 (F.num : Int), .slice a5 F.bytes.length cap5] 32)).alloc (.cells #[.int .i64 F.tag, .bool F.text, .int .u64 (F.num : Int), .slice a5 F.bytes.length cap5] 32)).grown hg4 (fun k hk => (hR3.own.lt k hk).1); obtain ⟨_, _, _, hv4, hzv4, _, _, _, _⟩ := hD4.cells; have HD4 : Hid (DecB w w4 (some ⟨b, off, none⟩) n cap (i + sz) i v) := hD4; have htg := tag_kept HR2.out.own hg4; clear hD4 ho4 hg4 hR3))
      · go_roundg (n - (i + sz))
        case rel =>
          obtain ⟨f', rfl⟩ : ∃ f', fuel = f' + 1 := ⟨fuel - 1, by have := HI.out.2.1; omega⟩
          refine ⟨f', i + sz, i, F.tag, L ++ [(F, .slice a5 F.bytes.length cap5)], _, rfl, by omega, rfl, ?_, by have := HI.out.2.1; omega, by have := HI.out.2.2.1; simp; omega, HD4.out.put _, ?_, ?_⟩
          · rw [HI.out.1, decs_succ, if_neg (by rw [HN.out]; omega), (next_parts HNX.out).1, (next_parts HNX.out).2.1, (next_parts HNX.out).2.2, if_neg (by simp), List.map_append]; rfl
          · rw [List.length_append, flat_append]
            exact own_same2 HO4.out (fun k hk _ => heap_setCell_other w4 ⟨w.heap.size, 0, none⟩ k _ (by show k ≠ w.heap.size; omega))
          · intro p hp
            have hsame : ∀ k, w.heap.size + 5 ≤ k → k < w4.heap.size → (w4.setCell ⟨w.heap.size, 0, none⟩ (.slice (some ⟨g4, 0, none⟩) (L.length + 1) cap4)).heap[k]? = w4.heap[k]? := fun k hk _ => heap_setCell_other w4 ⟨w.heap.size, 0, none⟩ k _ (by show k ≠ w.heap.size; omega)
            rcases List.mem_append.1 hp with hp | hp
            · have h := own_grown HR3.out.own HG4.out (HR3.out.byt p hp)
              exact ⟨h.1, own_same2 h.2 hsame⟩
            · obtain rfl := List.mem_singleton.1 hp
              have hA : Own ((w2.alloc (.cells #[.int .i64 F.tag, .bool F.text, .int .u64 (F.num : Int), .slice a5 F.bytes.length cap5] 32)).alloc (.cells #[.int .i64 F.tag, .bool F.text, .int .u64 (F.num : Int), .slice a5 F.bytes.length cap5] 32)) (w.heap.size + 5) (.slice a5 F.bytes.length cap5) F.bytes := ⟨HOB.out.1, (HOB.out.2.alloc _).alloc _⟩
              have h := own_grown HR3.out.own HG4.out hA
              exact ⟨h.1, own_same2 h.2 hsame⟩
        case measure => have := HGK.out; omega
      · obtain ⟨_, q1, q2, q3, q4, qb⟩ := HD1.out.keptB HK2.out
        have r1 := q1.trans HD1.out.fs
        have r2 := q2.trans HD1.out.at0
        have r3 := q3.trans HD1.out.er
        have r4 := q4.trans HD1.out.beg
        refine leaves_cons (f := 38) (args := #[.pointer (some ⟨w.heap.size + 1 + 1 + 1 + 1, 0, none⟩), .pointer (some ⟨w.heap.size, 0, none⟩), .pointer (some ⟨w.heap.size + 1, 0, none⟩), .pointer (some ⟨w.heap.size + 1 + 1, 0, none⟩)]) (by simp) (by simp [go_sem]) ?_
        refine (dclos_catch (w.heap.size + 1 + 1 + 1 + 1) w.heap.size (w.heap.size + 1) (w.heap.size + 1 + 1) (i : Int) (e : Int) v 0 0 [] w2 (by rw [cell_of_row _ _ 0 _ _ _ r4]; rfl) (by rw [cell_of_row _ _ 0 _ _ _ r1]; rfl) (by rw [cell_of_row _ _ 0 _ _ _ r2]; rfl) (by rw [cell_of_row _ _ 0 _ _ _ r3]; rfl) (by omega) (by omega) (by omega) (by omega) (by omega) (by omega) (frozen_of_row _ _ 0 _ _ r1) (frozen_of_row _ _ 0 _ _ r2) (frozen_of_row _ _ 0 _ _ r3)).mono ?_
        rintro r u' w3 ⟨rfl, rfl, m3, rfl⟩
        obtain ⟨W3, hW3, s1, s2, s3, s4⟩ := caught (.slice none 0 0) (i : Int) (e : Int) r1 r2 r3 qb m3
        rw [hW3]
        have hre : recs l = ([], i, e) := by rw [HI.out.1, decs_succ, if_neg (by rw [HN.out]; omega), hnx, if_pos he]
        exact ⟨_, results_cells3 rfl _ _ _ _ _ _ _ _ rfl rfl rfl (loadFs s1) (loadI s2) (loadE s3), _, [], by rw [hre], by rw [hre]; rfl, Rws.nil _ _, s4⟩
    · have hne : decide (i = n) = true := by simp; omega
      have HNE : Hid (decide (i = n) = true) := hne
      obtain rfl : i = n := by omega
      obtain ⟨xa, xn, xc, rfl⟩ : ∃ xa xn xc, v = .slice xa xn xc := by
        rcases HI.out.2.2.2.2.own.2 with ⟨h, _⟩ | ⟨g, cap, cur, h, _⟩
        · exact ⟨_, _, _, h⟩
        · exact ⟨_, _, _, h⟩
      obtain ⟨_, _, _, y1, y2, y3, y4, y5, y6⟩ := HI.out.2.2.2.1.cells
      have hn1 : ¬ w.heap.size = w.heap.size + 1 := by omega
      have hn2 : ¬ w.heap.size + 1 = w.heap.size := by omega
      have hn3 : ¬ w.heap.size + 1 + 1 = w.heap.size := by omega
      have hn4 : ¬ w.heap.size + 1 + 1 = w.heap.size + 1 := by omega
      clear hne
      go_wp2_with (go_at_call 39; refine (done_any _ _ _ cap _ _ HI.out.2.2.2.1.cur).mono ?_; rw [HNE.out]; rintro r w1 ⟨rfl, m1, rfl⟩)
      refine leaves_cons (f := 38) (args := #[.pointer (some ⟨w.heap.size + 1 + 1 + 1 + 1, 0, none⟩), .pointer (some ⟨w.heap.size, 0, none⟩), .pointer (some ⟨w.heap.size + 1, 0, none⟩), .pointer (some ⟨w.heap.size + 1 + 1, 0, none⟩)]) (by simp) (by simp [go_sem]) ?_
      refine (dclos_idle _ _ _ _ _).mono ?_
      rintro r u' w3 ⟨rfl, rfl, rfl⟩
      have hDD := HI.out.2.2.2.1.drewN m1
      obtain ⟨W3, hW3, s1, s2, s3, s4⟩ := caught (.slice xa xn xc) 0 0 hDD.fs hDD.at0 hDD.er hDD.bel 0
      have hW4 : ((((wr.drewN m1).setCell ⟨w.heap.size, 0, none⟩ (.slice xa xn xc)).setCell ⟨w.heap.size + 1, 0, none⟩ (.int .i64 0)).setCell ⟨w.heap.size + 1 + 1, 0, none⟩ (.int .i64 0)) = W3 := hW3
      have hRR : Rws W3 (w.heap.size + 5) (.slice xa xn xc) L := by
        rw [← hW4]
        exact (HI.out.2.2.2.2.drewN m1).same (fun k hk _ => (heap_setCell_other _ ⟨w.heap.size + 1 + 1, 0, none⟩ k _ (by show k ≠ w.heap.size + 1 + 1; omega)).trans ((heap_setCell_other _ ⟨w.heap.size + 1, 0, none⟩ k _ (by show k ≠ w.heap.size + 1; omega)).trans (heap_setCell_other _ ⟨w.heap.size, 0, none⟩ k _ (by show k ≠ w.heap.size; omega))))
      rw [hW4]
      have hre : recs l = (L.map Prod.fst, 0, 0) := by rw [HI.out.1, decs_succ, if_pos (by rw [HN.out]; exact Nat.le_refl _)]
      exact ⟨_, results_cells3 rfl _ _ _ _ _ _ _ _ rfl rfl rfl (loadFs s1) (loadI s2) (loadE s3), _, L, by rw [hre]; rfl, by rw [hre], hRR.mono (by omega), s4⟩
end Go.Proofs.Ytbdgiecnhgiogaa
namespace Go.Proofs.Ytbdgiecnhgiogaa
open Go.ChangeShapes Go.WideShapes Go.ChangeAt Go.RowKit
set_option linter.unusedVariables false
/-- an element is told by its value -/
def hv (v : Value) : Option (DataW Value × List MemPlace) := some (.held v, [])
theorem hv_inv {v : Value} {d : DataW Value} {ps : List MemPlace} (h : hv v = some (d, ps)) : d = .held v := by
  unfold hv at h; exact (congrArg Prod.fst (Option.some.inj h)).symm
/-- a field's value -/
abbrev FP (p : Fld × Value) : Value := FV p.1.tag p.1.text p.1.num p.2
def getT (L : List (Fld × Value)) (t : Int) : Option (Fld × Value) := L.find? (fun p => p.1.tag == t)
def delT (L : List (Fld × Value)) (t : Int) : List (Fld × Value) := L.filter (fun p => !(p.1.tag == t))
theorem getT_snoc (L : List (Fld × Value)) (p : Fld × Value) (t : Int) : getT (L ++ [p]) t = (getT L t).or (if p.1.tag = t then some p else none) := by
  unfold getT
  rw [List.find?_append]
  congr 1
  by_cases h : p.1.tag = t
  · simp [h]
  · simp [h]
theorem getT_mem {L : List (Fld × Value)} {t : Int} {p : Fld × Value} (h : getT L t = some p) : p ∈ L ∧ p.1.tag = t := by
  unfold getT at h
  exact ⟨List.mem_of_find?_eq_some h, by simpa using List.find?_some h⟩
theorem getT_none {L : List (Fld × Value)} {t : Int} : getT L t = none ↔ ∀ p ∈ L, p.1.tag ≠ t := by
  unfold getT
  rw [List.find?_eq_none]
  simp
theorem getT_del_same (L : List (Fld × Value)) (t : Int) : getT (delT L t) t = none := by
  rw [getT_none]
  intro p hp
  unfold delT at hp
  simpa using (List.mem_filter.1 hp).2
theorem getT_del_other (L : List (Fld × Value)) {t s : Int} (h : s ≠ t) : getT (delT L t) s = getT L s := by
  unfold getT delT
  refine Go.Maps.find_filter_keep (fun p hp => ?_) L
  simp at hp ⊢
  omega
theorem delT_len (t : Int) : ∀ (L : List (Fld × Value)), L.Pairwise (fun p q => p.1.tag ≠ q.1.tag) → (delT L t).length + (if (getT L t).isSome = true then 1 else 0) = L.length
  | [], _ => rfl
  | p :: r, h => by
    obtain ⟨h1, h2⟩ := List.pairwise_cons.1 h
    have ih := delT_len t r h2
    by_cases hp : p.1.tag = t
    · have hr : getT r t = none := getT_none.2 (fun q hq he => h1 q hq (hp.trans he.symm))
      have e1 : delT (p :: r) t = delT r t := by unfold delT; rw [List.filter_cons, if_neg (by simp [hp])]
      have e3 : (p.1.tag == t) = true := by simpa using hp
      have e2 : getT (p :: r) t = some p := by unfold getT; rw [List.find?_cons, e3]
      rw [hr] at ih
      rw [e1, e2]
      simp at ih ⊢
      omega
    · have e1 : delT (p :: r) t = p :: delT r t := by unfold delT; rw [List.filter_cons, if_pos (by simp [hp])]
      have e3 : (p.1.tag == t) = false := by simpa using hp
      have e2 : getT (p :: r) t = getT r t := by unfold getT; rw [List.find?_cons, e3]
      rw [e1, e2]
      simp only [List.length_cons]
      omega
theorem delT_none {L : List (Fld × Value)} {t : Int} (h : getT L t = none) : delT L t = L := by
  unfold delT
  rw [List.filter_eq_self]
  intro p hp
  simpa using getT_none.1 h p hp
/-- the map reads as the fields L, each at its tag -/
structure Rep (D : DataW Value) (L : List (Fld × Value)) : Prop where
  tidy : Maps.Tidy D
  sz : Maps.size D = L.length
  look : ∀ t z, D.atKey (.int .i64 t) z = match getT L t with | some p => .held (FP p) | none => z
  hs : ∀ t, Maps.has D (.int .i64 t) = (getT L t).isSome
  apart : L.Pairwise (fun p q => p.1.tag ≠ q.1.tag)
theorem rep_nil : Rep (.map []) [] := ⟨Maps.tidy_empty, rfl, fun _ _ => rfl, fun _ => rfl, .nil⟩
theorem key_lit (t : Int) : WideAt.IsKeyLit (.int .i64 t) := trivial
theorem key_ne {s t : Int} (h : s ≠ t) : Lit.int .i64 s ≠ Lit.int .i64 t := by intro e; cases e; exact h rfl
theorem Rep.put {D : DataW Value} {L : List (Fld × Value)} (h : Rep D L) (p : Fld × Value) (hn : getT L p.1.tag = none) : Rep (D.put (.int .i64 p.1.tag) (.held (FP p))) (L ++ [p]) := by
  refine ⟨h.tidy.put (key_lit _) _, ?_, fun t z => ?_, fun t => ?_, ?_⟩
  · rw [Maps.size_put h.tidy, h.hs, hn]
    simp [h.sz]
  · by_cases ht : t = p.1.tag
    · subst ht
      rw [Maps.atKey_put_same h.tidy.isMap (key_lit _), getT_snoc, hn, if_pos rfl]
      rfl
    · rw [Maps.atKey_put_other (key_ne ht), h.look, getT_snoc, if_neg (fun e => ht e.symm)]
      cases getT L t <;> rfl
  · by_cases ht : t = p.1.tag
    · subst ht
      rw [Maps.has_put_same h.tidy.isMap (key_lit _), getT_snoc, hn, if_pos rfl]
      rfl
    · rw [Maps.has_put_other (key_ne ht), h.hs, getT_snoc, if_neg (fun e => ht e.symm)]
      cases getT L t <;> rfl
  · rw [List.pairwise_append]
    refine ⟨h.apart, List.pairwise_singleton _ _, fun q hq r hr => ?_⟩
    obtain rfl := List.mem_singleton.1 hr
    exact getT_none.1 hn q hq
theorem Rep.del {D : DataW Value} {L : List (Fld × Value)} (h : Rep D L) (t : Int) : Rep (D.del (.int .i64 t)) (delT L t) := by
  refine ⟨h.tidy.del _, ?_, fun s z => ?_, fun s => ?_, ?_⟩
  · have h1 := Maps.size_del (k := .int .i64 t) h.tidy
    have h2 := delT_len t L h.apart
    rw [h.hs, h.sz] at h1
    omega
  · by_cases hs : s = t
    · subst hs
      rw [Maps.atKey_del_same, getT_del_same]
    · rw [Maps.atKey_del_other (key_ne hs), h.look, getT_del_other L hs]
  · by_cases hs : s = t
    · subst hs
      rw [Maps.has_del_same, getT_del_same]; rfl
    · rw [Maps.has_del_other (key_ne hs), h.hs, getT_del_other L hs]
  · exact h.apart.filter _
/-- a reader: its map in block b, its error; the fields' bytes -/
structure RdAt (w : World) (base q b : Nat) (L : List (Fld × Value)) (e : Nat) : Prop where
  blk : w.heap[q]? = some (.cells #[.map (some b), .int .i64 (e : Int)] 73)
  map : ∃ n D, w.ownsMap Try.prog 3 hv b n D ∧ Rep D L
  byt : ∀ p ∈ L, Own w base p.2 p.1.bytes
theorem RdAt.cells {w : World} {base q b : Nat} {L : List (Fld × Value)} {e : Nat} (h : RdAt w base q b L e) : w.cell? ⟨q, 0, none⟩ = some (.map (some b)) ∧ w.cell? ⟨q, 1, none⟩ = some (.int .i64 (e : Int)) ∧ w.frozen? ⟨q, 0, none⟩ = false ∧ w.frozen? ⟨q, 1, none⟩ = false :=
  ⟨by rw [cell_of_row _ _ 0 _ _ _ h.blk]; rfl, by rw [cell_of_row _ _ 1 _ _ _ h.blk]; rfl, frozen_of_row _ _ 0 _ _ h.blk, frozen_of_row _ _ 1 _ _ h.blk⟩
theorem owns_same {w w' : World} {b n : Nat} {D : DataW Value} (h : w.ownsMap Try.prog 3 hv b n D) (hs : w'.heap[b]? = w.heap[b]?) : w'.ownsMap Try.prog 3 hv b n D := by
  obtain ⟨es, c, h1, h2⟩ := h
  exact ⟨es, c, hs.trans h1, h2⟩
theorem RdAt.keep {w w' : World} {base q b : Nat} {L : List (Fld × Value)} {e : Nat} (h : RdAt w base q b L e) (hb : Below w.heap.size w w') : RdAt w' base q b L e := by
  obtain ⟨n, D, hm, hr⟩ := h.map
  exact ⟨(hb.block q (lt_of_heap h.blk)).trans h.blk, ⟨n, D, owns_same hm (hb.block b hm.lt), hr⟩, fun p hp => ⟨(h.byt p hp).1, own_same2 (h.byt p hp).2 (fun k _ hk => hb.block k hk)⟩⟩
theorem RdAt.drewN {w : World} {base q b : Nat} {L : List (Fld × Value)} {e : Nat} (h : RdAt w base q b L e) (m : Nat) : RdAt (w.drewN m) base q b L e := by
  obtain ⟨n, D, hm, hr⟩ := h.map
  exact ⟨by simpa using h.blk, ⟨n, D, owns_same hm (by simp), hr⟩, fun p hp => ⟨(h.byt p hp).1, own_same2 (h.byt p hp).2 (fun k _ hk => by simp)⟩⟩
/-- bytes of the call's own lie in no block of a map or of a reader -/
theorem own_other {w w' : World} {base : Nat} {v : Value} {l : List Nat} {x y : Nat} (h : Own w base v l) (hx : ∀ c, w.heap[x]? ≠ some (.cells c 5)) (hy : ∀ c, w.heap[y]? ≠ some (.cells c 5)) (hs : ∀ k, k < w.heap.size → k ≠ x → k ≠ y → w'.heap[k]? = w.heap[k]?) : Own w' base v l := by
  refine ⟨h.1, h.2.1, ?_⟩
  rcases h.2.2 with h2 | ⟨g, cap, cur, h3, h4, h5, h6⟩
  · exact .inl h2
  · refine .inr ⟨g, cap, cur, h3, h4, ?_, h6⟩
    rw [hs g (lt_of_heap h5) (fun e => by subst e; exact hx _ h5) (fun e => by subst e; exact hy _ h5)]
    exact h5
end Go.Proofs.Ytbdgiecnhgiogaa
