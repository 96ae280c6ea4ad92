/- Own texts, joined: Od18, Od19, Od20. -/
import Derived.Test.YtbpjlphjhjfdoaaGreatM27
import Derived.Shelf.Spec.SlicesInsert
import Derived.Lib.AppendZerosOnto
import Derived.Lib.Overlaps
import Derived.Deep.AppendLies
namespace Go.Proofs.YtbpjlphjhjfdoaaGreat
open Go.ChangeShapes Go.WideShapes Go.ChangeAt Go.RowKit
set_option linter.unusedVariables false
set_option linter.unusedSimpArgs false
theorem run_copy_row_s {P : Program} (w : World) (dT sT ty elem : TypeId) (size g o dLen dCap : Nat) (a : Addr) (sLen sCap : Nat) (cur : Array Value) (t : TypeId) (cs : List Value)
    (hu : P.underlying dT = some (.slice elem)) (hs : (P.info? elem).map (·.size) = some size)
    (hg : w.heap[g]? = some (.cells cur t (0, 0))) (hn : cs.length = Nat.min sLen dLen * size)
    (hsrc : ∀ j v, cs[j]? = some v → w.cell? (a.add j) = some v) (hfit : o + cs.length ≤ cur.size) (h1 : ∀ v ∈ cs, v.oneCell' = true) :
    (Builtin.copy_ #[dT, sT] ty #[.slice (some ⟨g, o, none⟩) dLen dCap, .slice (some a) sLen sCap]).run P w =
      .ok (goInt (Nat.min sLen dLen)) (w.setRow g (cur.toList.take o ++ cs ++ cur.toList.drop (o + cs.length)).toArray) := by
  have hl := run_loadCells_list (P := P) w a cs hsrc
  have hst := run_storeCells_at P g o t cs 0 cur w hg (by simpa using hfit) h1
  cases hq : P.info? elem with
  | none => simp [hq] at hs
  | some i =>
    have hi : i.size = size := by simpa [hq] using hs
    simp [Builtin.copy_, run_underlying hu, Builtin.lenOf, Builtin.firstCells, sizeOf, typeInfo, hq, hi, ← hn, hl, hst]
theorem OwnL.caps {w : World} {base n cap : Nat} {a : Option Addr} {L : List Ln} (h : OwnL w base (.slice a n cap) L) : n ≤ cap ∧ cap ≤ maxLen := by
  have hl := h.len
  obtain ⟨a2, c2, hv, h1, h2, _⟩ := h.shape
  injection hv with e1 e2 e3
  subst e3
  exact ⟨by omega, h2⟩
theorem OwnL.whole {w : World} {base g n cap : Nat} {L : List Ln} (h : OwnL w base (.slice (some ⟨g, 0, none⟩) n cap) L) : ∃ cur, w.heap[g]? = some (.cells cur 36 (0, 0)) ∧ cur.size = cap * 4 ∧ cur.toList.take (n * 4) = lfl L ∧ base ≤ g := by
  have hl := h.len
  obtain ⟨h1, h2⟩ := h
  rcases h2 with ⟨hv, hn⟩ | ⟨g2, cap2, cur, hv, hb, hg, hnc, hcm, hcs, htake⟩
  · cases hv
  · injection hv with e1 e2 e3
    injection e1 with e1
    injection e1 with e1 _ _
    subst e1 e3
    rw [hl] at htake
    exact ⟨cur, hg, hcs, htake, hb⟩
theorem lfl_take : ∀ (L : List Ln) (i : Nat), (lfl L).take (i * 4) = lfl (L.take i)
  | [], i => by simp [lfl]
  | p :: r, 0 => by simp [lfl]
  | p :: r, i + 1 => by
    rw [show (i + 1) * 4 = i * 4 + 4 from by omega]
    simp only [lfl, List.take_succ_cons, lfl_take r i]
theorem lfl_drop : ∀ (L : List Ln) (i : Nat), (lfl L).drop (i * 4) = lfl (L.drop i)
  | [], i => by simp [lfl]
  | p :: r, 0 => by simp [lfl]
  | p :: r, i + 1 => by
    rw [show (i + 1) * 4 = i * 4 + 4 from by omega]
    simp only [lfl, List.drop_succ_cons, lfl_drop r i]
theorem ins_list (cur : List Value) (L : List Ln) (p : Ln) (n i cap : Nat) (hlen : L.length = n) (hcl : cur.length = cap * 4) (htake : cur.take (n * 4) = lfl L) (hi : i < n) (hroom : n + 1 ≤ cap) :
    ((cur.take ((i + 1) * 4) ++ (lfl L).drop (i * 4) ++ cur.drop ((i + 1) * 4 + ((lfl L).drop (i * 4)).length)).take (i * 4) ++ lfl [p] ++ (cur.take ((i + 1) * 4) ++ (lfl L).drop (i * 4) ++ cur.drop ((i + 1) * 4 + ((lfl L).drop (i * 4)).length)).drop (i * 4 + (lfl [p]).length)).take ((n + 1) * 4) = lfl (L.take i ++ p :: L.drop i) := by
  have hAl : (lfl L).length = n * 4 := by rw [lfl_length, hlen]
  have h4 : (lfl [p]).length = 4 := rfl
  have e1 : (cur.take ((i + 1) * 4) ++ (lfl L).drop (i * 4) ++ cur.drop ((i + 1) * 4 + ((lfl L).drop (i * 4)).length)).take (i * 4) = lfl (L.take i) := by
    rw [List.append_assoc, List.take_append_of_le_length (by rw [List.length_take]; omega), List.take_take, Nat.min_eq_left (by omega), ← lfl_take, ← htake, List.take_take, Nat.min_eq_left (by omega)]
  have e2 : (cur.take ((i + 1) * 4) ++ (lfl L).drop (i * 4) ++ cur.drop ((i + 1) * 4 + ((lfl L).drop (i * 4)).length)).drop (i * 4 + (lfl [p]).length) = lfl (L.drop i) ++ cur.drop ((i + 1) * 4 + ((lfl L).drop (i * 4)).length) := by
    rw [h4, List.append_assoc, show i * 4 + 4 = (cur.take ((i + 1) * 4)).length from by rw [List.length_take]; omega, List.drop_left, lfl_drop]
  rw [e1, e2, lfl_append, ← List.append_assoc]
  have e3 : (lfl (L.take i) ++ lfl [p] ++ lfl (L.drop i)).length = (n + 1) * 4 := by
    simp only [List.length_append, lfl_length, List.length_take, List.length_drop, List.length_cons, List.length_nil, hlen]; omega
  rw [← e3, List.take_left]
  simp [lfl]
theorem Tryz.sizeLn : (Tryz.prog.info? 36).map (·.size) = some 4 := by kernel_rfl
set_option maxRecDepth 20000 in
set_option maxHeartbeats 2000000 in
theorem ins_room (L : List Ln) (p : Ln) (g i n cap base vb : Nat) (w : World) (ho : OwnL w base (.slice (some ⟨g, 0, none⟩) n cap) L) (hi : i < n) (hroom : n + 1 ≤ cap) (hn16 : n ≤ 16) (hne : vb ≠ g) (hv : w.heap[vb]? = some (.cells #[.int .i64 p.item, .int .i64 p.price, .int .i64 p.qty, .int .i64 p.shipped] 36 (0, 0))) :
    Calls Tryz.prog 78 #[.slice (some ⟨g, 0, none⟩) n cap, .int .i64 (i : Int), .slice (some ⟨vb, 0, none⟩) 1 1] w fun r w' => ∃ g' c', r = .returned (.slice (some ⟨g', 0, none⟩) (n + 1) c') ∧ OwnL w' base (.slice (some ⟨g', 0, none⟩) (n + 1) c') (L.take i ++ p :: L.drop i) ∧ w.grownBy w' (some g) ∧ (some g = some g' ∨ w.heap.size ≤ g') := by
  obtain ⟨hnc, hcm⟩ := ho.caps
  obtain ⟨cur, hg, hcs, htake, hbg⟩ := ho.whole
  have hlen := ho.len
  have hw1 : IntKind.i64.wrap ((i : Int) + 1) = (i : Int) + 1 := by rw [IntKind.wrap_i64]; omega
  have hb1 : (0 : Int) ≤ (i : Int) + 1 := by omega
  have hin : i ≤ n := by omega
  have htn : ((i : Int) + 1).toNat = i + 1 := by omega
  have hb2 : ¬ (cap = i + 1) := by omega
  have hb3 : (i : Int) ≤ (n : Int) + 1 := by omega
  have hb4 : ¬ (cap = i) := by omega
  have hAl : (lfl L).length = n * 4 := by rw [lfl_length, hlen]
  have hcl : cur.toList.length = cap * 4 := by simpa using hcs
  have hov : ∀ lb cb, (callFunc 96 #[.slice (some ⟨vb, 0, none⟩) 1 1, .slice (some ⟨g, (i + 1) * 4, none⟩) lb cb]).run Tryz.prog w = .ok (.value (.bool false)) w := fun lb cb => by
    rw [run_callFunc_extern Tryz.func96 (by kernel_rfl) (by kernel_rfl) (by kernel_rfl) (e := Extern.SlicesOverlaps.overlaps #[23, 23] #[4]) (by kernel_rfl),
      Lib.run_overlaps_apart w 23 4 36 Tryz.underlying23 4 (fun w => by obtain ⟨i0, hi0, h0, h1, h2⟩ := info_parts Tryz.infoLn; simp [sizeOf, typeInfo, hi0, h1]) ⟨vb, 0, none⟩ ⟨g, (i + 1) * 4, none⟩ 1 1 lb cb hne 36 36 4 cur.size (by simp [World.shape?, hv]) (by simp [World.shape?, hg]) (by omega) (frozen_of_row w vb 0 _ _ hv) (frozen_of_row w vb 4 _ _ hv)]
    rfl
  obtain ⟨X1, hX1⟩ : ∃ X1 : List Value, cur.toList.take ((i + 1) * 4) ++ (lfl L).drop (i * 4) ++ cur.toList.drop ((i + 1) * 4 + ((lfl L).drop (i * 4)).length) = X1 := ⟨_, rfl⟩
  obtain ⟨X2, hX2⟩ : ∃ X2 : List Value, X1.take (i * 4) ++ lfl [p] ++ X1.drop (i * 4 + (lfl [p]).length) = X2 := ⟨_, rfl⟩
  have hX1l : X1.length = cap * 4 := by rw [← hX1]; simp only [List.length_append, List.length_take, List.length_drop, hAl, hcl]; omega
  have hX2l : X2.length = cap * 4 := by rw [← hX2]; simp only [List.length_append, List.length_take, List.length_drop, lfl_length, List.length_cons, List.length_nil, hX1l]; omega
  have hX2t : X2.take ((n + 1) * 4) = lfl (L.take i ++ p :: L.drop i) := by
    rw [← hX2, ← hX1]
    exact ins_list cur.toList L p n i cap hlen hcl htake hi (by omega)
  have hcp1 : ∀ ty dc sc, (Builtin.copy_ #[23, 23] ty #[.slice (some ⟨g, (i + 1) * 4, none⟩) (n - i) dc, .slice (some ⟨g, i * 4, none⟩) (n + 1 - i) sc]).run Tryz.prog w.drew = .ok (goInt (Nat.min (n + 1 - i) (n - i))) (w.drew.setRow g X1.toArray) := fun ty dc sc => by
    rw [← hX1]
    refine run_copy_row_s w.drew _ _ ty 36 4 g ((i + 1) * 4) (n - i) dc ⟨g, i * 4, none⟩ (n + 1 - i) sc cur _ ((lfl L).drop (i * 4)) Tryz.underlying23 Tryz.sizeLn hg (by rw [List.length_drop, hAl]; simp only [Nat.min_def]; split <;> omega) (fun j v hj => ?_) (by rw [List.length_drop, hAl, hcs]; omega) (fun v hv => lfl_one L v (List.mem_of_mem_drop hv))
    rw [List.getElem?_drop] at hj
    rw [Addr.add_lit]
    show w.cell? _ = _
    rw [cell_of_row w g _ cur _ (0, 0) hg, ← hj, ← htake, List.getElem?_take, if_pos (by have := ln_lt hj; omega)]
    simp
  obtain ⟨W1, hW1⟩ : ∃ W1, W1 = w.drew.setRow g X1.toArray := ⟨_, rfl⟩
  have hW1g : W1.heap[g]? = some (.cells X1.toArray 36 (0, 0)) := by rw [hW1]; exact setRow_heap w.drew g cur _ _ _ hg
  have hW1v : W1.heap[vb]? = w.heap[vb]? := by rw [hW1]; exact setRow_other w.drew g vb _ hne
  have hgr1 : w.grownBy W1 (some g) := by rw [hW1]; exact ⟨rfl, rfl, rfl, by simp [World.setRow], fun k _ hk => setRow_other w.drew g k _ (fun e => hk (by rw [e]))⟩
  rw [← hW1] at hcp1
  have hcp2 : ∀ ty dc, (Builtin.copy_ #[23, 23] ty #[.slice (some ⟨g, i * 4, none⟩) (n + 1 - i) dc, .slice (some ⟨vb, 0, none⟩) 1 1]).run Tryz.prog W1 = .ok (goInt (Nat.min 1 (n + 1 - i))) (W1.setRow g X2.toArray) := fun ty dc => by
    rw [← hX2]
    refine run_copy_row_s W1 _ _ ty 36 4 g (i * 4) (n + 1 - i) dc ⟨vb, 0, none⟩ 1 1 X1.toArray _ (lfl [p]) Tryz.underlying23 Tryz.sizeLn hW1g (by simp only [lfl, List.length_cons, List.length_nil, Nat.min_def]; split <;> omega) (fun j v hj => World.news_of_block (hW1v.trans hv) j v (by simpa [lfl] using hj)) (by simp only [List.size_toArray, hX1l, lfl, List.length_cons, List.length_nil]; omega) (lfl_one [p])
  have HF : Hid (OwnL (W1.setRow g X2.toArray) base (.slice (some ⟨g, 0, none⟩) (n + 1) cap) (L.take i ++ p :: L.drop i) ∧ w.grownBy (W1.setRow g X2.toArray) (some g)) := by
    refine ⟨?_, hgr1.os, hgr1.tape, hgr1.output, by simpa [World.setRow] using hgr1.size, fun k hk hne => (setRow_other W1 g k _ (fun e => hne (by rw [e]))).trans (hgr1.block k hk hne)⟩
    have hl2 : (L.take i ++ p :: L.drop i).length = n + 1 := by simp only [List.length_append, List.length_cons, List.length_take, List.length_drop, hlen]; omega
    unfold OwnL
    rw [hl2]
    exact ⟨by rw [lfl_length, hl2], .inr ⟨g, cap, X2.toArray, rfl, hbg, setRow_heap W1 g _ _ _ _ hW1g, by omega, hcm, by simpa using hX2l, by simpa using hX2t⟩⟩
  unfold maxLen at hcm
  clear hX1 hX2 hX1l hX2l hX2t hW1 hW1g hW1v hgr1 hg hcs htake hbg hlen hAl hcl ho hv
  go_enter Tryz.func78, Tryz.ntmps78
  go_wp2_with (simp only [hov])
  go_region_law (refine Go.Proofs.step_copy_runI rfl _ _ 23 23 rfl _ _ (by simp [Act.eval, Act.put]) (by simp [Act.eval, Act.put]) (hcp1 _ _ _) ?_)
  go_wp2_with (at_builtin; refine Go.Proofs.wpList_copy_runI _ rfl _ _ 23 23 rfl _ _ rfl rfl (hcp2 _ _) ?_)
  go_ret
  exact ⟨g, cap, rfl, HF.out.1, HF.out.2, .inl rfl⟩
set_option maxRecDepth 20000 in
set_option maxHeartbeats 2000000 in
theorem ins_end (L : List Ln) (p : Ln) (a : Option Addr) (n cap base vb : Nat) (w : World) (ho : OwnL w base (.slice a n cap) L) (hb : base ≤ w.heap.size) (hn16 : n ≤ 16) (hv : w.heap[vb]? = some (.cells #[.int .i64 p.item, .int .i64 p.price, .int .i64 p.qty, .int .i64 p.shipped] 36 (0, 0))) :
    Calls Tryz.prog 78 #[.slice a n cap, .int .i64 (n : Int), .slice (some ⟨vb, 0, none⟩) 1 1] w fun r w' => ∃ g' c', r = .returned (.slice (some ⟨g', 0, none⟩) (n + 1) c') ∧ OwnL w' base (.slice (some ⟨g', 0, none⟩) (n + 1) c') (L ++ [p]) ∧ w.grownBy w' (Value.slice a n cap).ownBlock ∧ ((Value.slice a n cap).ownBlock = some g' ∨ w.heap.size ≤ g') := by
  obtain ⟨i0, hi, hz0, hz1, hz2⟩ := info_parts Tryz.infoLn
  have hlen := ho.len
  obtain ⟨hnc, hcm⟩ := ho.caps
  have HN : Hid (L.length = n) := hlen
  have HO : Hid (w.ownsRow base 36 4 (.slice a n cap) n (lfl L)) := by have h := ho; unfold OwnL at h; rw [hlen] at h; exact h
  have HNEW : Hid (∀ j u, (lfl [p])[j]? = some u → w.cell? ((⟨vb, 0, none⟩ : Addr).add j) = some u) := fun j u hu => World.news_of_block hv j u (by simpa [lfl] using hu)
  unfold maxLen at hcm
  have hob : ∀ c, (Value.slice a n c).ownBlock = (Value.slice a n cap).ownBlock := fun c => by cases a <;> rfl
  have HOB : Hid (∀ c, (Value.slice a n c).ownBlock = (Value.slice a n cap).ownBlock) := hob
  clear ho hv hlen hob
  go_enter Tryz.func78, Tryz.ntmps78
  go_wp2_with (at_builtin; refine wpList_append_lies _ rfl _ _ 23 rfl base 36 i0 _ 4 32 Tryz.underlying23 hi hz0 hz1 hz2 rfl (by decide) (.slice a n _) n (lfl L) rfl HO.out ⟨vb, 0, none⟩ 1 1 (lfl [p]) rfl (by simp [lfl]) HNEW.out (lfl_one [p]) (by omega) (by unfold maxLen; omega) (by omega) hb w.heap.size rfl ?_; intro g4 c4 w4 ho4 hg4 hat4 hlt4; have HO4 : Hid (OwnL w4 base (.slice (some ⟨g4, 0, none⟩) (n + 1) c4) (L ++ [p])) := (show OwnL w4 base (.slice (some ⟨g4, 0, none⟩) (n + 1) c4) (L ++ [p]) from by unfold OwnL; rw [List.length_append, HN.out, lfl_append]; exact ho4); have HG4 : Hid (w.grownBy w4 (Value.slice a n _).ownBlock ∧ _) := ⟨hg4, hat4⟩; clear ho4 hg4 hat4 hlt4)
  all_goals
    go_ret
    refine ⟨g4, c4, rfl, HO4.out, ?_, ?_⟩
    · first | exact HG4.out.1 | exact HOB.out _ ▸ HG4.out.1
    · rcases HG4.out.2 with h | h
      · exact .inl (by first | exact h | exact HOB.out _ ▸ h)
      · exact .inr (by omega)
end Go.Proofs.YtbpjlphjhjfdoaaGreat
namespace Go.Proofs.YtbpjlphjhjfdoaaGreat
open Go.ChangeShapes Go.WideShapes Go.ChangeAt Go.RowKit
set_option linter.unusedVariables false
set_option linter.unusedSimpArgs false
theorem grow_list (R A B P : List Value) (I N M : Nat) (hR : R.length = M) (hA : A.length = I) (hRA : R.take I = A) (hP : P.length = 4) (hB : B.length = N) (hM : I + 4 + N ≤ M) :
    ((R.take I ++ P ++ R.drop (I + P.length)).take (I + 4) ++ B ++ (R.take I ++ P ++ R.drop (I + P.length)).drop (I + 4 + B.length)).take (I + 4 + N) = A ++ P ++ B ∧ ((R.take I ++ P ++ R.drop (I + P.length)).take (I + 4) ++ B ++ (R.take I ++ P ++ R.drop (I + P.length)).drop (I + 4 + B.length)).length = M := by
  have e1 : (R.take I ++ P).length = I + 4 := by rw [hRA, List.length_append, hA, hP]
  have e2 : (R.take I ++ P ++ R.drop (I + P.length)).take (I + 4) = A ++ P := by rw [← e1, List.take_left, hRA]
  rw [e2]
  constructor
  · rw [show I + 4 + N = (A ++ P ++ B).length from by simp only [List.length_append, hA, hP, hB], List.take_left]
  · simp only [List.length_append, List.length_drop, List.length_take, hA, hP, hB, hR]
    omega
set_option maxRecDepth 20000 in
set_option maxHeartbeats 4000000 in
theorem ins_grow (L : List Ln) (p : Ln) (g i n cap base vb : Nat) (w : World) (ho : OwnL w base (.slice (some ⟨g, 0, none⟩) n cap) L) (hb : base ≤ w.heap.size) (hi : i < n) (hroom : cap < n + 1) (hn16 : n ≤ 16) (hv : w.heap[vb]? = some (.cells #[.int .i64 p.item, .int .i64 p.price, .int .i64 p.qty, .int .i64 p.shipped] 36 (0, 0))) :
    Calls Tryz.prog 78 #[.slice (some ⟨g, 0, none⟩) n cap, .int .i64 (i : Int), .slice (some ⟨vb, 0, none⟩) 1 1] w fun r w' => ∃ g' c', r = .returned (.slice (some ⟨g', 0, none⟩) (n + 1) c') ∧ OwnL w' base (.slice (some ⟨g', 0, none⟩) (n + 1) c') (L.take i ++ p :: L.drop i) ∧ w.grownBy w' (some g) ∧ (some g = some g' ∨ w.heap.size ≤ g') := by
  obtain ⟨hnc, hcm⟩ := ho.caps
  obtain ⟨cur, hg, hcs, htake, hbg⟩ := ho.whole
  have hlen := ho.len
  obtain ⟨i0, hi0, hz0, hz1, hz2⟩ := info_parts Tryz.infoLn
  have hAl : (lfl L).length = n * 4 := by rw [lfl_length, hlen]
  have hcl : cur.toList.length = cap * 4 := by simpa using hcs
  have hgw : g < w.heap.size := lt_of_heap hg
  have hvw : vb < w.heap.size := lt_of_heap hv
  have hkk : (n : Int) + 1 - (i : Int) = ((n + 1 - i : Nat) : Int) := by omega
  have hik : i + (n + 1 - i) = n + 1 := by omega
  have hcell : ∀ j v, (lfl L)[j]? = some v → w.cell? ⟨g, j, none⟩ = some v := fun j v hj => by
    rw [cell_of_row w g _ cur _ (0, 0) hg, ← hj, ← htake, List.getElem?_take, if_pos (by have := ln_lt hj; omega)]
    simp
  have hold : (Builtin.firstCells i0.size i (.slice (some ⟨g, 0, none⟩) i cap)).run Tryz.prog w.drew = .ok (lfl (L.take i)).toArray w.drew := by
    rw [hz1]
    exact run_firstCells_some w.drew 4 i ⟨g, 0, none⟩ i cap (lfl (L.take i)) (by rw [lfl_length, List.length_take]; omega) (fun j v hj => by
      rw [Addr.add_lit, Nat.zero_add]
      rw [← lfl_take, List.getElem?_take] at hj
      split at hj
      · exact hcell j v hj
      · cases hj)
  obtain ⟨G, hG⟩ : ∃ G, G = grownCap w (n + 1) cap 36 := ⟨_, rfl⟩
  obtain ⟨R, hR⟩ : ∃ R : List Value, ((lfl (L.take i)).toArray ++ Builtin.zeroCells (Value.agg #[.int .i64 0, .int .i64 0, .int .i64 0, .int .i64 0]).cells (n + 1 - i) ++ Builtin.zeroCells (Value.agg #[.int .i64 0, .int .i64 0, .int .i64 0, .int .i64 0]).cells (G - (n + 1))).toList = R := ⟨_, rfl⟩
  have hGn : n + 1 ≤ G := by rw [hG]; exact grownCap_ge w _ _ _
  have hGm : G ≤ maxLen := by rw [hG]; exact grownCap_le_maxLen w (n + 1) cap _ (by unfold maxLen; omega)
  have hzc : (Value.agg #[.int .i64 0, .int .i64 0, .int .i64 0, .int .i64 0]).cells.size = 4 := by kernel_rfl
  have hRl : R.length = G * 4 := by
    rw [← hR]
    simp only [Array.length_toList, Array.size_append, List.size_toArray, size_zeroCells, hzc, lfl_length, List.length_take]
    omega
  have hRt : R.take (i * 4) = lfl (L.take i) := by
    rw [← hR]
    simp only [Array.toList_append, List.append_assoc]
    rw [show i * 4 = (lfl (L.take i)).length from by rw [lfl_length, List.length_take]; omega]
    exact List.take_left
  obtain ⟨W1, hW1⟩ : ∃ W1, W1 = w.drew.alloc (.cells R.toArray 36) := ⟨_, rfl⟩
  have hrz : ∀ ty, (Builtin.append_ #[23, 3] ty #[.slice (some ⟨g, 0, none⟩) i cap, .int .i64 ((n : Int) + 1 - (i : Int))]).run Tryz.prog w = .ok (.slice (some ⟨w.heap.size, 0, none⟩) (n + 1) G) W1 := fun ty => by
    have h := Lib.run_append_grow_zeros w 23 3 ty 36 i0 _ .i64 .i64 Tryz.underlying23 Tryz.underlying3 hi0 hz0 (some ⟨g, 0, none⟩) i cap (lfl (L.take i)) hold (n + 1 - i) (by omega) (by omega) (by omega) (by omega) (by rw [hz2]; omega) (by rw [hz2, hik]; exact growslice_fits hroom (by omega))
    rw [hik, ← hG] at h
    rw [hkk, hW1, ← hR, h]
  have hNg : W1.heap[w.heap.size]? = some (.cells R.toArray 36 (0, 0)) := by rw [hW1]; exact heap_alloc_new w.drew _
  have hold1 : ∀ k, k < w.heap.size → W1.heap[k]? = w.heap[k]? := fun k hk => by rw [hW1]; exact heap_alloc_old w.drew _ hk
  have hW1b : W1.os = w.os ∧ W1.tape = w.tape ∧ W1.output = w.output ∧ W1.heap.size = w.heap.size + 1 := by rw [hW1]; exact ⟨rfl, rfl, rfl, by simp⟩
  obtain ⟨X1, hX1⟩ : ∃ X1 : List Value, R.take (i * 4) ++ lfl [p] ++ R.drop (i * 4 + (lfl [p]).length) = X1 := ⟨_, rfl⟩
  obtain ⟨X2, hX2⟩ : ∃ X2 : List Value, X1.take (i * 4 + 4) ++ (lfl L).drop (i * 4) ++ X1.drop (i * 4 + 4 + ((lfl L).drop (i * 4)).length) = X2 := ⟨_, rfl⟩
  have hX1l : X1.length = G * 4 := by
    rw [← hX1]
    simp only [List.length_append, List.length_take, List.length_drop, hRl, lfl, List.length_cons, List.length_nil]
    omega
  have hX2f : X2.take (i * 4 + 4 + (n - i) * 4) = lfl (L.take i) ++ lfl [p] ++ (lfl L).drop (i * 4) ∧ X2.length = G * 4 := by
    rw [← hX2, ← hX1]
    exact grow_list R (lfl (L.take i)) ((lfl L).drop (i * 4)) (lfl [p]) (i * 4) ((n - i) * 4) (G * 4) hRl (by rw [lfl_length, List.length_take]; omega) hRt rfl (by rw [List.length_drop, hAl]; omega) (by omega)
  have hcpA : ∀ ty dc, (Builtin.copy_ #[23, 23] ty #[.slice (some ⟨w.heap.size, i * 4, none⟩) (n + 1 - i) dc, .slice (some ⟨vb, 0, none⟩) 1 1]).run Tryz.prog W1 = .ok (goInt (Nat.min 1 (n + 1 - i))) (W1.setRow w.heap.size X1.toArray) := fun ty dc => by
    rw [← hX1]
    refine run_copy_row_s W1 _ _ ty 36 4 w.heap.size (i * 4) (n + 1 - i) dc ⟨vb, 0, none⟩ 1 1 R.toArray _ (lfl [p]) Tryz.underlying23 Tryz.sizeLn hNg (by simp only [lfl, List.length_cons, List.length_nil, Nat.min_def]; split <;> omega) (fun j v hj => World.news_of_block ((hold1 vb hvw).trans hv) j v (by simpa [lfl] using hj)) (by simp only [List.size_toArray, hRl, lfl, List.length_cons, List.length_nil]; omega) (lfl_one [p])
  obtain ⟨W2, hW2⟩ : ∃ W2, W2 = W1.setRow w.heap.size X1.toArray := ⟨_, rfl⟩
  have h2g : W2.heap[w.heap.size]? = some (.cells X1.toArray 36 (0, 0)) := by rw [hW2]; exact setRow_heap W1 _ _ _ _ _ hNg
  have hold2 : ∀ k, k < w.heap.size → W2.heap[k]? = w.heap[k]? := fun k hk => by rw [hW2, setRow_other W1 w.heap.size k _ (by omega)]; exact hold1 k hk
  have hW2b : W2.os = w.os ∧ W2.tape = w.tape ∧ W2.output = w.output ∧ W2.heap.size = w.heap.size + 1 := by rw [hW2]; exact ⟨hW1b.1, hW1b.2.1, hW1b.2.2.1, by simpa [World.setRow] using hW1b.2.2.2⟩
  rw [← hW2] at hcpA
  have hcpB : ∀ ty dc sc, (Builtin.copy_ #[23, 23] ty #[.slice (some ⟨w.heap.size, (i + 1) * 4, none⟩) (n - i) dc, .slice (some ⟨g, i * 4, none⟩) (n - i) sc]).run Tryz.prog W2.drew = .ok (goInt (Nat.min (n - i) (n - i))) (W2.drew.setRow w.heap.size X2.toArray) := fun ty dc sc => by
    rw [← hX2, show i * 4 + 4 = (i + 1) * 4 from by omega]
    refine run_copy_row_s W2.drew _ _ ty 36 4 w.heap.size ((i + 1) * 4) (n - i) dc ⟨g, i * 4, none⟩ (n - i) sc X1.toArray _ ((lfl L).drop (i * 4)) Tryz.underlying23 Tryz.sizeLn h2g (by rw [List.length_drop, hAl]; simp only [Nat.min_def]; split <;> omega) (fun j v hj => ?_) (by rw [List.length_drop, hAl]; simp only [List.size_toArray, hX1l]; omega) (fun v hv => lfl_one L v (List.mem_of_mem_drop hv))
    rw [List.getElem?_drop] at hj
    rw [Addr.add_lit]
    show W2.cell? _ = _
    rw [World.cell?_of_block (w := w) (hold2 g hgw)]
    exact hcell _ v hj
  have HF : Hid (OwnL (W2.drew.setRow w.heap.size X2.toArray) base (.slice (some ⟨w.heap.size, 0, none⟩) (n + 1) G) (L.take i ++ p :: L.drop i) ∧ w.grownBy (W2.drew.setRow w.heap.size X2.toArray) (some g)) := by
    refine ⟨?_, hW2b.1, hW2b.2.1, hW2b.2.2.1, by simp [World.setRow, hW2b.2.2.2], fun k hk hne => (setRow_other W2.drew w.heap.size k _ (by omega)).trans (hold2 k hk)⟩
    have hl2 : (L.take i ++ p :: L.drop i).length = n + 1 := by simp only [List.length_append, List.length_cons, List.length_take, List.length_drop, hlen]; omega
    unfold OwnL
    rw [hl2]
    refine ⟨by rw [lfl_length, hl2], .inr ⟨w.heap.size, G, X2.toArray, rfl, hb, setRow_heap W2.drew _ _ _ _ _ h2g, hGn, hGm, by simpa using hX2f.2, ?_⟩⟩
    rw [show (n + 1) * 4 = i * 4 + 4 + (n - i) * 4 from by omega]
    show X2.take _ = _
    rw [hX2f.1, lfl_append, lfl_drop]
    simp [lfl]
  have hw1 : IntKind.i64.wrap ((i : Int) + 1) = (i : Int) + 1 := by rw [IntKind.wrap_i64]; omega
  have hb1 : (0 : Int) ≤ (i : Int) + 1 := by omega
  have hin : i ≤ n := by omega
  have htn : ((i : Int) + 1).toNat = i + 1 := by omega
  have hb3 : (i : Int) ≤ (n : Int) := by omega
  have hGi : ¬ (G = i) := by omega
  have hGim : ¬ (G = i + 1) := by omega
  have hci : ¬ (cap = i) := by omega
  have hz3 : (cap : Int) < (n : Int) + 1 := by omega
  unfold maxLen at hcm hGm
  clear hkk hik hold hR hG hRl hRt hX1 hX2 hX1l hX2f hW1 hNg hold1 hW1b hW2 h2g hold2 hW2b hg hcs htake hbg hlen hAl hcl ho hv hcell hgw hvw hi0 hz0 hz1 hz2 hzc
  go_enter Tryz.func78, Tryz.ntmps78
  go_wp2_with (first
    | (at_builtin; refine Lib.wpList_append_run _ rfl _ _ _ _ rfl _ _ rfl rfl _ _ (hrz _) ?_)
    | (at_builtin; refine Go.Proofs.wpList_copy_runI _ rfl _ _ 23 23 rfl _ _ rfl rfl (hcpA _ _) ?_))
  go_region_law (refine Go.Proofs.step_copy_runI rfl _ _ 23 23 rfl _ _ (by simp [Act.eval, Act.put]) (by simp [Act.eval, Act.put]) (hcpB _ _ _) ?_)
  go_wp2
  go_ret
  exact ⟨_, G, rfl, HF.out.1, HF.out.2, .inr (Nat.le_refl _)⟩
theorem ins_any (L : List Ln) (p : Ln) (a : Option Addr) (i n cap base vb : Nat) (w : World) (ho : OwnL w base (.slice a n cap) L) (hb : base ≤ w.heap.size) (hi : i ≤ n) (hn16 : n ≤ 16) (hne : some vb ≠ (Value.slice a n cap).ownBlock) (hv : w.heap[vb]? = some (.cells #[.int .i64 p.item, .int .i64 p.price, .int .i64 p.qty, .int .i64 p.shipped] 36 (0, 0))) :
    Calls Tryz.prog 78 #[.slice a n cap, .int .i64 (i : Int), .slice (some ⟨vb, 0, none⟩) 1 1] w fun r w' => ∃ g' c', r = .returned (.slice (some ⟨g', 0, none⟩) (n + 1) c') ∧ OwnL w' base (.slice (some ⟨g', 0, none⟩) (n + 1) c') (L.take i ++ p :: L.drop i) ∧ w.grownBy w' (Value.slice a n cap).ownBlock ∧ ((Value.slice a n cap).ownBlock = some g' ∨ w.heap.size ≤ g') := by
  have hlen := ho.len
  by_cases hin : i = n
  · subst hin
    rw [List.take_of_length_le (by omega), List.drop_eq_nil_of_le (by omega)]
    exact ins_end L p a i cap base vb w ho hb hn16 hv
  · obtain ⟨q, hq⟩ := ln_get (L := L) (k := i) (by omega)
    obtain ⟨g, rfl, hnc, _⟩ := ho.block hq
    by_cases hr : n + 1 ≤ cap
    · exact ins_room L p g i n cap base vb w ho (by omega) hr hn16 (fun e => hne (by rw [e]; rfl)) hv
    · exact ins_grow L p g i n cap base vb w ho hb (by omega) (by omega) hn16 hv
end Go.Proofs.YtbpjlphjhjfdoaaGreat
namespace Go.Proofs.YtbpjlphjhjfdoaaGreat
open Go.ChangeShapes Go.WideShapes Go.ChangeAt Go.RowKit
set_option linter.unusedVariables false
set_option linter.unusedSimpArgs false
theorem cf_add (a : Array Value) (w : World) : (callFunc 40 a).run Tryz.prog w = .ok (.enter 40 a) w := by kernel_rfl
theorem grown_trans {a b c : World} {ob : Option Nat} (h : a.grownBy b ob) (k : b.grownBy c ob) : a.grownBy c ob :=
  ⟨k.os.trans h.os, k.tape.trans h.tape, k.output.trans h.output, Nat.le_trans h.size k.size, fun i hi hne => (k.block i (Nat.lt_of_lt_of_le hi h.size) hne).trans (h.block i hi hne)⟩
theorem S3.swap {w : World} {base : Nat} {v : Value} {s : St} {e : Ev} {x y : World} (h : S3 w base v s e v x) (hg : x.grownBy y v.ownBlock) (v' : Value) (L' : List Ln) (ho : OwnL y base v' L') : S3 w base v { s with lines := L' } e v' (y.setCell ⟨w.heap.size, 5, none⟩ v') ∧ StAt y w.heap.size s v := by
  have st : StAt y w.heap.size s v := (hg.block _ h.st.lt (own_st_ne h.row h.st)).trans h.st
  have ev : EvAt y (w.heap.size + 1) e := (hg.block _ h.ev.lt (own_ev_ne h.row h.ev)).trans h.ev
  have res : StAt y (w.heap.size + 2) zeroS (.slice none 0 0) := (hg.block _ h.res.lt (own_st_ne h.row h.res)).trans h.res
  refine ⟨⟨St.setTo st 5 v' rfl, ?_, ?_, ho.setOther _ _ (own_st_ne ho st), grown_set (grown_trans h.gr hg) _ _ (Nat.le_refl _)⟩, st⟩
  · exact (heap_setCell_other y ⟨w.heap.size, 5, none⟩ (w.heap.size + 1) v' (by show w.heap.size + 1 ≠ w.heap.size; omega)).trans ev
  · exact (heap_setCell_other y ⟨w.heap.size, 5, none⟩ (w.heap.size + 2) v' (by show w.heap.size + 2 ≠ w.heap.size; omega)).trans res
set_option maxRecDepth 20000 in
set_option maxHeartbeats 4000000 in
theorem do_add : DoOk 40 2 := by
  refine ⟨cf_add, fun x base s e a n cap ho hb v hr hk hst hrf => ?_⟩
  rw [show doS s e = { s with lines := addL s.lines e } from by unfold doS; rw [if_neg (by omega), if_pos hk]]
  obtain ⟨h16, hrise⟩ := linesB_from v.lines
  have q0 : 0 ≤ e.qty := by have := hr.qty0; simpa [loQ] using this
  have q1 := hr.qty1
  obtain ⟨LB, hLB⟩ : ∃ LB, lbI s.lines e.item = LB := ⟨_, rfl⟩
  have hlen := ho.len
  have hn16 : n ≤ 16 := by omega
  have hLn : LB ≤ n := by have := lbI_le s.lines e.item; omega
  obtain ⟨W, hW, H⟩ := s3_new x base s e _ ho
  have HS : Hid (S3 x base (.slice a n cap) s e (.slice a n cap) W) := H
  have c5 := H.st.cell 5 (.slice a n cap) rfl
  have d2 := H.ev.cell 2 (.int .i64 e.item) rfl
  have HN : Hid (s.lines.length = n) := hlen
  have HRI : Hid (linesFrom (-1) s.lines = true) := hrise
  cases hO : lnAt s.lines e.item with
  | some p =>
    obtain ⟨g1, g2⟩ := lnAt_some hO
    have fp := (linesB_facts v.lines).2 _ _ g1
    have hA : addL s.lines e = s.lines.set LB (turnL p 2 (p.qty + e.qty)) := by unfold addL; rw [hO, hLB]; rfl
    rw [hLB] at g1
    rw [hA]
    obtain ⟨g, rfl, hnc, hcm, hfz, hglt⟩ := ho.block g1
    have hLn2 : LB < n := by have := ln_lt g1; omega
    have HF : Hid (lbI s.lines e.item = LB ∧ lnAt s.lines e.item = some p) := ⟨hLB, hO⟩
    have HG1 : Hid (s.lines[LB]? = some p) := g1
    have b1 : 0 ≤ p.qty := by omega
    have b2 : p.qty ≤ 100000 := by omega
    clear H ho hb v hr hk hst hrf hlen hO g1 g2 h16 hrise fp hA hLB hcm hfz hglt
    go_enter Tryz.func40, Tryz.ntmps40
    go_wp2_with (first
      | (go_at_call 77; refine (find_any s.lines _ n cap e.item _ HN.out (ownl_lns HS.out.row) hn16 HRI.out).mono ?_; rw [HF.out.1, HF.out.2]; rintro _ y1 ⟨rfl, hb1⟩; have h2 : S3 x base (.slice (some ⟨g, 0, none⟩) n cap) s e (.slice (some ⟨g, 0, none⟩) n cap) y1 := HS.out.keep hb1; have c5' := h2.st.cell 5 (.slice (some ⟨g, 0, none⟩) n cap) rfl; have d3' := h2.ev.cell 3 (.int .i64 e.qty) rfl; obtain ⟨k0, k1, k2, k3⟩ := h2.row.cells HG1.out; have kf := frozen_own h2.row (LB * 4 + 2); have HS2 : Hid (S3 x base (.slice (some ⟨g, 0, none⟩) n cap) s e (.slice (some ⟨g, 0, none⟩) n cap) y1) := h2; clear hb1 h2))
    go_region
    all_goals
      have h3 : S3 x base (.slice (some ⟨g, 0, none⟩) n cap) { s with lines := s.lines.set LB (turnL p 2 (p.qty + e.qty)) } e (.slice (some ⟨g, 0, none⟩) n cap) (y1.drew.setCell ⟨g, LB * 4 + 2, none⟩ (.int .i64 (p.qty + e.qty))) := HS2.out.drew.turn LB 2 p (p.qty + e.qty) HG1.out (by omega) (.inl rfl)
      have HS3 : Hid (S3 x base (.slice (some ⟨g, 0, none⟩) n cap) { s with lines := s.lines.set LB (turnL p 2 (p.qty + e.qty)) } e (.slice (some ⟨g, 0, none⟩) n cap) (y1.drew.setCell ⟨g, LB * 4 + 2, none⟩ (.int .i64 (p.qty + e.qty)))) := h3
      clear h3
      go_wp2_with (first
        | ((with_reducible refine guard_load 25 ?_); refine wpList_load_st rfl _ rfl HS3.out.st rfl ?_)
        | ((with_reducible refine guard_store 25 ?_); refine wpList_store_st (s := zeroS) (s2 := { s with lines := s.lines.set LB (turnL p 2 (p.qty + e.qty)) }) (a2 := some ⟨g, 0, none⟩) (n2 := n) (c2 := cap) rfl _ _ rfl HS3.out.res rfl rfl ?_; intro y z1 z2 z3 z4))
      have HZ := HS3.out.done z3 z2
      exact bodyPost_ret (results_st1 rfl _ _ _ rfl z1) rfl ⟨_, n, cap, rfl, HZ.1, HZ.2⟩
  | none =>
    have hA : addL s.lines e = s.lines.take LB ++ ⟨e.item, e.price, e.qty, 0⟩ :: s.lines.drop LB := by unfold addL; rw [hO, hLB]
    rw [hA]
    have hL1 : (s.lines.take LB ++ ⟨e.item, e.price, 0, 0⟩ :: s.lines.drop LB)[LB]? = some (⟨e.item, e.price, 0, 0⟩ : Ln) := by
      rw [List.getElem?_append_right (by rw [List.length_take]; omega), List.length_take, Nat.min_eq_left (by omega), Nat.sub_self]; rfl
    have hL2 : (s.lines.take LB ++ ⟨e.item, e.price, 0, 0⟩ :: s.lines.drop LB).set LB (turnL ⟨e.item, e.price, 0, 0⟩ 2 e.qty) = s.lines.take LB ++ (⟨e.item, e.price, e.qty, 0⟩ : Ln) :: s.lines.drop LB := by
      rw [List.set_append_right _ _ (by rw [List.length_take]; omega), List.length_take, Nat.min_eq_left (by omega), Nat.sub_self]; rfl
    have HF : Hid (lbI s.lines e.item = LB ∧ lnAt s.lines e.item = none) := ⟨hLB, hO⟩
    have HL1 : Hid ((s.lines.take LB ++ ⟨e.item, e.price, 0, 0⟩ :: s.lines.drop LB)[LB]? = some (⟨e.item, e.price, 0, 0⟩ : Ln)) := hL1
    obtain ⟨M, hM⟩ : ∃ M : List Ln, s.lines.take LB ++ ⟨e.item, e.price, 0, 0⟩ :: s.lines.drop LB = M := ⟨_, rfl⟩
    rw [hM] at hL1 hL2
    have HM : Hid (s.lines.take LB ++ ⟨e.item, e.price, 0, 0⟩ :: s.lines.drop LB = M ∧ M[LB]? = some ⟨e.item, e.price, 0, 0⟩ ∧ M.set LB (turnL ⟨e.item, e.price, 0, 0⟩ 2 e.qty) = s.lines.take LB ++ (⟨e.item, e.price, e.qty, 0⟩ : Ln) :: s.lines.drop LB) := ⟨hM, hL1, hL2⟩
    have HBS : Hid (base ≤ x.heap.size) := hb
    clear H ho hb v hr hk hst hrf hlen hO h16 hrise hA hLB hL1 hL2 HL1 hM
    go_enter Tryz.func40, Tryz.ntmps40
    go_wp2_with (first
      | (go_at_call 77; refine (find_any s.lines _ n cap e.item _ HN.out (ownl_lns HS.out.row) hn16 HRI.out).mono ?_; rw [HF.out.1, HF.out.2]; rintro _ y1 ⟨rfl, hb1⟩; have h2 : S3 x base (.slice a n cap) s e (.slice a n cap) y1 := HS.out.keep hb1; have c5' := h2.st.cell 5 (.slice a n cap) rfl; have d2' := h2.ev.cell 2 (.int .i64 e.item) rfl; have d4' := h2.ev.cell 4 (.int .i64 e.price) rfl; have HS2 : Hid (S3 x base (.slice a n cap) s e (.slice a n cap) y1) := h2; clear hb1 h2)
      | (go_at_call 78; refine (ins_any s.lines ⟨e.item, e.price, 0, 0⟩ a LB n cap base y1.heap.size _ (HS2.out.row.keep ((Below.refl _ _).alloc (Nat.le_refl _) _)) (by have := HBS.out; have := HS2.out.gr.size; simp; omega) hLn hn16 (fun hk => by have := (HS2.out.row.ob _ hk.symm).2.1; omega) (heap_alloc_new y1 _)).mono ?_; rw [HM.out.1]; rintro _ y2 ⟨g2, c2, rfl, ho2, hgr2, hat2⟩; obtain ⟨h3, hst3⟩ := (HS2.out.keep ((Below.refl y1.heap.size y1).alloc (Nat.le_refl _) (.cells #[.int .i64 e.item, .int .i64 e.price, .int .i64 0, .int .i64 0] 36))).swap hgr2 _ M ho2; have e5 := hst3.cell 5 (.slice a n cap) rfl; have e5f := hst3.froz 5; have HAT : Hid ((Value.slice a n cap).ownBlock = some g2 ∨ x.heap.size ≤ g2) := (hat2.imp id (fun h => by have := HS2.out.gr.size; simp at h; omega)); have i5 := h3.st.cell 5 (.slice (some ⟨g2, 0, none⟩) (n + 1) c2) rfl; have j3 := h3.ev.cell 3 (.int .i64 e.qty) rfl; obtain ⟨k0, k1, k2, k3⟩ := h3.row.cells HM.out.2.1; have kf := frozen_own h3.row (LB * 4 + 2); have hLn3 : LB < n + 1 := Nat.lt_succ_of_le hLn; have HS3 : Hid (S3 x base (.slice a n cap) { s with lines := M } e (.slice (some ⟨g2, 0, none⟩) (n + 1) c2) (y2.setCell ⟨x.heap.size, 5, none⟩ (.slice (some ⟨g2, 0, none⟩) (n + 1) c2))) := h3; clear ho2 hgr2 hat2 h3 hst3))
    go_region
    all_goals
      have h4 : S3 x base (.slice a n cap) { s with lines := s.lines.take LB ++ (⟨e.item, e.price, e.qty, 0⟩ : Ln) :: s.lines.drop LB } e (.slice (some ⟨g2, 0, none⟩) (n + 1) c2) ((y2.setCell ⟨x.heap.size, 5, none⟩ (.slice (some ⟨g2, 0, none⟩) (n + 1) c2)).drew.setCell ⟨g2, LB * 4 + 2, none⟩ (.int .i64 e.qty)) := by
        have h := HS3.out.drew.turn LB 2 ⟨e.item, e.price, 0, 0⟩ e.qty HM.out.2.1 (by omega) HAT.out
        simp only [HM.out.2.2] at h
        exact h
      have HS4 : Hid (S3 x base (.slice a n cap) { s with lines := s.lines.take LB ++ (⟨e.item, e.price, e.qty, 0⟩ : Ln) :: s.lines.drop LB } e (.slice (some ⟨g2, 0, none⟩) (n + 1) c2) ((y2.setCell ⟨x.heap.size, 5, none⟩ (.slice (some ⟨g2, 0, none⟩) (n + 1) c2)).drew.setCell ⟨g2, LB * 4 + 2, none⟩ (.int .i64 e.qty))) := h4
      clear h4
      go_wp2_with (first
        | ((with_reducible refine guard_load 25 ?_); refine wpList_load_st rfl _ rfl HS4.out.st rfl ?_)
        | ((with_reducible refine guard_store 25 ?_); refine wpList_store_st (s := zeroS) (s2 := { s with lines := s.lines.take LB ++ (⟨e.item, e.price, e.qty, 0⟩ : Ln) :: s.lines.drop LB }) (a2 := some ⟨g2, 0, none⟩) (n2 := n + 1) (c2 := c2) rfl _ _ rfl HS4.out.res rfl rfl ?_; intro y z1 z2 z3 z4))
      have HZ := HS4.out.done z3 z2
      exact bodyPost_ret (results_st1 rfl _ _ _ rfl z1) rfl ⟨_, n + 1, c2, rfl, HZ.1, HZ.2⟩
end Go.Proofs.YtbpjlphjhjfdoaaGreat
