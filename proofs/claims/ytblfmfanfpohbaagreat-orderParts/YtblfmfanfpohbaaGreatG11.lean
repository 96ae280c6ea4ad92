/- Own texts, joined: Od18, Od19, Od20, Od21, Od22, Od23. -/
import Derived.Test.YtblfmfanfpohbaaGreatG10
import Derived.Shelf.Spec.SlicesInsert
import Derived.Lib.AppendZerosOnto
import Derived.Lib.Overlaps
import Derived.Deep.AppendLies
import Derived.Deep.RegionHeld3
namespace Go.Proofs.YtblfmfanfpohbaaGreat
open Go.ChangeShapes Go.WideShapes Go.ChangeAt Go.RowKit
set_option linter.unusedVariables false
set_option linter.unusedSimpArgs false
/-- copy between rows of elements of any size -/
theorem run_copy_row_s {P : Program} (w : World) (dT sT ty elem : TypeId) (size g o dLen dCap : Nat) (a : Addr) (sLen sCap : Nat) (cur : Array Value) (t : TypeId) (cs : List Value)
    (hu : P.underlying dT = some (.slice elem)) (hs : (P.info? elem).map (·.size) = some size)
    (hg : w.heap[g]? = some (.cells cur t (0, 0))) (hn : cs.length = Nat.min sLen dLen * size)
    (hsrc : ∀ j v, cs[j]? = some v → w.cell? (a.add j) = some v) (hfit : o + cs.length ≤ cur.size) (h1 : ∀ v ∈ cs, v.oneCell' = true) :
    (Builtin.copy_ #[dT, sT] ty #[.slice (some ⟨g, o, none⟩) dLen dCap, .slice (some a) sLen sCap]).run P w =
      .ok (goInt (Nat.min sLen dLen)) (w.setRow g (cur.toList.take o ++ cs ++ cur.toList.drop (o + cs.length)).toArray) := by
  have hl := run_loadCells_list (P := P) w a cs hsrc
  have hst := run_storeCells_at P g o t cs 0 cur w hg (by simpa using hfit) h1
  cases hq : P.info? elem with
  | none => simp [hq] at hs
  | some i =>
    have hi : i.size = size := by simpa [hq] using hs
    simp [Builtin.copy_, run_underlying hu, Builtin.lenOf, Builtin.firstCells, sizeOf, typeInfo, hq, hi, ← hn, hl, hst]
theorem OwnL.caps {w : World} {base n cap : Nat} {a : Option Addr} {L : List Ln} (h : OwnL w base (.slice a n cap) L) : n ≤ cap ∧ cap ≤ maxLen := by
  have hl := h.len
  obtain ⟨a2, c2, hv, h1, h2, _⟩ := h.shape
  injection hv with e1 e2 e3
  subst e3
  exact ⟨by omega, h2⟩
theorem OwnL.whole {w : World} {base g n cap : Nat} {L : List Ln} (h : OwnL w base (.slice (some ⟨g, 0, none⟩) n cap) L) : ∃ cur, w.heap[g]? = some (.cells cur 44 (0, 0)) ∧ cur.size = cap * 4 ∧ cur.toList.take (n * 4) = lfl L ∧ base ≤ g := by
  have hl := h.len
  obtain ⟨h1, h2⟩ := h
  rcases h2 with ⟨hv, hn⟩ | ⟨g2, cap2, cur, hv, hb, hg, hnc, hcm, hcs, htake⟩
  · cases hv
  · injection hv with e1 e2 e3
    injection e1 with e1
    injection e1 with e1 _ _
    subst e1 e3
    rw [hl] at htake
    exact ⟨cur, hg, hcs, htake, hb⟩
theorem lfl_take : ∀ (L : List Ln) (i : Nat), (lfl L).take (i * 4) = lfl (L.take i)
  | [], i => by simp [lfl]
  | p :: r, 0 => by simp [lfl]
  | p :: r, i + 1 => by
    rw [show (i + 1) * 4 = i * 4 + 4 from by omega]
    simp only [lfl, List.take_succ_cons, lfl_take r i]
theorem lfl_drop : ∀ (L : List Ln) (i : Nat), (lfl L).drop (i * 4) = lfl (L.drop i)
  | [], i => by simp [lfl]
  | p :: r, 0 => by simp [lfl]
  | p :: r, i + 1 => by
    rw [show (i + 1) * 4 = i * 4 + 4 from by omega]
    simp only [lfl, List.drop_succ_cons, lfl_drop r i]
/-- what two copies leave -/
theorem ins_list (cur : List Value) (L : List Ln) (p : Ln) (n i cap : Nat) (hlen : L.length = n) (hcl : cur.length = cap * 4) (htake : cur.take (n * 4) = lfl L) (hi : i < n) (hroom : n + 1 ≤ cap) :
    ((cur.take ((i + 1) * 4) ++ (lfl L).drop (i * 4) ++ cur.drop ((i + 1) * 4 + ((lfl L).drop (i * 4)).length)).take (i * 4) ++ lfl [p] ++ (cur.take ((i + 1) * 4) ++ (lfl L).drop (i * 4) ++ cur.drop ((i + 1) * 4 + ((lfl L).drop (i * 4)).length)).drop (i * 4 + (lfl [p]).length)).take ((n + 1) * 4) = lfl (L.take i ++ p :: L.drop i) := by
  have hAl : (lfl L).length = n * 4 := by rw [lfl_length, hlen]
  have h4 : (lfl [p]).length = 4 := rfl
  have e1 : (cur.take ((i + 1) * 4) ++ (lfl L).drop (i * 4) ++ cur.drop ((i + 1) * 4 + ((lfl L).drop (i * 4)).length)).take (i * 4) = lfl (L.take i) := by
    rw [List.append_assoc, List.take_append_of_le_length (by rw [List.length_take]; omega), List.take_take, Nat.min_eq_left (by omega), ← lfl_take, ← htake, List.take_take, Nat.min_eq_left (by omega)]
  have e2 : (cur.take ((i + 1) * 4) ++ (lfl L).drop (i * 4) ++ cur.drop ((i + 1) * 4 + ((lfl L).drop (i * 4)).length)).drop (i * 4 + (lfl [p]).length) = lfl (L.drop i) ++ cur.drop ((i + 1) * 4 + ((lfl L).drop (i * 4)).length) := by
    rw [h4, List.append_assoc, show i * 4 + 4 = (cur.take ((i + 1) * 4)).length from by rw [List.length_take]; omega, List.drop_left, lfl_drop]
  rw [e1, e2, lfl_append, ← List.append_assoc]
  have e3 : (lfl (L.take i) ++ lfl [p] ++ lfl (L.drop i)).length = (n + 1) * 4 := by
    simp only [List.length_append, lfl_length, List.length_take, List.length_drop, List.length_cons, List.length_nil, hlen]; omega
  rw [← e3, List.take_left]
  simp [lfl]
theorem Tryz.sizeLn : (Tryz.prog.info? 44).map (·.size) = some 4 := by kernel_rfl
set_option maxRecDepth 20000 in
set_option maxHeartbeats 2000000 in
theorem ins_room (L : List Ln) (p : Ln) (g i n cap base vb : Nat) (w : World) (ho : OwnL w base (.slice (some ⟨g, 0, none⟩) n cap) L) (hi : i < n) (hroom : n + 1 ≤ cap) (hn16 : n ≤ 16) (hne : vb ≠ g) (hv : w.heap[vb]? = some (.cells #[.int .i64 p.item, .int .i64 p.price, .int .i64 p.qty, .int .i64 p.shipped] 44 (0, 0))) :
    Calls Tryz.prog 92 #[.slice (some ⟨g, 0, none⟩) n cap, .int .i64 (i : Int), .slice (some ⟨vb, 0, none⟩) 1 1] w fun r w' => ∃ g' c', r = .returned (.slice (some ⟨g', 0, none⟩) (n + 1) c') ∧ OwnL w' base (.slice (some ⟨g', 0, none⟩) (n + 1) c') (L.take i ++ p :: L.drop i) ∧ w.grownBy w' (some g) ∧ (some g = some g' ∨ w.heap.size ≤ g') := by
  obtain ⟨hnc, hcm⟩ := ho.caps
  obtain ⟨cur, hg, hcs, htake, hbg⟩ := ho.whole
  have hlen := ho.len
  have hw1 : IntKind.i64.wrap ((i : Int) + 1) = (i : Int) + 1 := by rw [IntKind.wrap_i64]; omega
  have hb1 : (0 : Int) ≤ (i : Int) + 1 := by omega
  have hin : i ≤ n := by omega
  have htn : ((i : Int) + 1).toNat = i + 1 := by omega
  have hb2 : ¬ (cap = i + 1) := by omega
  have hb3 : (i : Int) ≤ (n : Int) + 1 := by omega
  have hb4 : ¬ (cap = i) := by omega
  have hAl : (lfl L).length = n * 4 := by rw [lfl_length, hlen]
  have hcl : cur.toList.length = cap * 4 := by simpa using hcs
  have hov : ∀ lb cb, (callFunc 108 #[.slice (some ⟨vb, 0, none⟩) 1 1, .slice (some ⟨g, (i + 1) * 4, none⟩) lb cb]).run Tryz.prog w = .ok (.value (.bool false)) w := fun lb cb => by
    rw [run_callFunc_extern Tryz.func108 (by kernel_rfl) (by kernel_rfl) (by kernel_rfl) (e := Extern.SlicesOverlaps.overlaps #[23, 23] #[4]) (by kernel_rfl),
      Lib.run_overlaps_apart w 23 4 44 Tryz.underlying23 4 (fun w => by obtain ⟨i0, hi0, h0, h1, h2⟩ := info_parts Tryz.infoLn; simp [sizeOf, typeInfo, hi0, h1]) ⟨vb, 0, none⟩ ⟨g, (i + 1) * 4, none⟩ 1 1 lb cb hne 44 44 4 cur.size (by simp [World.shape?, hv]) (by simp [World.shape?, hg]) (by omega) (frozen_of_row w vb 0 _ _ hv) (frozen_of_row w vb 4 _ _ hv)]
    rfl
  obtain ⟨X1, hX1⟩ : ∃ X1 : List Value, cur.toList.take ((i + 1) * 4) ++ (lfl L).drop (i * 4) ++ cur.toList.drop ((i + 1) * 4 + ((lfl L).drop (i * 4)).length) = X1 := ⟨_, rfl⟩
  obtain ⟨X2, hX2⟩ : ∃ X2 : List Value, X1.take (i * 4) ++ lfl [p] ++ X1.drop (i * 4 + (lfl [p]).length) = X2 := ⟨_, rfl⟩
  have hX1l : X1.length = cap * 4 := by rw [← hX1]; simp only [List.length_append, List.length_take, List.length_drop, hAl, hcl]; omega
  have hX2l : X2.length = cap * 4 := by rw [← hX2]; simp only [List.length_append, List.length_take, List.length_drop, lfl_length, List.length_cons, List.length_nil, hX1l]; omega
  have hX2t : X2.take ((n + 1) * 4) = lfl (L.take i ++ p :: L.drop i) := by
    rw [← hX2, ← hX1]
    exact ins_list cur.toList L p n i cap hlen hcl htake hi (by omega)
  have hcp1 : ∀ ty dc sc, (Builtin.copy_ #[23, 23] ty #[.slice (some ⟨g, (i + 1) * 4, none⟩) (n - i) dc, .slice (some ⟨g, i * 4, none⟩) (n + 1 - i) sc]).run Tryz.prog w.drew = .ok (goInt (Nat.min (n + 1 - i) (n - i))) (w.drew.setRow g X1.toArray) := fun ty dc sc => by
    rw [← hX1]
    refine run_copy_row_s w.drew _ _ ty 44 4 g ((i + 1) * 4) (n - i) dc ⟨g, i * 4, none⟩ (n + 1 - i) sc cur _ ((lfl L).drop (i * 4)) Tryz.underlying23 Tryz.sizeLn hg (by rw [List.length_drop, hAl]; simp only [Nat.min_def]; split <;> omega) (fun j v hj => ?_) (by rw [List.length_drop, hAl, hcs]; omega) (fun v hv => lfl_one L v (List.mem_of_mem_drop hv))
    rw [List.getElem?_drop] at hj
    rw [Addr.add_lit]
    show w.cell? _ = _
    rw [cell_of_row w g _ cur _ (0, 0) hg, ← hj, ← htake, List.getElem?_take, if_pos (by have := ln_lt hj; omega)]
    simp
  obtain ⟨W1, hW1⟩ : ∃ W1, W1 = w.drew.setRow g X1.toArray := ⟨_, rfl⟩
  have hW1g : W1.heap[g]? = some (.cells X1.toArray 44 (0, 0)) := by rw [hW1]; exact setRow_heap w.drew g cur _ _ _ hg
  have hW1v : W1.heap[vb]? = w.heap[vb]? := by rw [hW1]; exact setRow_other w.drew g vb _ hne
  have hgr1 : w.grownBy W1 (some g) := by rw [hW1]; exact ⟨rfl, rfl, rfl, by simp [World.setRow], fun k _ hk => setRow_other w.drew g k _ (fun e => hk (by rw [e]))⟩
  rw [← hW1] at hcp1
  have hcp2 : ∀ ty dc, (Builtin.copy_ #[23, 23] ty #[.slice (some ⟨g, i * 4, none⟩) (n + 1 - i) dc, .slice (some ⟨vb, 0, none⟩) 1 1]).run Tryz.prog W1 = .ok (goInt (Nat.min 1 (n + 1 - i))) (W1.setRow g X2.toArray) := fun ty dc => by
    rw [← hX2]
    refine run_copy_row_s W1 _ _ ty 44 4 g (i * 4) (n + 1 - i) dc ⟨vb, 0, none⟩ 1 1 X1.toArray _ (lfl [p]) Tryz.underlying23 Tryz.sizeLn hW1g (by simp only [lfl, List.length_cons, List.length_nil, Nat.min_def]; split <;> omega) (fun j v hj => World.news_of_block (hW1v.trans hv) j v (by simpa [lfl] using hj)) (by simp only [List.size_toArray, hX1l, lfl, List.length_cons, List.length_nil]; omega) (lfl_one [p])
  have HF : Hid (OwnL (W1.setRow g X2.toArray) base (.slice (some ⟨g, 0, none⟩) (n + 1) cap) (L.take i ++ p :: L.drop i) ∧ w.grownBy (W1.setRow g X2.toArray) (some g)) := by
    refine ⟨?_, hgr1.os, hgr1.tape, hgr1.output, by simpa [World.setRow] using hgr1.size, fun k hk hne => (setRow_other W1 g k _ (fun e => hne (by rw [e]))).trans (hgr1.block k hk hne)⟩
    have hl2 : (L.take i ++ p :: L.drop i).length = n + 1 := by simp only [List.length_append, List.length_cons, List.length_take, List.length_drop, hlen]; omega
    unfold OwnL
    rw [hl2]
    exact ⟨by rw [lfl_length, hl2], .inr ⟨g, cap, X2.toArray, rfl, hbg, setRow_heap W1 g _ _ _ _ hW1g, by omega, hcm, by simpa using hX2l, by simpa using hX2t⟩⟩
  unfold maxLen at hcm
  clear hX1 hX2 hX1l hX2l hX2t hW1 hW1g hW1v hgr1 hg hcs htake hbg hlen hAl hcl ho hv
  go_enter Tryz.func92, Tryz.ntmps92
  go_wp2_with (simp only [hov])
  go_region_law (refine Go.Proofs.step_copy_runI rfl _ _ 23 23 rfl _ _ (by simp [Act.eval, Act.put]) (by simp [Act.eval, Act.put]) (hcp1 _ _ _) ?_)
  go_wp2_with (at_builtin; refine Go.Proofs.wpList_copy_runI _ rfl _ _ 23 23 rfl _ _ rfl rfl (hcp2 _ _) ?_)
  go_ret
  exact ⟨g, cap, rfl, HF.out.1, HF.out.2, .inl rfl⟩
set_option maxRecDepth 20000 in
set_option maxHeartbeats 2000000 in
theorem ins_end (L : List Ln) (p : Ln) (a : Option Addr) (n cap base vb : Nat) (w : World) (ho : OwnL w base (.slice a n cap) L) (hb : base ≤ w.heap.size) (hn16 : n ≤ 16) (hv : w.heap[vb]? = some (.cells #[.int .i64 p.item, .int .i64 p.price, .int .i64 p.qty, .int .i64 p.shipped] 44 (0, 0))) :
    Calls Tryz.prog 92 #[.slice a n cap, .int .i64 (n : Int), .slice (some ⟨vb, 0, none⟩) 1 1] w fun r w' => ∃ g' c', r = .returned (.slice (some ⟨g', 0, none⟩) (n + 1) c') ∧ OwnL w' base (.slice (some ⟨g', 0, none⟩) (n + 1) c') (L ++ [p]) ∧ w.grownBy w' (Value.slice a n cap).ownBlock ∧ ((Value.slice a n cap).ownBlock = some g' ∨ w.heap.size ≤ g') := by
  obtain ⟨i0, hi, hz0, hz1, hz2⟩ := info_parts Tryz.infoLn
  have hlen := ho.len
  obtain ⟨hnc, hcm⟩ := ho.caps
  have HN : Hid (L.length = n) := hlen
  have HO : Hid (w.ownsRow base 44 4 (.slice a n cap) n (lfl L)) := by have h := ho; unfold OwnL at h; rw [hlen] at h; exact h
  have HNEW : Hid (∀ j u, (lfl [p])[j]? = some u → w.cell? ((⟨vb, 0, none⟩ : Addr).add j) = some u) := fun j u hu => World.news_of_block hv j u (by simpa [lfl] using hu)
  unfold maxLen at hcm
  have hob : ∀ c, (Value.slice a n c).ownBlock = (Value.slice a n cap).ownBlock := fun c => by cases a <;> rfl
  have HOB : Hid (∀ c, (Value.slice a n c).ownBlock = (Value.slice a n cap).ownBlock) := hob
  clear ho hv hlen hob
  go_enter Tryz.func92, Tryz.ntmps92
  go_wp2_with (at_builtin; refine wpList_append_lies _ rfl _ _ 23 rfl base 44 i0 _ 4 32 Tryz.underlying23 hi hz0 hz1 hz2 rfl (by decide) (.slice a n _) n (lfl L) rfl HO.out ⟨vb, 0, none⟩ 1 1 (lfl [p]) rfl (by simp [lfl]) HNEW.out (lfl_one [p]) (by omega) (by unfold maxLen; omega) (by omega) hb w.heap.size rfl ?_; intro g4 c4 w4 ho4 hg4 hat4 hlt4; have HO4 : Hid (OwnL w4 base (.slice (some ⟨g4, 0, none⟩) (n + 1) c4) (L ++ [p])) := (show OwnL w4 base (.slice (some ⟨g4, 0, none⟩) (n + 1) c4) (L ++ [p]) from by unfold OwnL; rw [List.length_append, HN.out, lfl_append]; exact ho4); have HG4 : Hid (w.grownBy w4 (Value.slice a n _).ownBlock ∧ _) := ⟨hg4, hat4⟩; clear ho4 hg4 hat4 hlt4)
  all_goals
    go_ret
    refine ⟨g4, c4, rfl, HO4.out, ?_, ?_⟩
    · first | exact HG4.out.1 | exact HOB.out _ ▸ HG4.out.1
    · rcases HG4.out.2 with h | h
      · exact .inl (by first | exact h | exact HOB.out _ ▸ h)
      · exact .inr (by omega)
end Go.Proofs.YtblfmfanfpohbaaGreat
namespace Go.Proofs.YtblfmfanfpohbaaGreat
open Go.ChangeShapes Go.WideShapes Go.ChangeAt Go.RowKit
set_option linter.unusedVariables false
set_option linter.unusedSimpArgs false
theorem grow_list (R A B P : List Value) (I N M : Nat) (hR : R.length = M) (hA : A.length = I) (hRA : R.take I = A) (hP : P.length = 4) (hB : B.length = N) (hM : I + 4 + N ≤ M) :
    ((R.take I ++ P ++ R.drop (I + P.length)).take (I + 4) ++ B ++ (R.take I ++ P ++ R.drop (I + P.length)).drop (I + 4 + B.length)).take (I + 4 + N) = A ++ P ++ B ∧ ((R.take I ++ P ++ R.drop (I + P.length)).take (I + 4) ++ B ++ (R.take I ++ P ++ R.drop (I + P.length)).drop (I + 4 + B.length)).length = M := by
  have e1 : (R.take I ++ P).length = I + 4 := by rw [hRA, List.length_append, hA, hP]
  have e2 : (R.take I ++ P ++ R.drop (I + P.length)).take (I + 4) = A ++ P := by rw [← e1, List.take_left, hRA]
  rw [e2]
  constructor
  · rw [show I + 4 + N = (A ++ P ++ B).length from by simp only [List.length_append, hA, hP, hB], List.take_left]
  · simp only [List.length_append, List.length_drop, List.length_take, hA, hP, hB, hR]
    omega
set_option maxRecDepth 20000 in
set_option maxHeartbeats 4000000 in
theorem ins_grow (L : List Ln) (p : Ln) (g i n cap base vb : Nat) (w : World) (ho : OwnL w base (.slice (some ⟨g, 0, none⟩) n cap) L) (hb : base ≤ w.heap.size) (hi : i < n) (hroom : cap < n + 1) (hn16 : n ≤ 16) (hv : w.heap[vb]? = some (.cells #[.int .i64 p.item, .int .i64 p.price, .int .i64 p.qty, .int .i64 p.shipped] 44 (0, 0))) :
    Calls Tryz.prog 92 #[.slice (some ⟨g, 0, none⟩) n cap, .int .i64 (i : Int), .slice (some ⟨vb, 0, none⟩) 1 1] w fun r w' => ∃ g' c', r = .returned (.slice (some ⟨g', 0, none⟩) (n + 1) c') ∧ OwnL w' base (.slice (some ⟨g', 0, none⟩) (n + 1) c') (L.take i ++ p :: L.drop i) ∧ w.grownBy w' (some g) ∧ (some g = some g' ∨ w.heap.size ≤ g') := by
  obtain ⟨hnc, hcm⟩ := ho.caps
  obtain ⟨cur, hg, hcs, htake, hbg⟩ := ho.whole
  have hlen := ho.len
  obtain ⟨i0, hi0, hz0, hz1, hz2⟩ := info_parts Tryz.infoLn
  have hAl : (lfl L).length = n * 4 := by rw [lfl_length, hlen]
  have hcl : cur.toList.length = cap * 4 := by simpa using hcs
  have hgw : g < w.heap.size := lt_of_heap hg
  have hvw : vb < w.heap.size := lt_of_heap hv
  have hkk : (n : Int) + 1 - (i : Int) = ((n + 1 - i : Nat) : Int) := by omega
  have hik : i + (n + 1 - i) = n + 1 := by omega
  have hcell : ∀ j v, (lfl L)[j]? = some v → w.cell? ⟨g, j, none⟩ = some v := fun j v hj => by
    rw [cell_of_row w g _ cur _ (0, 0) hg, ← hj, ← htake, List.getElem?_take, if_pos (by have := ln_lt hj; omega)]
    simp
  have hold : (Builtin.firstCells i0.size i (.slice (some ⟨g, 0, none⟩) i cap)).run Tryz.prog w.drew = .ok (lfl (L.take i)).toArray w.drew := by
    rw [hz1]
    exact run_firstCells_some w.drew 4 i ⟨g, 0, none⟩ i cap (lfl (L.take i)) (by rw [lfl_length, List.length_take]; omega) (fun j v hj => by
      rw [Addr.add_lit, Nat.zero_add]
      rw [← lfl_take, List.getElem?_take] at hj
      split at hj
      · exact hcell j v hj
      · cases hj)
  obtain ⟨G, hG⟩ : ∃ G, G = grownCap w (n + 1) cap 44 := ⟨_, rfl⟩
  obtain ⟨R, hR⟩ : ∃ R : List Value, ((lfl (L.take i)).toArray ++ Builtin.zeroCells (Value.agg #[.int .i64 0, .int .i64 0, .int .i64 0, .int .i64 0]).cells (n + 1 - i) ++ Builtin.zeroCells (Value.agg #[.int .i64 0, .int .i64 0, .int .i64 0, .int .i64 0]).cells (G - (n + 1))).toList = R := ⟨_, rfl⟩
  have hGn : n + 1 ≤ G := by rw [hG]; exact grownCap_ge w _ _ _
  have hGm : G ≤ maxLen := by rw [hG]; exact grownCap_le_maxLen w (n + 1) cap _ (by unfold maxLen; omega)
  have hzc : (Value.agg #[.int .i64 0, .int .i64 0, .int .i64 0, .int .i64 0]).cells.size = 4 := by kernel_rfl
  have hRl : R.length = G * 4 := by
    rw [← hR]
    simp only [Array.length_toList, Array.size_append, List.size_toArray, size_zeroCells, hzc, lfl_length, List.length_take]
    omega
  have hRt : R.take (i * 4) = lfl (L.take i) := by
    rw [← hR]
    simp only [Array.toList_append, List.append_assoc]
    rw [show i * 4 = (lfl (L.take i)).length from by rw [lfl_length, List.length_take]; omega]
    exact List.take_left
  obtain ⟨W1, hW1⟩ : ∃ W1, W1 = w.drew.alloc (.cells R.toArray 44) := ⟨_, rfl⟩
  have hrz : ∀ ty, (Builtin.append_ #[23, 3] ty #[.slice (some ⟨g, 0, none⟩) i cap, .int .i64 ((n : Int) + 1 - (i : Int))]).run Tryz.prog w = .ok (.slice (some ⟨w.heap.size, 0, none⟩) (n + 1) G) W1 := fun ty => by
    have h := Lib.run_append_grow_zeros w 23 3 ty 44 i0 _ .i64 .i64 Tryz.underlying23 Tryz.underlying3 hi0 hz0 (some ⟨g, 0, none⟩) i cap (lfl (L.take i)) hold (n + 1 - i) (by omega) (by omega) (by omega) (by omega) (by rw [hz2]; omega) (by rw [hz2, hik]; exact growslice_fits hroom (by omega))
    rw [hik, ← hG] at h
    rw [hkk, hW1, ← hR, h]
  have hNg : W1.heap[w.heap.size]? = some (.cells R.toArray 44 (0, 0)) := by rw [hW1]; exact heap_alloc_new w.drew _
  have hold1 : ∀ k, k < w.heap.size → W1.heap[k]? = w.heap[k]? := fun k hk => by rw [hW1]; exact heap_alloc_old w.drew _ hk
  have hW1b : W1.os = w.os ∧ W1.tape = w.tape ∧ W1.output = w.output ∧ W1.heap.size = w.heap.size + 1 := by rw [hW1]; exact ⟨rfl, rfl, rfl, by simp⟩
  obtain ⟨X1, hX1⟩ : ∃ X1 : List Value, R.take (i * 4) ++ lfl [p] ++ R.drop (i * 4 + (lfl [p]).length) = X1 := ⟨_, rfl⟩
  obtain ⟨X2, hX2⟩ : ∃ X2 : List Value, X1.take (i * 4 + 4) ++ (lfl L).drop (i * 4) ++ X1.drop (i * 4 + 4 + ((lfl L).drop (i * 4)).length) = X2 := ⟨_, rfl⟩
  have hX1l : X1.length = G * 4 := by
    rw [← hX1]
    simp only [List.length_append, List.length_take, List.length_drop, hRl, lfl, List.length_cons, List.length_nil]
    omega
  have hX2f : X2.take (i * 4 + 4 + (n - i) * 4) = lfl (L.take i) ++ lfl [p] ++ (lfl L).drop (i * 4) ∧ X2.length = G * 4 := by
    rw [← hX2, ← hX1]
    exact grow_list R (lfl (L.take i)) ((lfl L).drop (i * 4)) (lfl [p]) (i * 4) ((n - i) * 4) (G * 4) hRl (by rw [lfl_length, List.length_take]; omega) hRt rfl (by rw [List.length_drop, hAl]; omega) (by omega)
  have hcpA : ∀ ty dc, (Builtin.copy_ #[23, 23] ty #[.slice (some ⟨w.heap.size, i * 4, none⟩) (n + 1 - i) dc, .slice (some ⟨vb, 0, none⟩) 1 1]).run Tryz.prog W1 = .ok (goInt (Nat.min 1 (n + 1 - i))) (W1.setRow w.heap.size X1.toArray) := fun ty dc => by
    rw [← hX1]
    refine run_copy_row_s W1 _ _ ty 44 4 w.heap.size (i * 4) (n + 1 - i) dc ⟨vb, 0, none⟩ 1 1 R.toArray _ (lfl [p]) Tryz.underlying23 Tryz.sizeLn hNg (by simp only [lfl, List.length_cons, List.length_nil, Nat.min_def]; split <;> omega) (fun j v hj => World.news_of_block ((hold1 vb hvw).trans hv) j v (by simpa [lfl] using hj)) (by simp only [List.size_toArray, hRl, lfl, List.length_cons, List.length_nil]; omega) (lfl_one [p])
  obtain ⟨W2, hW2⟩ : ∃ W2, W2 = W1.setRow w.heap.size X1.toArray := ⟨_, rfl⟩
  have h2g : W2.heap[w.heap.size]? = some (.cells X1.toArray 44 (0, 0)) := by rw [hW2]; exact setRow_heap W1 _ _ _ _ _ hNg
  have hold2 : ∀ k, k < w.heap.size → W2.heap[k]? = w.heap[k]? := fun k hk => by rw [hW2, setRow_other W1 w.heap.size k _ (by omega)]; exact hold1 k hk
  have hW2b : W2.os = w.os ∧ W2.tape = w.tape ∧ W2.output = w.output ∧ W2.heap.size = w.heap.size + 1 := by rw [hW2]; exact ⟨hW1b.1, hW1b.2.1, hW1b.2.2.1, by simpa [World.setRow] using hW1b.2.2.2⟩
  rw [← hW2] at hcpA
  have hcpB : ∀ ty dc sc, (Builtin.copy_ #[23, 23] ty #[.slice (some ⟨w.heap.size, (i + 1) * 4, none⟩) (n - i) dc, .slice (some ⟨g, i * 4, none⟩) (n - i) sc]).run Tryz.prog W2.drew = .ok (goInt (Nat.min (n - i) (n - i))) (W2.drew.setRow w.heap.size X2.toArray) := fun ty dc sc => by
    rw [← hX2, show i * 4 + 4 = (i + 1) * 4 from by omega]
    refine run_copy_row_s W2.drew _ _ ty 44 4 w.heap.size ((i + 1) * 4) (n - i) dc ⟨g, i * 4, none⟩ (n - i) sc X1.toArray _ ((lfl L).drop (i * 4)) Tryz.underlying23 Tryz.sizeLn h2g (by rw [List.length_drop, hAl]; simp only [Nat.min_def]; split <;> omega) (fun j v hj => ?_) (by rw [List.length_drop, hAl]; simp only [List.size_toArray, hX1l]; omega) (fun v hv => lfl_one L v (List.mem_of_mem_drop hv))
    rw [List.getElem?_drop] at hj
    rw [Addr.add_lit]
    show W2.cell? _ = _
    rw [World.cell?_of_block (w := w) (hold2 g hgw)]
    exact hcell _ v hj
  have HF : Hid (OwnL (W2.drew.setRow w.heap.size X2.toArray) base (.slice (some ⟨w.heap.size, 0, none⟩) (n + 1) G) (L.take i ++ p :: L.drop i) ∧ w.grownBy (W2.drew.setRow w.heap.size X2.toArray) (some g)) := by
    refine ⟨?_, hW2b.1, hW2b.2.1, hW2b.2.2.1, by simp [World.setRow, hW2b.2.2.2], fun k hk hne => (setRow_other W2.drew w.heap.size k _ (by omega)).trans (hold2 k hk)⟩
    have hl2 : (L.take i ++ p :: L.drop i).length = n + 1 := by simp only [List.length_append, List.length_cons, List.length_take, List.length_drop, hlen]; omega
    unfold OwnL
    rw [hl2]
    refine ⟨by rw [lfl_length, hl2], .inr ⟨w.heap.size, G, X2.toArray, rfl, hb, setRow_heap W2.drew _ _ _ _ _ h2g, hGn, hGm, by simpa using hX2f.2, ?_⟩⟩
    rw [show (n + 1) * 4 = i * 4 + 4 + (n - i) * 4 from by omega]
    show X2.take _ = _
    rw [hX2f.1, lfl_append, lfl_drop]
    simp [lfl]
  have hw1 : IntKind.i64.wrap ((i : Int) + 1) = (i : Int) + 1 := by rw [IntKind.wrap_i64]; omega
  have hb1 : (0 : Int) ≤ (i : Int) + 1 := by omega
  have hin : i ≤ n := by omega
  have htn : ((i : Int) + 1).toNat = i + 1 := by omega
  have hb3 : (i : Int) ≤ (n : Int) := by omega
  have hGi : ¬ (G = i) := by omega
  have hGim : ¬ (G = i + 1) := by omega
  have hci : ¬ (cap = i) := by omega
  have hz3 : (cap : Int) < (n : Int) + 1 := by omega
  unfold maxLen at hcm hGm
  clear hkk hik hold hR hG hRl hRt hX1 hX2 hX1l hX2f hW1 hNg hold1 hW1b hW2 h2g hold2 hW2b hg hcs htake hbg hlen hAl hcl ho hv hcell hgw hvw hi0 hz0 hz1 hz2 hzc
  go_enter Tryz.func92, Tryz.ntmps92
  go_wp2_with (first
    | (at_builtin; refine Lib.wpList_append_run _ rfl _ _ _ _ rfl _ _ rfl rfl _ _ (hrz _) ?_)
    | (at_builtin; refine Go.Proofs.wpList_copy_runI _ rfl _ _ 23 23 rfl _ _ rfl rfl (hcpA _ _) ?_))
  go_region_law (refine Go.Proofs.step_copy_runI rfl _ _ 23 23 rfl _ _ (by simp [Act.eval, Act.put]) (by simp [Act.eval, Act.put]) (hcpB _ _ _) ?_)
  go_wp2
  go_ret
  exact ⟨_, G, rfl, HF.out.1, HF.out.2, .inr (Nat.le_refl _)⟩
/-- slices.Insert of one line, whatever the room -/
theorem ins_any (L : List Ln) (p : Ln) (a : Option Addr) (i n cap base vb : Nat) (w : World) (ho : OwnL w base (.slice a n cap) L) (hb : base ≤ w.heap.size) (hi : i ≤ n) (hn16 : n ≤ 16) (hne : some vb ≠ (Value.slice a n cap).ownBlock) (hv : w.heap[vb]? = some (.cells #[.int .i64 p.item, .int .i64 p.price, .int .i64 p.qty, .int .i64 p.shipped] 44 (0, 0))) :
    Calls Tryz.prog 92 #[.slice a n cap, .int .i64 (i : Int), .slice (some ⟨vb, 0, none⟩) 1 1] w fun r w' => ∃ g' c', r = .returned (.slice (some ⟨g', 0, none⟩) (n + 1) c') ∧ OwnL w' base (.slice (some ⟨g', 0, none⟩) (n + 1) c') (L.take i ++ p :: L.drop i) ∧ w.grownBy w' (Value.slice a n cap).ownBlock ∧ ((Value.slice a n cap).ownBlock = some g' ∨ w.heap.size ≤ g') := by
  have hlen := ho.len
  by_cases hin : i = n
  · subst hin
    rw [List.take_of_length_le (by omega), List.drop_eq_nil_of_le (by omega)]
    exact ins_end L p a i cap base vb w ho hb hn16 hv
  · obtain ⟨q, hq⟩ := ln_get (L := L) (k := i) (by omega)
    obtain ⟨g, rfl, hnc, _⟩ := ho.block hq
    by_cases hr : n + 1 ≤ cap
    · exact ins_room L p g i n cap base vb w ho (by omega) hr hn16 (fun e => hne (by rw [e]; rfl)) hv
    · exact ins_grow L p g i n cap base vb w ho hb (by omega) (by omega) hn16 hv
end Go.Proofs.YtblfmfanfpohbaaGreat
namespace Go.Proofs.YtblfmfanfpohbaaGreat
open Go.ChangeShapes Go.WideShapes Go.ChangeAt Go.RowKit
set_option linter.unusedVariables false
set_option linter.unusedSimpArgs false
theorem cf_add (a : Array Value) (w : World) : (callFunc 53 a).run Tryz.prog w = .ok (.enter 53 a) w := by kernel_rfl
theorem grown_trans {a b c : World} {ob : Option Nat} (h : a.grownBy b ob) (k : b.grownBy c ob) : a.grownBy c ob :=
  ⟨k.os.trans h.os, k.tape.trans h.tape, k.output.trans h.output, Nat.le_trans h.size k.size, fun i hi hne => (k.block i (Nat.lt_of_lt_of_le hi h.size) hne).trans (h.block i hi hne)⟩
/-- another row of lines is laid in the state -/
theorem S3.swap {w : World} {base : Nat} {v : Value} {s : St} {e : Ev} {x y : World} (h : S3 w base v s e v x) (hg : x.grownBy y v.ownBlock) (v' : Value) (L' : List Ln) (ho : OwnL y base v' L') : S3 w base v { s with lines := L' } e v' (y.setCell ⟨w.heap.size, 5, none⟩ v') ∧ StAt y w.heap.size s v := by
  have st : StAt y w.heap.size s v := (hg.block _ h.st.lt (own_st_ne h.row h.st)).trans h.st
  have ev : EvAt y (w.heap.size + 1) e := (hg.block _ h.ev.lt (own_ev_ne h.row h.ev)).trans h.ev
  have res : StAt y (w.heap.size + 2) zeroS (.slice none 0 0) := (hg.block _ h.res.lt (own_st_ne h.row h.res)).trans h.res
  refine ⟨⟨St.setTo st 5 v' rfl, ?_, ?_, ho.setOther _ _ (own_st_ne ho st), grown_set (grown_trans h.gr hg) _ _ (Nat.le_refl _)⟩, st⟩
  · exact (heap_setCell_other y ⟨w.heap.size, 5, none⟩ (w.heap.size + 1) v' (by show w.heap.size + 1 ≠ w.heap.size; omega)).trans ev
  · exact (heap_setCell_other y ⟨w.heap.size, 5, none⟩ (w.heap.size + 2) v' (by show w.heap.size + 2 ≠ w.heap.size; omega)).trans res
set_option maxRecDepth 20000 in
set_option maxHeartbeats 4000000 in
theorem do_add : DoOk 53 2 := by
  refine ⟨cf_add, fun x base s e a n cap ho hb v hr hk hst hrf => ?_⟩
  rw [show doS s e = { s with lines := addL s.lines e } from by unfold doS; rw [if_neg (by omega), if_pos hk]]
  obtain ⟨h16, hrise⟩ := linesB_from v.lines
  have q0 : 0 ≤ e.qty := by have := hr.qty0; simpa [loQ] using this
  have q1 := hr.qty1
  obtain ⟨LB, hLB⟩ : ∃ LB, lbI s.lines e.item = LB := ⟨_, rfl⟩
  have hlen := ho.len
  have hn16 : n ≤ 16 := by omega
  have hLn : LB ≤ n := by have := lbI_le s.lines e.item; omega
  obtain ⟨W, hW, H⟩ := s3_new x base s e _ ho
  have HS : Hid (S3 x base (.slice a n cap) s e (.slice a n cap) W) := H
  have c5 := H.st.cell 5 (.slice a n cap) rfl
  have d2 := H.ev.cell 2 (.int .i64 e.item) rfl
  have HN : Hid (s.lines.length = n) := hlen
  have HRI : Hid (linesFrom (-1) s.lines = true) := hrise
  cases hO : lnAt s.lines e.item with
  | some p =>
    obtain ⟨g1, g2⟩ := lnAt_some hO
    have fp := (linesB_facts v.lines).2 _ _ g1
    have hA : addL s.lines e = s.lines.set LB (turnL p 2 (p.qty + e.qty)) := by unfold addL; rw [hO, hLB]; rfl
    rw [hLB] at g1
    rw [hA]
    obtain ⟨g, rfl, hnc, hcm, hfz, hglt⟩ := ho.block g1
    have hLn2 : LB < n := by have := ln_lt g1; omega
    have HF : Hid (lbI s.lines e.item = LB ∧ lnAt s.lines e.item = some p) := ⟨hLB, hO⟩
    have HG1 : Hid (s.lines[LB]? = some p) := g1
    have b1 : 0 ≤ p.qty := by omega
    have b2 : p.qty ≤ 100000 := by omega
    clear H ho hb v hr hk hst hrf hlen hO g1 g2 h16 hrise fp hA hLB hcm hfz hglt
    go_enter Tryz.func53, Tryz.ntmps53
    go_wp2_with (first
      | (go_at_call 91; refine (find_any s.lines _ n cap e.item _ HN.out (ownl_lns HS.out.row) hn16 HRI.out).mono ?_; rw [HF.out.1, HF.out.2]; rintro _ y1 ⟨rfl, hb1⟩; have h2 : S3 x base (.slice (some ⟨g, 0, none⟩) n cap) s e (.slice (some ⟨g, 0, none⟩) n cap) y1 := HS.out.keep hb1; have c5' := h2.st.cell 5 (.slice (some ⟨g, 0, none⟩) n cap) rfl; have d3' := h2.ev.cell 3 (.int .i64 e.qty) rfl; obtain ⟨k0, k1, k2, k3⟩ := h2.row.cells HG1.out; have kf := frozen_own h2.row (LB * 4 + 2); have HS2 : Hid (S3 x base (.slice (some ⟨g, 0, none⟩) n cap) s e (.slice (some ⟨g, 0, none⟩) n cap) y1) := h2; clear hb1 h2))
    go_region
    all_goals
      have h3 : S3 x base (.slice (some ⟨g, 0, none⟩) n cap) { s with lines := s.lines.set LB (turnL p 2 (p.qty + e.qty)) } e (.slice (some ⟨g, 0, none⟩) n cap) (y1.drew.setCell ⟨g, LB * 4 + 2, none⟩ (.int .i64 (p.qty + e.qty))) := HS2.out.drew.turn LB 2 p (p.qty + e.qty) HG1.out (by omega) (.inl rfl)
      have HS3 : Hid (S3 x base (.slice (some ⟨g, 0, none⟩) n cap) { s with lines := s.lines.set LB (turnL p 2 (p.qty + e.qty)) } e (.slice (some ⟨g, 0, none⟩) n cap) (y1.drew.setCell ⟨g, LB * 4 + 2, none⟩ (.int .i64 (p.qty + e.qty)))) := h3
      clear h3
      go_wp2_with (first
        | ((with_reducible refine guard_load 25 ?_); refine wpList_load_st rfl _ rfl HS3.out.st rfl ?_)
        | ((with_reducible refine guard_store 25 ?_); refine wpList_store_st (s := zeroS) (s2 := { s with lines := s.lines.set LB (turnL p 2 (p.qty + e.qty)) }) (a2 := some ⟨g, 0, none⟩) (n2 := n) (c2 := cap) rfl _ _ rfl HS3.out.res rfl rfl ?_; intro y z1 z2 z3 z4))
      have HZ := HS3.out.done z3 z2
      exact bodyPost_ret (results_st1 rfl _ _ _ rfl z1) rfl ⟨_, n, cap, rfl, HZ.1, HZ.2⟩
  | none =>
    have hA : addL s.lines e = s.lines.take LB ++ ⟨e.item, e.price, e.qty, 0⟩ :: s.lines.drop LB := by unfold addL; rw [hO, hLB]
    rw [hA]
    have hL1 : (s.lines.take LB ++ ⟨e.item, e.price, 0, 0⟩ :: s.lines.drop LB)[LB]? = some (⟨e.item, e.price, 0, 0⟩ : Ln) := by
      rw [List.getElem?_append_right (by rw [List.length_take]; omega), List.length_take, Nat.min_eq_left (by omega), Nat.sub_self]; rfl
    have hL2 : (s.lines.take LB ++ ⟨e.item, e.price, 0, 0⟩ :: s.lines.drop LB).set LB (turnL ⟨e.item, e.price, 0, 0⟩ 2 e.qty) = s.lines.take LB ++ (⟨e.item, e.price, e.qty, 0⟩ : Ln) :: s.lines.drop LB := by
      rw [List.set_append_right _ _ (by rw [List.length_take]; omega), List.length_take, Nat.min_eq_left (by omega), Nat.sub_self]; rfl
    have HF : Hid (lbI s.lines e.item = LB ∧ lnAt s.lines e.item = none) := ⟨hLB, hO⟩
    have HL1 : Hid ((s.lines.take LB ++ ⟨e.item, e.price, 0, 0⟩ :: s.lines.drop LB)[LB]? = some (⟨e.item, e.price, 0, 0⟩ : Ln)) := hL1
    obtain ⟨M, hM⟩ : ∃ M : List Ln, s.lines.take LB ++ ⟨e.item, e.price, 0, 0⟩ :: s.lines.drop LB = M := ⟨_, rfl⟩
    rw [hM] at hL1 hL2
    have HM : Hid (s.lines.take LB ++ ⟨e.item, e.price, 0, 0⟩ :: s.lines.drop LB = M ∧ M[LB]? = some ⟨e.item, e.price, 0, 0⟩ ∧ M.set LB (turnL ⟨e.item, e.price, 0, 0⟩ 2 e.qty) = s.lines.take LB ++ (⟨e.item, e.price, e.qty, 0⟩ : Ln) :: s.lines.drop LB) := ⟨hM, hL1, hL2⟩
    have HBS : Hid (base ≤ x.heap.size) := hb
    clear H ho hb v hr hk hst hrf hlen hO h16 hrise hA hLB hL1 hL2 HL1 hM
    go_enter Tryz.func53, Tryz.ntmps53
    go_wp2_with (first
      | (go_at_call 91; refine (find_any s.lines _ n cap e.item _ HN.out (ownl_lns HS.out.row) hn16 HRI.out).mono ?_; rw [HF.out.1, HF.out.2]; rintro _ y1 ⟨rfl, hb1⟩; have h2 : S3 x base (.slice a n cap) s e (.slice a n cap) y1 := HS.out.keep hb1; have c5' := h2.st.cell 5 (.slice a n cap) rfl; have d2' := h2.ev.cell 2 (.int .i64 e.item) rfl; have d4' := h2.ev.cell 4 (.int .i64 e.price) rfl; have HS2 : Hid (S3 x base (.slice a n cap) s e (.slice a n cap) y1) := h2; clear hb1 h2)
      | (go_at_call 92; refine (ins_any s.lines ⟨e.item, e.price, 0, 0⟩ a LB n cap base y1.heap.size _ (HS2.out.row.keep ((Below.refl _ _).alloc (Nat.le_refl _) _)) (by have := HBS.out; have := HS2.out.gr.size; simp; omega) hLn hn16 (fun hk => by have := (HS2.out.row.ob _ hk.symm).2.1; omega) (heap_alloc_new y1 _)).mono ?_; rw [HM.out.1]; rintro _ y2 ⟨g2, c2, rfl, ho2, hgr2, hat2⟩; obtain ⟨h3, hst3⟩ := (HS2.out.keep ((Below.refl y1.heap.size y1).alloc (Nat.le_refl _) (.cells #[.int .i64 e.item, .int .i64 e.price, .int .i64 0, .int .i64 0] 44))).swap hgr2 _ M ho2; have e5 := hst3.cell 5 (.slice a n cap) rfl; have e5f := hst3.froz 5; have HAT : Hid ((Value.slice a n cap).ownBlock = some g2 ∨ x.heap.size ≤ g2) := (hat2.imp id (fun h => by have := HS2.out.gr.size; simp at h; omega)); have i5 := h3.st.cell 5 (.slice (some ⟨g2, 0, none⟩) (n + 1) c2) rfl; have j3 := h3.ev.cell 3 (.int .i64 e.qty) rfl; obtain ⟨k0, k1, k2, k3⟩ := h3.row.cells HM.out.2.1; have kf := frozen_own h3.row (LB * 4 + 2); have hLn3 : LB < n + 1 := Nat.lt_succ_of_le hLn; have HS3 : Hid (S3 x base (.slice a n cap) { s with lines := M } e (.slice (some ⟨g2, 0, none⟩) (n + 1) c2) (y2.setCell ⟨x.heap.size, 5, none⟩ (.slice (some ⟨g2, 0, none⟩) (n + 1) c2))) := h3; clear ho2 hgr2 hat2 h3 hst3))
    go_region
    all_goals
      have h4 : S3 x base (.slice a n cap) { s with lines := s.lines.take LB ++ (⟨e.item, e.price, e.qty, 0⟩ : Ln) :: s.lines.drop LB } e (.slice (some ⟨g2, 0, none⟩) (n + 1) c2) ((y2.setCell ⟨x.heap.size, 5, none⟩ (.slice (some ⟨g2, 0, none⟩) (n + 1) c2)).drew.setCell ⟨g2, LB * 4 + 2, none⟩ (.int .i64 e.qty)) := by
        have h := HS3.out.drew.turn LB 2 ⟨e.item, e.price, 0, 0⟩ e.qty HM.out.2.1 (by omega) HAT.out
        simp only [HM.out.2.2] at h
        exact h
      have HS4 : Hid (S3 x base (.slice a n cap) { s with lines := s.lines.take LB ++ (⟨e.item, e.price, e.qty, 0⟩ : Ln) :: s.lines.drop LB } e (.slice (some ⟨g2, 0, none⟩) (n + 1) c2) ((y2.setCell ⟨x.heap.size, 5, none⟩ (.slice (some ⟨g2, 0, none⟩) (n + 1) c2)).drew.setCell ⟨g2, LB * 4 + 2, none⟩ (.int .i64 e.qty))) := h4
      clear h4
      go_wp2_with (first
        | ((with_reducible refine guard_load 25 ?_); refine wpList_load_st rfl _ rfl HS4.out.st rfl ?_)
        | ((with_reducible refine guard_store 25 ?_); refine wpList_store_st (s := zeroS) (s2 := { s with lines := s.lines.take LB ++ (⟨e.item, e.price, e.qty, 0⟩ : Ln) :: s.lines.drop LB }) (a2 := some ⟨g2, 0, none⟩) (n2 := n + 1) (c2 := c2) rfl _ _ rfl HS4.out.res rfl rfl ?_; intro y z1 z2 z3 z4))
      have HZ := HS4.out.done z3 z2
      exact bodyPost_ret (results_st1 rfl _ _ _ rfl z1) rfl ⟨_, n + 1, c2, rfl, HZ.1, HZ.2⟩
end Go.Proofs.YtblfmfanfpohbaaGreat
namespace Go.Proofs.YtblfmfanfpohbaaGreat
open Go.ChangeShapes Go.WideShapes Go.ChangeAt Go.RowKit
set_option linter.unusedVariables false
set_option linter.unusedSimpArgs false
/-- an append whose run is known, as a step of a region that draws -/
theorem step_append_runE {P : Program} {ops : Array Oper} {o : Oper} {a : Act} {w : World} {K : Act → World → Prop} {Q : Exit → Act → World → Prop} {E : Prop}
    (hg : o.guard = none) (d x : Operand) (dT sT : TypeId) (hop : o.op = Op.call { callee := Callee.builtin Builtin.append, args := #[d, x], argTypes := #[dT, sT] })
    (v u : Value) (hd : a.eval d = v) (hx : a.eval x = u) {v' : Value} {w' : World} (hr : (Builtin.append_ #[dT, sT] o.type #[v, u]).run P w = .ok v' w') (hK : K (a.put o.dst v') w') :
    if Region.wanted o (yielded ops a.tmps) = true then Oper.wp P o a w K Q else E := by
  have hw : Region.wanted o (yielded ops a.tmps) = true := by simp [Region.wanted, hg]
  rw [if_pos hw]
  unfold Oper.wp
  simp [execOp, hop, resolve, invoke, builtin, hd, hx, hr, Result.andThen]
  exact hK
theorem zeroLn (w : World) : (zeroValue 44).run Tryz.prog w = .ok (.agg #[.int .i64 0, .int .i64 0, .int .i64 0, .int .i64 0]) w := by
  obtain ⟨i0, hi0, hz0, hz1, hz2⟩ := info_parts Tryz.infoLn
  simp [zeroValue, typeInfo, hi0, hz0]
theorem zeroCells1 : (Builtin.zeroCells (Value.agg #[.int .i64 0, .int .i64 0, .int .i64 0, .int .i64 0]).cells 1).toList = [Value.int .i64 0, Value.int .i64 0, Value.int .i64 0, Value.int .i64 0] := by kernel_rfl
/-- clear of one line of a row -/
theorem run_clear_ln (w : World) (ty : TypeId) (g o c : Nat) (cur : Array Value) (t : TypeId) (hg : w.heap[g]? = some (.cells cur t (0, 0))) (hfit : o + 4 ≤ cur.size) :
    (Builtin.clear_ #[23] ty #[.slice (some ⟨g, o, none⟩) 1 c]).run Tryz.prog w = .ok (.tuple #[]) (w.setRow g (cur.toList.take o ++ [Value.int .i64 0, Value.int .i64 0, Value.int .i64 0, Value.int .i64 0] ++ cur.toList.drop (o + 4)).toArray) := by
  have hst := run_storeCells_at Tryz.prog g o t [Value.int .i64 0, .int .i64 0, .int .i64 0, .int .i64 0] 0 cur w hg (by simpa using hfit) (by intro v hv; simp only [List.mem_cons, List.not_mem_nil, or_false] at hv; rcases hv with rfl | rfl | rfl | rfl <;> rfl)
  simp only [Nat.add_zero] at hst
  simp only [Builtin.clear_]
  simp [run_underlying Tryz.underlying23, zeroLn, zeroCells1, hst]
theorem wpList_clear_run {P : Program} (w : World) {ops : Array Oper} {rest : List Oper} {o : Oper} {a : Act} {Q : Exit → Act → World → Prop} (hgd : o.guard = none) (d : Operand) (t : TypeId)
    (ho : o.op = .call { callee := .builtin .clear, args := #[d], argTypes := #[t] }) (v : Value) (hd : a.eval d = v) {v' : Value} {w' : World}
    (hr : (Builtin.clear_ #[t] o.type #[v]).run P w = .ok v' w') (h : wpList P ops Q rest (a.put o.dst v') w') : wpList P ops Q (o :: rest) a w :=
  wpList_plain hgd fun _ hK => by
    unfold Oper.wp execOp
    simp only [ho, resolve, invoke, builtin, Sem.run_bind, Sem.run_pure, Result.andThen_ok, List.map_toArray, List.map_cons, List.map_nil, hd, hr]
    exact hK _ _ h
theorem at_clear {P : Program} {w : World} {ops : Array Oper} {rest : List Oper} {a : Act} {Q : Exit → Act → World → Prop} {dst : Option Tmp} {ty : TypeId} {pos : String} {after : Array Edge} {guard : Option (Nat × Bool)} {d : Operand} {t : TypeId}
    (h : wpList P ops Q ({ dst := dst, op := .call { callee := .builtin .clear, args := #[d], argTypes := #[t] }, type := ty, pos := pos, after := after, guard := guard } :: rest) a w) : wpList P ops Q ({ dst := dst, op := .call { callee := .builtin .clear, args := #[d], argTypes := #[t] }, type := ty, pos := pos, after := after, guard := guard } :: rest) a w := h
theorem del_list (cur A Z : List Value) (I N M : Nat) (hcl : cur.length = M) (hA : A.length = N) (ht : cur.take N = A) (hI : I + 4 ≤ N) (hM : N ≤ M) (hZ : Z.length = 4) :
    ((cur.take I ++ A.drop (I + 4) ++ cur.drop (I + (A.drop (I + 4)).length)).take (N - 4) ++ Z ++ (cur.take I ++ A.drop (I + 4) ++ cur.drop (I + (A.drop (I + 4)).length)).drop (N - 4 + 4)).take (N - 4) = A.take I ++ A.drop (I + 4) ∧ ((cur.take I ++ A.drop (I + 4) ++ cur.drop (I + (A.drop (I + 4)).length)).take (N - 4) ++ Z ++ (cur.take I ++ A.drop (I + 4) ++ cur.drop (I + (A.drop (I + 4)).length)).drop (N - 4 + 4)).length = M := by
  have e0 : cur.take I = A.take I := by rw [← ht, List.take_take, Nat.min_eq_left (by omega)]
  have e1 : (cur.take I ++ A.drop (I + 4)).length = N - 4 := by simp only [List.length_append, List.length_take, List.length_drop, hcl, hA]; omega
  have e2 : (cur.take I ++ A.drop (I + 4) ++ cur.drop (I + (A.drop (I + 4)).length)).take (N - 4) = A.take I ++ A.drop (I + 4) := by rw [← e1, List.take_left, e0]
  rw [e2]
  have e3 : (A.take I ++ A.drop (I + 4)).length = N - 4 := by rw [← e0]; exact e1
  constructor
  · rw [List.append_assoc, ← e3, List.take_left]
  · simp only [List.length_append, List.length_take, List.length_drop, hcl, hA, hZ]; omega
set_option maxRecDepth 20000 in
set_option maxHeartbeats 4000000 in
theorem del_mid (L : List Ln) (g i m cap base : Nat) (w : World) (ho : OwnL w base (.slice (some ⟨g, 0, none⟩) (m + 1) cap) L) (hi : i < m) (hn16 : m ≤ 16) :
    Calls Tryz.prog 95 #[.slice (some ⟨g, 0, none⟩) (m + 1) cap, .int .i64 (i : Int), .int .i64 ((i : Int) + 1)] w fun r w' => r = .returned (.slice (some ⟨g, 0, none⟩) m cap) ∧ OwnL w' base (.slice (some ⟨g, 0, none⟩) m cap) (L.eraseIdx i) ∧ w.grownBy w' (some g) := by
  obtain ⟨hnc, hcm⟩ := ho.caps
  obtain ⟨cur, hg, hcs, htake, hbg⟩ := ho.whole
  have hlen := ho.len
  obtain ⟨i0, hi0, hz0, hz1, hz2⟩ := info_parts Tryz.infoLn
  have hAl : (lfl L).length = (m + 1) * 4 := by rw [lfl_length, hlen]
  have hcl : cur.toList.length = cap * 4 := by simpa using hcs
  obtain ⟨X1, hX1⟩ : ∃ X1 : List Value, cur.toList.take (i * 4) ++ (lfl L).drop (i * 4 + 4) ++ cur.toList.drop (i * 4 + ((lfl L).drop (i * 4 + 4)).length) = X1 := ⟨_, rfl⟩
  obtain ⟨X2, hX2⟩ : ∃ X2 : List Value, X1.take ((m + 1) * 4 - 4) ++ [Value.int .i64 0, Value.int .i64 0, Value.int .i64 0, Value.int .i64 0] ++ X1.drop ((m + 1) * 4 - 4 + 4) = X2 := ⟨_, rfl⟩
  have hX1l : X1.length = cap * 4 := by rw [← hX1]; simp only [List.length_append, List.length_take, List.length_drop, hAl, hcl]; omega
  have hX2f : X2.take ((m + 1) * 4 - 4) = (lfl L).take (i * 4) ++ (lfl L).drop (i * 4 + 4) ∧ X2.length = cap * 4 := by
    rw [← hX2, ← hX1]
    exact del_list cur.toList (lfl L) _ (i * 4) ((m + 1) * 4) (cap * 4) hcl hAl htake (by omega) (by omega) rfl
  have hap : ∀ ty ao c, (i < m → ao = some ⟨g, (i + 1) * 4, none⟩) → (∃ z, ao = some z) → (Builtin.append_ #[23, 23] ty #[.slice (some ⟨g, 0, none⟩) i cap, .slice ao (m - i) c]).run Tryz.prog w.drew = .ok (.slice (some ⟨g, 0, none⟩) m cap) (w.drew.setRow g X1.toArray) := fun ty ao c hao hz => by
    obtain ⟨z, rfl⟩ := hz
    have h := run_append_room (P := Tryz.prog) w.drew 23 ty 44 i0 Tryz.underlying23 hi0 g i cap cur hg z (m - i) c ((lfl L).drop (i * 4 + 4)) (by rw [List.length_drop, hAl, hz1]; omega) (fun j u hj => ?_) (fun v hv => lfl_one L v (List.mem_of_mem_drop hv)) (by omega) (by rw [List.length_drop, hAl, hz1]; omega)
    · rw [hz1, hX1, show i + (m - i) = m from by omega] at h
      exact h
    · have hj' := ln_lt hj
      rw [List.length_drop, hAl] at hj'
      have := hao (by omega)
      injection this with this
      subst this
      rw [List.getElem?_drop] at hj
      rw [Addr.add_lit, show (i + 1) * 4 + j = i * 4 + 4 + j from by omega]
      show w.cell? _ = _
      rw [cell_of_row w g _ cur _ (0, 0) hg, ← hj, ← htake, List.getElem?_take, if_pos (by omega)]
      simp
  obtain ⟨W1, hW1⟩ : ∃ W1, W1 = w.drew.setRow g X1.toArray := ⟨_, rfl⟩
  have hW1g : W1.heap[g]? = some (.cells X1.toArray 44 (0, 0)) := by rw [hW1]; exact setRow_heap w.drew g cur _ _ _ hg
  have hgr1 : w.grownBy W1 (some g) := by rw [hW1]; exact ⟨rfl, rfl, rfl, by simp [World.setRow], fun k _ hk => setRow_other w.drew g k _ (fun e => hk (by rw [e]))⟩
  rw [← hW1] at hap
  have hcl1 : ∀ ty c, (Builtin.clear_ #[23] ty #[.slice (some ⟨g, m * 4, none⟩) 1 c]).run Tryz.prog W1 = .ok (.tuple #[]) (W1.setRow g X2.toArray) := fun ty c => by
    have h := run_clear_ln W1 ty g (m * 4) c X1.toArray _ hW1g (by simp only [List.size_toArray, hX1l]; omega)
    rw [show m * 4 = (m + 1) * 4 - 4 from by omega] at h ⊢
    rw [hX2] at h
    exact h
  have HF : Hid (OwnL (W1.setRow g X2.toArray) base (.slice (some ⟨g, 0, none⟩) m cap) (L.eraseIdx i) ∧ w.grownBy (W1.setRow g X2.toArray) (some g)) := by
    refine ⟨?_, hgr1.os, hgr1.tape, hgr1.output, by simpa [World.setRow] using hgr1.size, fun k hk hne => (setRow_other W1 g k _ (fun e => hne (by rw [e]))).trans (hgr1.block k hk hne)⟩
    have hl2 : (L.eraseIdx i).length = m := by rw [List.length_eraseIdx, if_pos (by omega), hlen]; rfl
    unfold OwnL
    rw [hl2]
    refine ⟨by rw [lfl_length, hl2], .inr ⟨g, cap, X2.toArray, rfl, hbg, setRow_heap W1 g _ _ _ _ hW1g, by omega, hcm, by simpa using hX2f.2, ?_⟩⟩
    show X2.take _ = _
    rw [show m * 4 = (m + 1) * 4 - 4 from by omega, hX2f.1, List.eraseIdx_eq_take_drop_succ, lfl_append, lfl_take, show i * 4 + 4 = (i + 1) * 4 from by omega, lfl_drop]
  have hw1 : IntKind.i64.wrap ((i : Int) + 1) = (i : Int) + 1 := by rw [IntKind.wrap_i64]; omega
  have hb1 : (0 : Int) ≤ (i : Int) + 1 := by omega
  have hin : i ≤ m + 1 := by omega
  have htn : ((i : Int) + 1).toNat = i + 1 := by omega
  have hb3 : (i : Int) ≤ (m : Int) := by omega
  have hii : ((i : Int) == (i : Int) + 1) = false := by simp; omega
  have hcm1 : ¬ cap = m := by omega
  have hic : i ≤ cap := by omega
  have hmm : (m : Int) ≤ (m : Int) + 1 := by omega
  have hci : ¬ cap = i + 1 := by omega
  have hap1 := fun ty c => hap ty (some ⟨g, (i + 1) * 4, none⟩) c (fun h => rfl) ⟨_, rfl⟩
  unfold maxLen at hcm
  clear hX1 hX2 hX1l hX2f hW1 hW1g hgr1 hg hcs htake hbg hlen hAl hcl ho hi0 hz0 hz1 hz2 hap
  go_enter Tryz.func95, Tryz.ntmps95
  go_wp2
  go_region_law (refine step_append_runE rfl _ _ 23 23 rfl _ _ rfl rfl (hap1 _ _) ?_)
  go_wp2_with ((with_reducible refine at_clear ?_); refine wpList_clear_run _ rfl _ 23 rfl _ rfl (hcl1 _ _) ?_)
  go_ret
  exact ⟨rfl, HF.out.1, HF.out.2⟩
set_option maxRecDepth 20000 in
set_option maxHeartbeats 4000000 in
theorem del_last (L : List Ln) (g m cap base : Nat) (w : World) (ho : OwnL w base (.slice (some ⟨g, 0, none⟩) (m + 1) cap) L) (hn16 : m ≤ 16) :
    Calls Tryz.prog 95 #[.slice (some ⟨g, 0, none⟩) (m + 1) cap, .int .i64 (m : Int), .int .i64 ((m : Int) + 1)] w fun r w' => r = .returned (.slice (some ⟨g, 0, none⟩) m cap) ∧ OwnL w' base (.slice (some ⟨g, 0, none⟩) m cap) (L.eraseIdx m) ∧ w.grownBy w' (some g) := by
  obtain ⟨hnc, hcm⟩ := ho.caps
  obtain ⟨cur, hg, hcs, htake, hbg⟩ := ho.whole
  have hlen := ho.len
  have hAl : (lfl L).length = (m + 1) * 4 := by rw [lfl_length, hlen]
  have hcl : cur.toList.length = cap * 4 := by simpa using hcs
  obtain ⟨X2, hX2⟩ : ∃ X2 : List Value, cur.toList.take (m * 4) ++ [Value.int .i64 0, Value.int .i64 0, Value.int .i64 0, Value.int .i64 0] ++ cur.toList.drop (m * 4 + 4) = X2 := ⟨_, rfl⟩
  have hcl1 : ∀ ty c, (Builtin.clear_ #[23] ty #[.slice (some ⟨g, m * 4, none⟩) 1 c]).run Tryz.prog w.drew = .ok (.tuple #[]) (w.drew.setRow g X2.toArray) := fun ty c => by
    have h := run_clear_ln w.drew ty g (m * 4) c cur _ hg (by rw [hcs]; omega)
    rw [hX2] at h
    exact h
  have HF : Hid (OwnL (w.drew.setRow g X2.toArray) base (.slice (some ⟨g, 0, none⟩) m cap) (L.eraseIdx m) ∧ w.grownBy (w.drew.setRow g X2.toArray) (some g)) := by
    refine ⟨?_, rfl, rfl, rfl, by simp [World.setRow], fun k _ hk => setRow_other w.drew g k _ (fun e => hk (by rw [e]))⟩
    have hl2 : (L.eraseIdx m).length = m := by rw [List.length_eraseIdx, if_pos (by omega), hlen]; rfl
    have he : L.eraseIdx m = L.take m := by rw [List.eraseIdx_eq_take_drop_succ, List.drop_eq_nil_of_le (by omega), List.append_nil]
    unfold OwnL
    rw [hl2]
    refine ⟨by rw [lfl_length, hl2], .inr ⟨g, cap, X2.toArray, rfl, hbg, setRow_heap w.drew g cur _ _ _ hg, by omega, hcm, ?_, ?_⟩⟩
    · rw [← hX2]; simp only [List.size_toArray, List.length_append, List.length_take, List.length_drop, hcl, List.length_cons, List.length_nil]; omega
    · show X2.take _ = _
      rw [← hX2, List.append_assoc, List.take_append_of_le_length (by rw [List.length_take]; omega), List.take_take, Nat.min_self, he, ← lfl_take, ← htake, List.take_take, Nat.min_eq_left (by omega)]
  have hw1 : IntKind.i64.wrap ((m : Int) + 1) = (m : Int) + 1 := by rw [IntKind.wrap_i64]; omega
  have hb1 : (0 : Int) ≤ (m : Int) + 1 := by omega
  have htn : ((m : Int) + 1).toNat = m + 1 := by omega
  have hii : ((m : Int) == (m : Int) + 1) = false := by simp; omega
  have hcm1 : ¬ cap = m := by omega
  have hic : m ≤ cap := by omega
  have hmm : (m : Int) ≤ (m : Int) + 1 := by omega
  unfold maxLen at hcm
  clear hX2 hg hcs htake hbg hlen hAl hcl ho
  by_cases hci : cap = m + 1
  · subst hci
    go_enter Tryz.func95, Tryz.ntmps95
    go_wp2
    go_region
    all_goals
      go_wp2_with ((with_reducible refine at_clear ?_); refine wpList_clear_run _ rfl _ 23 rfl _ rfl (hcl1 _ _) ?_)
      go_ret
      exact ⟨rfl, HF.out.1, HF.out.2⟩
  · go_enter Tryz.func95, Tryz.ntmps95
    go_wp2
    go_region
    all_goals
      go_wp2_with ((with_reducible refine at_clear ?_); refine wpList_clear_run _ rfl _ 23 rfl _ rfl (hcl1 _ _) ?_)
      go_ret
      exact ⟨rfl, HF.out.1, HF.out.2⟩
theorem del_any (L : List Ln) (g i m cap base : Nat) (w : World) (ho : OwnL w base (.slice (some ⟨g, 0, none⟩) (m + 1) cap) L) (hi : i ≤ m) (hn16 : m ≤ 16) :
    Calls Tryz.prog 95 #[.slice (some ⟨g, 0, none⟩) (m + 1) cap, .int .i64 (i : Int), .int .i64 ((i : Int) + 1)] w fun r w' => r = .returned (.slice (some ⟨g, 0, none⟩) m cap) ∧ OwnL w' base (.slice (some ⟨g, 0, none⟩) m cap) (L.eraseIdx i) ∧ w.grownBy w' (some g) := by
  by_cases h : i = m
  · subst h; exact del_last L g i cap base w ho hn16
  · exact del_mid L g i m cap base w ho (by omega) hn16
end Go.Proofs.YtblfmfanfpohbaaGreat
namespace Go.Proofs.YtblfmfanfpohbaaGreat
open Go.ChangeShapes Go.WideShapes Go.ChangeAt Go.RowKit
set_option linter.unusedVariables false
set_option linter.unusedSimpArgs false
theorem cf_drop (a : Array Value) (w : World) : (callFunc 63 a).run Tryz.prog w = .ok (.enter 63 a) w := by kernel_rfl
set_option maxRecDepth 20000 in
set_option maxHeartbeats 4000000 in
theorem do_drop : DoOk 63 6 := by
  refine ⟨cf_drop, fun x base s e a n cap ho hb v hr hk hst hrf => ?_⟩
  rw [show doS s e = { s with lines := dropL s.lines e } from by unfold doS; rw [if_neg (by omega), if_neg (by omega), if_neg (by omega), if_neg (by omega), if_neg (by omega), if_pos hk]]
  have hR : ∃ p, lnAt s.lines e.item = some p ∧ e.qty ≤ p.qty := by
    unfold refR at hrf
    rw [if_neg (by omega), if_neg (by omega), if_neg (by omega), if_pos hk] at hrf
    unfold refTake at hrf
    split at hrf
    · omega
    · split at hrf
      · rename_i q hq
        refine ⟨q, hq, ?_⟩
        simp only at hrf
        split at hrf <;> omega
      · omega
  obtain ⟨p, hO, hq⟩ := hR
  obtain ⟨h16, hrise⟩ := linesB_from v.lines
  have q0 : 0 ≤ e.qty := by have := hr.qty0; simpa [loQ] using this
  obtain ⟨LB, hLB⟩ : ∃ LB, lbI s.lines e.item = LB := ⟨_, rfl⟩
  have hlen := ho.len
  have hn16 : n ≤ 16 := by omega
  obtain ⟨g1, g2⟩ := lnAt_some hO
  have fp := (linesB_facts v.lines).2 _ _ g1
  have hA : dropL s.lines e = if p.qty - e.qty = 0 then s.lines.eraseIdx LB else s.lines.set LB (turnL p 2 (p.qty - e.qty)) := by unfold dropL; rw [hO, hLB]; rfl
  rw [hLB] at g1
  obtain ⟨g, rfl, hnc, hcm, hfz, hglt⟩ := ho.block g1
  have hLn2 : LB < n := by have := ln_lt g1; omega
  obtain ⟨W, hW, H⟩ := s3_new x base s e _ ho
  have HS : Hid (S3 x base (.slice (some ⟨g, 0, none⟩) n cap) s e (.slice (some ⟨g, 0, none⟩) n cap) W) := H
  have c5 := H.st.cell 5 (.slice (some ⟨g, 0, none⟩) n cap) rfl
  have d2 := H.ev.cell 2 (.int .i64 e.item) rfl
  have HN : Hid (s.lines.length = n) := hlen
  have HRI : Hid (linesFrom (-1) s.lines = true) := hrise
  have HF : Hid (lbI s.lines e.item = LB ∧ lnAt s.lines e.item = some p) := ⟨hLB, hO⟩
  have HG1 : Hid (s.lines[LB]? = some p) := g1
  have b1 : 0 ≤ p.qty := by omega
  have b2 : p.qty ≤ 100000 := by omega
  have b3 : e.qty ≤ 100000 := by omega
  by_cases hz : p.qty - e.qty = 0
  · rw [hA, if_pos hz]
    have hqe : p.qty = e.qty := by omega
    obtain ⟨m, rfl⟩ : ∃ m, n = m + 1 := ⟨n - 1, by omega⟩
    have hL1 : (s.lines.set LB (turnL p 2 0)).eraseIdx LB = s.lines.eraseIdx LB := List.eraseIdx_set_eq
    have hL2 : (s.lines.set LB (turnL p 2 0))[LB]? = some (turnL p 2 0) := by rw [List.getElem?_set_self (by have := ln_lt g1; omega)]
    have HL : Hid ((s.lines.set LB (turnL p 2 0)).eraseIdx LB = s.lines.eraseIdx LB ∧ (s.lines.set LB (turnL p 2 0))[LB]? = some (turnL p 2 0)) := ⟨hL1, hL2⟩
    have hwz : IntKind.i64.wrap (p.qty - e.qty) = 0 := by rw [IntKind.wrap_i64]; omega
    have HQ : Hid (p.qty = e.qty) := hqe
    have hm16 : m ≤ 16 := by omega
    have hLm : LB ≤ m := by omega
    clear H ho hb v hr hk hst hrf hlen hO g1 g2 h16 hrise fp hA hLB hcm hfz hglt hL1 hL2 hqe hq
    go_enter Tryz.func63, Tryz.ntmps63
    go_wp2_with (first
      | (go_at_call 91; refine (find_any s.lines _ (m + 1) cap e.item _ HN.out (ownl_lns HS.out.row) hn16 HRI.out).mono ?_; rw [HF.out.1, HF.out.2]; rintro _ y1 ⟨rfl, hb1⟩; have h2 : S3 x base (.slice (some ⟨g, 0, none⟩) (m + 1) cap) s e (.slice (some ⟨g, 0, none⟩) (m + 1) cap) y1 := HS.out.keep hb1; have c5' := h2.st.cell 5 (.slice (some ⟨g, 0, none⟩) (m + 1) cap) rfl; have d3' := h2.ev.cell 3 (.int .i64 e.qty) rfl; obtain ⟨k0, k1, k2, k3⟩ := h2.row.cells HG1.out; have kf := frozen_own h2.row (LB * 4 + 2); have HS2 : Hid (S3 x base (.slice (some ⟨g, 0, none⟩) (m + 1) cap) s e (.slice (some ⟨g, 0, none⟩) (m + 1) cap) y1) := h2; clear hb1 h2))
    go_region
    all_goals
      have h3 : S3 x base (.slice (some ⟨g, 0, none⟩) (m + 1) cap) { s with lines := s.lines.set LB (turnL p 2 0) } e (.slice (some ⟨g, 0, none⟩) (m + 1) cap) (y1.drew.setCell ⟨g, LB * 4 + 2, none⟩ (.int .i64 0)) := HS2.out.drew.turn LB 2 p 0 HG1.out (by omega) (.inl rfl)
      have i5 := h3.st.cell 5 (.slice (some ⟨g, 0, none⟩) (m + 1) cap) rfl
      obtain ⟨j0, j1, j2, j3⟩ := h3.row.cells HL.out.2
      have j2' : (y1.drew.setCell ⟨g, LB * 4 + 2, none⟩ (.int .i64 0)).cell? ⟨g, LB * 4 + 2, none⟩ = some (.int .i64 0) := j2
      have HS3 : Hid (S3 x base (.slice (some ⟨g, 0, none⟩) (m + 1) cap) { s with lines := s.lines.set LB (turnL p 2 0) } e (.slice (some ⟨g, 0, none⟩) (m + 1) cap) (y1.drew.setCell ⟨g, LB * 4 + 2, none⟩ (.int .i64 0))) := h3
      clear h3 j0 j1 j2 j3
      try rw [HQ.out]
      try simp only [Int.sub_self]
      go_wp2_with (first
        | (go_at_call 95; refine (del_any _ g LB m cap base _ HS3.out.row hLm hm16).mono ?_; rw [HL.out.1]; rintro _ y2 ⟨rfl, ho2, hgr2⟩; obtain ⟨h4, hst4⟩ := HS3.out.swap hgr2 _ _ ho2; have e5 := hst4.cell 5 (.slice (some ⟨g, 0, none⟩) (m + 1) cap) rfl; have e5f := hst4.froz 5; have HS4 : Hid (S3 x base (.slice (some ⟨g, 0, none⟩) (m + 1) cap) { s with lines := s.lines.eraseIdx LB } e (.slice (some ⟨g, 0, none⟩) m cap) (y2.setCell ⟨x.heap.size, 5, none⟩ (.slice (some ⟨g, 0, none⟩) m cap))) := h4; clear ho2 hgr2 h4 hst4)
        | ((with_reducible refine guard_load 25 ?_); refine wpList_load_st rfl _ rfl HS4.out.st rfl ?_)
        | ((with_reducible refine guard_store 25 ?_); refine wpList_store_st (s := zeroS) (s2 := { s with lines := s.lines.eraseIdx LB }) (a2 := some ⟨g, 0, none⟩) (n2 := m) (c2 := cap) rfl _ _ rfl HS4.out.res rfl rfl ?_; intro y z1 z2 z3 z4))
      have HZ := HS4.out.done z3 z2
      exact bodyPost_ret (results_st1 rfl _ _ _ rfl z1) rfl ⟨_, m, cap, rfl, HZ.1, HZ.2⟩
  · rw [hA, if_neg hz]
    have hz' : (p.qty - e.qty == 0) = false := by simpa using hz
    clear H ho hb v hr hk hst hrf hlen hO g1 g2 h16 hrise fp hA hLB hcm hfz hglt
    go_enter Tryz.func63, Tryz.ntmps63
    go_wp2_with (first
      | (go_at_call 91; refine (find_any s.lines _ n cap e.item _ HN.out (ownl_lns HS.out.row) hn16 HRI.out).mono ?_; rw [HF.out.1, HF.out.2]; rintro _ y1 ⟨rfl, hb1⟩; have h2 : S3 x base (.slice (some ⟨g, 0, none⟩) n cap) s e (.slice (some ⟨g, 0, none⟩) n cap) y1 := HS.out.keep hb1; have c5' := h2.st.cell 5 (.slice (some ⟨g, 0, none⟩) n cap) rfl; have d3' := h2.ev.cell 3 (.int .i64 e.qty) rfl; obtain ⟨k0, k1, k2, k3⟩ := h2.row.cells HG1.out; have kf := frozen_own h2.row (LB * 4 + 2); have HS2 : Hid (S3 x base (.slice (some ⟨g, 0, none⟩) n cap) s e (.slice (some ⟨g, 0, none⟩) n cap) y1) := h2; clear hb1 h2))
    go_region
    all_goals
      have h3 : S3 x base (.slice (some ⟨g, 0, none⟩) n cap) { s with lines := s.lines.set LB (turnL p 2 (p.qty - e.qty)) } e (.slice (some ⟨g, 0, none⟩) n cap) (y1.drew.setCell ⟨g, LB * 4 + 2, none⟩ (.int .i64 (p.qty - e.qty))) := HS2.out.drew.turn LB 2 p (p.qty - e.qty) HG1.out (by omega) (.inl rfl)
      have i5 := h3.st.cell 5 (.slice (some ⟨g, 0, none⟩) n cap) rfl
      have HS3 : Hid (S3 x base (.slice (some ⟨g, 0, none⟩) n cap) { s with lines := s.lines.set LB (turnL p 2 (p.qty - e.qty)) } e (.slice (some ⟨g, 0, none⟩) n cap) (y1.drew.setCell ⟨g, LB * 4 + 2, none⟩ (.int .i64 (p.qty - e.qty)))) := h3
      clear h3
      go_wp2_with (first
        | ((with_reducible refine guard_load 25 ?_); refine wpList_load_st rfl _ rfl HS3.out.st rfl ?_)
        | ((with_reducible refine guard_store 25 ?_); refine wpList_store_st (s := zeroS) (s2 := { s with lines := s.lines.set LB (turnL p 2 (p.qty - e.qty)) }) (a2 := some ⟨g, 0, none⟩) (n2 := n) (c2 := cap) rfl _ _ rfl HS3.out.res rfl rfl ?_; intro y z1 z2 z3 z4))
      have HZ := HS3.out.done z3 z2
      exact bodyPost_ret (results_st1 rfl _ _ _ rfl z1) rfl ⟨_, n, cap, rfl, HZ.1, HZ.2⟩
/-- what events do, whatever their kind -/
theorem do_any (k : Nat) (h1 : 1 ≤ k) (h10 : k ≤ 10) : DoOk (doF k) k := by
  have hk : k = 1 ∨ k = 2 ∨ k = 3 ∨ k = 4 ∨ k = 5 ∨ k = 6 ∨ k = 7 ∨ k = 8 ∨ k = 9 ∨ k = 10 := by omega
  rcases hk with rfl | rfl | rfl | rfl | rfl | rfl | rfl | rfl | rfl | rfl
  · exact do_place
  · exact do_add
  · exact do_pay
  · exact do_ship
  · exact do_cancel
  · exact do_drop
  · exact do_refund
  · exact do_hold
  · exact do_release
  · exact do_clearUp
end Go.Proofs.YtblfmfanfpohbaaGreat
namespace Go.Proofs.YtblfmfanfpohbaaGreat
open Go.ChangeShapes Go.WideShapes Go.ChangeAt Go.RowKit
set_option linter.unusedVariables false
set_option linter.unusedSimpArgs false
theorem step_load_st {ops : Array Oper} {o : Oper} {a : Act} {w : World} {K : Act → World → Prop} {Q : Exit → Act → World → Prop} {X : Prop} (hg : o.guard = none) (x : Operand) (ho : o.op = .load 25 x)
    {b : Nat} {s : St} {v : Value} (hL : StAt w b s v) (hx : a.eval x = .pointer (some ⟨b, 0, none⟩)) (hK : K (a.put o.dst (.agg (stA s v))) w) :
    if Region.wanted o (yielded ops a.tmps) = true then Oper.wp Tryz.prog o a w K Q else X := by
  have hw : Region.wanted o (yielded ops a.tmps) = true := by simp [Region.wanted, hg]
  rw [if_pos hw]
  unfold Oper.wp execOp
  simp only [ho, hx, Sem.run_bind, Sem.run_pure, Result.andThen_ok, hL.load]
  exact hK
theorem step_store_st {ops : Array Oper} {o : Oper} {a : Act} {w : World} {K : Act → World → Prop} {Q : Exit → Act → World → Prop} {X : Prop} (hg : o.guard = none) (x y : Operand) (ho : o.op = .store 25 x y)
    {b : Nat} {s s2 : St} {v : Value} {a2 : Option Addr} {n2 c2 : Nat} (hL : StAt w b s v) (hx : a.eval x = .pointer (some ⟨b, 0, none⟩)) (hy : a.eval y = .agg (stA s2 (.slice a2 n2 c2)))
    (hK : ∀ w2, StAt w2 b s2 (.slice a2 n2 c2) → (∀ B a, Below B a w → B ≤ b → Below B a w2) → (∀ k, k ≠ b → w2.heap[k]? = w.heap[k]?) → w2.heap.size = w.heap.size → K (a.put o.dst undef) w2) :
    if Region.wanted o (yielded ops a.tmps) = true then Oper.wp Tryz.prog o a w K Q else X := by
  have hw : Region.wanted o (yielded ops a.tmps) = true := by simp [Region.wanted, hg]
  rw [if_pos hw]
  obtain ⟨w2, h1, h2, h3, h4, h5⟩ := hL.store s2 a2 n2 c2
  unfold Oper.wp execOp
  simp only [ho, hx, hy, Sem.run_bind, Sem.run_pure, Result.andThen_ok, h1]
  exact hK w2 h2 h3 h4 h5
theorem doS_keep (s : St) (e : Ev) : (doS s e).stamp = s.stamp ∧ (doS s e).who = s.who ∧ (doS s e).events = s.events ∧ (doS s e).refused = s.refused ∧ (doS s e).order = s.order := by
  unfold doS
  repeat' split
  all_goals exact ⟨rfl, rfl, rfl, rfl, rfl⟩
/-- behind what an event does, stored in the state's place -/
theorem S3.did {w : World} {base : Nat} {v : Value} {s s2 : St} {e : Ev} {v2 : Value} {x y z : World} (h : S3 w base v s e v x) (hg : x.grownBy y v.ownBlock) (ho : OwnL y base v2 s2.lines) (z1 : StAt z w.heap.size s2 v2) (z3 : ∀ k, k ≠ w.heap.size → z.heap[k]? = y.heap[k]?) (z2 : ∀ B a, Below B a y → B ≤ w.heap.size → Below B a z) : S3 w base v s2 e v2 z := by
  have st : StAt y w.heap.size s v := (hg.block _ h.st.lt (own_st_ne h.row h.st)).trans h.st
  have ev : EvAt y (w.heap.size + 1) e := (hg.block _ h.ev.lt (own_ev_ne h.row h.ev)).trans h.ev
  have res : StAt y (w.heap.size + 2) zeroS (.slice none 0 0) := (hg.block _ h.res.lt (own_st_ne h.row h.res)).trans h.res
  have b1 := z2 w.heap.size y (Below.refl _ _) (Nat.le_refl _)
  have g2 := grown_trans h.gr hg
  refine ⟨z1, (z3 _ (by omega)).trans ev, (z3 _ (by omega)).trans res, ho.keepOther (fun g hgk => z3 g (fun hh => ?_)), b1.os.trans g2.os, b1.tape.trans g2.tape, b1.output.trans g2.output, Nat.le_trans g2.size b1.size, fun k hk hne => (z3 k (by omega)).trans (g2.block k hk hne)⟩
  subst hh
  exact own_st_ne ho st hgk.symm
/-- what next answers -/
def NextPost (s' : St) (r0 : Int) (x : World) (base : Nat) (v : Value) (r : Ending) (x' : World) : Prop := ∃ a n c, r = .returned (.tuple #[.agg (stA s' (.slice a n c)), .int .i64 r0]) ∧ OwnL x' base (.slice a n c) s'.lines ∧ x.grownBy x' v.ownBlock
set_option maxRecDepth 20000 in
set_option maxHeartbeats 8000000 in
theorem next_no (lo b : Nat) (s : St) (e : Ev) (a : Option Addr) (n cap base : Nat) (w : World) (hd : DeedsAt lo w b) (ho : OwnL w base (.slice a n cap) s.lines) (hb : base ≤ w.heap.size) (hj : judS s e ≠ 0) :
    Calls Tryz.prog 22 #[.slice (some ⟨b, 0, none⟩) 11 11, .agg (stA s (.slice a n cap)), .agg (evA e)] w fun r w' => NextPost (nextS s e) (judS s e) w base (.slice a n cap) r w' := by
  obtain ⟨W, hW, H⟩ := s3_new w base s e _ ho
  have HS : Hid (S3 w base (.slice a n cap) s e (.slice a n cap) W) := H
  have HN : Hid (s.lines.length = n) := ho.len
  have HD : Hid (DeedsAt lo w b) := hd
  have hm : n ≤ maxLen := Nat.le_trans ho.caps.1 ho.caps.2
  have HBW : Hid (Below w.heap.size w W) := by rw [← hW]; exact (((Below.refl _ _).alloc (Nat.le_refl _) _).alloc (by simp) _).alloc (by simp; omega) _
  obtain ⟨J, hJ⟩ : ∃ J, judS s e = J := ⟨_, rfl⟩
  have HJ : Hid (judS s e = J) := hJ
  by_cases h12 : J = 1 ∨ J = 2
  · rw [show nextS s e = s from by unfold nextS; rw [hJ, if_pos h12], hJ]
    rcases h12 with rfl | rfl
    all_goals
      clear H ho hd hb hJ hj
      go_enter Tryz.func22, Tryz.ntmps22
      go_wp2_with (first
        | ((with_reducible refine guard_load 25 ?_); first | refine wpList_load_st rfl _ rfl HS1.out.st rfl ?_ | refine wpList_load_st rfl _ rfl HS.out.st rfl ?_)
        | ((with_reducible refine guard_load 38 ?_); refine wpList_load_ev rfl _ rfl HS.out.ev rfl ?_)
        | (go_at_call 69; refine (judge_any lo b s e a n cap _ (HD.out.keep HBW.out) HN.out (ownl_lns HS.out.row) hm).mono ?_; rw [HJ.out]; rintro _ x1 ⟨rfl, hb1⟩; have HS1 : Hid (S3 w base (.slice a n cap) s e (.slice a n cap) x1) := HS.out.keep hb1; clear hb1)
        | ((with_reducible refine guard_store 25 ?_); refine wpList_store_st (s := zeroS) (s2 := s) (a2 := a) (n2 := n) (c2 := cap) rfl _ _ rfl HS1.out.res rfl rfl ?_; intro y z1 z2 z3 z4))
      have HZ := HS1.out.done z3 z2
      exact bodyPost_ret (results_st2 rfl _ _ _ _ rfl rfl z1) rfl ⟨a, n, cap, rfl, HZ.1, HZ.2⟩
  · have hJ0 : J ≠ 0 := hJ ▸ hj
    have h1 : (J == 1) = false := by simp; omega
    have h2 : (J == 2) = false := by simp; omega
    have h0 : (J == 0) = false := by simp; omega
    have v := vl_of (jud_parts (s := s) (e := e) (by rw [hJ]; omega)).1
    have r1 := v.r1
    have r2 : s.refused ≤ 1099511627776 := by have := v.r2; have := v.e2; omega
    have e1 := v.e1
    have e2 := v.e2
    rw [show nextS s e = { s with refused := s.refused + 1, events := s.events + 1 } from by unfold nextS; rw [hJ, if_neg h12, if_neg hJ0], hJ]
    clear H ho hd hb hJ hj h12 hJ0 v
    go_enter Tryz.func22, Tryz.ntmps22
    go_wp2_with (first
      | ((with_reducible refine guard_load 25 ?_); first | refine wpList_load_st rfl _ rfl HS1.out.st rfl ?_ | refine wpList_load_st rfl _ rfl HS.out.st rfl ?_)
      | ((with_reducible refine guard_load 38 ?_); refine wpList_load_ev rfl _ rfl HS.out.ev rfl ?_)
      | (go_at_call 69; refine (judge_any lo b s e a n cap _ (HD.out.keep HBW.out) HN.out (ownl_lns HS.out.row) hm).mono ?_; rw [HJ.out]; rintro _ x1 ⟨rfl, hb1⟩; have k := HS.out.keep hb1; obtain ⟨c0, c1, c2, c3, c4, c5, c6, c7, c8, c9, c10, c11⟩ := k.st.cells; have f8 := k.froz 8; have f9 := k.froz 9; have HS1 : Hid (S3 w base (.slice a n cap) { s with refused := s.refused + 1, events := s.events + 1 } e (.slice a n cap) ((x1.setCell ⟨w.heap.size, 9, none⟩ (.int .i64 (s.refused + 1))).setCell ⟨w.heap.size, 8, none⟩ (.int .i64 (s.events + 1)))) := ((k.set (s2 := { s with refused := s.refused + 1 }) 9 _ rfl rfl).set 8 _ rfl rfl); clear hb1 k)
      | ((with_reducible refine guard_store 25 ?_); refine wpList_store_st (s := zeroS) (s2 := { s with refused := s.refused + 1, events := s.events + 1 }) (a2 := a) (n2 := n) (c2 := cap) rfl _ _ rfl HS1.out.res rfl rfl ?_; intro y z1 z2 z3 z4))
    have HZ := HS1.out.done z3 z2
    exact bodyPost_ret (results_st2 rfl _ _ _ _ rfl rfl z1) rfl ⟨a, n, cap, rfl, HZ.1, HZ.2⟩
end Go.Proofs.YtblfmfanfpohbaaGreat
