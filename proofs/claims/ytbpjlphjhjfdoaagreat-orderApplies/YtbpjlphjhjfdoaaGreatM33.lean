/- Own texts, joined: Od21. -/
import Derived.Test.YtbpjlphjhjfdoaaGreatM30
namespace Go.Proofs.YtbpjlphjhjfdoaaGreat
open Go.ChangeShapes Go.WideShapes Go.ChangeAt Go.RowKit
set_option linter.unusedVariables false
set_option linter.unusedSimpArgs false
theorem step_append_runE {P : Program} {ops : Array Oper} {o : Oper} {a : Act} {w : World} {K : Act → World → Prop} {Q : Exit → Act → World → Prop} {E : Prop}
    (hg : o.guard = none) (d x : Operand) (dT sT : TypeId) (hop : o.op = Op.call { callee := Callee.builtin Builtin.append, args := #[d, x], argTypes := #[dT, sT] })
    (v u : Value) (hd : a.eval d = v) (hx : a.eval x = u) {v' : Value} {w' : World} (hr : (Builtin.append_ #[dT, sT] o.type #[v, u]).run P w = .ok v' w') (hK : K (a.put o.dst v') w') :
    if Region.wanted o (yielded ops a.tmps) = true then Oper.wp P o a w K Q else E := by
  have hw : Region.wanted o (yielded ops a.tmps) = true := by simp [Region.wanted, hg]
  rw [if_pos hw]
  unfold Oper.wp
  simp [execOp, hop, resolve, invoke, builtin, hd, hx, hr, Result.andThen]
  exact hK
theorem zeroLn (w : World) : (zeroValue 36).run Tryz.prog w = .ok (.agg #[.int .i64 0, .int .i64 0, .int .i64 0, .int .i64 0]) w := by
  obtain ⟨i0, hi0, hz0, hz1, hz2⟩ := info_parts Tryz.infoLn
  simp [zeroValue, typeInfo, hi0, hz0]
theorem zeroCells1 : (Builtin.zeroCells (Value.agg #[.int .i64 0, .int .i64 0, .int .i64 0, .int .i64 0]).cells 1).toList = [Value.int .i64 0, Value.int .i64 0, Value.int .i64 0, Value.int .i64 0] := by kernel_rfl
theorem run_clear_ln (w : World) (ty : TypeId) (g o c : Nat) (cur : Array Value) (t : TypeId) (hg : w.heap[g]? = some (.cells cur t (0, 0))) (hfit : o + 4 ≤ cur.size) :
    (Builtin.clear_ #[23] ty #[.slice (some ⟨g, o, none⟩) 1 c]).run Tryz.prog w = .ok (.tuple #[]) (w.setRow g (cur.toList.take o ++ [Value.int .i64 0, Value.int .i64 0, Value.int .i64 0, Value.int .i64 0] ++ cur.toList.drop (o + 4)).toArray) := by
  have hst := run_storeCells_at Tryz.prog g o t [Value.int .i64 0, .int .i64 0, .int .i64 0, .int .i64 0] 0 cur w hg (by simpa using hfit) (by intro v hv; simp only [List.mem_cons, List.not_mem_nil, or_false] at hv; rcases hv with rfl | rfl | rfl | rfl <;> rfl)
  simp only [Nat.add_zero] at hst
  simp only [Builtin.clear_]
  simp [run_underlying Tryz.underlying23, zeroLn, zeroCells1, hst]
theorem wpList_clear_run {P : Program} (w : World) {ops : Array Oper} {rest : List Oper} {o : Oper} {a : Act} {Q : Exit → Act → World → Prop} (hgd : o.guard = none) (d : Operand) (t : TypeId)
    (ho : o.op = .call { callee := .builtin .clear, args := #[d], argTypes := #[t] }) (v : Value) (hd : a.eval d = v) {v' : Value} {w' : World}
    (hr : (Builtin.clear_ #[t] o.type #[v]).run P w = .ok v' w') (h : wpList P ops Q rest (a.put o.dst v') w') : wpList P ops Q (o :: rest) a w :=
  wpList_plain hgd fun _ hK => by
    unfold Oper.wp execOp
    simp only [ho, resolve, invoke, builtin, Sem.run_bind, Sem.run_pure, Result.andThen_ok, List.map_toArray, List.map_cons, List.map_nil, hd, hr]
    exact hK _ _ h
theorem at_clear {P : Program} {w : World} {ops : Array Oper} {rest : List Oper} {a : Act} {Q : Exit → Act → World → Prop} {dst : Option Tmp} {ty : TypeId} {pos : String} {after : Array Edge} {guard : Option (Nat × Bool)} {d : Operand} {t : TypeId}
    (h : wpList P ops Q ({ dst := dst, op := .call { callee := .builtin .clear, args := #[d], argTypes := #[t] }, type := ty, pos := pos, after := after, guard := guard } :: rest) a w) : wpList P ops Q ({ dst := dst, op := .call { callee := .builtin .clear, args := #[d], argTypes := #[t] }, type := ty, pos := pos, after := after, guard := guard } :: rest) a w := h
theorem del_list (cur A Z : List Value) (I N M : Nat) (hcl : cur.length = M) (hA : A.length = N) (ht : cur.take N = A) (hI : I + 4 ≤ N) (hM : N ≤ M) (hZ : Z.length = 4) :
    ((cur.take I ++ A.drop (I + 4) ++ cur.drop (I + (A.drop (I + 4)).length)).take (N - 4) ++ Z ++ (cur.take I ++ A.drop (I + 4) ++ cur.drop (I + (A.drop (I + 4)).length)).drop (N - 4 + 4)).take (N - 4) = A.take I ++ A.drop (I + 4) ∧ ((cur.take I ++ A.drop (I + 4) ++ cur.drop (I + (A.drop (I + 4)).length)).take (N - 4) ++ Z ++ (cur.take I ++ A.drop (I + 4) ++ cur.drop (I + (A.drop (I + 4)).length)).drop (N - 4 + 4)).length = M := by
  have e0 : cur.take I = A.take I := by rw [← ht, List.take_take, Nat.min_eq_left (by omega)]
  have e1 : (cur.take I ++ A.drop (I + 4)).length = N - 4 := by simp only [List.length_append, List.length_take, List.length_drop, hcl, hA]; omega
  have e2 : (cur.take I ++ A.drop (I + 4) ++ cur.drop (I + (A.drop (I + 4)).length)).take (N - 4) = A.take I ++ A.drop (I + 4) := by rw [← e1, List.take_left, e0]
  rw [e2]
  have e3 : (A.take I ++ A.drop (I + 4)).length = N - 4 := by rw [← e0]; exact e1
  constructor
  · rw [List.append_assoc, ← e3, List.take_left]
  · simp only [List.length_append, List.length_take, List.length_drop, hcl, hA, hZ]; omega
set_option maxRecDepth 20000 in
set_option maxHeartbeats 4000000 in
theorem del_mid (L : List Ln) (g i m cap base : Nat) (w : World) (ho : OwnL w base (.slice (some ⟨g, 0, none⟩) (m + 1) cap) L) (hi : i < m) (hn16 : m ≤ 16) :
    Calls Tryz.prog 81 #[.slice (some ⟨g, 0, none⟩) (m + 1) cap, .int .i64 (i : Int), .int .i64 ((i : Int) + 1)] w fun r w' => r = .returned (.slice (some ⟨g, 0, none⟩) m cap) ∧ OwnL w' base (.slice (some ⟨g, 0, none⟩) m cap) (L.eraseIdx i) ∧ w.grownBy w' (some g) := by
  obtain ⟨hnc, hcm⟩ := ho.caps
  obtain ⟨cur, hg, hcs, htake, hbg⟩ := ho.whole
  have hlen := ho.len
  obtain ⟨i0, hi0, hz0, hz1, hz2⟩ := info_parts Tryz.infoLn
  have hAl : (lfl L).length = (m + 1) * 4 := by rw [lfl_length, hlen]
  have hcl : cur.toList.length = cap * 4 := by simpa using hcs
  obtain ⟨X1, hX1⟩ : ∃ X1 : List Value, cur.toList.take (i * 4) ++ (lfl L).drop (i * 4 + 4) ++ cur.toList.drop (i * 4 + ((lfl L).drop (i * 4 + 4)).length) = X1 := ⟨_, rfl⟩
  obtain ⟨X2, hX2⟩ : ∃ X2 : List Value, X1.take ((m + 1) * 4 - 4) ++ [Value.int .i64 0, Value.int .i64 0, Value.int .i64 0, Value.int .i64 0] ++ X1.drop ((m + 1) * 4 - 4 + 4) = X2 := ⟨_, rfl⟩
  have hX1l : X1.length = cap * 4 := by rw [← hX1]; simp only [List.length_append, List.length_take, List.length_drop, hAl, hcl]; omega
  have hX2f : X2.take ((m + 1) * 4 - 4) = (lfl L).take (i * 4) ++ (lfl L).drop (i * 4 + 4) ∧ X2.length = cap * 4 := by
    rw [← hX2, ← hX1]
    exact del_list cur.toList (lfl L) _ (i * 4) ((m + 1) * 4) (cap * 4) hcl hAl htake (by omega) (by omega) rfl
  have hap : ∀ ty ao c, (i < m → ao = some ⟨g, (i + 1) * 4, none⟩) → (∃ z, ao = some z) → (Builtin.append_ #[23, 23] ty #[.slice (some ⟨g, 0, none⟩) i cap, .slice ao (m - i) c]).run Tryz.prog w.drew = .ok (.slice (some ⟨g, 0, none⟩) m cap) (w.drew.setRow g X1.toArray) := fun ty ao c hao hz => by
    obtain ⟨z, rfl⟩ := hz
    have h := run_append_room (P := Tryz.prog) w.drew 23 ty 36 i0 Tryz.underlying23 hi0 g i cap cur hg z (m - i) c ((lfl L).drop (i * 4 + 4)) (by rw [List.length_drop, hAl, hz1]; omega) (fun j u hj => ?_) (fun v hv => lfl_one L v (List.mem_of_mem_drop hv)) (by omega) (by rw [List.length_drop, hAl, hz1]; omega)
    · rw [hz1, hX1, show i + (m - i) = m from by omega] at h
      exact h
    · have hj' := ln_lt hj
      rw [List.length_drop, hAl] at hj'
      have := hao (by omega)
      injection this with this
      subst this
      rw [List.getElem?_drop] at hj
      rw [Addr.add_lit, show (i + 1) * 4 + j = i * 4 + 4 + j from by omega]
      show w.cell? _ = _
      rw [cell_of_row w g _ cur _ (0, 0) hg, ← hj, ← htake, List.getElem?_take, if_pos (by omega)]
      simp
  obtain ⟨W1, hW1⟩ : ∃ W1, W1 = w.drew.setRow g X1.toArray := ⟨_, rfl⟩
  have hW1g : W1.heap[g]? = some (.cells X1.toArray 36 (0, 0)) := by rw [hW1]; exact setRow_heap w.drew g cur _ _ _ hg
  have hgr1 : w.grownBy W1 (some g) := by rw [hW1]; exact ⟨rfl, rfl, rfl, by simp [World.setRow], fun k _ hk => setRow_other w.drew g k _ (fun e => hk (by rw [e]))⟩
  rw [← hW1] at hap
  have hcl1 : ∀ ty c, (Builtin.clear_ #[23] ty #[.slice (some ⟨g, m * 4, none⟩) 1 c]).run Tryz.prog W1 = .ok (.tuple #[]) (W1.setRow g X2.toArray) := fun ty c => by
    have h := run_clear_ln W1 ty g (m * 4) c X1.toArray _ hW1g (by simp only [List.size_toArray, hX1l]; omega)
    rw [show m * 4 = (m + 1) * 4 - 4 from by omega] at h ⊢
    rw [hX2] at h
    exact h
  have HF : Hid (OwnL (W1.setRow g X2.toArray) base (.slice (some ⟨g, 0, none⟩) m cap) (L.eraseIdx i) ∧ w.grownBy (W1.setRow g X2.toArray) (some g)) := by
    refine ⟨?_, hgr1.os, hgr1.tape, hgr1.output, by simpa [World.setRow] using hgr1.size, fun k hk hne => (setRow_other W1 g k _ (fun e => hne (by rw [e]))).trans (hgr1.block k hk hne)⟩
    have hl2 : (L.eraseIdx i).length = m := by rw [List.length_eraseIdx, if_pos (by omega), hlen]; rfl
    unfold OwnL
    rw [hl2]
    refine ⟨by rw [lfl_length, hl2], .inr ⟨g, cap, X2.toArray, rfl, hbg, setRow_heap W1 g _ _ _ _ hW1g, by omega, hcm, by simpa using hX2f.2, ?_⟩⟩
    show X2.take _ = _
    rw [show m * 4 = (m + 1) * 4 - 4 from by omega, hX2f.1, List.eraseIdx_eq_take_drop_succ, lfl_append, lfl_take, show i * 4 + 4 = (i + 1) * 4 from by omega, lfl_drop]
  have hw1 : IntKind.i64.wrap ((i : Int) + 1) = (i : Int) + 1 := by rw [IntKind.wrap_i64]; omega
  have hb1 : (0 : Int) ≤ (i : Int) + 1 := by omega
  have hin : i ≤ m + 1 := by omega
  have htn : ((i : Int) + 1).toNat = i + 1 := by omega
  have hb3 : (i : Int) ≤ (m : Int) := by omega
  have hii : ((i : Int) == (i : Int) + 1) = false := by simp; omega
  have hcm1 : ¬ cap = m := by omega
  have hic : i ≤ cap := by omega
  have hmm : (m : Int) ≤ (m : Int) + 1 := by omega
  have hci : ¬ cap = i + 1 := by omega
  have hap1 := fun ty c => hap ty (some ⟨g, (i + 1) * 4, none⟩) c (fun h => rfl) ⟨_, rfl⟩
  unfold maxLen at hcm
  clear hX1 hX2 hX1l hX2f hW1 hW1g hgr1 hg hcs htake hbg hlen hAl hcl ho hi0 hz0 hz1 hz2 hap
  go_enter Tryz.func81, Tryz.ntmps81
  go_wp2
  go_region_law (refine step_append_runE rfl _ _ 23 23 rfl _ _ rfl rfl (hap1 _ _) ?_)
  go_wp2_with ((with_reducible refine at_clear ?_); refine wpList_clear_run _ rfl _ 23 rfl _ rfl (hcl1 _ _) ?_)
  go_ret
  exact ⟨rfl, HF.out.1, HF.out.2⟩
set_option maxRecDepth 20000 in
set_option maxHeartbeats 4000000 in
theorem del_last (L : List Ln) (g m cap base : Nat) (w : World) (ho : OwnL w base (.slice (some ⟨g, 0, none⟩) (m + 1) cap) L) (hn16 : m ≤ 16) :
    Calls Tryz.prog 81 #[.slice (some ⟨g, 0, none⟩) (m + 1) cap, .int .i64 (m : Int), .int .i64 ((m : Int) + 1)] w fun r w' => r = .returned (.slice (some ⟨g, 0, none⟩) m cap) ∧ OwnL w' base (.slice (some ⟨g, 0, none⟩) m cap) (L.eraseIdx m) ∧ w.grownBy w' (some g) := by
  obtain ⟨hnc, hcm⟩ := ho.caps
  obtain ⟨cur, hg, hcs, htake, hbg⟩ := ho.whole
  have hlen := ho.len
  have hAl : (lfl L).length = (m + 1) * 4 := by rw [lfl_length, hlen]
  have hcl : cur.toList.length = cap * 4 := by simpa using hcs
  obtain ⟨X2, hX2⟩ : ∃ X2 : List Value, cur.toList.take (m * 4) ++ [Value.int .i64 0, Value.int .i64 0, Value.int .i64 0, Value.int .i64 0] ++ cur.toList.drop (m * 4 + 4) = X2 := ⟨_, rfl⟩
  have hcl1 : ∀ ty c, (Builtin.clear_ #[23] ty #[.slice (some ⟨g, m * 4, none⟩) 1 c]).run Tryz.prog w.drew = .ok (.tuple #[]) (w.drew.setRow g X2.toArray) := fun ty c => by
    have h := run_clear_ln w.drew ty g (m * 4) c cur _ hg (by rw [hcs]; omega)
    rw [hX2] at h
    exact h
  have HF : Hid (OwnL (w.drew.setRow g X2.toArray) base (.slice (some ⟨g, 0, none⟩) m cap) (L.eraseIdx m) ∧ w.grownBy (w.drew.setRow g X2.toArray) (some g)) := by
    refine ⟨?_, rfl, rfl, rfl, by simp [World.setRow], fun k _ hk => setRow_other w.drew g k _ (fun e => hk (by rw [e]))⟩
    have hl2 : (L.eraseIdx m).length = m := by rw [List.length_eraseIdx, if_pos (by omega), hlen]; rfl
    have he : L.eraseIdx m = L.take m := by rw [List.eraseIdx_eq_take_drop_succ, List.drop_eq_nil_of_le (by omega), List.append_nil]
    unfold OwnL
    rw [hl2]
    refine ⟨by rw [lfl_length, hl2], .inr ⟨g, cap, X2.toArray, rfl, hbg, setRow_heap w.drew g cur _ _ _ hg, by omega, hcm, ?_, ?_⟩⟩
    · rw [← hX2]; simp only [List.size_toArray, List.length_append, List.length_take, List.length_drop, hcl, List.length_cons, List.length_nil]; omega
    · show X2.take _ = _
      rw [← hX2, List.append_assoc, List.take_append_of_le_length (by rw [List.length_take]; omega), List.take_take, Nat.min_self, he, ← lfl_take, ← htake, List.take_take, Nat.min_eq_left (by omega)]
  have hw1 : IntKind.i64.wrap ((m : Int) + 1) = (m : Int) + 1 := by rw [IntKind.wrap_i64]; omega
  have hb1 : (0 : Int) ≤ (m : Int) + 1 := by omega
  have htn : ((m : Int) + 1).toNat = m + 1 := by omega
  have hii : ((m : Int) == (m : Int) + 1) = false := by simp; omega
  have hcm1 : ¬ cap = m := by omega
  have hic : m ≤ cap := by omega
  have hmm : (m : Int) ≤ (m : Int) + 1 := by omega
  unfold maxLen at hcm
  clear hX2 hg hcs htake hbg hlen hAl hcl ho
  by_cases hci : cap = m + 1
  · subst hci
    go_enter Tryz.func81, Tryz.ntmps81
    go_wp2
    go_region
    all_goals
      go_wp2_with ((with_reducible refine at_clear ?_); refine wpList_clear_run _ rfl _ 23 rfl _ rfl (hcl1 _ _) ?_)
      go_ret
      exact ⟨rfl, HF.out.1, HF.out.2⟩
  · go_enter Tryz.func81, Tryz.ntmps81
    go_wp2
    go_region
    all_goals
      go_wp2_with ((with_reducible refine at_clear ?_); refine wpList_clear_run _ rfl _ 23 rfl _ rfl (hcl1 _ _) ?_)
      go_ret
      exact ⟨rfl, HF.out.1, HF.out.2⟩
theorem del_any (L : List Ln) (g i m cap base : Nat) (w : World) (ho : OwnL w base (.slice (some ⟨g, 0, none⟩) (m + 1) cap) L) (hi : i ≤ m) (hn16 : m ≤ 16) :
    Calls Tryz.prog 81 #[.slice (some ⟨g, 0, none⟩) (m + 1) cap, .int .i64 (i : Int), .int .i64 ((i : Int) + 1)] w fun r w' => r = .returned (.slice (some ⟨g, 0, none⟩) m cap) ∧ OwnL w' base (.slice (some ⟨g, 0, none⟩) m cap) (L.eraseIdx i) ∧ w.grownBy w' (some g) := by
  by_cases h : i = m
  · subst h; exact del_last L g i cap base w ho hn16
  · exact del_mid L g i m cap base w ho (by omega) hn16
end Go.Proofs.YtbpjlphjhjfdoaaGreat
