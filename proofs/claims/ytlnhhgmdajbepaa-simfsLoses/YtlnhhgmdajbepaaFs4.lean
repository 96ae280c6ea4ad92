/- simfs: barred, put, find. -/
import Derived.Test.YtlnhhgmdajbepaaFs3
namespace Go.Proofs.Ytlnhhgmdajbepaa
open Go.ChangeShapes Go.WideShapes Go.ChangeAt Go.RowKit
set_option linter.unusedVariables false
set_option linter.unusedSimpArgs false
def barE (D : Dk) (Ls : List (List UInt8)) : Nat := if D.off = true then 3 else if Ls.all rightS = true then 0 else 50
set_option maxRecDepth 20000 in
set_option maxHeartbeats 2000000 in
theorem barred_any (w : World) (base q b : Nat) (D : Dk) (h : DkAt w base q b D) (g m : Nat) (Ls : List (List UInt8)) (hm : Ls.length = m) (hm2 : m ≤ 2) (hl : ∀ x ∈ Ls, x.length ≤ 281474976710656) (hc : ∀ i x, Ls[i]? = some x → w.cell? ⟨g, i, none⟩ = some (.string (bs x))) :
    Calls Try.prog 55 #[.pointer (some ⟨q, 0, none⟩), .slice (some ⟨g, 0, none⟩) m m] w fun r w' => r = .returned (.int .i64 (barE D Ls : Nat)) ∧ w = w' := by
  obtain ⟨c0, c1, c2, c3, c4, c5⟩ := h.cells
  have HM : Hid (Ls.length = m) := hm
  have HL : Hid (∀ x ∈ Ls, x.length ≤ 281474976710656) := hl
  have HC : Hid (∀ i x, Ls[i]? = some x → w.cell? ⟨g, i, none⟩ = some (.string (bs x))) := hc
  have hmI : (m : Int) ≤ 2 := by omega
  obtain ⟨off, hoff⟩ : ∃ off, D.off = off := ⟨_, rfl⟩
  have HO : Hid (D.off = off) := hoff
  rw [hoff] at c3
  clear h hm hl hc c0 c1 c2 c4 c5 hoff
  cases off with
  | true =>
    have HE : Hid (barE D Ls = 3) := if_pos HO.out
    go_enter Try.func55, Try.ntmps55
    go_wp2
    go_ret
    exact ⟨by rw [HE.out]; rfl, rfl⟩
  | false =>
    have HN : Hid (¬ D.off = true) := by show ¬ _; rw [HO.out]; simp
    go_enter Try.func55, Try.ntmps55
    go_wp2
    go_loop [15] (fun vi => ∃ k : Nat, k ≤ m ∧ vi = .int .i64 k ∧ Hid ((Ls.take k).all rightS = true)) (fun vi => m - (intOf vi).toNat)
    case atStart => exact ⟨0, Nat.zero_le _, rfl, rfl⟩
    case round =>
      obtain ⟨k, hk, rfl, HK⟩ := hrel
      by_cases hkm : k < m
      · obtain ⟨x, hx⟩ : ∃ x, Ls[k]? = some x := ⟨_, List.getElem?_eq_getElem (by rw [HM.out]; exact hkm)⟩
        have ck := HC.out k x hx
        have HX : Hid (Ls[k]? = some x ∧ x.length ≤ 281474976710656) := ⟨hx, HL.out x (List.mem_of_getElem? hx)⟩
        have hkI : (k : Int) < (m : Int) := by omega
        have HT : Hid ((Ls.take (k + 1)).all rightS = rightS x) := by
          show _ = _
          have hlt : k < Ls.length := by rw [HM.out]; exact hkm
          rw [List.take_succ_eq_append_getElem hlt, List.all_append, HK.out]
          rw [List.getElem?_eq_getElem hlt] at hx
          cases hx
          simp
        clear hx
        cases hr : rightS x with
        | true =>
          have HRT : Hid (rightS x = true) := hr
          clear hr
          go_wp2_with (go_at_call 25; refine (right_any x _ HX.out.2).mono ?_; rw [HRT.out]; rintro _ w1 ⟨rfl, rfl⟩)
          go_round
          case rel => exact ⟨k + 1, by omega, by go_num, by show _ = _; rw [HT.out]; exact HRT.out⟩
          case measure => simp [intOf]; omega
        | false =>
          have HRF : Hid (rightS x = false) := hr
          have HE : Hid (barE D Ls = 50) := by
            show _ = _
            unfold barE
            rw [if_neg HN.out, if_neg]
            intro hall
            have := List.all_eq_true.1 hall x (List.mem_of_getElem? HX.out.1)
            rw [hr] at this
            cases this
          clear hr
          go_wp2_with (go_at_call 25; refine (right_any x _ HX.out.2).mono ?_; rw [HRF.out]; rintro _ w1 ⟨rfl, rfl⟩)
          go_ret
          exact ⟨by rw [HE.out]; rfl, rfl⟩
      · obtain rfl : m = k := by omega
        have HE : Hid (barE D Ls = 0) := by
          show _ = _
          unfold barE
          have h9 := HK.out
          rw [List.take_of_length_le (by rw [HM.out]; exact Nat.le_refl _)] at h9
          rw [if_neg HN.out, if_pos h9]
        go_wp2
        go_ret
        exact ⟨by rw [HE.out]; rfl, rfl⟩
/-- barred of one name -/
theorem barred_one (w : World) (base q b : Nat) (D : Dk) (h : DkAt w base q b D) (nm : List UInt8) (g : Nat) (hg : w.heap.size = g) (hl : nm.length ≤ 281474976710656) :
    Calls Try.prog 55 #[.pointer (some ⟨q, 0, none⟩), .slice (some ⟨g, 0, none⟩) 1 1] (w.alloc (.cells #[.string (bs nm)] 9)) fun r w' => r = .returned (.int .i64 (barE D [nm] : Nat)) ∧ w' = w.alloc (.cells #[.string (bs nm)] 9) := by
  subst hg
  have hb : Below w.heap.size w (w.alloc (.cells #[.string (bs nm)] 9)) := (Below.refl _ _).alloc (Nat.le_refl _) _
  refine (barred_any _ base q b D (h.keep hb) w.heap.size 1 [nm] rfl (by omega) (fun x hx => by rw [List.mem_singleton.1 hx]; exact hl) (fun i x hx => ?_)).mono ?_
  · cases i with
    | zero =>
      simp only [List.getElem?_cons_zero, Option.some.injEq] at hx
      subst hx
      rw [cell_of_row _ _ 0 _ _ _ (heap_alloc_new w (.cells #[.string (bs nm)] 9))]
      rfl
    | succ i => simp at hx
  · rintro _ w' ⟨h1, h2⟩
    exact ⟨h1, h2.symm⟩
theorem fs_keyed : Maps.Keyed Try.prog 9 := Maps.string_keyed Try.underlying9
theorem fs_key {nm : List UInt8} (h : nm.length ≤ 281474976710656) : keyOf Try.prog 9 (.string (bs nm)) = some (.string nm) := by
  have := WideMaps.keyOf_string_mk Try.underlying9 (s := bs nm) (show nm.toArray.size ≤ maxLen by unfold maxLen; simp; omega)
  simpa using this
theorem step_mapUpdateS {ops : Array Oper} {o : Oper} {a : Act} {w w2 : World} {K : Act → World → Prop} {Q : Exit → Act → World → Prop} {X : Prop} (hgd : o.guard = none) (m x y : Operand) (ho : o.op = .mapUpdate 73 m x y)
    {b : Nat} {key v : Value} (hm : a.eval m = .map (some b)) (hx : a.eval x = key) (hy : a.eval y = v) (hrun : (Instr.mapUpdate 73 (.map (some b)) key v).run Try.prog w = .ok () w2) (h : K (a.put o.dst undef) w2) :
    if Region.wanted o (yielded ops a.tmps) = true then Oper.wp Try.prog o a w K Q else X := by
  have hw : Region.wanted o (yielded ops a.tmps) = true := by simp [Region.wanted, hgd]
  rw [if_pos hw]
  unfold Oper.wp execOp
  simp only [ho, hm, hx, hy, hrun, Sem.run_bind, Sem.run_pure, Result.andThen_ok]
  exact h
end Go.Proofs.Ytlnhhgmdajbepaa
