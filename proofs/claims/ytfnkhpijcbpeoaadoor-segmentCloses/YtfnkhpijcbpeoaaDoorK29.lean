/- Own texts, joined: MkM. -/
import Derived.Test.YtfnkhpijcbpeoaaDoorK24
import Derived.Test.YtfnkhpijcbpeoaaDoorK28
import Derived.Deep.Onto
namespace Go.Proofs.YtfnkhpijcbpeoaaDoor
open Go.ChangeShapes Go.WideShapes Go.ChangeAt Go.RowKit
set_option linter.unusedVariables false
def mksR (U : List Nat) : List Mk × Bool :=
  if U.length % 2 = 1 then ([], false) else match mkN [] 0 0 U with
    | none => ([], false)
    | some M => (M, true)
theorem mk_drewN {w : World} {k : Nat} {s y : Int} (h : MkAt w k s y) (n : Nat) : MkAt (w.drewN n) k s y := by
  unfold MkAt at *; simpa using h
theorem row_drewN {w : World} {base n size : Nat} {e : TypeId} {v : Value} {xs : List Value} (h : w.ownsRow base e size v n xs) (m : Nat) : (w.drewN m).ownsRow base e size v n xs := by
  induction m with
  | zero => exact h
  | succ m ih => exact World.ownsRow.drew ih
theorem own_at {w : World} {base n size g cap k : Nat} {e : TypeId} {xs : List Value} (h : w.ownsRow base e size (.slice (some ⟨g, 0, none⟩) n cap) n xs) (hk : g ≠ k) (j : Nat) (u : Value) : (w.setCell ⟨k, j, none⟩ u).ownsRow base e size (.slice (some ⟨g, 0, none⟩) n cap) n xs := by
  refine ⟨h.1, ?_⟩
  rcases h.2 with ⟨h2, _⟩ | ⟨g', cap', cur, h3, h4, h5, h6⟩
  · cases h2
  · cases h3
    exact .inr ⟨g, cap, cur, rfl, h4, (heap_setCell_other w ⟨k, j, none⟩ g u hk).trans h5, h6⟩
theorem drop_two (U : List Nat) (j x y : Nat) (h1 : U[j]? = some x) (h2 : U[j + 1]? = some y) : U.drop j = x :: y :: U.drop (j + 2) := by
  rw [drop_get U j x h1, drop_get U (j + 1) y h2]
theorem one_mk (x z : Int) : ∀ u ∈ [Value.int .i64 x, Value.int .i64 z], u.oneCell' = true := one_new2 x z
theorem retb {v : Value} {b b' : Bool} (h2 : b = b') : Ending.returned (.tuple #[v, .bool b]) = .returned (.tuple #[v, .bool b']) := by rw [h2]
set_option maxRecDepth 20000 in
set_option maxHeartbeats 4000000 in
theorem marks_any (U : List Nat) (n : Nat) (a : Option Addr) (cap : Nat) (w : World) (hn : U.length = n) (hm : Nums w a U) (hl : n ≤ 1024) :
    Calls Tryd.prog 40 #[.slice a n cap] w fun e w' => ∃ v, e = .returned (.tuple #[v, .bool (mksR U).2]) ∧ OwnM w' w.heap.size v (mksR U).1 ∧ Below w.heap.size w w' := by
  have HM : Hid (Nums w a U) := hm
  have HN : Hid (U.length = n) := hn
  by_cases hodd : n % 2 = 1
  · have HR : Hid (mksR U = ([], false)) := by show _ = _; unfold mksR; rw [hn, if_pos hodd]
    have hnb : (((n : Int) % 2) != 0) = true := by simp; omega
    clear hm hn
    go_enter Tryd.func40, Tryd.ntmps40
    go_wp2
    go_ret2
    rw [HR.out]
    exact ⟨_, rfl, OwnM.nil _ _, Below.refl _ _⟩
  · obtain ⟨C, hC⟩ : ∃ C, n = 2 * C := ⟨n / 2, by omega⟩
    obtain ⟨i0, hi, hz0, hz1, hz2⟩ := info_parts Tryd.infoMk
    have HR : Hid (mksR U = match mkN [] 0 0 U with | none => ([], false) | some M => (M, true)) := by show _ = _; unfold mksR; rw [hn, if_neg hodd]
    have hnb : (((n : Int) % 2) != 0) = false := by simp; omega
    have hnI : (n : Int) ≤ 1024 := by omega
    have hdv : (n : Int) / 2 = (C : Int) := by omega
    have hC5 : C ≤ 512 := by omega
    have HC : Hid (n = 2 * C) := hC
    clear hm hn hodd hC
    go_enter Tryd.func40, Tryd.ntmps40
    go_wp2_with (at_make; refine wpList_make_own _ rfl _ _ 30 rfl w.heap.size 68 i0 (.agg #[.int .i64 0, .int .i64 0]) 2 Tryd.underlying30 hi hz0 hz1 _ _ _ C rfl rfl (by first | omega | simp) (by rw [hz2]; omega) (by unfold maxLen; omega) (Nat.le_refl _) ?_)
    intro w2 ho hg
    have hb2 : Below w.heap.size w w2 := (Below.refl _ _).grown hg (Nat.le_refl _) (fun k hk => by cases hk)
    have hgl : w.heap.size < w2.heap.size := (World.ownsRow.lt ho _ rfl).2
    have HOW : Hid (w2.ownsRow w.heap.size 68 2 (.slice (some ⟨w.heap.size, 0, none⟩) 0 C) 0 []) := ho
    clear ho hg
    go_wp2
    go_loopw [4, 6] (fun vms vi wr => ∃ (j i : Nat) (s y : Int) (acc : List Mk), vms = .slice (some ⟨w.heap.size, 0, none⟩) j C ∧ vi = .int .i64 i ∧ i = 2 * j ∧ i ≤ n ∧ MkAt wr w2.heap.size s y ∧ wr.ownsRow w.heap.size 68 2 (.slice (some ⟨w.heap.size, 0, none⟩) j C) j (mfl acc) ∧ acc.length = j ∧ mkN [] 0 0 U = mkN acc s y (U.drop i) ∧ 0 ≤ s ∧ 0 ≤ y ∧ s ≤ j * 1099511627776 ∧ y ≤ j * 1099511627776 ∧ Below w.heap.size w wr) (fun _ vi _ => n - (intOf vi).toNat)
    case atStart => exact ⟨0, 0, 0, 0, [], rfl, rfl, rfl, Nat.zero_le _, heap_alloc_new w2 _, World.ownsRow.alloc HOW.out _, rfl, rfl, by omega, by omega, by omega, by omega, hb2.alloc hb2.size _⟩
    case round =>
      obtain ⟨j, i, s, y, acc, rfl, rfl, hij, hin, hbx, hO, hacc, hmk, hs0, hy0, hs1, hy1, hbe⟩ := hrel
      have HBX : Hid (MkAt wr w2.heap.size s y) := hbx
      have HO : Hid (wr.ownsRow w.heap.size 68 2 (.slice (some ⟨w.heap.size, 0, none⟩) j C) j (mfl acc)) := hO
      have HACC : Hid (acc.length = j) := hacc
      have HMK : Hid (mkN [] 0 0 U = mkN acc s y (U.drop i)) := hmk
      have hlt2 := lt_of_heap hbx
      have hbs := hbe.size
      have hjI : (j : Int) ≤ 512 := by have := HC.out; omega
      have HIJ : Hid (i = 2 * j) := hij
      have HS1 : Hid (s ≤ j * 1099511627776 ∧ y ≤ j * 1099511627776) := ⟨hs1, hy1⟩
      have hs2 : s ≤ 562949953421312 := by omega
      have hy2 : y ≤ 562949953421312 := by omega
      by_cases hkn : i < n
      · rcases HM.out.2 with h0 | ⟨b, off, rfl, hlt, hc⟩
        · exfalso; have := HN.out; rw [h0] at this; simp at this; omega
        have hi1 : i + 1 < n := by have := HC.out; omega
        have c0 := hc i (by rw [HN.out]; exact hkn)
        have c1 := hc (i + 1) (by rw [HN.out]; omega)
        rw [← hbe.cell (p := ⟨b, off + i, none⟩) hlt] at c0
        rw [← hbe.cell (p := ⟨b, off + (i + 1), none⟩) hlt] at c1
        obtain ⟨p, hp⟩ := get_of_lt (L := U) (k := i) (by rw [HN.out]; exact hkn)
        obtain ⟨q, hq⟩ := get_of_lt (L := U) (k := i + 1) (by rw [HN.out]; omega)
        rw [show U.getD i 0 = p from by rw [List.getD_eq_getElem?_getD, hp]; rfl] at c0
        rw [show U.getD (i + 1) 0 = q from by rw [List.getD_eq_getElem?_getD, hq]; rfl] at c1
        have hi1n : (i : Int) + 1 < (n : Int) := by omega
        have hi0n : (i : Int) < (n : Int) := by omega
        have HST : Hid (mkN [] 0 0 U = if 1099511627776 < p ∨ 1099511627776 < q then none else mkN (acc ++ [(s + p, y + q)]) (s + p) (y + q) (U.drop (i + 2))) := by show _ = _; rw [hmk, drop_two U i p q hp hq, mkN_cons]
        obtain ⟨q0, q1, q2, q3⟩ := mk_box hbx
        clear hp hq hc hmk hbx hO hacc HMK HOW hb2 hij hs1 hy1
        have HNO : Hid (1099511627776 < p ∨ 1099511627776 < q → mksR U = ([], false)) := by intro h; rw [HR.out, HST.out, if_pos h]
        have hjC : j + 1 ≤ C := by have := HC.out; have := HIJ.out; omega
        go_wp2
        go_quiet (fail)
        have HB : Hid (Below w.heap.size w ((((wr.drewN nq).setCell ⟨w2.heap.size, 0, none⟩ (.int .i64 (s + p))).setCell ⟨w2.heap.size, 1, none⟩ (.int .i64 (y + q))).alloc (.cells #[.int .i64 (s + p), .int .i64 (y + q)] 68))) := (((below_drewN hbe nq).setCell (p := ⟨w2.heap.size, 0, none⟩) (by show w.heap.size ≤ w2.heap.size; omega) _).setCell (p := ⟨w2.heap.size, 1, none⟩) (by show w.heap.size ≤ w2.heap.size; omega) _).alloc (by simp; omega) _
        have HA : Hid (MkAt ((((wr.drewN nq).setCell ⟨w2.heap.size, 0, none⟩ (.int .i64 (s + p))).setCell ⟨w2.heap.size, 1, none⟩ (.int .i64 (y + q))).alloc (.cells #[.int .i64 (s + p), .int .i64 (y + q)] 68)) w2.heap.size (s + p) (y + q)) := mk_alloc (mk_set (mk_drewN HBX.out nq) _ _) _
        have HO5 : Hid (((((wr.drewN nq).setCell ⟨w2.heap.size, 0, none⟩ (.int .i64 (s + p))).setCell ⟨w2.heap.size, 1, none⟩ (.int .i64 (y + q))).alloc (.cells #[.int .i64 (s + p), .int .i64 (y + q)] 68)).ownsRow w.heap.size 68 2 (.slice (some ⟨w.heap.size, 0, none⟩) j C) j (mfl acc)) := World.ownsRow.alloc (own_at (own_at (row_drewN HO.out nq) (by omega) 0 _) (by omega) 1 _) _
        go_wp2_with (at_builtin; refine wpList_append_fits _ rfl _ _ 30 rfl w.heap.size 68 i0 2 Tryd.underlying30 hi hz1 w.heap.size j C (mfl acc) rfl HO5.out ⟨wr.heap.size, 0, none⟩ 1 1 [.int .i64 (s + p), .int .i64 (y + q)] rfl rfl (by have h := cell_new2 (((wr.drewN nq).setCell ⟨w2.heap.size, 0, none⟩ (.int .i64 (s + p))).setCell ⟨w2.heap.size, 1, none⟩ (.int .i64 (y + q))) (.int .i64 (s + p)) (.int .i64 (y + q)) 68; simpa using h) (one_mk _ _) hjC ?_; intro w4 ho4 hg4; have hb4 := HB.out.grown hg4 (by simp; omega) (fun k hk => by cases hk; exact Nat.le_refl _); have HA4 : Hid (MkAt w4 w2.heap.size (s + p) (y + q)) := (hg4.block _ (lt_of_heap HA.out) (by simp; omega)).trans HA.out; have HO4 : Hid (w4.ownsRow w.heap.size 68 2 (.slice (some ⟨w.heap.size, 0, none⟩) (j + 1) C) (j + 1) (mfl (acc ++ [(s + p, y + q)]))) := (by rw [mfl_append]; exact ho4); clear ho4 hg4)
        all_goals first
          | (go_ret2; rw [HNO.out (by omega)]; exact ⟨_, rfl, OwnM.nil _ _, below_drewN hbe _⟩)
          | (refine ⟨⟨j + 1, i + 2, s + p, y + q, acc ++ [(s + p, y + q)], rfl, by go_num, by have := HIJ.out; omega, by omega, HA4.out, HO4.out, by rw [List.length_append, HACC.out]; rfl, by rw [HST.out, if_neg (by omega)], by omega, by omega, by have := HS1.out; omega, by have := HS1.out; omega, hb4⟩, by simp [intOf]; omega⟩)
      · have HFIN : Hid (mksR U = (acc, true)) := by
          show _ = _
          rw [HR.out, HMK.out, List.drop_eq_nil_of_le (by rw [HN.out]; omega)]
          rfl
        clear hbx hO hacc hmk HMK HOW hb2 hij hs1 hy1
        go_wp2
        go_ret2
        rw [HFIN.out]
        exact ⟨_, rfl, by unfold OwnM; rw [HACC.out]; exact HO.out, hbe⟩
end Go.Proofs.YtfnkhpijcbpeoaaDoor
