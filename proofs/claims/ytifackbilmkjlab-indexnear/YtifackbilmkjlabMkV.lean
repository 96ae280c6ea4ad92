/- What index.Valid answers. -/
import Derived.Test.YtifackbilmkjlabMk
namespace Go.Proofs.Ytifackbilmkjlab
open Go.ChangeShapes Go.WideShapes Go.ChangeAt Go.RowKit
set_option linter.unusedVariables false
abbrev MkAt (w : World) (k : Nat) (s y : Int) : Prop := w.heap[k]? = some (.cells #[.int .i64 s, .int .i64 y] 35)
theorem mk_box {w : World} {k : Nat} {s y : Int} (h : MkAt w k s y) : w.cell? ⟨k, 0, none⟩ = some (.int .i64 s) ∧ w.cell? ⟨k, 1, none⟩ = some (.int .i64 y) ∧ w.frozen? ⟨k, 0, none⟩ = false ∧ w.frozen? ⟨k, 1, none⟩ = false :=
  ⟨by rw [cell_of_row _ _ 0 _ _ _ h]; rfl, by rw [cell_of_row _ _ 1 _ _ _ h]; rfl, frozen_of_row _ _ 0 _ _ h, frozen_of_row _ _ 1 _ _ h⟩
theorem mk_set {w : World} {k : Nat} {s y : Int} (h : MkAt w k s y) (x z : Int) : MkAt ((w.setCell ⟨k, 0, none⟩ (.int .i64 x)).setCell ⟨k, 1, none⟩ (.int .i64 z)) k x z := by
  have h1 := heap_setCell_same w k 0 _ _ (.int .i64 x) h
  have h2 := heap_setCell_same _ k 1 _ _ (.int .i64 z) h1
  rw [MkAt, h2]; rfl
theorem mk_alloc {w : World} {k : Nat} {s y : Int} (h : MkAt w k s y) (o : Obj) : MkAt (w.alloc o) k s y := (Below.heap_alloc w o k (lt_of_heap h)).trans h
set_option maxRecDepth 20000 in
set_option maxHeartbeats 2000000 in
theorem valid_any (L : List Mk) (n : Nat) (a : Option Addr) (cap : Nat) (w : World) (hn : L.length = n) (hm : Marks w a L) (hl : n ≤ maxLen) :
    Calls Try.prog 6 #[.slice a n cap] w fun e w' => e = .returned (.bool (validB L)) ∧ Below w.heap.size w w' := by
  unfold maxLen at hl
  by_cases h5 : n ≤ 512
  · have HV : Hid (validB L = vfrom 0 (-1) (L.drop 0)) := by show _ = _; rw [validB_short (by omega)]; rfl
    have HN : Hid (L.length = n) := hn
    have h5I : (n : Int) ≤ 512 := by omega
    rcases hm with rfl | ⟨b, off, rfl, hlt, hc⟩
    · obtain rfl : n = 0 := by simpa using hn.symm
      have HF : Hid (validB [] = true) := HV.out
      clear HV hn
      go_enter Try.func6, Try.ntmps6
      go_wp2
      refine wp_loop_rounds 1 ?_
      rw [rounds_succ]
      go_wp2
      go_ret
      exact ⟨ret_bool (by rw [HF.out]), (Below.refl _ _).alloc (Nat.le_refl _) _⟩
    · clear hn hl
      go_enter Try.func6, Try.ntmps6
      go_wp2
      go_loopw [12] (fun vi wr => ∃ (k : Nat) (s y : Int), k ≤ n ∧ vi = .int .i64 k ∧ MkAt wr w.heap.size s y ∧ validB L = vfrom s y (L.drop k) ∧ Below w.heap.size w wr) (fun vi _ => n - (intOf vi).toNat)
      case atStart => exact ⟨0, 0, -1, Nat.zero_le _, rfl, heap_alloc_new w _, HV.out, (Below.refl _ _).alloc (Nat.le_refl _) _⟩
      case round =>
        obtain ⟨k, s, y, hk, rfl, hbx, hv, hbe⟩ := hrel
        have HVK : Hid (validB L = vfrom s y (L.drop k)) := hv
        have HBX : Hid (MkAt wr w.heap.size s y) := hbx
        obtain ⟨q0, q1, q2, q3⟩ := mk_box hbx
        have hlt2 := lt_of_heap hbx
        clear hbx hv HV
        by_cases hkn : k < n
        · obtain ⟨⟨x, z⟩, hp⟩ := get_of_lt (L := L) (k := k) (by rw [HN.out]; exact hkn)
          obtain ⟨c0, c1⟩ := Marks.cells hc k (x, z) hp
          rw [← hbe.cell (p := ⟨b, off + k * 2, none⟩) hlt] at c0
          rw [← hbe.cell (p := ⟨b, off + k * 2 + 1, none⟩) hlt] at c1
          have HVN : Hid (validB L = if x ≤ s ∨ z ≤ y ∨ 1099511627776 < x ∨ 1099511627776 < z then false else vfrom x z (L.drop (k + 1))) := by show _ = _; rw [HVK.out, drop_get L k _ hp, vfrom_cons]
          simp only at c0 c1
          clear hp hc HVK
          go_wp2
          all_goals first
            | (go_ret; exact ⟨ret_bool (by rw [HVN.out, if_pos (by omega)]), hbe.alloc hbe.size _⟩)
            | (refine ⟨⟨k + 1, x, z, by omega, by go_num, mk_alloc (mk_set HBX.out x z) _, by rw [HVN.out, if_neg (by omega)], ?_⟩, by simp [intOf]; omega⟩; exact ((hbe.setCell (p := ⟨w.heap.size, 0, none⟩) (Nat.le_refl _) _).setCell (p := ⟨w.heap.size, 1, none⟩) (Nat.le_refl _) _).alloc (by simp; omega) _)
        · have HT : Hid (validB L = true) := by show _ = _; rw [HVK.out, List.drop_eq_nil_of_le (by rw [HN.out]; omega)]; rfl
          clear HVK hc
          go_wp2
          go_ret
          exact ⟨ret_bool (by rw [HT.out]), hbe⟩
  · have HF : Hid (validB L = false) := validB_long (by omega)
    clear hm hn
    go_enter Try.func6, Try.ntmps6
    go_wp2
    go_ret
    exact ⟨ret_bool (by rw [HF.out]), Below.refl _ _⟩
end Go.Proofs.Ytifackbilmkjlab
