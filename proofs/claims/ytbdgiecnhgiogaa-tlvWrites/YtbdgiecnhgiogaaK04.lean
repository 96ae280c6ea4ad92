/- Own texts, joined: Put, Tlt. -/
import Derived.Test.YtbdgiecnhgiogaaRows
import Derived.Test.YtbdgiecnhgiogaaK00
import Derived.Test.YtbdgiecnhgiogaaK03
import Derived.Deep.RegionWith
namespace Go.Proofs.Ytbdgiecnhgiogaa
open Go.ChangeShapes Go.WideShapes Go.ChangeAt Go.RowKit
theorem Try.info5 : (Try.prog.info? 5).map (fun i => (i.zero, i.size, i.bytes)) = some (some (.int .u8 0), 1, 1) := by kernel_rfl
set_option maxRecDepth 20000 in
set_option maxHeartbeats 1000000 in
theorem put_any (u : Nat) (base : Nat) (v : Value) (n : Nat) (xs : List Value) (w : World) (hu : u ≤ 18446744073709551615) (hown : w.ownsRow base 5 1 v n xs) (hbase : base ≤ w.heap.size) (hn : n + 10 ≤ 140737488355328) :
    Calls Try.prog 57 #[v, .int .u64 u] w fun e w' => ∃ v', e = .returned v' ∧ w'.ownsRow base 5 1 v' (n + (enc u).length) (xs ++ B8 (enc u)) ∧ Below base w w' := by
  obtain ⟨i0, hi, hz0, hz1, hz2⟩ := info_parts Try.info5
  go_enter Try.func57, Try.ntmps57
  go_wp2
  go_loopw [0, 1] (fun vb vu wr => ∃ (f uj : Nat) (pre : List Nat), vu = .int .u64 uj ∧ uj ≤ u ∧ uj < 128 ^ (f + 1) ∧ encF 10 u = pre ++ encF (f + 1) uj ∧ pre.length + f = 9 ∧ wr.ownsRow base 5 1 vb (n + pre.length) (xs ++ B8 pre) ∧ Below base w wr) (fun _ vu _ => (intOf vu).toNat)
  case atStart => exact ⟨9, u, [], rfl, by omega, lt_pow10 u hu, rfl, rfl, by simpa [B8] using hown, Below.refl _ _⟩
  case round =>
    obtain ⟨f, uj, pre, rfl, huj, hp, hE, hf, ho, hbe⟩ := hrel
    have HE : Hid (_ = _) := hE
    have HP : Hid (_ < _) := hp
    clear hE hp hown
    have hsz := hbe.size
    by_cases hlt : uj < 128
    · have HL : Hid (enc u = pre ++ [uj]) := by
        show enc u = _
        unfold enc; rw [HE.out]; unfold encF; rw [if_pos hlt]
      have hu8 : (uj : Int) ≤ 255 := by omega
      clear HE HP
      go_wp2_with (at_builtin; refine wpList_append_own _ rfl _ _ 27 rfl base 5 i0 (.int .u8 0) 1 1 Try.underlying27 hi hz0 hz1 hz2 rfl (by decide) _ _ _ rfl (ho.alloc _) ⟨wr.heap.size, 0, none⟩ 1 1 [.int .u8 (uj : Int)] rfl rfl (cell_new _ _ _) (one_new _) (by unfold maxLen; omega) (by omega) (by simp; omega) ?_)
      intro v' w1 hown' hgrow _
      have hb1 := grown_row (hbe.alloc (by omega) _) (ho.alloc _) (by simp; omega) hgrow
      clear hgrow ho hbe
      go_wp2
      go_ret
      refine ⟨v', rfl, ?_, hb1⟩
      rw [HL.out, B8_append, List.length_append]
      exact hown'
    · have HL : Hid (encF 10 u = (pre ++ [128 + uj % 128]) ++ encF f (uj / 128)) := by
        show encF 10 u = _
        rw [HE.out]; conv => lhs; unfold encF
        rw [if_neg hlt]; simp
      have hf1 : 1 ≤ f := by
        have h2 := HP.out
        by_cases h3 : f = 0
        · subst h3; simp at h2; omega
        · omega
      have HP2 : Hid (uj / 128 < 128 ^ f) := by
        have h2 := HP.out
        rw [Nat.pow_succ] at h2
        exact Nat.div_lt_of_lt_mul (by rw [Nat.mul_comm]; exact h2)
      have HO : Hid (_ = _) := or128 uj
      clear HE HP
      go_wp2_with (at_builtin; refine wpList_append_own _ rfl _ _ 27 rfl base 5 i0 (.int .u8 0) 1 1 Try.underlying27 hi hz0 hz1 hz2 rfl (by decide) _ _ _ rfl (ho.alloc _) ⟨wr.heap.size, 0, none⟩ 1 1 [.int .u8 (bits .or .u8 (IntKind.u8.wrap (uj : Int)) 128)] rfl rfl (cell_new _ _ _) (one_new _) (by unfold maxLen; omega) (by omega) (by simp; omega) ?_)
      intro v' w1 hown' hgrow _
      have hb1 := grown_row (hbe.alloc (by omega) _) (ho.alloc _) (by simp; omega) hgrow
      clear hgrow ho hbe
      go_wp2
      go_roundw
      case rel =>
        refine ⟨f - 1, uj / 128, pre ++ [128 + uj % 128], by go_num, by omega, ?_, ?_, by simp; omega, ?_, hb1⟩
        · rw [show f - 1 + 1 = f from by omega]; exact HP2.out
        · rw [show f - 1 + 1 = f from by omega]; exact HL.out
        · rw [HO.out] at hown'
          rw [B8_append, List.length_append]
          exact hown'
      case measure => simp [intOf]; omega
end Go.Proofs.Ytbdgiecnhgiogaa
namespace Go.Proofs.Ytbdgiecnhgiogaa
open Go.ChangeShapes Go.WideShapes Go.ChangeAt Go.RowKit
set_option linter.unusedVariables false
theorem own_empty (w : World) (base : Nat) (hb : base ≤ w.heap.size) : (w.alloc (.cells #[] 5)).ownsRow base 5 1 (.slice (some ⟨w.heap.size, 0, none⟩) 0 0) 0 [] := by
  refine ⟨by simp, .inr ⟨w.heap.size, 0, #[], rfl, hb, heap_alloc_new w _, by simp, by simp, by simp, by simp⟩⟩
theorem CurAt.keep {w w' : World} {c : Nat} {a : Option Addr} {n cap i : Nat} (h : CurAt w c a n cap i) (hb : Below w.heap.size w w') : CurAt w' c a n cap i := (hb.block c (lt_of_heap h)).trans h
set_option maxRecDepth 20000 in
set_option maxHeartbeats 1000000 in
theorem clone_any (l : List Nat) (b off n cap : Nat) (w : World) (hn : l.length = n) (h0 : 0 < n) (hb : Bytes w (some ⟨b, off, none⟩) l) (hl : n ≤ 140737488355328) :
    Calls Try.prog 43 #[.slice (some ⟨b, off, none⟩) n cap] w fun r w' => ∃ v, r = .returned v ∧ Own w' w.heap.size v l ∧ Below w.heap.size w w' := by
  obtain ⟨i0, hi, hz0, hz1, hz2⟩ := info_parts Try.info5
  have HB : Hid (Bytes w (some ⟨b, off, none⟩) l) := hb
  have HN : Hid (l.length = n) := hn
  have he : ∀ w : World, (binOp .eql 27 (.slice (some ⟨b, off, none⟩) n cap) (.slice none 0 0)).run Try.prog w = .ok (.bool false) w := fun _ => rfl
  have HO : Hid ((w.alloc (.cells #[] 5)).ownsRow w.heap.size 5 1 (.slice (some ⟨w.heap.size, 0, none⟩) 0 0) 0 []) := own_empty w _ (Nat.le_refl _)
  have HB2 : Hid (Bytes (w.alloc (.cells #[] 5)) (some ⟨b, off, none⟩) l) := hb.keep ((Below.refl _ _).alloc (Nat.le_refl _) _)
  clear hb hn
  go_enter Try.func43, Try.ntmps43
  go_wp2_with (at_builtin; refine wpList_append_own _ rfl _ _ 27 rfl w.heap.size 5 i0 (.int .u8 0) 1 1 Try.underlying27 hi hz0 hz1 hz2 rfl (by decide) _ _ _ rfl HO.out ⟨b, off, none⟩ n cap (B8 l) rfl (by rw [B8_length, HN.out]) (bytes_cells HB2.out) (B8_one _) (by unfold maxLen; omega) (by omega) (by simp) ?_; intro v4 w4 ho4 hg4 _; have hb4 := grown_row ((Below.refl w.heap.size w).alloc (Nat.le_refl _) _) HO.out (by simp) hg4; clear hg4)
  go_ret
  refine ⟨v4, rfl, ⟨HB.out.1, ?_⟩, hb4⟩
  have h := ho4
  rw [Nat.zero_add, List.nil_append] at h
  rw [HN.out]
  exact h
set_option maxRecDepth 20000 in
set_option maxHeartbeats 1000000 in
theorem text_long (b off n cap i u c : Nat) (w : World) (hc : CurAt w c (some ⟨b, off, none⟩) n cap i) (hu : 200 < u) (hu2 : u ≤ 18446744073709551615) :
    Calls Try.prog 50 #[.pointer (some ⟨c, 0, none⟩), .int .u64 (u : Int)] w fun r w' => r = errP 23 ∧ w' = w := by
  obtain ⟨h0, h1, h2⟩ := hc.cells
  clear hc
  go_enter Try.func50, Try.ntmps50
  go_wp2
  exact body_panic ⟨rfl, rfl⟩
set_option maxRecDepth 20000 in
set_option maxHeartbeats 1000000 in
theorem text_short (b off n cap i u c : Nat) (w : World) (hc : CurAt w c (some ⟨b, off, none⟩) n cap i) (hu : ¬ 200 < u) (hl : n ≤ 1024) (hi : i ≤ n) (hs : n < i + u) :
    Calls Try.prog 50 #[.pointer (some ⟨c, 0, none⟩), .int .u64 (u : Int)] w fun r w' => r = errP 10 ∧ ∃ m, w' = w.drewN m := by
  obtain ⟨h0, h1, h2⟩ := hc.cells
  have hk2 : (i : Int) + (u : Int) ≤ 2048 := by omega
  have hk3 : (n : Int) < (i : Int) + (u : Int) := by omega
  clear hc
  go_enter Try.func50, Try.ntmps50
  go_wp2
  exact body_panic ⟨rfl, 0, rfl⟩
end Go.Proofs.Ytbdgiecnhgiogaa
