/- dump.Unhex. -/
import Derived.Test.YtomgnbhajhkhfaaDoorDm1
import Derived.Deep.QuietTactic
import Derived.BigQuiet
namespace Go.Proofs.YtomgnbhajhkhfaaDoor
open Go.ChangeShapes Go.WideShapes Go.ChangeAt Go.RowKit
set_option linter.unusedVariables false
set_option linter.unusedSimpArgs false
theorem idx_any (x : UInt8) (w : World) : Calls Tryd.prog 14 #[.string { data := #[48, 49, 50, 51, 52, 53, 54, 55, 56, 57, 97, 98, 99, 100, 101, 102] }, .int .u8 (x.toNat : Int)] w fun e w' => e = .returned (.int .i64 (uhx x)) ∧ w' = w := by
  refine (Tryd.strings_IndexByte _ (x.toNat : Int) w).mono ?_
  rintro e w' ⟨h1, h2⟩
  refine ⟨?_, h2⟩
  rw [h1]
  simp only [Int.toNat_natCast]
  have : x.toNat.toUInt8 = x := UInt8.ofNat_toNat
  rw [this]
  rfl
theorem or16 (a b : Int) (h1 : 0 ≤ a) (h2 : a < 16) (h3 : 0 ≤ b) (h4 : b < 16) : bits .or .i64 (a * 16) b = a * 16 + b := by
  obtain ⟨m, rfl⟩ := Int.eq_ofNat_of_zero_le h1
  obtain ⟨n, rfl⟩ := Int.eq_ofNat_of_zero_le h3
  have hm : m < 16 := by omega
  have hn : n < 16 := by omega
  show IntKind.i64.wrap ((BitVec.ofInt 64 ((m : Int) * 16) ||| BitVec.ofInt 64 (n : Int)).toNat : Int) = _
  rw [BitVec.toNat_or, BitVec.toNat_ofInt, BitVec.toNat_ofInt]
  have e1 : (((m : Int) * 16) % ((2 ^ 64 : Nat) : Int)).toNat = m * 16 := by
    rw [show ((2 ^ 64 : Nat) : Int) = 18446744073709551616 from by decide]; omega
  have e2 : ((n : Int) % ((2 ^ 64 : Nat) : Int)).toNat = n := by
    rw [show ((2 ^ 64 : Nat) : Int) = 18446744073709551616 from by decide]; omega
  rw [e1, e2]
  have e3 := nat_join 4 (m * 16) n (by omega) (by omega)
  rw [e3, wrap_i64]
  omega
theorem ret_tup {v v' : Value} {a b : Int} (h1 : v = v') (h2 : a = b) : Ending.returned (.tuple #[v, .int .i64 a]) = .returned (.tuple #[v', .int .i64 b]) := by rw [h1, h2]
def uhE (s : List UInt8) : Int := match uhL s with | some _ => 0 | none => 101
def uhB (s : List UInt8) : List Nat := match uhL s with | some l => l | none => []
theorem uh_none {s : List UInt8} (h : uhL s = none) : uhE s = 101 ∧ uhB s = [] := by unfold uhE uhB; rw [h]; exact ⟨rfl, rfl⟩
theorem uh_some {s : List UInt8} {l : List Nat} (h : uhL s = some l) : uhE s = 0 ∧ uhB s = l := by unfold uhE uhB; rw [h]; exact ⟨rfl, rfl⟩
def UhP (w : World) (s : List UInt8) (e : Ending) (w' : World) : Prop := ∃ v, e = .returned (.tuple #[v, .int .i64 (uhE s)]) ∧ Own w' w.heap.size v (uhB s) ∧ Below w.heap.size w w'
theorem uhP_none {w w' : World} {s : List UInt8} (h : uhL s = none) (hb : Below w.heap.size w w') : UhP w s (.returned (.tuple #[.slice none 0 0, .int .i64 101])) w' :=
  ⟨_, by rw [(uh_none h).1], by rw [(uh_none h).2]; exact ⟨by simp, World.ownsRow_nil w' _ 5 1⟩, hb⟩
theorem uhP_some {w w' : World} {s : List UInt8} {L : List Nat} {v : Value} (h : uhL s = some L) (ho : Own w' w.heap.size v L) (hb : Below w.heap.size w w') : UhP w s (.returned (.tuple #[v, .int .i64 0])) w' :=
  ⟨_, by rw [(uh_some h).1], by rw [(uh_some h).2]; exact ho, hb⟩
set_option maxRecDepth 20000 in
set_option maxHeartbeats 4000000 in
theorem unhex_any (s : List UInt8) (w : World) (hl : s.length ≤ 4194304) :
    Calls Tryd.prog 8 #[.string (bs s)] w fun e w' => UhP w s e w' := by
  obtain ⟨n, hn⟩ : ∃ n, s.length = n := ⟨_, rfl⟩
  have hsz : (bs s).size = n := hn
  have HN : Hid (s.length = n) := hn
  have hnI : (n : Int) ≤ 4194304 := by omega
  by_cases hodd : n % 2 = 1
  · have HU : Hid (uhL s = none) := uhL_odd s (by rw [hn]; exact hodd)
    have ho : (n : Int) % 2 = 1 := by omega
    clear hn hl hodd
    go_enter Tryd.func8, Tryd.ntmps8
    go_wp2
    go_ret2
    exact uhP_none HU.out (Below.refl _ _)
  · have ho : (n : Int) % 2 = 0 := by omega
    obtain ⟨i0, hi, hz0, hz1, hz2⟩ := info_parts Tryd.info5h
    have HO : Hid (n % 2 = 0) := by show _ = _; omega
    clear hn hl hodd
    go_enter Tryd.func8, Tryd.ntmps8
    go_wp2_with (at_make; refine wpList_make_own _ rfl _ _ 22 rfl w.heap.size 5 i0 (.int .u8 0) 1 Tryd.underlying22 hi hz0 hz1 _ _ _ (n / 2) rfl rfl (by omega) (by rw [hz2]; omega) (by unfold maxLen; omega) (Nat.le_refl _) ?_)
    intro w2 ho2 hg
    have hb2 : Below w.heap.size w w2 := (Below.refl _ _).grown hg (Nat.le_refl _) (fun k hk => by cases hk)
    have HOW : Hid (Own w2 w.heap.size (.slice (some ⟨w.heap.size, 0, none⟩) 0 (n / 2)) []) := ⟨by simp, ho2⟩
    clear ho2 hg
    go_wp2
    go_loopw [4, 5] (fun vb vi wr => ∃ (v0 : Value) (k I : Nat) (L : List Nat), v0 = vb ∧ vi = .int .i64 I ∧ Hid (I = 2 * k) ∧ I ≤ n ∧ Hid (Own wr w.heap.size v0 L) ∧ Hid (L.length = k) ∧ Hid (uhL s = (uhL (s.drop (2 * k))).map (L ++ ·)) ∧ Below w.heap.size w wr) (fun _ vi _ => n - (intOf vi).toNat)
    case atStart => exact ⟨_, 0, 0, [], rfl, rfl, rfl, Nat.zero_le _, HOW, rfl, (by show _ = _; simp), hb2⟩
    case round =>
      obtain ⟨v0, k, I, L, rfl, rfl, HI, hIn, HU, HL, HE, hbe⟩ := hrel
      have hkn : k ≤ 2097152 := by have := HI.out; omega
      by_cases hlt : I < n
      · have hlt1 : I + 1 < n := by have := HI.out; have := HO.out; omega
        obtain ⟨A, hA⟩ : ∃ A, (bs s)[I]'(by rw [hsz]; exact hlt) = A := ⟨_, rfl⟩
        obtain ⟨B, hB⟩ : ∃ B, (bs s)[I + 1]'(by rw [hsz]; exact hlt1) = B := ⟨_, rfl⟩
        have hst := uhL_step (l := s) (k := k) (L := L) (by have := HI.out; have := HN.out; omega) HE.out
        have eA : s.getD (2 * k) 0 = A := by
          rw [← HI.out, List.getD_eq_getElem?_getD, List.getElem?_eq_getElem (by rw [HN.out]; exact hlt)]
          exact hA
        have eB : s.getD (2 * k + 1) 0 = B := by
          rw [← HI.out, List.getD_eq_getElem?_getD, List.getElem?_eq_getElem (by rw [HN.out]; exact hlt1)]
          exact hB
        rw [eA, eB] at hst
        obtain ⟨H1, hH1⟩ : ∃ H, uhx A = H := ⟨_, rfl⟩
        obtain ⟨H2, hH2⟩ : ∃ H, uhx B = H := ⟨_, rfl⟩
        have C1 : Hid (∀ w, Calls Tryd.prog 14 #[.string { data := #[48, 49, 50, 51, 52, 53, 54, 55, 56, 57, 97, 98, 99, 100, 101, 102] }, .int .u8 (A.toNat : Int)] w fun e w' => e = .returned (.int .i64 H1) ∧ w' = w) := fun w => by rw [← hH1]; exact idx_any A w
        have C2 : Hid (∀ w, Calls Tryd.prog 14 #[.string { data := #[48, 49, 50, 51, 52, 53, 54, 55, 56, 57, 97, 98, 99, 100, 101, 102] }, .int .u8 (B.toNat : Int)] w fun e w' => e = .returned (.int .i64 H2) ∧ w' = w) := fun w => by rw [← hH2]; exact idx_any B w
        have hltI : (I : Int) < n := by omega
        have hlt1I : (I : Int) + 1 < n := by omega
        cases hu : uh2 A B with
        | none =>
          have HN2 : Hid (uhL s = none) := hst.2 hu
          have hneg := (uh2_none hu).1
          rw [hH1, hH2] at hneg
          clear hst eA eB hH1 hH2 hu
          by_cases h1 : H1 < 0
          · go_wp2
            go_quiet ((first | (go_at_call 14; with_reducible exact Calls.quiet_of_same (C1.out _)) | (go_at_call 14; with_reducible exact Calls.quiet_of_same (C2.out _))))
            go_wp2
            go_ret2
            exact uhP_none HN2.out (bel_drewN hbe _)
          · have h2 : H2 < 0 := by omega
            go_wp2
            go_quiet ((first | (go_at_call 14; with_reducible exact Calls.quiet_of_same (C1.out _)) | (go_at_call 14; with_reducible exact Calls.quiet_of_same (C2.out _))))
            go_wp2
            go_ret2
            exact uhP_none HN2.out (bel_drewN hbe _)
        | some x =>
          have HS2 : Hid (uhL s = (uhL (s.drop (2 * (k + 1)))).map ((L ++ [x]) ++ ·)) := hst.1 x hu
          obtain ⟨f1, _, _, f4, f5, f6, f7, f8⟩ := uh2_some hu
          rw [hH1] at f4 f6 f8
          rw [hH2] at f5 f7 f8
          have e3 := or16 H1 H2 f4 f6 f5 f7
          rw [← f8] at e3
          have f1I : (x : Int) < 256 := by omega
          have hx0 : (0 : Int) ≤ (x : Int) := by omega
          clear hst eA eB hH1 hH2 hu f8
          go_wp2
          go_quiet ((first | (go_at_call 14; with_reducible exact Calls.quiet_of_same (C1.out _)) | (go_at_call 14; with_reducible exact Calls.quiet_of_same (C2.out _))))
          go_wp2_with (at_builtin; refine wpList_append_lies _ rfl _ _ 22 rfl w.heap.size 5 i0 (.int .u8 0) 1 1 Tryd.underlying22 hi hz0 hz1 hz2 rfl (by decide) v0 k (B8 L) rfl (by rw [← HL.out]; exact own_below HU.out.2 ((bel_drewN (Below.refl _ _) nq).alloc (by simp) _)) ⟨wr.heap.size, 0, none⟩ 1 1 (B8 [x]) rfl rfl (bytes_cells (bytes_lit (wr.drewN nq) [x] (getD_lt (by intro y hy; simp at hy; omega)))) (B8_one _) (by omega) (by unfold maxLen; omega) (by omega) (by have := hbe.size; simp; omega) (wr.heap.size + 1) (by simp) ?_; intro g4 cap4 w4 ho4 hg4 hat4 hlt4)
          have hO6 : Own w4 w.heap.size (.slice (some ⟨g4, 0, none⟩) (k + 1) cap4) (L ++ [x]) := Own.append HU.out.1 (getD_lt (by intro y hy; simp at hy; omega)) (by rw [HL.out]; exact ho4)
          have hb6 : Below w.heap.size w w4 := ((bel_drewN hbe nq).alloc (by have := hbe.size; simp; omega) _).grown hg4 (by have := hbe.size; simp; omega) (fun j hj => (own_below HU.out.2 (bel_drewN (Below.refl _ _) 0)).lt j hj |>.1)
          clear ho4 hg4 hat4 hlt4
          go_wp2
          go_roundw
          case rel => exact ⟨_, k + 1, I + 2, L ++ [x], rfl, by go_num, (by show _ = _; rw [HI.out]; omega), by omega, hO6, (by show _ = _; rw [List.length_append, HL.out]; rfl), HS2, hb6⟩
          case measure => simp [intOf]; omega
      · have hIe : I = n := by omega
        have HF : Hid (uhL s = some L) := by
          show _ = _
          rw [HE.out, List.drop_eq_nil_of_le (by rw [HN.out, ← HI.out, hIe]; exact Nat.le_refl _)]
          simp [uhL]
        clear hIe
        go_wp2
        go_ret2
        exact uhP_some HF.out HU.out hbe
end Go.Proofs.YtomgnbhajhkhfaaDoor
