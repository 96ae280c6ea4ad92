/- Own texts, joined: Od16, Od17. -/
import Derived.Test.YtmjppeljpifjpaaGreatK27
import Derived.Lib.SliceRun
import Derived.Test.YtmjppeljpifjpaaGreatK28
namespace Go.Proofs.YtmjppeljpifjpaaGreat
open Go.ChangeShapes Go.WideShapes Go.ChangeAt Go.RowKit
set_option linter.unusedVariables false
set_option linter.unusedSimpArgs false
theorem grown_below {w w' : World} {B : Nat} {ob : Option Nat} (h : w.grownBy w' ob) (hB : B ≤ w.heap.size) (ho : ∀ k, ob = some k → B ≤ k) : Below B w w' := (Below.refl _ _).grown h hB ho
set_option maxRecDepth 20000 in
set_option maxHeartbeats 1000000 in
theorem lnclone_any (L : List Ln) (a : Option Addr) (n cap : Nat) (w : World) (hn : L.length = n) (hl : Lns w a L) (hm : n * 32 ≤ 140737488351232) :
    Calls Tryz.prog 48 #[.slice a n cap] w fun r w' => ∃ a' c', r = .returned (.slice a' n c') ∧ OwnL w' w.heap.size (.slice a' n c') L ∧ Below w.heap.size w w' := by
  cases a with
  | none =>
    have hL : L = [] := by
      rcases hl with h | ⟨b, off, h, _⟩
      · exact h
      · cases h
    subst hL
    have hn0 : n = 0 := by simpa using hn.symm
    subst hn0
    clear hn hl hm
    have he := fun (y : World) => Lib.run_eql_slice_nil (P := Tryz.prog) y 23 44 none 0 cap 0 0 Tryz.underlying23
    go_enter Tryz.func48, Tryz.ntmps48
    go_wp2
    go_ret
    exact ⟨none, 0, rfl, OwnL.nil _ _, Below.refl _ _⟩
  | some ad =>
    obtain ⟨i0, hi, hz0, hz1, hz2⟩ := info_parts Tryz.infoLn
    have HN : Hid (L.length = n) := hn
    obtain ⟨W, hW⟩ : ∃ W, w.alloc (.cells #[] 44) = W := ⟨_, rfl⟩
    have hbW : Below w.heap.size w W := by rw [← hW]; exact (Below.refl _ _).alloc (Nat.le_refl _) _
    have hWs : w.heap.size ≤ W.heap.size := hbW.size
    have HOW : Hid (W.ownsRow w.heap.size 44 4 (.slice (some ⟨w.heap.size, 0, none⟩) 0 0) 0 []) := by rw [← hW]; exact OwnL.lit w
    have HBW : Hid (Below w.heap.size w W) := hbW
    have HNEW : Hid (∀ j u, (lfl L)[j]? = some u → W.cell? (ad.add j) = some u) := by
      intro j u hu
      have hl2 := hl.keep hbW
      rcases hl2 with h | ⟨b, off, h, _, h3⟩
      · subst h; simp [lfl] at hu
      · cases h
        have hj : j < L.length * 4 := by rw [← lfl_length]; exact ln_lt hu
        rw [Addr.add_lit]
        exact (h3 j hj).trans hu
    clear hn hl hbW
    have he := fun (y : World) => Lib.run_eql_slice_nil (P := Tryz.prog) y 23 44 (some ad) n cap 0 0 Tryz.underlying23
    go_enter Tryz.func48, Tryz.ntmps48
    go_wp2_with (at_builtin; refine wpList_append_own _ rfl _ _ 23 rfl w.heap.size 44 i0 _ 4 32 Tryz.underlying23 hi hz0 hz1 hz2 rfl (by decide) (.slice (some ⟨w.heap.size, 0, none⟩) 0 0) 0 [] rfl HOW.out ad n cap (lfl L) rfl (by rw [lfl_length, HN.out]) HNEW.out (lfl_one L) (by unfold maxLen; omega) (by omega) (by omega) ?_; intro v4 w4 ho4 hg4 hi4; have HO4 : Hid (OwnL w4 w.heap.size v4 L) := (show OwnL w4 w.heap.size v4 L from by unfold OwnL; rw [HN.out]; simpa using ho4); have HB4 : Hid (Below w.heap.size w w4) := HBW.out.trans (grown_below hg4 (by omega) (fun k hk => by simp [Value.ownBlock] at hk; omega)); clear ho4 hg4 hi4)
    go_ret
    obtain ⟨a4, c4, rfl, _⟩ := HO4.out.shape
    rw [HN.out] at HO4 ⊢
    exact ⟨a4, c4, rfl, HO4.out, HB4.out⟩
end Go.Proofs.YtmjppeljpifjpaaGreat
namespace Go.Proofs.YtmjppeljpifjpaaGreat
open Go.ChangeShapes Go.WideShapes Go.ChangeAt Go.RowKit
set_option linter.unusedVariables false
set_option linter.unusedSimpArgs false
theorem clr_len (L : List Ln) : (clrL L).length = L.length := by simp [clrL]
theorem clr_at {L : List Ln} {k : Nat} {p : Ln} (hp : L[k]? = some p) : (clrL (L.take k) ++ L.drop k)[k]? = some p := by
  have hk := ln_lt hp
  rw [List.getElem?_append_right (by rw [clr_len, List.length_take]; omega), clr_len, List.length_take, Nat.min_eq_left (by omega), Nat.sub_self, ln_drop L k p hp]
  rfl
theorem clr_step {L : List Ln} {k : Nat} {p : Ln} (hp : L[k]? = some p) : (clrL (L.take k) ++ L.drop k).set k (turnL p 3 p.qty) = clrL (L.take (k + 1)) ++ L.drop (k + 1) := by
  have hk := ln_lt hp
  rw [List.set_append_right _ _ (by rw [clr_len, List.length_take]; omega), clr_len, List.length_take, Nat.min_eq_left (by omega), Nat.sub_self, ln_drop L k p hp, ln_take L k p hp]
  simp [clrL, turnL]
set_option maxRecDepth 20000 in
set_option maxHeartbeats 4000000 in
theorem do_clearUp : DoOk 89 10 := by
  refine ⟨cf_clearUp, fun x base s e a n cap ho hb v hr hk hst hrf => ?_⟩
  rw [show doS s e = { s with lines := clrL s.lines, status := 4 } from by unfold doS; rw [if_neg (by omega), if_neg (by omega), if_neg (by omega), if_neg (by omega), if_neg (by omega), if_neg (by omega), if_neg (by omega), if_neg (by omega), if_neg (by omega)]]
  obtain ⟨h16, hrise⟩ := linesB_from v.lines
  have hlen := ho.len
  have hn16 : n ≤ 16 := by omega
  obtain ⟨W, hW, H⟩ := s3_new x base s e _ ho
  have HS : Hid (S3 x base (.slice a n cap) s e (.slice a n cap) W) := H
  have c5 := H.st.cell 5 (.slice a n cap) rfl
  have HN : Hid (s.lines.length = n) := hlen
  clear H ho hb v hr hk hst hrf hlen h16 hrise
  go_enter Tryz.func89, Tryz.ntmps89
  go_wp2
  go_loopw [10] (fun vi wr => ∃ (k : Nat), k ≤ n ∧ vi = .int .i64 k ∧ Hid (S3 x base (.slice a n cap) { s with lines := clrL (s.lines.take k) ++ s.lines.drop k } e (.slice a n cap) wr)) (fun vi _ => n - (intOf vi).toNat)
  case atStart => exact ⟨0, Nat.zero_le _, rfl, HS.out⟩
  case round =>
    clear HS c5 hW
    obtain ⟨k, hk, rfl, HI⟩ := hrel
    by_cases hkn : k < n
    · obtain ⟨p, hp⟩ := ln_get (L := s.lines) (k := k) (by rw [HN.out]; exact hkn)
      have hat := clr_at hp
      have hstep := clr_step hp
      obtain ⟨g, rfl, _⟩ := HI.out.row.block hat
      have kf := HI.out.row.cells hat
      obtain ⟨k0, k1, k2, k3⟩ := kf
      have HAL : Hid (S3 x base (.slice (some ⟨g, 0, none⟩) n cap) { s with lines := clrL (s.lines.take k) ++ s.lines.drop k } e (.slice (some ⟨g, 0, none⟩) n cap) (wr.alloc (.cells #[.int .i64 p.item, .int .i64 p.price, .int .i64 p.qty, .int .i64 p.shipped] 44))) := HI.out.keep ((Below.refl _ _).alloc (Nat.le_refl _) _)
      have q5 := HAL.out.st.cell 5 (.slice (some ⟨g, 0, none⟩) n cap) rfl
      obtain ⟨m0, m1, m2, m3⟩ := HAL.out.row.cells hat
      have mf := frozen_own HAL.out.row (k * 4 + 3)
      have HT : Hid (S3 x base (.slice (some ⟨g, 0, none⟩) n cap) { s with lines := clrL (s.lines.take (k + 1)) ++ s.lines.drop (k + 1) } e (.slice (some ⟨g, 0, none⟩) n cap) ((wr.setCell ⟨g, k * 4 + 3, none⟩ (.int .i64 p.qty)).alloc (.cells #[.int .i64 p.item, .int .i64 p.price, .int .i64 p.qty, .int .i64 p.shipped] 44))) := by
        have h := HI.out.turn k 3 p p.qty hat (by omega) (.inl rfl)
        simp only [hstep] at h
        exact h.keep ((Below.refl _ _).alloc (Nat.le_refl _) _)
      have hgl : g < wr.heap.size := by
        obtain ⟨_, h, _⟩ := HI.out.row.ob g rfl
        exact h
      have hgn : ¬ g = wr.heap.size := by omega
      have hgn2 : ¬ wr.heap.size = g := by omega
      clear hp hat hstep hgl
      go_wp2
      go_roundw
      case rel => exact ⟨k + 1, by omega, by go_num, HT.out⟩
      case measure => simp [intOf]; omega
    · obtain rfl : k = n := by omega
      have hI : S3 x base (.slice a k cap) { s with lines := clrL s.lines } e (.slice a k cap) wr := by
        have h := HI.out
        rw [List.take_of_length_le (by rw [HN.out]; exact Nat.le_refl _), List.drop_eq_nil_of_le (by rw [HN.out]; exact Nat.le_refl _), List.append_nil] at h
        exact h
      have q1 := hI.st.cell 1 (.int .i64 s.status) rfl
      have q2 := hI.froz 1
      have HS5 : Hid (S3 x base (.slice a k cap) { s with lines := clrL s.lines, status := 4 } e (.slice a k cap) (wr.setCell ⟨x.heap.size, 1, none⟩ (.int .i64 4))) := hI.set 1 _ rfl rfl
      clear hI
      go_wp2_with (first
        | ((with_reducible refine guard_load 25 ?_); refine wpList_load_st rfl _ rfl HS5.out.st rfl ?_)
        | ((with_reducible refine guard_store 25 ?_); refine wpList_store_st (s := zeroS) (s2 := { s with lines := clrL s.lines, status := 4 }) (a2 := a) (n2 := k) (c2 := cap) rfl _ _ rfl HS5.out.res rfl rfl ?_; intro y z1 z2 z3 z4))
      have HZ := HS5.out.done z3 z2
      exact bodyPost_ret (results_st1 rfl _ _ _ rfl z1) rfl ⟨_, k, cap, rfl, HZ.1, HZ.2⟩
end Go.Proofs.YtmjppeljpifjpaaGreat
