/- Own texts, joined: Cpn, Cnc, Sto, Renc, Tlen, Rf1, Sr1, Rf2, Rf3. -/
import Derived.Test.YtfdaefhamoeaiaaGreatK41
import Derived.Test.YtfdaefhamoeaiaaGreatK17
import Derived.Test.YtfdaefhamoeaiaaGreatK48
import Derived.Test.YtfdaefhamoeaiaaGreatK49
import Derived.Deep.Slices
import Derived.ChangeSame
import Derived.SizedLaws
import Derived.ChangeSlices
import Derived.Test.YtfdaefhamoeaiaaGreatRows
import Derived.Test.YtfdaefhamoeaiaaGreatK00
import Derived.Test.YtfdaefhamoeaiaaGreatK45
import Derived.Test.YtfdaefhamoeaiaaGreatK18
import Derived.Test.YtfdaefhamoeaiaaGreatK43
import Derived.Deep.RegionHeld3
import Derived.Deep.Onto
import Derived.Test.YtfdaefhamoeaiaaGreatK42
import Derived.Deep.AppendLies
namespace Go.Proofs.YtfdaefhamoeaiaaGreat
open Go.ChangeShapes Go.WideShapes Go.ChangeAt Go.RowKit
set_option linter.unusedVariables false
theorem bel_drewN {B : Nat} {a w : World} (h : Below B a w) (n : Nat) : Below B a (w.drewN n) := by
  induction n with
  | zero => exact h
  | succ n ih => exact ih.drew
theorem copy_nn (l : List Nat) (a : Option Addr) (n cap : Nat) (w : World) (hn : l.length = n) (hb : Bytes w a l) (hl : n ≤ 281474976710656) :
    Calls Tryz.prog 12 #[.slice a n cap] w fun e w' => ∃ a2 cap2, e = .returned (.slice a2 n cap2) ∧ n ≤ cap2 ∧ Bytes w' a2 l ∧ Own w' w.heap.size (.slice a2 n cap2) l ∧ Below w.heap.size w w' := by
  subst hn
  refine (copy_any l a cap w hb hl).mono ?_
  rintro e w' ⟨v, rfl, ho, hb'⟩
  obtain ⟨a2, cap2, rfl, h1, _, h3, _⟩ := ho.shape
  exact ⟨a2, cap2, rfl, h1, h3, ho, hb'⟩
theorem same_yes (l : List Nat) (n1 n2 : Nat) (a1 a2 : Option Addr) (c1 c2 : Nat) (w : World) (e1 : l.length = n1) (e2 : l.length = n2) (hb1 : Bytes w a1 l) (hb2 : Bytes w a2 l) (hl : n1 ≤ maxLen) :
    Calls Tryz.prog 9 #[.slice a1 n1 c1, .slice a2 n2 c2] w fun e w' => e = .returned (.bool true) ∧ Below w.heap.size w w' := by
  refine (same_at l l n1 n2 a1 a2 c1 c2 w e1 e2 hb1 hb2 (by rw [e1]; exact hl) (by rw [e1]; exact hl)).mono ?_
  rw [decide_eq_true rfl]
  rintro e w' ⟨rfl, m, rfl⟩
  exact ⟨rfl, bel_drewN (Below.refl _ _) m⟩
theorem same_no (l m : List Nat) (n1 n2 : Nat) (a1 a2 : Option Addr) (c1 c2 : Nat) (w : World) (hne : l ≠ m) (e1 : l.length = n1) (e2 : m.length = n2) (hb1 : Bytes w a1 l) (hb2 : Bytes w a2 m) (hl : n1 ≤ maxLen) (hm : n2 ≤ maxLen) :
    Calls Tryz.prog 9 #[.slice a1 n1 c1, .slice a2 n2 c2] w fun e w' => e = .returned (.bool false) ∧ Below w.heap.size w w' := by
  refine (same_at l m n1 n2 a1 a2 c1 c2 w e1 e2 hb1 hb2 (by rw [e1]; exact hl) (by rw [e2]; exact hm)).mono ?_
  rw [decide_eq_false hne]
  rintro e w' ⟨rfl, m, rfl⟩
  exact ⟨rfl, bel_drewN (Below.refl _ _) m⟩
end Go.Proofs.YtfdaefhamoeaiaaGreat
namespace Go.Proofs.YtfdaefhamoeaiaaGreat
open Go.ChangeShapes Go.WideShapes Go.ChangeAt Go.RowKit
set_option linter.unusedVariables false
def sevS : St := ⟨7, 0, 0, 0, 0, [], 0, 0, 0, 0, 0, ⟨#[]⟩⟩
theorem nilB_e : nilB ⟨#[]⟩ = true := (nilB_iff _).2 nums8_nil
theorem who_ok : chk 5 (whoE ⟨#[]⟩) = 0 := chk_of ⟨by decide, by decide, by decide, by decide, by decide, by decide, by decide, by decide, by decide, by decide, by decide, by decide, by decide, by decide, by decide, by decide, by decide, by decide, by decide, by decide, by decide, .inr rfl, .inr rfl, .inr nilB_e, .inr ⟨rfl, nilB_e⟩⟩
theorem sev_ok : vldB sevS = true := by
  have h1 : whoB sevS.who = true := by show (chk 5 (whoE ⟨#[]⟩) == 0) = true; rw [who_ok]; rfl
  have h2 : bndS sevS = true := by
    unfold bndS
    rw [h1]
    rfl
  have h3 : fitsB sevS = true := by
    have h4 : (sevS.who.toList == []) = true := toList_nil.2 rfl
    unfold fitsB
    rw [if_pos (show standS sevS = 0 from rfl)]
    unfold untB
    rw [h4]
    rfl
  unfold vldB
  rw [h2, h3]
  rfl
theorem sev_ones : ones (sfs sevS) = [2, 7] := by rfl
theorem sev_enc : cenc sevS = ([2, 7], 0) := by unfold cenc; rw [if_pos sev_ok, sev_ones]
theorem sev_dec : cdec [2, 7] = (sevS, 0) := by have h := cdec_back sev_ok; rw [sev_ones] at h; exact h
set_option maxRecDepth 20000 in
set_option maxHeartbeats 2000000 in
theorem head09_any (w : World) : Calls Tryz.prog 5 #[] w fun r w' => r = .returned (.bool true) ∧ Below w.heap.size w w' := by
  have T1 : Hid True := trivial
  go_enter Tryz.func5, Tryz.ntmps5
  go_wp2_with (first
    | (go_at_call 8; refine (cenc_any sevS none 0 0 _ rfl (.inl rfl) (by decide)).mono ?_; unfold CencPost; rw [sev_enc]; rintro _ x1 ⟨v1, rfl, ho1, hb1⟩; obtain ⟨a1, c1, hv1, _, _, hy1, _⟩ := ho1.shape; subst hv1; have HB1 : Hid (Below w.heap.size w x1) := hb1; have HY1 : Hid (Bytes x1 a1 [2, 7]) := hy1; clear ho1 hb1 hy1)
    | (go_at_call 14; refine (cdec_any [2, 7] (some ⟨x1.heap.size, 0, none⟩) 2 2 _ rfl (bytes_lit x1 [2, 7] (lt_getDC (by decide))) (by decide) (by decide)).mono ?_; unfold CdecPost; rw [sev_dec]; rintro _ x2 ⟨v2, rfl, ho2, hb2⟩; obtain ⟨a2, c2, hv2, _, _, hl2, _⟩ := ho2.shape; subst hv2; have hbx : Below x1.heap.size x1 x2 := below_next ((Below.refl x1.heap.size x1).alloc (Nat.le_refl _) _) hb2; have HB2 : Hid (Below w.heap.size w x2) := below_next HB1.out hbx; have HY2 : Hid (Bytes x2 a1 [2, 7]) := HY1.out.keep hbx; have HL2 : Hid (Lns x2 a2 []) := hl2; clear ho2 hb2 hbx hl2)
    | ((with_reducible refine guard_store 25 ?_); clear T1; refine wpList_store_st (s := zeroS) (s2 := sevS) (a2 := a2) (n2 := 0) (c2 := c2) rfl _ _ rfl (StAt.new x2 zeroS (.slice none 0 0)) rfl rfl ?_; intro x3 z1 z2 z3 z4; have hu := (z2 _ _ ((Below.refl x2.heap.size x2).alloc (Nat.le_refl _) _) (Nat.le_refl _)); have HB3 : Hid (Below w.heap.size w x3) := below_next HB2.out hu; have HY3 : Hid (Bytes x3 a1 [2, 7]) := HY2.out.keep hu; have HL3 : Hid (Lns x3 a2 []) := HL2.out.keep hu; have HS3 : Hid (StAt x3 x2.heap.size sevS (.slice a2 0 c2)) := z1; clear z1 z2 z3 z4 hu)
    | (go_at_call 9; refine (same_yes [2, 7] 2 2 a1 (some ⟨x3.heap.size, 0, none⟩) c1 2 _ rfl rfl (HY3.out.keep ((Below.refl x3.heap.size x3).alloc (Nat.le_refl _) _)) (bytes_lit x3 [2, 7] (lt_getDC (by decide))) (by decide)).mono ?_; rintro _ x4 ⟨rfl, hb4⟩; have hbx : Below x3.heap.size x3 x4 := below_next ((Below.refl x3.heap.size x3).alloc (Nat.le_refl _) _) hb4; have HB4 : Hid (Below w.heap.size w x4) := below_next HB3.out hbx; have hs4 := HS3.out.after hbx; have HS4 : Hid (StAt x4 x2.heap.size sevS (.slice a2 0 c2)) := hs4; have HL4 : Hid (Lns x4 a2 []) := HL3.out.keep hbx; have k0 : x4.cell? ⟨x2.heap.size, 0, none⟩ = some (.int .i64 7) := hs4.cell 0 _ rfl; clear hb4 hbx hs4)
    | ((with_reducible refine guard_loadg 25 ?_); refine wpList_load_stg rfl _ rfl HS4.out rfl ?_)
    | (go_at_call 10; refine (csize_any sevS a2 0 c2 _ rfl HL4.out (by decide)).mono ?_; rw [sev_enc]; rintro _ x5 ⟨rfl, hb5⟩; have HB5 : Hid (Below w.heap.size w x5) := below_next HB4.out hb5; clear hb5))
  go_ret
  exact ⟨rfl, HB5.out⟩
end Go.Proofs.YtfdaefhamoeaiaaGreat
namespace Go.Proofs.YtfdaefhamoeaiaaGreat
open Go.ChangeShapes Go.WideShapes Go.ChangeAt Go.RowKit Go.Deep
set_option linter.unusedVariables false
theorem array12 {α : Type} {cs : Array α} (h : cs.size = 12) : ∃ c0 c1 c2 c3 c4 c5 c6 c7 c8 c9 c10 c11, cs = #[c0, c1, c2, c3, c4, c5, c6, c7, c8, c9, c10, c11] := by
  obtain ⟨l⟩ := cs
  match l, h with
  | [c0, c1, c2, c3, c4, c5, c6, c7, c8, c9, c10, c11], _ => exact ⟨c0, c1, c2, c3, c4, c5, c6, c7, c8, c9, c10, c11, rfl⟩
section
variable {H : Type} {enc : TypeId × Value → H} {w : World} {base : Nat} {spare : Nat → Bool} {held : Bool}
theorem struct12 {P : Program} {t : TypeId} {f0 f1 f2 f3 f4 f5 f6 f7 f8 f9 f10 f11 : Field} {fuel : Nat} {c0 c1 c2 c3 c4 c5 c6 c7 c8 c9 c10 c11 : Value} {x : DataW H × List MemPlace} (ht : P.underlying t = some (.struct #[f0, f1, f2, f3, f4, f5, f6, f7, f8, f9, f10, f11])) (hone : oneCellFields P #[f0, f1, f2, f3, f4, f5, f6, f7, f8, f9, f10, f11] = true)
    (h : DataW.trod enc P w base spare held fuel t [c0, c1, c2, c3, c4, c5, c6, c7, c8, c9, c10, c11] = some x) :
    ∃ y0 y1 y2 y3 y4 y5 y6 y7 y8 y9 y10 y11 n, x = (.agg [y0.1, y1.1, y2.1, y3.1, y4.1, y5.1, y6.1, y7.1, y8.1, y9.1, y10.1, y11.1], y0.2 ++ (y1.2 ++ (y2.2 ++ (y3.2 ++ (y4.2 ++ (y5.2 ++ (y6.2 ++ (y7.2 ++ (y8.2 ++ (y9.2 ++ (y10.2 ++ (y11.2))))))))))))
      ∧ DataW.trod enc P w base spare held n f0.type [c0] = some y0 ∧ DataW.trod enc P w base spare held n f1.type [c1] = some y1 ∧ DataW.trod enc P w base spare held n f2.type [c2] = some y2 ∧ DataW.trod enc P w base spare held n f3.type [c3] = some y3 ∧ DataW.trod enc P w base spare held n f4.type [c4] = some y4 ∧ DataW.trod enc P w base spare held n f5.type [c5] = some y5 ∧ DataW.trod enc P w base spare held n f6.type [c6] = some y6 ∧ DataW.trod enc P w base spare held n f7.type [c7] = some y7 ∧ DataW.trod enc P w base spare held n f8.type [c8] = some y8 ∧ DataW.trod enc P w base spare held n f9.type [c9] = some y9 ∧ DataW.trod enc P w base spare held n f10.type [c10] = some y10 ∧ DataW.trod enc P w base spare held n f11.type [c11] = some y11 := by
  obtain ⟨xs, n, _, rfl, _, hlen, hf⟩ := DataW.trod_struct ht h
  obtain ⟨o0, k0⟩ := hone_of hone 0 f0 rfl
  obtain ⟨o1, k1⟩ := hone_of hone 1 f1 rfl
  obtain ⟨o2, k2⟩ := hone_of hone 2 f2 rfl
  obtain ⟨o3, k3⟩ := hone_of hone 3 f3 rfl
  obtain ⟨o4, k4⟩ := hone_of hone 4 f4 rfl
  obtain ⟨o5, k5⟩ := hone_of hone 5 f5 rfl
  obtain ⟨o6, k6⟩ := hone_of hone 6 f6 rfl
  obtain ⟨o7, k7⟩ := hone_of hone 7 f7 rfl
  obtain ⟨o8, k8⟩ := hone_of hone 8 f8 rfl
  obtain ⟨o9, k9⟩ := hone_of hone 9 f9 rfl
  obtain ⟨o10, k10⟩ := hone_of hone 10 f10 rfl
  obtain ⟨o11, k11⟩ := hone_of hone 11 f11 rfl
  match xs, hlen with
  | [y0, y1, y2, y3, y4, y5, y6, y7, y8, y9, y10, y11], _ =>
    exact ⟨y0, y1, y2, y3, y4, y5, y6, y7, y8, y9, y10, y11, n, by simp, by simpa [o0, k0] using hf 0 f0 rfl, by simpa [o1, k1] using hf 1 f1 rfl, by simpa [o2, k2] using hf 2 f2 rfl, by simpa [o3, k3] using hf 3 f3 rfl, by simpa [o4, k4] using hf 4 f4 rfl, by simpa [o5, k5] using hf 5 f5 rfl, by simpa [o6, k6] using hf 6 f6 rfl, by simpa [o7, k7] using hf 7 f7 rfl, by simpa [o8, k8] using hf 8 f8 rfl, by simpa [o9, k9] using hf 9 f9 rfl, by simpa [o10, k10] using hf 10 f10 rfl, by simpa [o11, k11] using hf 11 f11 rfl⟩
/-- one line, from its four cells -/
theorem open_ln {fuel : Nat} {c0 c1 c2 c3 : Value} {x : DataW H × List MemPlace} (h : DataW.trod enc Tryz.prog w base (fun _ => true) held fuel 44 [c0, c1, c2, c3] = some x) :
    ∃ p : Ln, c0 = .int .i64 p.item ∧ c1 = .int .i64 p.price ∧ c2 = .int .i64 p.qty ∧ c3 = .int .i64 p.shipped := by
  obtain ⟨xs, n, _, hxy, _, hlen, hf⟩ := DataW.trod_struct Tryz.underlying44 h
  match xs, hlen with
  | [y0, y1, y2, y3], _ =>
    have k0 : Tryz.prog.cellsOf 3 = 1 := by kernel_rfl
    have g0 : DataW.trod enc Tryz.prog w base (fun _ => true) held n 3 [c0] = some y0 := by have := hf 0 _ rfl; simpa [k0] using this
    have g1 : DataW.trod enc Tryz.prog w base (fun _ => true) held n 3 [c1] = some y1 := by have := hf 1 _ rfl; simpa [k0] using this
    have g2 : DataW.trod enc Tryz.prog w base (fun _ => true) held n 3 [c2] = some y2 := by have := hf 2 _ rfl; simpa [k0] using this
    have g3 : DataW.trod enc Tryz.prog w base (fun _ => true) held n 3 [c3] = some y3 := by have := hf 3 _ rfl; simpa [k0] using this
    obtain ⟨a0, h0, _, _⟩ := DataW.trod_int Tryz.underlying3 g0
    obtain ⟨a1, h1, _, _⟩ := DataW.trod_int Tryz.underlying3 g1
    obtain ⟨a2, h2, _, _⟩ := DataW.trod_int Tryz.underlying3 g2
    obtain ⟨a3, h3, _, _⟩ := DataW.trod_int Tryz.underlying3 g3
    simp only [List.cons.injEq, and_true] at h0 h1 h2 h3
    exact ⟨⟨a0, a1, a2, a3⟩, h0, h1, h2, h3⟩
/-- a list of lines -/
theorem open_lines {fuel : Nat} {cs : List Value} {x : DataW H × List MemPlace} (h : DataW.trod enc Tryz.prog w base (fun _ => true) held fuel 23 cs = some x) :
    ∃ (a : Option Addr) (len cap : Nat) (L : List Ln), cs = [.slice a len cap] ∧ len ≤ cap ∧ cap ≤ maxLen ∧ L.length = len ∧ Lns w a L ∧ (cap = 0 ∨ ∃ e s : List (DataW H), x.1 = .slice e s ∧ e.length + s.length = cap) := by
  rcases open_slice Tryz.underlying23 h with ⟨rfl, rfl⟩ | ⟨a, len, cap, m, n, D, Pl, rfl, hb, hl, hm, hmm, rfl, hx⟩
  · exact ⟨none, 0, 0, [], rfl, Nat.le_refl _, by simp, rfl, .inl rfl, .inl rfl⟩
  have hmc : m = cap := by simpa using hmm
  subst hmc
  have ce : Tryz.prog.cellsOf 44 = 4 := by kernel_rfl
  have each : ∀ i, i < m → ∃ q : Ln, w.cell? (a.add (i * 4)) = some (.int .i64 q.item) ∧ w.cell? (a.add (i * 4 + 1)) = some (.int .i64 q.price) ∧ w.cell? (a.add (i * 4 + 2)) = some (.int .i64 q.qty) ∧ w.cell? (a.add (i * 4 + 3)) = some (.int .i64 q.shipped) := by
    intro i hi
    obtain ⟨cs', h1, h2⟩ := hx i hi
    rw [ce] at h1
    obtain ⟨_, hlen, hcell⟩ := World.cells?_some h1
    match cs', hlen with
    | [v0, v1, v2, v3], _ =>
      obtain ⟨p, rfl, rfl, rfl, rfl⟩ := open_ln h2
      have e0 := hcell 0 (by omega)
      have e1 := hcell 1 (by omega)
      have e2 := hcell 2 (by omega)
      have e3 := hcell 3 (by omega)
      rw [add_add] at e0 e1 e2 e3
      exact ⟨p, by simpa using e0, by simpa using e1, by simpa using e2, by simpa using e3⟩
  haveI : Inhabited Ln := ⟨⟨0, 0, 0, 0⟩⟩
  obtain ⟨q, hq⟩ := choose_lt each
  refine ⟨some a, len, m, (List.range len).map q, rfl, hl, hm, by simp, ?_, .inr ⟨_, _, rfl, by simp; omega⟩⟩
  by_cases h0 : len = 0
  · left; subst h0; rfl
  · right
    obtain ⟨b, off, spot⟩ := a
    have hc0 := (hq 0 (by omega)).1
    have hspot : spot = none := by simpa [Addr.add] using World.cell?_spot hc0
    subst hspot
    refine ⟨b, off, rfl, World.block_lt_of_cell? _ _ hc0, fun j hj => ?_⟩
    simp only [List.length_map, List.length_range] at hj
    obtain ⟨i, r, hr, rfl⟩ : ∃ i r, r < 4 ∧ j = i * 4 + r := ⟨j / 4, j % 4, by omega, by omega⟩
    have hi : i < len := by omega
    have hp : ((List.range len).map q)[i]? = some (q i) := by rw [List.getElem?_map, List.getElem?_range hi]; rfl
    obtain ⟨f0, f1, f2, f3⟩ := lfl_get _ i _ hp
    obtain ⟨d0, d1, d2, d3⟩ := hq i (by omega)
    have hadd : ∀ z, (⟨b, off, none⟩ : Addr).add z = ⟨b, off + z, none⟩ := fun z => by simp [Addr.add]
    rw [hadd] at d0 d1 d2 d3
    have hr4 : r = 0 ∨ r = 1 ∨ r = 2 ∨ r = 3 := by omega
    rcases hr4 with rfl | rfl | rfl | rfl
    · rw [Nat.add_zero, f0]; exact d0
    · rw [f1]; exact d1
    · rw [f2]; exact d2
    · rw [f3]; exact d3
set_option maxRecDepth 20000 in
/-- a state, its lines, and what of it lies on the reach -/
theorem open_state {r : Reach} {b0 : Nat} {v : Value} {d : DataW H} {p : List MemPlace} (hv : Value.okWide Tryz.prog w r b0 25 v) (h : DataW.Trod enc Tryz.prog w base (fun _ => true) held 25 v d p)
    {ts : List TypeId} {ds : List (DataW H)} (hsz : (DataW.weightsEach Tryz.prog ts ds).all (· ≤ reachBytes) = true) {j : Nat} (ht : ts[j]? = some 25) (hd : ds[j]? = some d) :
    ∃ (s : St) (a : Option Addr) (n cap : Nat), v = .agg (stA s (.slice a n cap)) ∧ s.lines.length = n ∧ Lns w a s.lines ∧ n ≤ cap ∧ n * 32 ≤ 140737488351232 := by
  obtain ⟨cs, rfl, hsize⟩ := okWide_struct Tryz.underlying25 hv
  obtain ⟨c0, c1, c2, c3, c4, c5, c6, c7, c8, c9, c10, c11, rfl⟩ := array12 (hsize.trans (show Tryz.prog.cellsOf 25 = 12 from by kernel_rfl))
  obtain ⟨fuel, hf⟩ := h
  obtain ⟨y0, y1, y2, y3, y4, y5, y6, y7, y8, y9, y10, y11, n, hx, h0, h1, h2, h3, h4, h5, h6, h7, h8, h9, h10, h11⟩ := struct12 Tryz.underlying25 (by kernel_rfl) (by simpa [Value.cells] using hf)
  obtain ⟨a0, e0, _, _⟩ := DataW.trod_int Tryz.underlying3 h0
  obtain ⟨a1, e1, _, _⟩ := DataW.trod_int Tryz.underlying22 h1
  obtain ⟨a2, e2, _, _⟩ := DataW.trod_int Tryz.underlying22 h2
  obtain ⟨a3, e3, _, _⟩ := DataW.trod_int Tryz.underlying3 h3
  obtain ⟨a4, e4, _, _⟩ := DataW.trod_int Tryz.underlying3 h4
  obtain ⟨a6, e6, _, _⟩ := DataW.trod_int Tryz.underlying3 h6
  obtain ⟨a7, e7, _, _⟩ := DataW.trod_int Tryz.underlying3 h7
  obtain ⟨a8, e8, _, _⟩ := DataW.trod_int Tryz.underlying3 h8
  obtain ⟨a9, e9, _, _⟩ := DataW.trod_int Tryz.underlying3 h9
  obtain ⟨a10, e10, _, _⟩ := DataW.trod_int Tryz.underlying3 h10
  obtain ⟨a11, e11, _, _⟩ := DataW.trod_string Tryz.underlying9 h11
  obtain ⟨a5, len, cap, L, e5, g1, g2, g3, g4, g5⟩ := open_lines h5
  simp only [List.cons.injEq, and_true] at e0 e1 e2 e3 e4 e5 e6 e7 e8 e9 e10 e11
  subst e0 e1 e2 e3 e4 e5 e6 e7 e8 e9 e10 e11
  refine ⟨⟨a0, a1, a2, a3, a4, L, a6, a7, a8, a9, a10, a11⟩, a5, len, cap, rfl, g3, g4, g1, ?_⟩
  rcases g5 with g5 | ⟨e, s, g6, g7⟩
  · omega
  · have hdd : d = _ := (Prod.mk.inj hx).1
    have hw : (e.length + s.length) * Tryz.prog.bytesOf 44 ∈ d.weights Tryz.prog 25 := by
      rw [hdd, g6]
      simp only [DataW.weights, Tryz.underlying25, DataW.weightsEach, Tryz.underlying23, List.mem_append, List.mem_cons, List.map_cons, List.map_nil]
      simp
    have := of_decide_eq_true (List.all_eq_true.1 hsz _ (DataW.weights_mem_each ht hd _ hw))
    rw [show Tryz.prog.bytesOf 44 = 32 from by kernel_rfl] at this
    simp only [reachBytes] at this
    omega
end
end Go.Proofs.YtfdaefhamoeaiaaGreat
namespace Go.Proofs.YtfdaefhamoeaiaaGreat
open Go.ChangeShapes Go.WideShapes Go.ChangeAt Go.RowKit
theorem Tryz.info5r : (Tryz.prog.info? 5).map (fun i => (i.zero, i.size, i.bytes)) = some (some (.int .u8 0), 1, 1) := by kernel_rfl
theorem encF_succ (f u : Nat) : encF (f + 1) u = if u < 128 then [u] else (128 + u % 128) :: encF f (u / 128) := rfl
theorem own_one (w : World) (c : Nat) (h : c < 256) : Own (w.alloc (.cells #[.int .u8 (c : Int)] 5)) w.heap.size (.slice (some ⟨w.heap.size, 0, none⟩) 1 1) [c] := by
  refine ⟨getD_lt (by simpa using h), ?_⟩
  exact World.ownsRow_lit w #[.int .u8 (c : Int)] 1 (Nat.le_refl _) (by unfold maxLen; omega) rfl
theorem own_keep {w w' : World} {o : Obj} {v : Value} {l : List Nat} (h : Own (w.alloc o) w.heap.size v l) (hb : Below (w.heap.size + 1) (w.alloc o) w') : w'.ownsRow w.heap.size 5 1 v l.length (B8 l) := by
  obtain ⟨_, h1, h2⟩ := h
  refine ⟨h1, ?_⟩
  rcases h2 with h2 | ⟨g, cap, cur, h3, h4, h5, h6, h7, h8, h9⟩
  · exact .inl h2
  · refine .inr ⟨g, cap, cur, h3, h4, ?_, h6, h7, h8, h9⟩
    have hlt : g < w.heap.size + 1 := by
      by_cases hh : g < (w.alloc o).heap.size
      · rw [World.size_alloc] at hh; exact hh
      · rw [Array.getElem?_eq_none (by omega)] at h5; cases h5
    rw [hb.block g hlt]; exact h5
set_option maxRecDepth 20000 in
set_option maxHeartbeats 1000000 in
theorem renc_any (f u : Nat) (w : World) (h64 : u ≤ 18446744073709551615) (hp : u < 128 ^ (f + 1)) :
    Calls Tryz.prog 62 #[.int .u64 u] w fun e w' => ∃ v, e = .returned v ∧ Own w' w.heap.size v (encF (f + 1) u) ∧ Below w.heap.size w w' := by
  obtain ⟨i0, hi, hz0, hz1, hz2⟩ := info_parts Tryz.info5r
  induction f generalizing u w with
  | zero =>
    have hlt : u < 128 := by simpa using hp
    have HE : Hid (encF 1 u = [u]) := by show _ = _; unfold encF; rw [if_pos hlt]
    have HO : Hid (_) := own_one w u (by omega)
    have hu8 : (u : Int) ≤ 255 := by omega
    clear hp
    go_enter Tryz.func62, Tryz.ntmps62
    go_wp2
    go_ret
    exact ⟨_, rfl, by rw [HE.out]; exact HO.out, (Below.refl _ _).alloc (Nat.le_refl _) _⟩
  | succ f ih =>
    by_cases hlt : u < 128
    · have HE : Hid (encF (f + 1 + 1) u = [u]) := by show _ = _; unfold encF; rw [if_pos hlt]
      have HO : Hid (_) := own_one w u (by omega)
      have hu8 : (u : Int) ≤ 255 := by omega
      clear hp ih
      go_enter Tryz.func62, Tryz.ntmps62
      go_wp2
      go_ret
      exact ⟨_, rfl, by rw [HE.out]; exact HO.out, (Below.refl _ _).alloc (Nat.le_refl _) _⟩
    · have HE : Hid (encF (f + 1 + 1) u = [128 + u % 128] ++ encF (f + 1) (u / 128)) := by
        show _ = _
        rw [encF_succ, if_neg hlt]
        rfl
      have HO : Hid (Own (w.alloc (.cells #[.int .u8 (128 + (u : Int) % 128)] 5)) w.heap.size (.slice (some ⟨w.heap.size, 0, none⟩) 1 1) [128 + u % 128]) := by
        have h := own_one w (128 + u % 128) (by omega)
        rw [show ((128 + u % 128 : Nat) : Int) = 128 + (u : Int) % 128 from by omega] at h
        exact h
      have hp2 : u / 128 < 128 ^ (f + 1) := by rw [Nat.pow_succ] at hp; exact Nat.div_lt_of_lt_mul (by rw [Nat.mul_comm]; exact hp)
      have IH : Hid (Calls Tryz.prog 62 #[.int .u64 ((u : Int) / 128)] (w.alloc (.cells #[.int .u8 (128 + (u : Int) % 128)] 5)) fun e w' => ∃ v, e = .returned v ∧ Own w' (w.heap.size + 1) v (encF (f + 1) (u / 128)) ∧ Below (w.heap.size + 1) (w.alloc (.cells #[.int .u8 (128 + (u : Int) % 128)] 5)) w') := by
        have h := ih (u / 128) (w.alloc (.cells #[.int .u8 (128 + (u : Int) % 128)] 5)) (by omega) hp2
        rw [show ((u / 128 : Nat) : Int) = (u : Int) / 128 from by omega, World.size_alloc] at h
        exact h
      have hlen : (encF (f + 1) (u / 128)).length ≤ 10 := by
        rw [encF_length f _ hp2]
        have h2 : bitLen (u / 128 ||| 1) ≤ 64 := bitLen_lt _ 64 (by rw [or_one]; omega)
        omega
      have HNE : Hid (encF (f + 1) (u / 128) ≠ []) := by
        show _ ≠ _
        unfold encF
        split <;> simp
      have hge : ¬ (u : Int) < 128 := by omega
      clear hp ih hp2 hlt
      generalize hL : encF (f + 1) (u / 128) = L at *
      clear hL
      go_enter Tryz.func62, Tryz.ntmps62
      go_wp2_with (first
        | (go_at_call 62; refine (IH.out).mono ?_; rintro e w2 ⟨v, rfl, ho, hb⟩; have HBY : Hid (∀ i, L.getD i 0 < 256) := ho.1; obtain ⟨g, cap, rfl, hcap, hby⟩ := ho.row HNE.out; clear ho; have HO2 : Hid (w2.ownsRow w.heap.size 5 1 (.slice (some ⟨w.heap.size, 0, none⟩) 1 1) 1 (B8 [128 + u % 128])) := own_keep HO.out hb; have hs2 : w.heap.size ≤ w2.heap.size := by have := hb.size; rw [World.size_alloc] at this; omega)
        | (at_builtin; refine wpList_append_own _ rfl _ _ 28 rfl w.heap.size 5 i0 (.int .u8 0) 1 1 Tryz.underlying28 hi hz0 hz1 hz2 rfl (by decide) _ _ _ rfl HO2.out ⟨g, 0, none⟩ L.length cap (B8 L) rfl (B8_length L) (bytes_cells hby) (B8_one L) (by unfold maxLen; omega) (by omega) hs2 ?_; intro v4 w4 ho4 hg4 _))
      have hb4 := grown_row (Below.refl w.heap.size w2) HO2.out hs2 hg4
      clear hg4
      go_wp2
      go_ret
      refine ⟨v4, rfl, ?_, ((Below.refl _ _).alloc (Nat.le_refl _) _).trans ((hb.mono (by omega)).trans hb4)⟩
      rw [HE.out]
      refine Own.append (getD_lt (by intro x hx; simp at hx; omega)) HBY.out ?_
      exact ho4
end Go.Proofs.YtfdaefhamoeaiaaGreat
namespace Go.Proofs.YtfdaefhamoeaiaaGreat
open Go.ChangeShapes Go.WideShapes Go.ChangeAt Go.RowKit
set_option linter.unusedVariables false
set_option maxRecDepth 20000 in
set_option maxHeartbeats 1000000 in
theorem rfault_any (f : Fld) (last : Int) (a : Option Addr) (cap : Nat) (w : World) (hn : f.num ≤ 18446744073709551615) :
    Calls Tryz.prog 38 #[FV f.tag f.text f.num (.slice a f.bytes.length cap), .int .i64 last] w fun r w' => r = .returned (.int .i64 (flt f last : Int)) ∧ Below w.heap.size w w' := by
  obtain ⟨tag, text, num, bytes⟩ := f
  simp only at hn ⊢
  obtain ⟨L, hL⟩ : ∃ L, bytes.length = L := ⟨_, rfl⟩
  rw [hL]
  by_cases c1 : tag < 1
  · have HF : Hid (flt ⟨tag, text, num, bytes⟩ last = 20) := by show _ = _; unfold flt; rw [if_pos (.inl c1)]
    go_enter Tryz.func38, Tryz.ntmps38
    go_wp2
    go_ret
    exact ⟨by rw [HF.out]; rfl, (Below.refl _ _).alloc (Nat.le_refl _) _⟩
  by_cases c2 : 31 < tag
  · have HF : Hid (flt ⟨tag, text, num, bytes⟩ last = 20) := by show _ = _; unfold flt; rw [if_pos (.inr c2)]
    go_enter Tryz.func38, Tryz.ntmps38
    go_wp2
    go_ret
    exact ⟨by rw [HF.out]; rfl, (Below.refl _ _).alloc (Nat.le_refl _) _⟩
  have c12 : ¬ (tag < 1 ∨ 31 < tag) := by omega
  by_cases c3 : tag ≤ last
  · have HF : Hid (flt ⟨tag, text, num, bytes⟩ last = 21) := by show _ = _; unfold flt; rw [if_neg c12, if_pos c3]
    go_enter Tryz.func38, Tryz.ntmps38
    go_wp2
    go_ret
    exact ⟨by rw [HF.out]; rfl, (Below.refl _ _).alloc (Nat.le_refl _) _⟩
  cases text with
  | true =>
    by_cases c4 : L = 0
    · have HF : Hid (flt ⟨tag, true, num, bytes⟩ last = 22) := by show _ = _; unfold flt; rw [if_neg c12, if_neg c3, if_pos rfl, if_pos (List.length_eq_zero_iff.1 (hL.trans c4))]
      subst c4
      clear hL
      go_enter Tryz.func38, Tryz.ntmps38
      go_wp2
      go_ret
      exact ⟨by rw [HF.out]; rfl, (Below.refl _ _).alloc (Nat.le_refl _) _⟩
    have c4' : bytes ≠ [] := by intro h; subst h; simp at hL; omega
    by_cases c5 : 200 < L
    · have HF : Hid (flt ⟨tag, true, num, bytes⟩ last = 23) := by show _ = _; unfold flt; rw [if_neg c12, if_neg c3, if_pos rfl, if_neg c4', if_pos (by rw [hL]; exact c5)]
      clear hL
      go_enter Tryz.func38, Tryz.ntmps38
      go_wp2
      go_ret
      exact ⟨by rw [HF.out]; rfl, (Below.refl _ _).alloc (Nat.le_refl _) _⟩
    · have HF : Hid (flt ⟨tag, true, num, bytes⟩ last = 0) := by show _ = _; unfold flt; rw [if_neg c12, if_neg c3, if_pos rfl, if_neg c4', if_neg (by rw [hL]; exact c5)]
      clear hL
      go_enter Tryz.func38, Tryz.ntmps38
      go_wp2
      go_ret
      exact ⟨by rw [HF.out]; rfl, (Below.refl _ _).alloc (Nat.le_refl _) _⟩
  | false =>
    by_cases c4 : num = 0
    · have HF : Hid (flt ⟨tag, false, num, bytes⟩ last = 22) := by show _ = _; unfold flt; rw [if_neg c12, if_neg c3, if_neg (by simp), if_pos c4]
      subst c4
      clear hL
      go_enter Tryz.func38, Tryz.ntmps38
      go_wp2
      go_ret
      exact ⟨by rw [HF.out]; rfl, (Below.refl _ _).alloc (Nat.le_refl _) _⟩
    · have HF : Hid (flt ⟨tag, false, num, bytes⟩ last = 0) := by show _ = _; unfold flt; rw [if_neg c12, if_neg c3, if_neg (by simp), if_neg c4]
      clear hL
      go_enter Tryz.func38, Tryz.ntmps38
      go_wp2
      go_ret
      exact ⟨by rw [HF.out]; rfl, (Below.refl _ _).alloc (Nat.le_refl _) _⟩
theorem rencode_at (x : Int) (u : Nat) (hx : x = u) (w : World) (hu : u ≤ 18446744073709551615) :
    Calls Tryz.prog 62 #[.int .u64 x] w fun e w' => ∃ v, e = .returned v ∧ Own w' w.heap.size v (enc u) ∧ Below w.heap.size w w' := by
  subst hx
  exact renc_any 9 u w hu (lt_pow10 u hu)
end Go.Proofs.YtfdaefhamoeaiaaGreat
namespace Go.Proofs.YtfdaefhamoeaiaaGreat
open Go.ChangeShapes Go.WideShapes Go.ChangeAt Go.RowKit
set_option linter.unusedVariables false
set_option linter.unusedSimpArgs false
/-- the numbers of a state, by tag -/
def numS (s : St) : List Int := [0, s.order, s.status, s.prior, s.cur, s.tax, s.paid, s.refunded, s.events, s.refused, s.stamp]
set_option maxRecDepth 20000 in
set_option maxHeartbeats 1000000 in
theorem rnums9_any (s : St) (a : Option Addr) (n cap : Nat) (w : World) :
    Calls Tryz.prog 40 #[.agg (stA s (.slice a n cap))] w fun x w' => x = .returned (.slice (some ⟨w.heap.size + 1, 0, none⟩) 11 11) ∧ w'.heap[w.heap.size + 1]? = some (.cells (IV (numS s)) 3) ∧ Below w.heap.size w w' := by
  unfold stA
  go_enter Tryz.func40, Tryz.ntmps40
  go_wp2
  go_ret
  refine ⟨rfl, ?_, ((Below.refl _ _).alloc (Nat.le_refl _) _).alloc (by simp) _⟩
  simp only [World.alloc, Array.getElem?_push, Array.size_push]
  simp [IV, numS]
theorem own_lowT {w : World} {base base2 : Nat} {v : Value} {l : List Nat} (h : Own w base v l) (hb : base2 ≤ base) : w.ownsRow base2 5 1 v l.length (B8 l) := World.ownsRow.mono (base' := base2) h.2 hb
theorem own_len {w : World} {base n : Nat} {v : Value} {l : List Nat} (hn : l.length = n) (h : w.ownsRow base 5 1 v l.length (B8 l)) : w.ownsRow base 5 1 v n (B8 l) := by rw [← hn]; exact h
/-- a line in its box, beside what lay there -/
structure TxC (w W : World) (i p q s : Nat) : Prop where
  blk : W.heap[w.heap.size]? = some (.cells #[.int .i64 (i : Int), .int .i64 (p : Int), .int .i64 (q : Int), .int .i64 (s : Int)] 44)
  bel : Below w.heap.size w W
theorem TxC.new (w : World) (i p q s : Nat) : TxC w (w.alloc (.cells #[.int .i64 (i : Int), .int .i64 (p : Int), .int .i64 (q : Int), .int .i64 (s : Int)] 44)) i p q s := ⟨heap_alloc_new w _, (Below.refl _ _).alloc (Nat.le_refl _) _⟩
theorem TxC.drew {w W : World} {i p q s : Nat} (h : TxC w W i p q s) : TxC w W.drew i p q s := ⟨h.blk, h.bel.drew⟩
theorem TxC.keep {w W W' : World} {i p q s : Nat} (h : TxC w W i p q s) (hb : Below W.heap.size W W') : TxC w W' i p q s := ⟨(hb.block _ (lt_of_heap h.blk)).trans h.blk, below_next h.bel hb⟩
theorem TxC.grown {w W W' : World} {i p q s n : Nat} {v : Value} {xs : List Value} (h : TxC w W i p q s) (ho : W.ownsRow w.heap.size 5 1 v n xs) (hg : W.grownBy W' v.ownBlock) : TxC w W' i p q s := by
  refine ⟨(hg.block _ (lt_of_heap h.blk) (fun hh => ?_)).trans h.blk, grown_row h.bel ho h.bel.size hg⟩
  rcases ho.2 with ⟨rfl, _⟩ | ⟨g2, cap2, cur2, rfl, _, h2, _⟩
  · simp [Value.ownBlock] at hh
  · have e : w.heap.size = g2 := by simpa [Value.ownBlock] using hh
    rw [← e, h.blk] at h2
    cases h2
theorem TxC.cells {w W : World} {i p q s : Nat} (h : TxC w W i p q s) : W.cell? ⟨w.heap.size, 0, none⟩ = some (.int .i64 (i : Int)) ∧ W.cell? ⟨w.heap.size, 1, none⟩ = some (.int .i64 (p : Int)) ∧ W.cell? ⟨w.heap.size, 2, none⟩ = some (.int .i64 (q : Int)) ∧ W.cell? ⟨w.heap.size, 3, none⟩ = some (.int .i64 (s : Int)) := by
  refine ⟨?_, ?_, ?_, ?_⟩ <;> (rw [cell_of_row _ _ _ _ _ _ h.blk]; rfl)
set_option maxRecDepth 20000 in
set_option maxHeartbeats 4000000 in
theorem rtext9_any (i p q s : Nat) (w : World) (h0 : i ≤ 1099511627776) (h1 : p ≤ 1099511627776) (h2 : q ≤ 1099511627776) (h3 : s ≤ 1099511627776) :
    Calls Tryz.prog 41 #[.agg #[.int .i64 (i : Int), .int .i64 (p : Int), .int .i64 (q : Int), .int .i64 (s : Int)]] w fun e w' => ∃ v, e = .returned v ∧ Own w' w.heap.size v (lnL i p q s) ∧ Below w.heap.size w w' := by
  obtain ⟨i0, hi, hz0, hz1, hz2⟩ := info_parts Tryz.info5r
  have hI0 : (i : Int) ≤ 1099511627776 := by omega
  have e0 : IntKind.u64.wrap (i : Int) = (i : Int) := wrapN (by omega)
  have HU0 : Hid (i ≤ 18446744073709551615) := by show _ ≤ _; omega
  obtain ⟨n0, hn0⟩ : ∃ n, (enc i).length = n := ⟨_, rfl⟩
  have HN0 : Hid (_) := hn0
  have l0 := enc_length_le i (by omega)
  rw [hn0] at l0
  have hI1 : (p : Int) ≤ 1099511627776 := by omega
  have e1 : IntKind.u64.wrap (p : Int) = (p : Int) := wrapN (by omega)
  have HU1 : Hid (p ≤ 18446744073709551615) := by show _ ≤ _; omega
  obtain ⟨n1, hn1⟩ : ∃ n, (enc p).length = n := ⟨_, rfl⟩
  have HN1 : Hid (_) := hn1
  have l1 := enc_length_le p (by omega)
  rw [hn1] at l1
  have hI2 : (q : Int) ≤ 1099511627776 := by omega
  have e2 : IntKind.u64.wrap (q : Int) = (q : Int) := wrapN (by omega)
  have HU2 : Hid (q ≤ 18446744073709551615) := by show _ ≤ _; omega
  obtain ⟨n2, hn2⟩ : ∃ n, (enc q).length = n := ⟨_, rfl⟩
  have HN2 : Hid (_) := hn2
  have l2 := enc_length_le q (by omega)
  rw [hn2] at l2
  have hI3 : (s : Int) ≤ 1099511627776 := by omega
  have e3 : IntKind.u64.wrap (s : Int) = (s : Int) := wrapN (by omega)
  have HU3 : Hid (s ≤ 18446744073709551615) := by show _ ≤ _; omega
  obtain ⟨n3, hn3⟩ : ∃ n, (enc s).length = n := ⟨_, rfl⟩
  have HN3 : Hid (_) := hn3
  have l3 := enc_length_le s (by omega)
  rw [hn3] at l3
  obtain ⟨W, hW⟩ : ∃ W, w.alloc (.cells #[.int .i64 (i : Int), .int .i64 (p : Int), .int .i64 (q : Int), .int .i64 (s : Int)] 44) = W := ⟨_, rfl⟩
  have HT0 : Hid (TxC w W i p q s) := by rw [← hW]; exact TxC.new w i p q s
  obtain ⟨c0, c1, c2, c3⟩ := HT0.out.cells
  have HW : Hid (_ = W) := hW
  have HG0 : Hid True := trivial
  clear hW h0 h1 h2 h3 hI0 hI1 hI2 hI3 hn0 hn1 hn2 hn3
  go_enter Tryz.func41, Tryz.ntmps41
  go_wp2
  rw [HW.out]
  go_region_held3 (fun w' => w'.cell? ⟨w.heap.size, 0, none⟩ = some (.int .i64 (i : Int)) ∧ w'.cell? ⟨w.heap.size, 1, none⟩ = some (.int .i64 (p : Int)) ∧ w'.cell? ⟨w.heap.size, 2, none⟩ = some (.int .i64 (q : Int)) ∧ w'.cell? ⟨w.heap.size, 3, none⟩ = some (.int .i64 (s : Int))) (go_keep) (first
    | (go_at_call 62; clear HG0; refine (rencode_at (i : Int) i rfl _ HU0.out).mono ?_; have HG2 : Hid True := trivial; rintro _ w1 ⟨v1, rfl, ho1, hb1⟩; have HT1 : Hid (TxC w w1 i p q s) := HT0.out.drew.keep hb1; obtain ⟨d0, d1, d2, d3⟩ := HT1.out.cells; have HO1 : Hid (w1.ownsRow w.heap.size 5 1 v1 n0 (B8 (enc i))) := own_len HN0.out (own_lowT ho1 HT0.out.bel.size); have HL0 : Hid (_) := ho1.1; clear ho1 hb1)
    | (go_at_call 62; clear HG2; refine (rencode_at (p : Int) p rfl _ HU1.out).mono ?_; have HG3 : Hid True := trivial; rintro _ w2 ⟨v2, rfl, ho, hb⟩; obtain ⟨a1, k1, hv, hc, _, hy, hnn⟩ := ho.shape; rw [HN1.out] at hv; subst hv; have HT2 : Hid (TxC w w2 i p q s) := HT1.out.keep hb; obtain ⟨e10, e11, e12, e13⟩ := HT2.out.cells; have HO2 : Hid (w2.ownsRow w.heap.size 5 1 v1 (n0) (B8 (enc i))) := own_below HO1.out hb; have HY1 : Hid (Bytes w2 a1 (enc p)) := hy; have HC1 : Hid (a1 = none → k1 = 0) := shape_nc hnn; clear ho hb hy hnn hc)
    | (clear HG3; (refine step_append_any _ (by rfl) _ _ 28 (by rfl) w.heap.size i0 Tryz.underlying28 hi hz0 hz1 hz2 v1 (n0) (B8 (enc i)) (by rfl) HO2.out (by omega) a1 n1 k1 (enc p) (by rfl) HN1.out HY1.out HC1.out (by omega) HT2.out.bel.size ?_; have HG4 : Hid True := trivial; intro g1 p1 w3 ho hg; have HT3 : Hid (TxC w w3 i p q s) := HT2.out.grown HO2.out hg; obtain ⟨f10, f11, f12, f13⟩ := HT3.out.cells; have HO3 : Hid (w3.ownsRow w.heap.size 5 1 (.slice (some ⟨g1, 0, none⟩) (n0 + n1) p1) (n0 + n1) (B8 (enc i) ++ B8 (enc p))) := ho; clear ho hg))
    | (go_at_call 62; clear HG4; refine (rencode_at (q : Int) q rfl _ HU2.out).mono ?_; have HG5 : Hid True := trivial; rintro _ w4 ⟨v4, rfl, ho, hb⟩; obtain ⟨a2, k2, hv, hc, _, hy, hnn⟩ := ho.shape; rw [HN2.out] at hv; subst hv; have HT4 : Hid (TxC w w4 i p q s) := HT3.out.keep hb; obtain ⟨e20, e21, e22, e23⟩ := HT4.out.cells; have HO4 : Hid (w4.ownsRow w.heap.size 5 1 (.slice (some ⟨g1, 0, none⟩) (n0 + n1) p1) (n0 + n1) (B8 (enc i) ++ B8 (enc p))) := own_below HO3.out hb; have HY2 : Hid (Bytes w4 a2 (enc q)) := hy; have HC2 : Hid (a2 = none → k2 = 0) := shape_nc hnn; clear ho hb hy hnn hc)
    | (clear HG5; (refine step_append_any _ (by rfl) _ _ 28 (by rfl) w.heap.size i0 Tryz.underlying28 hi hz0 hz1 hz2 (.slice (some ⟨g1, 0, none⟩) (n0 + n1) p1) (n0 + n1) (B8 (enc i) ++ B8 (enc p)) (by rfl) HO4.out (by omega) a2 n2 k2 (enc q) (by rfl) HN2.out HY2.out HC2.out (by omega) HT4.out.bel.size ?_; have HG6 : Hid True := trivial; intro g2 p2 w5 ho hg; have HT5 : Hid (TxC w w5 i p q s) := HT4.out.grown HO4.out hg; obtain ⟨f20, f21, f22, f23⟩ := HT5.out.cells; have HO5 : Hid (w5.ownsRow w.heap.size 5 1 (.slice (some ⟨g2, 0, none⟩) (n0 + n1 + n2) p2) (n0 + n1 + n2) (B8 (enc i) ++ B8 (enc p) ++ B8 (enc q))) := ho; clear ho hg))
    | (go_at_call 62; clear HG6; refine (rencode_at (s : Int) s rfl _ HU3.out).mono ?_; have HG7 : Hid True := trivial; rintro _ w6 ⟨v6, rfl, ho, hb⟩; obtain ⟨a3, k3, hv, hc, _, hy, hnn⟩ := ho.shape; rw [HN3.out] at hv; subst hv; have HT6 : Hid (TxC w w6 i p q s) := HT5.out.keep hb; obtain ⟨e30, e31, e32, e33⟩ := HT6.out.cells; have HO6 : Hid (w6.ownsRow w.heap.size 5 1 (.slice (some ⟨g2, 0, none⟩) (n0 + n1 + n2) p2) (n0 + n1 + n2) (B8 (enc i) ++ B8 (enc p) ++ B8 (enc q))) := own_below HO5.out hb; have HY3 : Hid (Bytes w6 a3 (enc s)) := hy; have HC3 : Hid (a3 = none → k3 = 0) := shape_nc hnn; clear ho hb hy hnn hc)
    | (clear HG7; (refine step_append_any _ (by rfl) _ _ 28 (by rfl) w.heap.size i0 Tryz.underlying28 hi hz0 hz1 hz2 (.slice (some ⟨g2, 0, none⟩) (n0 + n1 + n2) p2) (n0 + n1 + n2) (B8 (enc i) ++ B8 (enc p) ++ B8 (enc q)) (by rfl) HO6.out (by omega) a3 n3 k3 (enc s) (by rfl) HN3.out HY3.out HC3.out (by omega) HT6.out.bel.size ?_; have HG8 : Hid True := trivial; intro g3 p3 w7 ho hg; have HT7 : Hid (TxC w w7 i p q s) := HT6.out.grown HO6.out hg; obtain ⟨f30, f31, f32, f33⟩ := HT7.out.cells; have HO7 : Hid (w7.ownsRow w.heap.size 5 1 (.slice (some ⟨g3, 0, none⟩) (n0 + n1 + n2 + n3) p3) (n0 + n1 + n2 + n3) (B8 (enc i) ++ B8 (enc p) ++ B8 (enc q) ++ B8 (enc s))) := ho; clear ho hg)))
  go_wp2
  go_ret
  have hB := HO7.out
  refine ⟨_, rfl, ⟨?_, ?_⟩, HT7.out.bel⟩
  · unfold lnL
    refine lt_getDC (fun y hy => ?_)
    simp only [List.mem_append] at hy
    rcases hy with h | h | h | h
    · exact lt_allC HL0.out y h
    · exact lt_allC HY1.out.1 y h
    · exact lt_allC HY2.out.1 y h
    · exact lt_allC HY3.out.1 y h
  · have e : (lnL i p q s).length = n0 + n1 + n2 + n3 := by unfold lnL; simp only [List.length_append, HN0.out, HN1.out, HN2.out, HN3.out]; omega
    have e2 : B8 (lnL i p q s) = B8 (enc i) ++ B8 (enc p) ++ B8 (enc q) ++ B8 (enc s) := by unfold lnL; simp only [B8_append, List.append_assoc]
    rw [e, e2]
    exact hB
end Go.Proofs.YtfdaefhamoeaiaaGreat
namespace Go.Proofs.YtfdaefhamoeaiaaGreat
open Go.ChangeShapes Go.WideShapes Go.ChangeAt Go.RowKit
set_option linter.unusedVariables false
/-- a text in a block of bytes -/
def TxtAt (w : World) (bv : Value) (l : List Nat) : Prop := ∃ a cap, bv = .slice a l.length cap ∧ l.length ≤ cap ∧ (l = [] ∨ ∃ g C m, a = some ⟨g, 0, none⟩ ∧ w.heap[g]? = some (.cells C 5 m)) ∧ Bytes w a l
theorem TxtAt.keep {w w' : World} {bv : Value} {l : List Nat} (h : TxtAt w bv l) (hb : Below w.heap.size w w') : TxtAt w' bv l := by
  obtain ⟨a, cap, h1, h2, h3, h4⟩ := h
  refine ⟨a, cap, h1, h2, ?_, h4.keep hb⟩
  rcases h3 with h3 | ⟨g, C, m, h5, h6⟩
  · exact .inl h3
  · exact .inr ⟨g, C, m, h5, (hb.block g (lt_of_heap h6)).trans h6⟩
theorem TxtAt.nil (w : World) : TxtAt w (.slice none 0 0) [] := ⟨none, 0, rfl, by simp, .inl rfl, ⟨by simp, .inl rfl⟩⟩
theorem TxtAt.cv (w : World) (s : ByteArray) (hc : s.size ≤ cvC w s) : TxtAt (cvW w s) (.slice (some ⟨w.heap.size, 0, none⟩) s.size (cvC w s)) (nums8 s) := by
  refine ⟨some ⟨w.heap.size, 0, none⟩, cvC w s, by rw [nums8_len], by rw [nums8_len]; exact hc, .inr ⟨w.heap.size, _, _, rfl, Lib.bytesWorld_at_new w 5 s⟩, cv_bytes s w⟩
/-- a row of fields of one's own, their texts in blocks of bytes -/
structure Rwt (w : World) (base : Nat) (v : Value) (L : List (Fld × Value)) : Prop where
  own : w.ownsRow base 60 4 v L.length (flat L)
  byt : ∀ p ∈ L, TxtAt w p.2 p.1.bytes
theorem Rwt.keep {w w' : World} {base : Nat} {v : Value} {L : List (Fld × Value)} (h : Rwt w base v L) (hb : Below w.heap.size w w') : Rwt w' base v L :=
  ⟨own_same2 h.own (fun k _ hk => hb.block k hk), fun p hp => (h.byt p hp).keep hb⟩
theorem txt_grown {w w' : World} {base n : Nat} {v bv : Value} {xs : List Value} {l : List Nat} (ho : w.ownsRow base 60 4 v n xs) (hg : w.grownBy w' v.ownBlock) (hp : TxtAt w bv l) : TxtAt w' bv l := by
  obtain ⟨a, cap, h1, h2, h3, h4⟩ := hp
  rcases h3 with h3 | ⟨g, C, m, h5, h6⟩
  · subst h3
    exact ⟨a, cap, h1, h2, .inl rfl, ⟨h4.1, .inl rfl⟩⟩
  · have hblk : w'.heap[g]? = w.heap[g]? := by
      refine hg.block g (lt_of_heap h6) (fun h => ?_)
      rcases ho.2 with ⟨rfl, _⟩ | ⟨g2, cap2, cur2, rfl, _, hh, _⟩
      · simp [Value.ownBlock] at h
      · have : g = g2 := by simpa [Value.ownBlock] using h
        subst this
        rw [h6] at hh
        cases hh
    refine ⟨a, cap, h1, h2, .inr ⟨g, C, m, h5, hblk.trans h6⟩, ⟨h4.1, ?_⟩⟩
    rcases h4.2 with h7 | ⟨b, off, h8, h9, h10⟩
    · exact .inl h7
    · rw [h5] at h8
      cases h8
      exact .inr ⟨g, 0, h5, Nat.lt_of_lt_of_le h9 hg.size, fun i hi => (World.cell?_of_block (w := w) (a := ⟨g, 0 + i, none⟩) hblk).trans (h10 i hi)⟩
theorem Rwt.fs {w : World} {base : Nat} {v : Value} {L : List (Fld × Value)} (h : Rwt w base v L) (hn : ∀ p ∈ L, p.1.num ≤ 18446744073709551615 ∧ p.1.bytes.length ≤ maxLen) : ∃ a cap, v = .slice a L.length cap ∧ FsAt w a L := by
  have hf : ∀ p ∈ L, FOk w p := by
    intro p hp
    obtain ⟨a, cap, h1, h2, _, h3⟩ := h.byt p hp
    exact ⟨(hn p hp).1, ⟨a, cap, h1, h2, h3⟩, (hn p hp).2⟩
  rcases h.own.2 with ⟨rfl, h2⟩ | ⟨g, cap, cur, rfl, _, h5, _⟩
  · have : L = [] := List.length_eq_zero_iff.1 h2
    subst this
    exact ⟨none, 0, rfl, .inl rfl, hf⟩
  · refine ⟨some ⟨g, 0, none⟩, cap, rfl, .inr ⟨g, 0, rfl, lt_of_heap h5, fun j hj => ?_⟩, hf⟩
    rw [Nat.zero_add]
    exact h.own.cellAt j hj
/-- append of one field to a row of one's own -/
theorem wpList_append_fld {ops : Array Oper} {rest : List Oper} {o : Oper} {a : Act} {W : World} {Q : Exit → Act → World → Prop} (hgd : o.guard = none) (s x : Operand) (ho : o.op = .call { callee := .builtin .append, args := #[s, x], argTypes := #[47, 47] })
    (base : Nat) (v : Value) (L : List (Fld × Value)) (hs : a.eval s = v) (hown : Rwt W base v L) (g : Nat) (F : Fld) (bv : Value) (hx : a.eval x = .slice (some ⟨g, 0, none⟩) 1 1) (hg : FldAt W g F.tag F.text F.num bv) (hbv : TxtAt W bv F.bytes) (hL : L.length ≤ 1000) (hbase : base ≤ W.heap.size)
    (h : ∀ v' w', Rwt w' base v' (L ++ [(F, bv)]) → W.grownBy w' v.ownBlock → wpList Tryz.prog ops Q rest (a.put o.dst v') w') : wpList Tryz.prog ops Q (o :: rest) a W := by
  obtain ⟨i0, hi, hz0, hz1, hz2⟩ := info_parts Tryz.infoFd
  have hone : bv.oneCell' = true := by
    obtain ⟨ad, cap, h1, _⟩ := hbv
    rw [h1]; rfl
  refine wpList_append_own W hgd s x 47 ho base 60 i0 _ 4 48 Tryz.underlying47 hi hz0 hz1 hz2 rfl (by decide) v L.length (flat L) hs hown.own ⟨g, 0, none⟩ 1 1 [.int .i64 F.tag, .bool F.text, .int .u64 (F.num : Int), bv] hx rfl (fun j u hj => ?_) (one4 F bv hone) (by unfold maxLen; omega) (by omega) hbase (fun v' w' h1 h2 _ => h v' w' ⟨?_, fun p hp => ?_⟩ h2)
  · have e1 : (⟨g, 0, none⟩ : Addr).add j = ⟨g, j, none⟩ := by unfold Addr.add; split <;> simp_all
    rw [e1, cell_of_row _ _ j _ _ _ hg]
    simpa using hj
  · have e2 : flat (L ++ [(F, bv)]) = flat L ++ [.int .i64 F.tag, .bool F.text, .int .u64 (F.num : Int), bv] := by rw [flat_append]; rfl
    rw [e2, List.length_append]
    exact h1
  · rcases List.mem_append.1 hp with hp | hp
    · exact txt_grown hown.own h2 (hown.byt p hp)
    · obtain rfl := List.mem_singleton.1 hp
      exact txt_grown hown.own h2 hbv
theorem hasK_hasV {v : Int} (h1 : 1 ≤ v) (h5 : v ≤ 5) : ((hasK v : Nat) : Int) = hasV v := by
  have hv : v = 1 ∨ v = 2 ∨ v = 3 ∨ v = 4 ∨ v = 5 := by omega
  rcases hv with rfl | rfl | rfl | rfl | rfl <;> rfl
theorem filter_step {Fs : List Fld} {k : Nat} {F : Fld} (h : Fs[k]? = some F) : (Fs.take (k + 1)).filter nz = if nz F = true then (Fs.take k).filter nz ++ [F] else (Fs.take k).filter nz := by
  have hk : k < Fs.length := by
    by_cases hh : k < Fs.length
    · exact hh
    · rw [List.getElem?_eq_none (by omega)] at h; cases h
  rw [List.getElem?_eq_getElem hk] at h
  rw [List.take_succ_eq_append_getElem hk, Option.some.inj h, List.filter_append, List.filter_cons]
  split
  · simp
  · simp
/-- the numbers and texts of an event beside a row of fields -/
structure Fst (w w1 wr : World) (b : Nat) (v : Int) (E : Ev) (vf : Value) (L : List (Fld × Value)) (k : Nat) : Prop where
  bel : Below w1.heap.size w1 wr
  row : Rwt wr w1.heap.size vf L
  fld : L.map Prod.fst = ((evF v E).take k).filter nz
  len : L.length ≤ k
  ev : EvAt w1 w.heap.size E
  num : RowI w1 b (numL E)
  b0 : Below w.heap.size w w1
theorem Fst.keep {w w1 wr wx : World} {b : Nat} {v : Int} {E : Ev} {vf : Value} {L : List (Fld × Value)} {k : Nat} (h : Fst w w1 wr b v E vf L k) (hb : Below wr.heap.size wr wx) : Fst w w1 wx b v E vf L k :=
  ⟨below_next h.bel hb, h.row.keep hb, h.fld, h.len, h.ev, h.num, h.b0⟩
theorem Fst.skip {w w1 wr : World} {b : Nat} {v : Int} {E : Ev} {vf : Value} {L : List (Fld × Value)} {k : Nat} (h : Fst w w1 wr b v E vf L k) {F : Fld} (hF : (evF v E)[k]? = some F) (hz : nz F = false) : Fst w w1 wr b v E vf L (k + 1) :=
  ⟨h.bel, h.row, by rw [filter_step hF, if_neg (by rw [hz]; simp)]; exact h.fld, by have := h.len; omega, h.ev, h.num, h.b0⟩
theorem Fst.app {w w1 wr wx : World} {b : Nat} {v : Int} {E : Ev} {vf v' bv : Value} {L : List (Fld × Value)} {k : Nat} (h : Fst w w1 wr b v E vf L k) {F : Fld} (hF : (evF v E)[k]? = some F) (hz : nz F = true) (hr : Rwt wx w1.heap.size v' (L ++ [(F, bv)])) (hg : wr.grownBy wx vf.ownBlock) : Fst w w1 wx b v E v' (L ++ [(F, bv)]) (k + 1) :=
  ⟨grown_row h.bel h.row.own h.bel.size hg, hr, by rw [filter_step hF, if_pos hz, List.map_append, h.fld]; rfl, by rw [List.length_append]; have := h.len; simp; omega, h.ev, h.num, h.b0⟩
/-- a box for one field behind the row -/
theorem Fst.box {w w1 wr : World} {b : Nat} {v : Int} {E : Ev} {vf : Value} {L : List (Fld × Value)} {k : Nat} (h : Fst w w1 wr b v E vf L k) (t : Int) (x : Bool) (u : Nat) (bv : Value) : Fst w w1 (wr.alloc (.cells #[.int .i64 t, .bool x, .int .u64 (u : Int), bv] 60)) b v E vf L k := h.keep ((Below.refl _ _).alloc (Nat.le_refl _) _)
theorem num_le11 {v : Int} {E : Ev} (r : Right v E) {k : Nat} (h8 : k ≠ 7) (h10 : k ≠ 9) (h : k < 10) (h4 : k = 3 → 2 < v) : ∃ n : Nat, (evF v E)[k]? = some ⟨((k + 1 : Nat) : Int), false, n, []⟩ ∧ (numL E).getD (k + 1) 0 = (n : Int) ∧ n ≤ 1099511627776 := by
  have hk : lastK v ≤ 10 := by unfold lastK; repeat' split <;> omega
  have hp : hiP v ≤ 100000000 := by unfold hiP; split <;> omega
  have b1 := r.kind0
  have b2 := r.kind1
  have b3 := r.order0
  have b4 := r.order1
  have b5 := r.item0
  have b6 := r.item1
  have b7 := r.price0
  have b8 := r.price1
  have b9 := r.cur0
  have c1 := r.cur1
  have c2 := r.tax0
  have c3 := r.tax1
  have c4 := r.stamp0
  have c5 := r.stamp1
  have c6 := r.qty0
  have c7 := r.qty1
  have hv : k = 0 ∨ k = 1 ∨ k = 2 ∨ k = 3 ∨ k = 4 ∨ k = 5 ∨ k = 6 ∨ k = 8 := by omega
  rcases hv with rfl | rfl | rfl | rfl | rfl | rfl | rfl | rfl
  · exact ⟨E.kind.toNat, rfl, by show E.kind = _; omega, by omega⟩
  · exact ⟨E.order.toNat, rfl, by show E.order = _; omega, by omega⟩
  · exact ⟨E.item.toNat, rfl, by show E.item = _; omega, by omega⟩
  · have h2 := h4 rfl
    have : loQ v = 0 := if_neg (by omega)
    have hq : qN v E = E.qty.toNat := if_neg (by omega)
    exact ⟨qN v E, rfl, by show E.qty = _; rw [hq]; omega, by rw [hq]; omega⟩
  · exact ⟨E.price.toNat, rfl, by show E.price = _; omega, by omega⟩
  · exact ⟨E.cur.toNat, rfl, by show E.cur = _; omega, by omega⟩
  · exact ⟨E.tax.toNat, rfl, by show E.tax = _; omega, by omega⟩
  · exact ⟨E.stamp.toNat, rfl, by show E.stamp = _; omega, by omega⟩
end Go.Proofs.YtfdaefhamoeaiaaGreat
namespace Go.Proofs.YtfdaefhamoeaiaaGreat
open Go.ChangeShapes Go.WideShapes Go.ChangeAt Go.RowKit
set_option linter.unusedVariables false
set_option linter.unusedSimpArgs false
/-- a state, its numbers in a row, and a row of fields that grows -/
structure Fs9 (w W wr : World) (b : Nat) (s : St) (a : Option Addr) (n cap : Nat) (vf : Value) (L : List (Fld × Value)) (k : Nat) : Prop where
  bel : Below W.heap.size W wr
  row : Rwt wr W.heap.size vf L
  fld : L.map Prod.fst = ((stFs s).take k).filter nz
  len : L.length ≤ k
  st : StC w w.heap.size s a n cap W
  num : wr.heap[b]? = some (.cells (IV (numS s)) 3)
section
variable {w W wr wx : World} {b : Nat} {s : St} {a : Option Addr} {n cap : Nat} {vf v' bv : Value} {L : List (Fld × Value)} {k : Nat} {F : Fld}
theorem Fs9.keep (h : Fs9 w W wr b s a n cap vf L k) (hb : Below wr.heap.size wr wx) : Fs9 w W wx b s a n cap vf L k :=
  ⟨below_next h.bel hb, h.row.keep hb, h.fld, h.len, h.st, (hb.block _ (lt_of_heap h.num)).trans h.num⟩
theorem Fs9.skip (h : Fs9 w W wr b s a n cap vf L k) (hF : (stFs s)[k]? = some F) (hz : nz F = false) : Fs9 w W wr b s a n cap vf L (k + 1) :=
  ⟨h.bel, h.row, by rw [filter_step hF, if_neg (by rw [hz]; simp)]; exact h.fld, by have := h.len; omega, h.st, h.num⟩
theorem Fs9.app (h : Fs9 w W wr b s a n cap vf L k) (hF : (stFs s)[k]? = some F) (hz : nz F = true) (hr : Rwt wx W.heap.size v' (L ++ [(F, bv)])) (hg : wr.grownBy wx vf.ownBlock) : Fs9 w W wx b s a n cap v' (L ++ [(F, bv)]) (k + 1) := by
  refine ⟨grown_row h.bel h.row.own h.bel.size hg, hr, by rw [filter_step hF, if_pos hz, List.map_append, h.fld]; rfl, by rw [List.length_append]; have := h.len; simp; omega, h.st, (hg.block _ (lt_of_heap h.num) (fun hh => ?_)).trans h.num⟩
  rcases h.row.own.2 with ⟨rfl, _⟩ | ⟨g2, cap2, cur2, rfl, _, h2, _⟩
  · simp [Value.ownBlock] at hh
  · have e : b = g2 := by simpa [Value.ownBlock] using hh
    rw [← e, h.num] at h2
    cases h2
theorem Fs9.box (h : Fs9 w W wr b s a n cap vf L k) (t : Int) (x : Bool) (u : Nat) (bv : Value) : Fs9 w W (wr.alloc (.cells #[.int .i64 t, .bool x, .int .u64 (u : Int), bv] 60)) b s a n cap vf L k := h.keep ((Below.refl _ _).alloc (Nat.le_refl _) _)
theorem Fs9.start (hs : StC w w.heap.size s a n cap W) (hb : Below (W.alloc (.cells #[] 60)).heap.size (W.alloc (.cells #[] 60)) wr) (hn : wr.heap[b]? = some (.cells (IV (numS s)) 3)) : Fs9 w W wr b s a n cap (.slice (some ⟨W.heap.size, 0, none⟩) 0 0) [] 0 :=
  ⟨below_next ((Below.refl _ _).alloc (Nat.le_refl _) _) hb, Rwt.keep ⟨⟨by simp [flat], .inr ⟨W.heap.size, 0, #[], rfl, Nat.le_refl _, heap_alloc_new W _, by simp, by simp, by simp, by simp [flat]⟩⟩, fun p hp => by cases hp⟩ hb, rfl, by simp, hs, hn⟩
end
theorem num_s9 {s : St} (r : VSt s) {k : Nat} (h : k < 10) : ∃ m : Nat, (stFs s)[k]? = some ⟨((k + 1 : Nat) : Int), false, m, []⟩ ∧ (numS s).getD (k + 1) 0 = (m : Int) ∧ m ≤ 240000000000000 := by
  obtain ⟨a1, a2, b1, b2, c1, c2, d1, d2, e1, e2, f1, f2, g1, g2, i1, i2, j1, j2, k1, k2, _, _⟩ := r
  have hv : k = 0 ∨ k = 1 ∨ k = 2 ∨ k = 3 ∨ k = 4 ∨ k = 5 ∨ k = 6 ∨ k = 7 ∨ k = 8 ∨ k = 9 := by omega
  rcases hv with rfl | rfl | rfl | rfl | rfl | rfl | rfl | rfl | rfl | rfl
  · exact ⟨s.order.toNat, rfl, by show s.order = _; omega, by omega⟩
  · exact ⟨s.status.toNat, rfl, by show s.status = _; omega, by omega⟩
  · exact ⟨s.prior.toNat, rfl, by show s.prior = _; omega, by omega⟩
  · exact ⟨s.cur.toNat, rfl, by show s.cur = _; omega, by omega⟩
  · exact ⟨s.tax.toNat, rfl, by show s.tax = _; omega, by omega⟩
  · exact ⟨s.paid.toNat, rfl, by show s.paid = _; omega, by omega⟩
  · exact ⟨s.refunded.toNat, rfl, by show s.refunded = _; omega, by omega⟩
  · exact ⟨s.events.toNat, rfl, by show s.events = _; omega, by omega⟩
  · exact ⟨s.refused.toNat, rfl, by show s.refused = _; omega, by omega⟩
  · exact ⟨s.stamp.toNat, rfl, by show s.stamp = _; omega, by omega⟩
theorem lnFs_get : ∀ (L : List Ln) (k j : Nat) (l : Ln), L[j]? = some l → (lnFs k L)[j]? = some ⟨12 + ((k + j : Nat) : Int), true, 0, lnT l⟩
  | [], k, j, l, h => by cases h
  | x :: r, k, 0, l, h => by obtain rfl := Option.some.inj h; rfl
  | x :: r, k, j + 1, l, h => by
    have := lnFs_get r (k + 1) j l h
    rw [show k + 1 + j = k + (j + 1) from by omega] at this
    exact this
theorem st_line {s : St} {j : Nat} {l : Ln} (h : s.lines[j]? = some l) : (stFs s)[11 + j]? = some ⟨12 + (j : Int), true, 0, lnT l⟩ := by
  have := lnFs_get s.lines 0 j l h
  rw [Nat.zero_add] at this
  unfold stFs
  rw [List.getElem?_append_right (by show 11 ≤ 11 + j; omega)]
  show (lnFs 0 s.lines)[11 + j - 11]? = _
  rw [show 11 + j - 11 = j from by omega]
  exact this
theorem st_who (s : St) : (stFs s)[10]? = some ⟨11, true, 0, nums8 s.who⟩ := rfl
theorem lnFs_len : ∀ (L : List Ln) (k : Nat), (lnFs k L).length = L.length
  | [], k => rfl
  | x :: r, k => by simp only [lnFs, List.length_cons, lnFs_len r (k + 1)]
theorem st_len (s : St) : (stFs s).length = 11 + s.lines.length := by unfold stFs; rw [List.length_append, lnFs_len]; rfl
theorem Own.txt {w : World} {base : Nat} {v : Value} {l : List Nat} (h : Own w base v l) : TxtAt w v l := by
  obtain ⟨a, cap, h1, h2, h3, h4, h5⟩ := h.shape
  refine ⟨a, cap, h1, h2, ?_, h4⟩
  rcases h.2.2 with ⟨h6, h7⟩ | ⟨g, c, cur, h6, _, h8, _⟩
  · exact .inl (List.length_eq_zero_iff.1 h7)
  · rw [h1] at h6
    injection h6 with e1 e2 e3
    exact .inr ⟨g, _, _, e1, h8⟩
end Go.Proofs.YtfdaefhamoeaiaaGreat
namespace Go.Proofs.YtfdaefhamoeaiaaGreat
open Go.ChangeShapes Go.WideShapes Go.ChangeAt Go.RowKit
set_option linter.unusedVariables false
set_option linter.unusedSimpArgs false
theorem stcellsF {w : World} {b : Nat} {s : St} {v : Value} (h : StAt w b s v) : w.cell? ⟨b, 5, none⟩ = some v ∧ w.cell? ⟨b, 11, none⟩ = some (.string s.who) := ⟨h.cell 5 _ rfl, h.cell 11 _ rfl⟩
set_option maxRecDepth 20000 in
set_option maxHeartbeats 4000000 in
theorem rfields9_any (s : St) (a : Option Addr) (n cap : Nat) (w : World) (r : VSt s) (hn : s.lines.length = n) (hl : Lns w a s.lines) :
    Calls Tryz.prog 17 #[.agg (stA s (.slice a n cap))] w fun x w' => ∃ vf L, x = .returned vf ∧ L.map Prod.fst = sfs s ∧ L.length ≤ 27 ∧ Rwt w' w.heap.size vf L ∧ Below w.heap.size w w' := by
  have hn16 : n ≤ 16 := by rw [← hn]; exact (linesB_facts r.lines).1
  have HN : Hid (s.lines.length = n) := hn
  have HR : Hid (VSt s) := r
  obtain ⟨W, hW⟩ : ∃ W, w.alloc (.cells (stA s (.slice a n cap)) 25) = W := ⟨_, rfl⟩
  have HS := StC.new w s a n cap hl
  rw [hW] at HS
  have HSH : Hid (StC w w.heap.size s a n cap W) := HS
  have HSA : Hid (StC w w.heap.size s a n cap (W.alloc (.cells #[] 60))) := StC.alloc HS _
  have hcv := cv_run
  clear r hn hl HS
  go_enter Tryz.func17, Tryz.ntmps17
  go_wp2_with (first
    | ((with_reducible refine guard_load 25 ?_); refine wpList_load_st rfl _ rfl HSA.out.1 rfl ?_)
    | (go_at_call 40; refine (rnums9_any s a n cap _).mono ?_; rintro _ w1 ⟨rfl, hn1, hb1⟩; obtain ⟨b, hbe⟩ : ∃ b, (W.alloc (.cells #[] 60)).heap.size + 1 = b := ⟨_, rfl⟩; rw [hbe] at hn1 ⊢; have HF : Hid (_) := Fs9.start HSH.out hb1 hn1; clear hn1 hb1 hbe))
  go_loopw [3, 5] (fun vf vi wr => ∃ (k : Nat) (L : List (Fld × Value)), k ≤ 10 ∧ vi = .int .i64 ((k + 1 : Nat) : Int) ∧ Hid (Fs9 w W wr b s a n cap vf L k)) (fun _ vi _ => 11 - (intOf vi).toNat)
  case atStart => exact ⟨0, [], Nat.zero_le _, rfl, HF.out⟩
  case round =>
    obtain ⟨k, L, hk, rfl, HI⟩ := hrel
    by_cases hkl : k < 10
    · have hkI : ((k + 1 : Nat) : Int) ≤ 10 := by omega
      have hk0 : (0 : Int) ≤ ((k + 1 : Nat) : Int) := by omega
      have hk11 : ((k + 1 : Nat) : Int) < 11 := by omega
      obtain ⟨m, hF, hnum, hm⟩ := num_s9 HR.out hkl
      have hcell : wr.cell? ⟨b, k + 1, none⟩ = some (.int .i64 (m : Int)) := by
        have h1 := (row_of HI.out.num).2 (k + 1) (by show k + 1 < 11; omega)
        rw [hnum] at h1
        exact h1
      have hwr := wrapN (k := m) (by omega)
      have HFF : Hid (_) := hF
      obtain ⟨K, hK⟩ : ∃ K, k + 1 = K := ⟨_, rfl⟩
      rw [hK] at hkI hk0 hk11 hcell HFF ⊢
      clear hF hnum
      by_cases hn0 : m = 0
      · have HSK : Hid (nz ⟨(K : Int), false, m, []⟩ = false) := by show _ = _; simp [nz, hn0]
        have hnb : ((m : Int) != 0) = false := by simp; omega
        clear hn0
        go_wp2
        go_roundw
        case rel => exact ⟨K, L, by omega, by go_num, by rw [← hK]; exact HI.out.skip HFF.out HSK.out⟩
        case measure => simp [intOf]; omega
      · have HSZ : Hid (nz ⟨(K : Int), false, m, []⟩ = true) := by show _ = _; simp [nz, hn0]
        have hnb : ((m : Int) != 0) = true := by simp; omega
        have hnb2 : ¬ (m : Int) = 0 := by omega
        go_wp2_with (at_builtin; have hbx := HI.out.box (K : Int) false m (.slice none 0 0); refine wpList_append_fld rfl _ _ rfl W.heap.size u3 L rfl hbx.row wr.heap.size ⟨(K : Int), false, m, []⟩ (.slice none 0 0) rfl (FldAt.new _ _ _ _ _) (TxtAt.nil _) (by have := HI.out.len; omega) hbx.bel.size ?_; intro v3 w3 hr3 hg3; have HR3 : Hid (Fs9 w W w3 b s a n cap v3 (L ++ [(⟨(K : Int), false, m, []⟩, (.slice none 0 0))]) (k + 1)) := hbx.app HFF.out HSZ.out hr3 hg3; clear hr3 hg3 hbx)
        go_roundw
        case rel => exact ⟨K, _, by omega, by go_num, by rw [← hK]; exact HR3.out⟩
        case measure => simp [intOf]; omega
    · obtain rfl : k = 10 := by omega
      rw [show ((10 + 1 : Nat) : Int) = 11 from rfl]
      obtain ⟨S, hS⟩ : ∃ S, s.who = S := ⟨_, rfl⟩
      have HFF : Hid ((stFs s)[10]? = some ⟨11, true, 0, nums8 S⟩) := by rw [← hS]; exact st_who s
      have HSS : Hid (s.who = S) := hS
      have cc := stcellsF (HI.out.st.keep HI.out.bel).1
      obtain ⟨c5, c11⟩ := cc
      rw [hS] at c11
      clear hS
      by_cases hn0 : nilB S = true
      · have HSK : Hid (nz ⟨11, true, 0, nums8 S⟩ = false) := by show _ = _; rw [(nilB_iff S).1 hn0]; rfl
        have hem : S.toList.isEmpty = true := hn0
        have HI2 : Hid (Fs9 w W wr b s a n cap u3 L 11) := HI.out.skip HFF.out HSK.out
        go_wp2
        go_loopw [3, 42] (fun vf vi wr => ∃ (j : Nat) (L : List (Fld × Value)), j ≤ n ∧ vi = .int .i64 (j : Int) ∧ Hid (Fs9 w W wr b s a n cap vf L (11 + j))) (fun _ vi _ => n - (intOf vi).toNat)
        case atStart => exact ⟨0, L, Nat.zero_le _, rfl, HI2.out⟩
        case round =>
          clear HI HFF
          obtain ⟨j, L, hj, rfl, HI⟩ := hrel
          have HSt : Hid (StC w w.heap.size s a n cap wr) := HI.out.st.keep HI.out.bel
          have c5 : wr.cell? ⟨w.heap.size, 5, none⟩ = some (.slice a n cap) := HSt.out.1.cell 5 _ rfl
          by_cases hjn : j < n
          · obtain ⟨p, hp⟩ := ln_get (L := s.lines) (k := j) (by rw [HN.out]; exact hjn)
            have f := (linesB_facts HR.out.lines).2 j p hp
            obtain ⟨b2, off, rfl, hlt, q0, q1, q2, q3⟩ := HSt.out.2.1.cells j p hp
            have HFF' := st_line hp
            obtain ⟨i1, hi1⟩ : ∃ i : Nat, p.item = (i : Int) := ⟨p.item.toNat, by omega⟩
            obtain ⟨i2, hi2⟩ : ∃ i : Nat, p.price = (i : Int) := ⟨p.price.toNat, by omega⟩
            obtain ⟨i3, hi3⟩ : ∃ i : Nat, p.qty = (i : Int) := ⟨p.qty.toNat, by omega⟩
            obtain ⟨i4, hi4⟩ : ∃ i : Nat, p.shipped = (i : Int) := ⟨p.shipped.toNat, by omega⟩
            have hT4 : lnT p = lnL i1 i2 i3 i4 := by unfold lnT; rw [hi1, hi2, hi3, hi4]; rfl
            rw [hT4] at HFF'
            have HFF : Hid (_) := HFF'
            have HM4 : Hid (i1 ≤ 1099511627776 ∧ i2 ≤ 1099511627776 ∧ i3 ≤ 1099511627776 ∧ i4 ≤ 1099511627776) := by refine ⟨?_, ?_, ?_, ?_⟩ <;> omega
            have HSZ : Hid (nz ⟨12 + (j : Int), true, 0, lnL i1 i2 i3 i4⟩ = true) := by
              show _ = _
              have h1 := (enc_length_le i1 (by have := HM4.out.1; omega)).1
              unfold nz lnL
              rw [if_pos rfl]
              cases h2 : enc i1 with
              | nil => rw [h2] at h1; simp at h1
              | cons x r => rfl
            rw [hi1] at q0
            rw [hi2] at q1
            rw [hi3] at q2
            rw [hi4] at q3
            clear f hi1 hi2 hi3 hi4 hp hT4 HFF'
            go_wp2_with (first
              | (go_at_call 41; refine (rtext9_any i1 i2 i3 i4 _ HM4.out.1 HM4.out.2.1 HM4.out.2.2.1 HM4.out.2.2.2).mono ?_; rintro _ x1 ⟨v2, rfl, ho2, hb2⟩; have HTX' := ho2.txt; obtain ⟨a2, c2, hv2, hc2, _, hy2, hn2⟩ := ho2.shape; subst hv2; have HTX : Hid (TxtAt x1 (.slice a2 (lnL i1 i2 i3 i4).length c2) (lnL i1 i2 i3 i4)) := HTX'; have HI1 : Hid (Fs9 w W x1 b s (some ⟨b2, off, none⟩) n cap u3 L (11 + j)) := HI.out.keep hb2; clear ho2 hb2 hy2 hn2 hc2 HTX')
              | (at_builtin; have hbx := HI1.out.box (12 + (j : Int)) true 0 (.slice a2 (lnL i1 i2 i3 i4).length c2); refine wpList_append_fld rfl _ _ rfl W.heap.size u3 L rfl hbx.row x1.heap.size ⟨(12 + (j : Int)), true, 0, (lnL i1 i2 i3 i4)⟩ (.slice a2 (lnL i1 i2 i3 i4).length c2) rfl (FldAt.new _ _ _ _ _) (HTX.out.keep ((Below.refl _ _).alloc (Nat.le_refl _) _)) (by have := HI.out.len; omega) hbx.bel.size ?_; intro v4 w4 hr4 hg4; have HR4 : Hid (Fs9 w W w4 b s (some ⟨b2, off, none⟩) n cap v4 (L ++ [(⟨(12 + (j : Int)), true, 0, (lnL i1 i2 i3 i4)⟩, (.slice a2 (lnL i1 i2 i3 i4).length c2))]) ((11 + j) + 1)) := hbx.app HFF.out HSZ.out hr4 hg4; clear hr4 hg4 hbx))
            go_roundw
            case rel => exact ⟨j + 1, _, by omega, by go_num, HR4.out⟩
            case measure => simp [intOf]; omega
          · obtain rfl : n = j := by omega
            go_wp2
            go_ret
            refine ⟨_, L, rfl, ?_, by have := HI.out.len; omega, ⟨HI.out.row.own.mono HI.out.st.2.2.size, HI.out.row.byt⟩, below_next HI.out.st.2.2 HI.out.bel⟩
            rw [HI.out.fld, List.take_of_length_le (by rw [st_len, HN.out]; omega)]
            rfl
      · have HSZ : Hid (nz ⟨11, true, 0, nums8 S⟩ = true) := by
          show _ = _
          have h1 : nums8 S ≠ [] := fun h => hn0 ((nilB_iff S).2 h)
          unfold nz
          rw [if_pos rfl]
          cases h2 : nums8 S with
          | nil => exact absurd h2 h1
          | cons x r => rfl
        have hem : S.toList.isEmpty = false := by cases h9 : S.toList.isEmpty with | false => rfl | true => exact absurd h9 hn0
        go_wp2_with (first
          | (at_builtin; have hbx := (HI.out.keep (cv_below S wr)).box 11 true 0 (.slice (some ⟨wr.heap.size, 0, none⟩) S.size (cvC wr S)); refine wpList_append_fld rfl _ _ rfl W.heap.size u3 L rfl hbx.row (cvW wr S).heap.size ⟨11, true, 0, (nums8 S)⟩ (.slice (some ⟨wr.heap.size, 0, none⟩) S.size (cvC wr S)) rfl (FldAt.new _ _ _ _ _) ((TxtAt.cv wr S (grownCap_ge _ _ _ _)).keep ((Below.refl _ _).alloc (Nat.le_refl _) _)) (by have := HI.out.len; omega) hbx.bel.size ?_; intro v3 w3 hr3 hg3; have HR3 : Hid (Fs9 w W w3 b s a n cap v3 (L ++ [(⟨11, true, 0, (nums8 S)⟩, (.slice (some ⟨wr.heap.size, 0, none⟩) S.size (cvC wr S)))]) (10 + 1)) := hbx.app HFF.out HSZ.out hr3 hg3; clear hr3 hg3 hbx; have c5w : w3.cell? ⟨w.heap.size, 5, none⟩ = some (.slice a n cap) := (HR3.out.st.keep HR3.out.bel).1.cell 5 _ rfl))
        clear HSZ
        go_loopw [3, 42] (fun vf vi wr => ∃ (j : Nat) (L : List (Fld × Value)), j ≤ n ∧ vi = .int .i64 (j : Int) ∧ Hid (Fs9 w W wr b s a n cap vf L (11 + j))) (fun _ vi _ => n - (intOf vi).toNat)
        case atStart => exact ⟨0, _, Nat.zero_le _, rfl, HR3.out⟩
        case round =>
          clear HI HFF
          obtain ⟨j, L, hj, rfl, HI⟩ := hrel
          have HSt : Hid (StC w w.heap.size s a n cap wr) := HI.out.st.keep HI.out.bel
          have c5 : wr.cell? ⟨w.heap.size, 5, none⟩ = some (.slice a n cap) := HSt.out.1.cell 5 _ rfl
          by_cases hjn : j < n
          · obtain ⟨p, hp⟩ := ln_get (L := s.lines) (k := j) (by rw [HN.out]; exact hjn)
            have f := (linesB_facts HR.out.lines).2 j p hp
            obtain ⟨b2, off, rfl, hlt, q0, q1, q2, q3⟩ := HSt.out.2.1.cells j p hp
            have HFF' := st_line hp
            obtain ⟨i1, hi1⟩ : ∃ i : Nat, p.item = (i : Int) := ⟨p.item.toNat, by omega⟩
            obtain ⟨i2, hi2⟩ : ∃ i : Nat, p.price = (i : Int) := ⟨p.price.toNat, by omega⟩
            obtain ⟨i3, hi3⟩ : ∃ i : Nat, p.qty = (i : Int) := ⟨p.qty.toNat, by omega⟩
            obtain ⟨i4, hi4⟩ : ∃ i : Nat, p.shipped = (i : Int) := ⟨p.shipped.toNat, by omega⟩
            have hT4 : lnT p = lnL i1 i2 i3 i4 := by unfold lnT; rw [hi1, hi2, hi3, hi4]; rfl
            rw [hT4] at HFF'
            have HFF : Hid (_) := HFF'
            have HM4 : Hid (i1 ≤ 1099511627776 ∧ i2 ≤ 1099511627776 ∧ i3 ≤ 1099511627776 ∧ i4 ≤ 1099511627776) := by refine ⟨?_, ?_, ?_, ?_⟩ <;> omega
            have HSZ : Hid (nz ⟨12 + (j : Int), true, 0, lnL i1 i2 i3 i4⟩ = true) := by
              show _ = _
              have h1 := (enc_length_le i1 (by have := HM4.out.1; omega)).1
              unfold nz lnL
              rw [if_pos rfl]
              cases h2 : enc i1 with
              | nil => rw [h2] at h1; simp at h1
              | cons x r => rfl
            rw [hi1] at q0
            rw [hi2] at q1
            rw [hi3] at q2
            rw [hi4] at q3
            clear f hi1 hi2 hi3 hi4 hp hT4 HFF'
            go_wp2_with (first
              | (go_at_call 41; refine (rtext9_any i1 i2 i3 i4 _ HM4.out.1 HM4.out.2.1 HM4.out.2.2.1 HM4.out.2.2.2).mono ?_; rintro _ x1 ⟨v2, rfl, ho2, hb2⟩; have HTX' := ho2.txt; obtain ⟨a2, c2, hv2, hc2, _, hy2, hn2⟩ := ho2.shape; subst hv2; have HTX : Hid (TxtAt x1 (.slice a2 (lnL i1 i2 i3 i4).length c2) (lnL i1 i2 i3 i4)) := HTX'; have HI1 : Hid (Fs9 w W x1 b s (some ⟨b2, off, none⟩) n cap u3 L (11 + j)) := HI.out.keep hb2; clear ho2 hb2 hy2 hn2 hc2 HTX')
              | (at_builtin; have hbx := HI1.out.box (12 + (j : Int)) true 0 (.slice a2 (lnL i1 i2 i3 i4).length c2); refine wpList_append_fld rfl _ _ rfl W.heap.size u3 L rfl hbx.row x1.heap.size ⟨(12 + (j : Int)), true, 0, (lnL i1 i2 i3 i4)⟩ (.slice a2 (lnL i1 i2 i3 i4).length c2) rfl (FldAt.new _ _ _ _ _) (HTX.out.keep ((Below.refl _ _).alloc (Nat.le_refl _) _)) (by have := HI.out.len; omega) hbx.bel.size ?_; intro v4 w4 hr4 hg4; have HR4 : Hid (Fs9 w W w4 b s (some ⟨b2, off, none⟩) n cap v4 (L ++ [(⟨(12 + (j : Int)), true, 0, (lnL i1 i2 i3 i4)⟩, (.slice a2 (lnL i1 i2 i3 i4).length c2))]) ((11 + j) + 1)) := hbx.app HFF.out HSZ.out hr4 hg4; clear hr4 hg4 hbx))
            go_roundw
            case rel => exact ⟨j + 1, _, by omega, by go_num, HR4.out⟩
            case measure => simp [intOf]; omega
          · obtain rfl : n = j := by omega
            go_wp2
            go_ret
            refine ⟨_, L, rfl, ?_, by have := HI.out.len; omega, ⟨HI.out.row.own.mono HI.out.st.2.2.size, HI.out.row.byt⟩, below_next HI.out.st.2.2 HI.out.bel⟩
            rw [HI.out.fld, List.take_of_length_le (by rw [st_len, HN.out]; omega)]
            rfl
end Go.Proofs.YtfdaefhamoeaiaaGreat
