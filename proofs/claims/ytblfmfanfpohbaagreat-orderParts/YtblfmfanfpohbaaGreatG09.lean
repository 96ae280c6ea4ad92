/- Own texts, joined: Od9, Od10, Od11, Od12. -/
import Derived.Test.YtblfmfanfpohbaaGreatG27
import Derived.Test.YtblfmfanfpohbaaGreatG03
import Derived.Deep.RegionWith
namespace Go.Proofs.YtblfmfanfpohbaaGreat
open Go.ChangeShapes Go.WideShapes Go.ChangeAt Go.RowKit
set_option linter.unusedVariables false
set_option linter.unusedSimpArgs false
theorem SuitsOk.congr {lo : Nat} {w : World} {v : Value} {f g : St → Bool} (h : SuitsOk lo w v f) (hfg : ∀ s, f s = g s) : SuitsOk lo w v g := by rw [← funext hfg]; exact h
theorem introw (w : World) (l : List Int) (C : Array Value) (T : TypeId) (hC : C = (l.map (Value.int .i64)).toArray) : IntRow (w.alloc (.cells C T)) w.heap.size l := by
  subst hC
  refine ⟨by simp, fun j y hy => ?_⟩
  rw [cell_of_row _ w.heap.size j _ _ (0, 0) (heap_alloc_new w _)]
  simp [hy]
/-- what events of a kind do: the function -/
def doF (k : Nat) : Nat := if k = 1 then 49 else if k = 2 then 53 else if k = 3 then 56 else if k = 4 then 59 else if k = 5 then 61 else if k = 6 then 63 else if k = 7 then 65 else if k = 8 then 66 else if k = 9 then 67 else if k = 10 then 68 else 0
/-- the table in block b -/
def DeedsAt (lo : Nat) (w : World) (b : Nat) : Prop := b < w.heap.size ∧ lo ≤ b ∧ ∀ k : Nat, 1 ≤ k → k ≤ 10 → ∃ vs vr, w.cell? ⟨b, k * 3, none⟩ = some vs ∧ w.cell? ⟨b, k * 3 + 1, none⟩ = some vr ∧ w.cell? ⟨b, k * 3 + 2, none⟩ = some (.func (Fn.func (doF k)) #[] #[]) ∧ SuitsOk lo w vs (fun s => useB s k) ∧ RefOk lo w vr k
theorem DeedsAt.same {lo : Nat} {w x : World} {b : Nat} (h : DeedsAt lo w b) (hb : Same lo w x) : DeedsAt lo x b := by
  refine ⟨Nat.lt_of_lt_of_le h.1 hb.1, h.2.1, fun k h1 h2 => ?_⟩
  obtain ⟨vs, vr, c0, c1, c2, hs, hr⟩ := h.2.2 k h1 h2
  exact ⟨vs, vr, (hb.cell _ h.2.1 h.1).trans c0, (hb.cell _ h.2.1 h.1).trans c1, (hb.cell _ h.2.1 h.1).trans c2, hs.keep hb, hr.keep hb⟩
theorem DeedsAt.keep {lo : Nat} {w x : World} {b : Nat} (h : DeedsAt lo w b) (hb : Below w.heap.size w x) : DeedsAt lo x b := h.same (same_of hb)
set_option maxRecDepth 20000 in
set_option maxHeartbeats 8000000 in
theorem deeds_any (w : World) : Calls Tryz.prog 20 #[] w fun r w' => ∃ b, r = .returned (.slice (some ⟨b, 0, none⟩) 11 11) ∧ DeedsAt w.heap.size w' b ∧ Below w.heap.size w w' := by
  have T1 : Hid True := trivial
  have T2 : Hid True := trivial
  have T3 : Hid True := trivial
  have T4 : Hid True := trivial
  have T5 : Hid True := trivial
  have T6 : Hid True := trivial
  have T7 : Hid True := trivial
  have T8 : Hid True := trivial
  have T9 : Hid True := trivial
  have T10 : Hid True := trivial
  have T11 : Hid True := trivial
  have T12 : Hid True := trivial
  have T13 : Hid True := trivial
  have T14 : Hid True := trivial
  have T15 : Hid True := trivial
  have T16 : Hid True := trivial
  have T17 : Hid True := trivial
  go_enter Tryz.func20, Tryz.ntmps20
  go_wp2_with (first
    | (go_at_call 47; clear T1; refine (at_any w.heap.size [0] _ 1 _ rfl (by decide) (introw _ [0] _ _ rfl) (by omega)).mono ?_; rintro _ x1 ⟨v1, rfl, hs1, hb1⟩; have HS1 : Hid (SuitsOk w.heap.size x1 v1 (fun s => [0].any (fun y => s.status == y))) := hs1; obtain ⟨g1, cb1, rfl, _, _⟩ := hs1; have HB1 : Hid (Below w.heap.size w x1) := below_next ((Below.refl _ _).alloc (Nat.le_refl _) _) hb1; have hz1 : w.heap.size ≤ x1.heap.size := Nat.le_trans (Nat.le_refl _) HB1.out.size; clear hb1)
    | (go_at_call 47; clear T2; refine (at_any w.heap.size [1] _ 1 _ rfl (by decide) (introw _ [1] _ _ rfl) (by omega)).mono ?_; rintro _ x2 ⟨v2, rfl, hs2, hb2⟩; have HS2 : Hid (SuitsOk w.heap.size x2 v2 (fun s => [1].any (fun y => s.status == y))) := hs2; obtain ⟨g2, cb2, rfl, _, _⟩ := hs2; have HB2 : Hid (Below x1.heap.size x1 x2) := below_next ((Below.refl _ _).alloc (Nat.le_refl _) _) hb2; have hz2 : w.heap.size ≤ x2.heap.size := Nat.le_trans hz1 HB2.out.size; clear hb2)
    | (go_at_call 50; clear T3; refine (both_any w.heap.size _ _ _ _ _ HS2.out (unpaid_suits _ _) (by omega)).mono ?_; rintro _ x3 ⟨v3, rfl, hs3, hb3⟩; have HS3 : Hid (SuitsOk w.heap.size x3 v3 (fun s => [1].any (fun y => s.status == y) && (fun s => s.paid == 0) s)) := hs3; obtain ⟨g3, cb3, rfl, _, _⟩ := hs3; have HB3 : Hid (Below x2.heap.size x2 x3) := hb3; have hz3 : w.heap.size ≤ x3.heap.size := Nat.le_trans hz2 HB3.out.size; clear hb3)
    | (go_at_call 47; clear T4; refine (at_any w.heap.size [1] _ 1 _ rfl (by decide) (introw _ [1] _ _ rfl) (by omega)).mono ?_; rintro _ x4 ⟨v4, rfl, hs4, hb4⟩; have HS4 : Hid (SuitsOk w.heap.size x4 v4 (fun s => [1].any (fun y => s.status == y))) := hs4; obtain ⟨g4, cb4, rfl, _, _⟩ := hs4; have HB4 : Hid (Below x3.heap.size x3 x4) := below_next ((Below.refl _ _).alloc (Nat.le_refl _) _) hb4; have hz4 : w.heap.size ≤ x4.heap.size := Nat.le_trans hz3 HB4.out.size; clear hb4)
    | (go_at_call 54; clear T5; refine (money_any w.heap.size _ _ _ 3 (by omega) (unpaid_left _) (fun s e hk => by unfold refR; simp only [hk]; rfl)).mono ?_; rintro _ x5 ⟨v5, rfl, hs5, hb5⟩; have HS5 : Hid (RefOk w.heap.size x5 v5 3) := hs5; obtain ⟨g5, cb5, rfl, _, _⟩ := hs5; have HB5 : Hid (Below x4.heap.size x4 x5) := hb5; have hz5 : w.heap.size ≤ x5.heap.size := Nat.le_trans hz4 HB5.out.size; clear hb5)
    | (go_at_call 47; clear T6; refine (at_any w.heap.size [3] _ 1 _ rfl (by decide) (introw _ [3] _ _ rfl) (by omega)).mono ?_; rintro _ x6 ⟨v6, rfl, hs6, hb6⟩; have HS6 : Hid (SuitsOk w.heap.size x6 v6 (fun s => [3].any (fun y => s.status == y))) := hs6; obtain ⟨g6, cb6, rfl, _, _⟩ := hs6; have HB6 : Hid (Below x5.heap.size x5 x6) := below_next ((Below.refl _ _).alloc (Nat.le_refl _) _) hb6; have hz6 : w.heap.size ≤ x6.heap.size := Nat.le_trans hz5 HB6.out.size; clear hb6)
    | (go_at_call 57; clear T7; refine (taking_any w.heap.size _ _ _ 4 (by omega) unshippedRest_line (fun s e hk => by unfold refR; simp only [hk]; rfl)).mono ?_; rintro _ x7 ⟨v7, rfl, hs7, hb7⟩; have HS7 : Hid (RefOk w.heap.size x7 v7 4) := hs7; obtain ⟨g7, cb7, rfl, _, _⟩ := hs7; have HB7 : Hid (Below x6.heap.size x6 x7) := hb7; have hz7 : w.heap.size ≤ x7.heap.size := Nat.le_trans hz6 HB7.out.size; clear hb7)
    | (go_at_call 47; clear T8; refine (at_any w.heap.size [1, 2, 3] _ 3 _ rfl (by decide) (introw _ [1, 2, 3] _ _ rfl) (by omega)).mono ?_; rintro _ x8 ⟨v8, rfl, hs8, hb8⟩; have HS8 : Hid (SuitsOk w.heap.size x8 v8 (fun s => [1, 2, 3].any (fun y => s.status == y))) := hs8; obtain ⟨g8, cb8, rfl, _, _⟩ := hs8; have HB8 : Hid (Below x7.heap.size x7 x8) := below_next ((Below.refl _ _).alloc (Nat.le_refl _) _) hb8; have hz8 : w.heap.size ≤ x8.heap.size := Nat.le_trans hz7 HB8.out.size; clear hb8)
    | (go_at_call 50; clear T9; refine (both_any w.heap.size _ _ _ _ _ HS8.out (unshipped_suits _ _) (by omega)).mono ?_; rintro _ x9 ⟨v9, rfl, hs9, hb9⟩; have HS9 : Hid (SuitsOk w.heap.size x9 v9 (fun s => [1, 2, 3].any (fun y => s.status == y) && (fun s => unshB s.lines) s)) := hs9; obtain ⟨g9, cb9, rfl, _, _⟩ := hs9; have HB9 : Hid (Below x8.heap.size x8 x9) := hb9; have hz9 : w.heap.size ≤ x9.heap.size := Nat.le_trans hz8 HB9.out.size; clear hb9)
    | (go_at_call 47; clear T10; refine (at_any w.heap.size [1] _ 1 _ rfl (by decide) (introw _ [1] _ _ rfl) (by omega)).mono ?_; rintro _ x10 ⟨v10, rfl, hs10, hb10⟩; have HS10 : Hid (SuitsOk w.heap.size x10 v10 (fun s => [1].any (fun y => s.status == y))) := hs10; obtain ⟨g10, cb10, rfl, _, _⟩ := hs10; have HB10 : Hid (Below x9.heap.size x9 x10) := below_next ((Below.refl _ _).alloc (Nat.le_refl _) _) hb10; have hz10 : w.heap.size ≤ x10.heap.size := Nat.le_trans hz9 HB10.out.size; clear hb10)
    | (go_at_call 50; clear T11; refine (both_any w.heap.size _ _ _ _ _ HS10.out (unpaid_suits _ _) (by omega)).mono ?_; rintro _ x11 ⟨v11, rfl, hs11, hb11⟩; have HS11 : Hid (SuitsOk w.heap.size x11 v11 (fun s => [1].any (fun y => s.status == y) && (fun s => s.paid == 0) s)) := hs11; obtain ⟨g11, cb11, rfl, _, _⟩ := hs11; have HB11 : Hid (Below x10.heap.size x10 x11) := hb11; have hz11 : w.heap.size ≤ x11.heap.size := Nat.le_trans hz10 HB11.out.size; clear hb11)
    | (go_at_call 57; clear T12; refine (taking_any w.heap.size _ _ _ 6 (by omega) ordered_line (fun s e hk => by unfold refR; simp only [hk]; rfl)).mono ?_; rintro _ x12 ⟨v12, rfl, hs12, hb12⟩; have HS12 : Hid (RefOk w.heap.size x12 v12 6) := hs12; obtain ⟨g12, cb12, rfl, _, _⟩ := hs12; have HB12 : Hid (Below x11.heap.size x11 x12) := hb12; have hz12 : w.heap.size ≤ x12.heap.size := Nat.le_trans hz11 HB12.out.size; clear hb12)
    | (go_at_call 47; clear T13; refine (at_any w.heap.size [3, 4, 5] _ 3 _ rfl (by decide) (introw _ [3, 4, 5] _ _ rfl) (by omega)).mono ?_; rintro _ x13 ⟨v13, rfl, hs13, hb13⟩; have HS13 : Hid (SuitsOk w.heap.size x13 v13 (fun s => [3, 4, 5].any (fun y => s.status == y))) := hs13; obtain ⟨g13, cb13, rfl, _, _⟩ := hs13; have HB13 : Hid (Below x12.heap.size x12 x13) := below_next ((Below.refl _ _).alloc (Nat.le_refl _) _) hb13; have hz13 : w.heap.size ≤ x13.heap.size := Nat.le_trans hz12 HB13.out.size; clear hb13)
    | (go_at_call 54; clear T14; refine (money_any w.heap.size _ _ _ 7 (by omega) (kept_left _) (fun s e hk => by unfold refR; simp only [hk]; rfl)).mono ?_; rintro _ x14 ⟨v14, rfl, hs14, hb14⟩; have HS14 : Hid (RefOk w.heap.size x14 v14 7) := hs14; obtain ⟨g14, cb14, rfl, _, _⟩ := hs14; have HB14 : Hid (Below x13.heap.size x13 x14) := hb14; have hz14 : w.heap.size ≤ x14.heap.size := Nat.le_trans hz13 HB14.out.size; clear hb14)
    | (go_at_call 47; clear T15; refine (at_any w.heap.size [1, 3] _ 2 _ rfl (by decide) (introw _ [1, 3] _ _ rfl) (by omega)).mono ?_; rintro _ x15 ⟨v15, rfl, hs15, hb15⟩; have HS15 : Hid (SuitsOk w.heap.size x15 v15 (fun s => [1, 3].any (fun y => s.status == y))) := hs15; obtain ⟨g15, cb15, rfl, _, _⟩ := hs15; have HB15 : Hid (Below x14.heap.size x14 x15) := below_next ((Below.refl _ _).alloc (Nat.le_refl _) _) hb15; have hz15 : w.heap.size ≤ x15.heap.size := Nat.le_trans hz14 HB15.out.size; clear hb15)
    | (go_at_call 47; clear T16; refine (at_any w.heap.size [2] _ 1 _ rfl (by decide) (introw _ [2] _ _ rfl) (by omega)).mono ?_; rintro _ x16 ⟨v16, rfl, hs16, hb16⟩; have HS16 : Hid (SuitsOk w.heap.size x16 v16 (fun s => [2].any (fun y => s.status == y))) := hs16; obtain ⟨g16, cb16, rfl, _, _⟩ := hs16; have HB16 : Hid (Below x15.heap.size x15 x16) := below_next ((Below.refl _ _).alloc (Nat.le_refl _) _) hb16; have hz16 : w.heap.size ≤ x16.heap.size := Nat.le_trans hz15 HB16.out.size; clear hb16)
    | (go_at_call 47; clear T17; refine (at_any w.heap.size [3] _ 1 _ rfl (by decide) (introw _ [3] _ _ rfl) (by omega)).mono ?_; rintro _ x17 ⟨v17, rfl, hs17, hb17⟩; have HS17 : Hid (SuitsOk w.heap.size x17 v17 (fun s => [3].any (fun y => s.status == y))) := hs17; obtain ⟨g17, cb17, rfl, _, _⟩ := hs17; have HB17 : Hid (Below x16.heap.size x16 x17) := below_next ((Below.refl _ _).alloc (Nat.le_refl _) _) hb17; have hz17 : w.heap.size ≤ x17.heap.size := Nat.le_trans hz16 HB17.out.size; clear hb17))
  go_ret
  have bF : ∀ O, Below x17.heap.size x17 (x17.alloc O) := fun O => (Below.refl _ _).alloc (Nat.le_refl _) _
  have b17 : ∀ O, Below x17.heap.size x17 (x17.alloc O) := bF
  have b16 : ∀ O, Below x16.heap.size x16 (x17.alloc O) := fun O => HB17.out.trans ((b17 O).mono HB17.out.size)
  have b15 : ∀ O, Below x15.heap.size x15 (x17.alloc O) := fun O => HB16.out.trans ((b16 O).mono HB16.out.size)
  have b14 : ∀ O, Below x14.heap.size x14 (x17.alloc O) := fun O => HB15.out.trans ((b15 O).mono HB15.out.size)
  have b13 : ∀ O, Below x13.heap.size x13 (x17.alloc O) := fun O => HB14.out.trans ((b14 O).mono HB14.out.size)
  have b12 : ∀ O, Below x12.heap.size x12 (x17.alloc O) := fun O => HB13.out.trans ((b13 O).mono HB13.out.size)
  have b11 : ∀ O, Below x11.heap.size x11 (x17.alloc O) := fun O => HB12.out.trans ((b12 O).mono HB12.out.size)
  have b10 : ∀ O, Below x10.heap.size x10 (x17.alloc O) := fun O => HB11.out.trans ((b11 O).mono HB11.out.size)
  have b9 : ∀ O, Below x9.heap.size x9 (x17.alloc O) := fun O => HB10.out.trans ((b10 O).mono HB10.out.size)
  have b8 : ∀ O, Below x8.heap.size x8 (x17.alloc O) := fun O => HB9.out.trans ((b9 O).mono HB9.out.size)
  have b7 : ∀ O, Below x7.heap.size x7 (x17.alloc O) := fun O => HB8.out.trans ((b8 O).mono HB8.out.size)
  have b6 : ∀ O, Below x6.heap.size x6 (x17.alloc O) := fun O => HB7.out.trans ((b7 O).mono HB7.out.size)
  have b5 : ∀ O, Below x5.heap.size x5 (x17.alloc O) := fun O => HB6.out.trans ((b6 O).mono HB6.out.size)
  have b4 : ∀ O, Below x4.heap.size x4 (x17.alloc O) := fun O => HB5.out.trans ((b5 O).mono HB5.out.size)
  have b3 : ∀ O, Below x3.heap.size x3 (x17.alloc O) := fun O => HB4.out.trans ((b4 O).mono HB4.out.size)
  have b2 : ∀ O, Below x2.heap.size x2 (x17.alloc O) := fun O => HB3.out.trans ((b3 O).mono HB3.out.size)
  have b1 : ∀ O, Below x1.heap.size x1 (x17.alloc O) := fun O => HB2.out.trans ((b2 O).mono HB2.out.size)
  have b0 : ∀ O, Below w.heap.size w (x17.alloc O) := fun O => HB1.out.trans ((b1 O).mono HB1.out.size)
  refine ⟨_, rfl, ⟨by simp, hz17, fun k h1 h2 => ?_⟩, b0 _⟩
  have hk : k = 1 ∨ k = 2 ∨ k = 3 ∨ k = 4 ∨ k = 5 ∨ k = 6 ∨ k = 7 ∨ k = 8 ∨ k = 9 ∨ k = 10 := by omega
  rcases hk with rfl | rfl | rfl | rfl | rfl | rfl | rfl | rfl | rfl | rfl
  · exact ⟨_, _, by simp, by simp, by simp; rfl, (HS1.out.keep (same_of (b1 _))).congr (fun s => by simp only [useB, List.any_cons, List.any_nil, Bool.or_false]; rfl), never_ref _ _ _ (by decide) (by decide) (by decide) (by decide) (by decide)⟩
  · exact ⟨_, _, by simp, by simp, by simp; rfl, (HS3.out.keep (same_of (b3 _))).congr (fun s => by simp only [useB, List.any_cons, List.any_nil, Bool.or_false]; rfl), refuseAdd_ref _ _⟩
  · exact ⟨_, _, by simp, by simp, by simp; rfl, (HS4.out.keep (same_of (b4 _))).congr (fun s => by simp only [useB, List.any_cons, List.any_nil, Bool.or_false]; rfl), HS5.out.keep (same_of (b5 _))⟩
  · exact ⟨_, _, by simp, by simp, by simp; rfl, (HS6.out.keep (same_of (b6 _))).congr (fun s => by simp only [useB, List.any_cons, List.any_nil, Bool.or_false]; rfl), HS7.out.keep (same_of (b7 _))⟩
  · exact ⟨_, _, by simp, by simp, by simp; rfl, (HS9.out.keep (same_of (b9 _))).congr (fun s => by simp only [useB, List.any_cons, List.any_nil, Bool.or_false]; rfl), never_ref _ _ _ (by decide) (by decide) (by decide) (by decide) (by decide)⟩
  · exact ⟨_, _, by simp, by simp, by simp; rfl, (HS11.out.keep (same_of (b11 _))).congr (fun s => by simp only [useB, List.any_cons, List.any_nil, Bool.or_false]; rfl), HS12.out.keep (same_of (b12 _))⟩
  · exact ⟨_, _, by simp, by simp, by simp; rfl, (HS13.out.keep (same_of (b13 _))).congr (fun s => by simp only [useB, List.any_cons, List.any_nil, Bool.or_false]; rfl), HS14.out.keep (same_of (b14 _))⟩
  · exact ⟨_, _, by simp, by simp, by simp; rfl, (HS15.out.keep (same_of (b15 _))).congr (fun s => by simp only [useB, List.any_cons, List.any_nil, Bool.or_false]; rfl), never_ref _ _ _ (by decide) (by decide) (by decide) (by decide) (by decide)⟩
  · exact ⟨_, _, by simp, by simp, by simp; rfl, (HS16.out.keep (same_of (b16 _))).congr (fun s => by simp only [useB, List.any_cons, List.any_nil, Bool.or_false]; rfl), never_ref _ _ _ (by decide) (by decide) (by decide) (by decide) (by decide)⟩
  · exact ⟨_, _, by simp, by simp, by simp; rfl, (HS17.out.keep (same_of (b17 _))).congr (fun s => by simp only [useB, List.any_cons, List.any_nil, Bool.or_false]; rfl), never_ref _ _ _ (by decide) (by decide) (by decide) (by decide) (by decide)⟩
end Go.Proofs.YtblfmfanfpohbaaGreat
namespace Go.Proofs.YtblfmfanfpohbaaGreat
open Go.ChangeShapes Go.WideShapes Go.ChangeAt Go.RowKit
set_option linter.unusedVariables false
set_option linter.unusedSimpArgs false
set_option maxRecDepth 20000 in
set_option maxHeartbeats 4000000 in
theorem standing_any (lo b k : Nat) (s : St) (a : Option Addr) (n cap : Nat) (w : World) (hd : DeedsAt lo w b) (h1 : 1 ≤ k) (h10 : k ≤ 10) (hn : s.lines.length = n) (hl : Lns w a s.lines) (hm : n ≤ maxLen) :
    Calls Tryz.prog 97 #[.slice (some ⟨b, 0, none⟩) 11 11, .agg (stA s (.slice a n cap)), .int .i64 (k : Int)] w fun r w' => r = .returned (.int .i64 (stdR s k)) ∧ Below w.heap.size w w' := by
  obtain ⟨W, hW⟩ : ∃ W, w.alloc (.cells (stA s (.slice a n cap)) 25) = W := ⟨_, rfl⟩
  have HC := StC.new w s a n cap hl
  rw [hW] at HC
  have HCH : Hid (StC w w.heap.size s a n cap W) := HC
  have c1 := HC.1.cell 1 (.int .i64 s.status) rfl
  by_cases g1 : s.status = 0 ∧ (k : Int) ≠ 1
  · rw [show stdR s k = 3 from if_pos g1]
    have e1 : (s.status == 0) = true := by simpa using g1.1
    have e2 : ((k : Int) != 1) = true := by simpa using g1.2
    clear g1 hd hn hl
    go_enter Tryz.func97, Tryz.ntmps97
    go_wp2
    go_ret
    exact ⟨rfl, HCH.out.2.2⟩
  · by_cases g2 : s.status ≠ 0 ∧ (k : Int) = 1
    · rw [show stdR s k = 4 from (if_neg g1).trans (if_pos g2)]
      have e1 : (s.status == 0) = false := by simpa using g2.1
      have e1' : (s.status != 0) = true := by simpa using g2.1
      have e2 : ((k : Int) == 1) = true := by simpa using g2.2
      clear g1 g2 hd hn hl
      go_enter Tryz.func97, Tryz.ntmps97
      go_wp2
      go_ret
      exact ⟨rfl, HCH.out.2.2⟩
    · have hS : stdR s k = if useB s k = false then 5 else 0 := (if_neg g1).trans (if_neg g2)
      obtain ⟨vs, vr, q0, q1, q2, hs, hr⟩ := hd.2.2 k h1 h10
      obtain ⟨g, cb, rfl, eg, C⟩ := hs
      have hblt := hd.1
      have HE := HC.drew
      obtain ⟨E, hE⟩ : ∃ E, StC w w.heap.size s a n cap = E := ⟨_, rfl⟩
      have R : Hid (∀ w2, E w2 → w2.cell? ⟨b, k * 3, none⟩ = some (.func (Fn.func g) #[] cb)) := fun w2 h => by rw [← hE] at h; exact (h.2.2.cell (p := ⟨b, k * 3, none⟩) hblt).trans q0
      have RS : Hid (∀ w2, E w2 → StAt w2 w.heap.size s (.slice a n cap)) := fun w2 h => by rw [← hE] at h; exact h.1
      have HBel : Hid (∀ w2, E w2 → Below w.heap.size w w2) := fun w2 h => by rw [← hE] at h; exact h.2.2
      have CD : Hid (∀ w2, E w2 → Calls Tryz.prog g (#[.agg (stA s (.slice a n cap))] ++ cb) w2 fun e w' => e = .returned (.bool (useB s k)) ∧ E w') := fun w2 h => by
        rw [← hE] at h ⊢
        exact (C w2 s a n cap (same_of h.2.2) hn h.2.1 hm).mono fun e w' ⟨h1, h2⟩ => ⟨h1, h.keep h2⟩
      obtain ⟨U, hU⟩ : ∃ U, useB s k = U := ⟨_, rfl⟩
      rw [hU] at CD hS
      rw [hS]
      rw [hE] at HE
      have HEE : Hid (E (World.drew _)) := HE
      have hcase : ((s.status == 0) = true ∧ ((k : Int) != 1) = false ∧ (s.status != 0) = false) ∨ ((s.status == 0) = false ∧ (s.status != 0) = true ∧ ((k : Int) == 1) = false) := by
        by_cases h0 : s.status = 0
        · left
          refine ⟨by simpa using h0, ?_, by simpa using h0⟩
          have : (k : Int) = 1 := Classical.byContradiction fun hk => g1 ⟨h0, hk⟩
          simpa using this
        · right
          refine ⟨by simpa using h0, by simpa using h0, ?_⟩
          have : ¬ (k : Int) = 1 := fun hk => g2 ⟨h0, hk⟩
          simpa using this
      have hk11 : (k : Int) < 11 := by omega
      clear hd hn hl hm g1 g2 hS hU C q0 q1 q2 hr hblt HE hE HC HCH
      rcases hcase with ⟨e1, e2, e3⟩ | ⟨e1, e2, e3⟩ <;> cases U
      all_goals
        go_enter Tryz.func97, Tryz.ntmps97
        go_wp2
        refine wp_region_quiet (C := E) (by kernel_rfl) (by kernel_rfl) HEE.out ?_
        simp only [List.toList_toArray]
        repeat (any_goals (first
          | go_big_quiet_skip
          | (go_big_quiet_want
             first
             | (refine quiet_val (v := .agg (stA s (.slice a n cap))) (fun w2 hw2 => exec_load_st (.tmp 4) rfl rfl (RS.out w2 hw2)) ?_
                go_big_quiet_on
                simp only [Act.put, List.setIfInBounds_toArray, List.set_cons_zero, List.set_cons_succ])
             | (refine quiet_val (v := ?_) (fun w2 hw2 => ?_) ?_
                rotate_left
                · (first | (go_simp; with_reducible rfl) | (have q1 := R.out w2 hw2; go_simp; with_reducible rfl))
                go_big_quiet_on
                simp only [Act.put, List.setIfInBounds_toArray, List.set_cons_zero, List.set_cons_succ])
             | (refine quiet_call (v := ?_) (f := ?_) (args := ?_) (fun w2 hw2 => ?_) (fun w2 hw2 => ?_) ?_
                rotate_left 3
                · (go_simp; refine ⟨?_, ?_⟩ <;> with_reducible rfl)
                · (skip; exact CD.out _ hw2)
                (go_big_quiet_on; simp only [Act.put, List.setIfInBounds_toArray, List.set_cons_zero, List.set_cons_succ])))))
        all_goals
          refine wpQuiet_nil ?_
          intro w3 hw3
          go_wp2
          go_ret
          exact ⟨rfl, HBel.out _ hw3⟩
end Go.Proofs.YtblfmfanfpohbaaGreat
namespace Go.Proofs.YtblfmfanfpohbaaGreat
open Go.ChangeShapes Go.WideShapes Go.ChangeAt Go.RowKit
set_option linter.unusedVariables false
set_option linter.unusedSimpArgs false
set_option maxRecDepth 20000 in
set_option maxHeartbeats 8000000 in
theorem judge_any (lo b : Nat) (s : St) (e : Ev) (a : Option Addr) (n cap : Nat) (w : World) (hd : DeedsAt lo w b) (hn : s.lines.length = n) (hl : Lns w a s.lines) (hm : n ≤ maxLen) :
    Calls Tryz.prog 69 #[.slice (some ⟨b, 0, none⟩) 11 11, .agg (stA s (.slice a n cap)), .agg (evA e)] w fun r w' => r = .returned (.int .i64 (judS s e)) ∧ Below w.heap.size w w' := by
  obtain ⟨W, hW, HS⟩ := se_new w s e a n cap hl
  have HS1 : Hid (SE w s e a n cap W) := HS
  have HN : Hid (s.lines.length = n) := hn
  have HD : Hid (DeedsAt lo w b) := hd
  cases hv : vldB s with
  | false =>
    rw [show judS s e = 1 from if_pos (.inl hv)]
    have HV : Hid (vldB s = false) := hv
    clear hd hn hl hv HS
    go_enter Tryz.func69, Tryz.ntmps69
    go_wp2_with (first
      | ((with_reducible refine guard_load 25 ?_); refine wpList_load_st rfl _ rfl HS1.out.st rfl ?_)
      | (go_at_call 12; refine (valid_st s a n cap _ HN.out HS1.out.ln hm).mono ?_; rw [HV.out]; rintro _ x1 ⟨rfl, hb1⟩; have HS2 : Hid (SE w s e a n cap x1) := SE.keep HS1.out hb1; clear hb1))
    go_ret
    exact ⟨rfl, HS2.out.bel⟩
  | true =>
    have HV : Hid (vldB s = true) := hv
    obtain ⟨c, hc⟩ : ∃ c, chk 5 e = c := ⟨_, rfl⟩
    have HCK : Hid (chk 5 e = c) := hc
    by_cases c0 : c = 0
    · subst c0
      by_cases he : s.events = 1099511627776
      · rw [show judS s e = 1 from if_pos (.inr (.inr he))]
        have he' : (s.events == 1099511627776) = true := by simpa using he
        clear hd hn hl hv HS hc he
        go_enter Tryz.func69, Tryz.ntmps69
        go_wp2_with (first
          | ((with_reducible refine guard_load 25 ?_); refine wpList_load_st rfl _ rfl HS1.out.st rfl ?_)
          | ((with_reducible refine guard_loadg 38 ?_); refine wpList_load_evg rfl _ rfl HS2.out.ev rfl ?_)
          | (go_at_call 12; refine (valid_st s a n cap _ HN.out HS1.out.ln hm).mono ?_; rw [HV.out]; rintro _ x1 ⟨rfl, hb1⟩; have HS2 : Hid (SE w s e a n cap x1) := SE.keep HS1.out hb1; clear hb1)
          | (go_at_call 96; refine (check_ev 5 e _).mono ?_; rw [HCK.out]; rintro _ x2 ⟨rfl, hb2⟩; have HS3 : Hid (SE w s e a n cap x2) := SE.keep HS2.out hb2; have c8 := HS3.out.st.cell 8 (.int .i64 s.events) rfl; clear hb2))
        go_ret
        exact ⟨rfl, HS3.out.bel⟩
      · have he' : (s.events == 1099511627776) = false := by simpa using he
        have hj0 : judS s e = if e.order ≠ s.order then 2 else if stdR s e.kind ≠ 0 then stdR s e.kind else refR s e := by
          unfold judS
          rw [if_neg]
          rintro (h | h | h)
          · rw [hv] at h; cases h
          · exact h hc
          · exact he h
        cases ho : (e.order != s.order) with
        | true =>
          rw [hj0, if_pos (by simpa using ho)]
          clear hd hn hl hv HS hc he hj0
          go_enter Tryz.func69, Tryz.ntmps69
          go_wp2_with (first
            | ((with_reducible refine guard_load 25 ?_); refine wpList_load_st rfl _ rfl HS1.out.st rfl ?_)
            | ((with_reducible refine guard_loadg 38 ?_); refine wpList_load_evg rfl _ rfl HS2.out.ev rfl ?_)
            | (go_at_call 12; refine (valid_st s a n cap _ HN.out HS1.out.ln hm).mono ?_; rw [HV.out]; rintro _ x1 ⟨rfl, hb1⟩; have HS2 : Hid (SE w s e a n cap x1) := SE.keep HS1.out hb1; clear hb1)
            | (go_at_call 96; refine (check_ev 5 e _).mono ?_; rw [HCK.out]; rintro _ x2 ⟨rfl, hb2⟩; have HS3 : Hid (SE w s e a n cap x2) := SE.keep HS2.out hb2; have c8 := HS3.out.st.cell 8 (.int .i64 s.events) rfl; have k0 := HS3.out.st.cell 0 (.int .i64 s.order) rfl; have k1 := HS3.out.ev.cell 1 (.int .i64 e.order) rfl; clear hb2))
          go_ret
          exact ⟨rfl, HS3.out.bel⟩
        | false =>
          rw [hj0, if_neg (by simpa using ho)]
          have hR := right_of hc
          have kk1 := hR.kind0
          have kk2 : e.kind ≤ lastK 5 := hR.kind1
          simp [lastK] at kk2
          obtain ⟨k, hk⟩ : ∃ k : Nat, e.kind = k := ⟨e.kind.toNat, by omega⟩
          have hk1 : 1 ≤ k := by omega
          have hk10 : k ≤ 10 := by omega
          obtain ⟨S, hS⟩ : ∃ S, stdR s k = S := ⟨_, rfl⟩
          have HST : Hid (stdR s k = S) := hS
          rw [hk, hS]
          by_cases hS0 : S = 0
          · subst hS0
            rw [if_neg (by simp)]
            obtain ⟨vs, vr, q0, q1, q2, hs, hr⟩ := hd.2.2 k hk1 hk10
            obtain ⟨g, cb, rfl, eg, C⟩ := hr
            have hblt := hd.1
            obtain ⟨E, hE⟩ : ∃ E, SE w s e a n cap = E := ⟨_, rfl⟩
            have R : Hid (∀ w2, E w2 → w2.cell? ⟨b, k * 3 + 1, none⟩ = some (.func (Fn.func g) #[] cb) ∧ w2.cell? ⟨w.heap.size + 1, 0, none⟩ = some (.int .i64 (k : Int))) := fun w2 h => by rw [← hE] at h; exact ⟨(h.bel.cell (p := ⟨b, k * 3 + 1, none⟩) hblt).trans q1, h.ev.cell 0 _ (by rw [← hk]; rfl)⟩
            have RS : Hid (∀ w2, E w2 → StAt w2 w.heap.size s (.slice a n cap)) := fun w2 h => by rw [← hE] at h; exact h.st
            have RE : Hid (∀ w2, E w2 → EvAt w2 (w.heap.size + 1) e) := fun w2 h => by rw [← hE] at h; exact h.ev
            have HBel : Hid (∀ w2, E w2 → Below w.heap.size w w2) := fun w2 h => by rw [← hE] at h; exact h.bel
            have HKE : Hid (∀ w2, SE w s e a n cap w2 → E w2.drew) := fun w2 h => by rw [← hE]; exact h.drew
            have CD : Hid (∀ w2, E w2 → Calls Tryz.prog g (#[.agg (stA s (.slice a n cap)), .agg (evA e)] ++ cb) w2 fun r w' => r = .returned (.int .i64 (refR s e)) ∧ E w') := fun w2 h => by
              rw [← hE] at h ⊢
              exact (C w2 s e a n cap (same_of h.bel) hn h.ln hv hc hk).mono fun r w' ⟨h1, h2⟩ => ⟨h1, h.keep h2⟩
            obtain ⟨D, hDD⟩ : ∃ D, refR s e = D := ⟨_, rfl⟩
            rw [hDD] at CD ⊢
            have hk11 : (k : Int) < 11 := by omega
            have HKK : Hid (e.kind = k) := hk
            clear hd hn hl hv HS hc he hj0 hk hS hDD hE C q0 q1 q2 hs hblt hR kk1 kk2
            go_enter Tryz.func69, Tryz.ntmps69
            go_wp2_with (first
              | ((with_reducible refine guard_load 25 ?_); first | refine wpList_load_st rfl _ rfl HS3.out.st rfl ?_ | refine wpList_load_st rfl _ rfl HS1.out.st rfl ?_)
              | ((with_reducible refine guard_loadg 38 ?_); refine wpList_load_evg rfl _ rfl HS2.out.ev rfl ?_)
              | (go_at_call 12; refine (valid_st s a n cap _ HN.out HS1.out.ln hm).mono ?_; rw [HV.out]; rintro _ x1 ⟨rfl, hb1⟩; have HS2 : Hid (SE w s e a n cap x1) := SE.keep HS1.out hb1; clear hb1)
              | (go_at_call 96; refine (check_ev 5 e _).mono ?_; rw [HCK.out]; rintro _ x2 ⟨rfl, hb2⟩; have HS3 : Hid (SE w s e a n cap x2) := SE.keep HS2.out hb2; have c8 := HS3.out.st.cell 8 (.int .i64 s.events) rfl; have k0 := HS3.out.st.cell 0 (.int .i64 s.order) rfl; have k1 := HS3.out.ev.cell 1 (.int .i64 e.order) rfl; have k2 := HS3.out.ev.cell 0 (.int .i64 (k : Int)) (by rw [← HKK.out]; rfl); clear hb2)
              | (go_at_call 97; refine (standing_any lo b k s a n cap _ (HD.out.keep HS3.out.bel) hk1 hk10 HN.out HS3.out.ln hm).mono ?_; rw [HST.out]; rintro _ x3 ⟨rfl, hb3⟩; have HS4 : Hid (SE w s e a n cap x3) := SE.keep HS3.out hb3; clear hb3))
            refine wp_region_quiet (C := E) (by kernel_rfl) (by kernel_rfl) (HKE.out _ HS4.out) ?_
            simp only [List.toList_toArray]
            repeat (any_goals (first
              | go_big_quiet_skip
              | (go_big_quiet_want
                 first
                 | (refine quiet_val (v := .agg (stA s (.slice a n cap))) (fun w2 hw2 => exec_load_st (.tmp 4) rfl rfl (RS.out w2 hw2)) ?_
                    go_big_quiet_on
                    simp only [Act.put, List.setIfInBounds_toArray, List.set_cons_zero, List.set_cons_succ])
                 | (refine quiet_val (v := .agg (evA e)) (fun w2 hw2 => exec_load_ev (.tmp 5) rfl rfl (RE.out w2 hw2)) ?_
                    go_big_quiet_on
                    simp only [Act.put, List.setIfInBounds_toArray, List.set_cons_zero, List.set_cons_succ])
                 | (refine quiet_val (v := ?_) (fun w2 hw2 => ?_) ?_
                    rotate_left
                    · (first | (go_simp; with_reducible rfl) | (obtain ⟨q1, q2⟩ := R.out w2 hw2; go_simp; with_reducible rfl))
                    go_big_quiet_on
                    simp only [Act.put, List.setIfInBounds_toArray, List.set_cons_zero, List.set_cons_succ])
                 | (refine quiet_call (v := ?_) (f := ?_) (args := ?_) (fun w2 hw2 => ?_) (fun w2 hw2 => ?_) ?_
                    rotate_left 3
                    · (go_simp; refine ⟨?_, ?_⟩ <;> with_reducible rfl)
                    · (skip; exact CD.out _ hw2)
                    (go_big_quiet_on; simp only [Act.put, List.setIfInBounds_toArray, List.set_cons_zero, List.set_cons_succ])))))
            all_goals
              refine wpQuiet_nil ?_
              intro w3 hw3
              go_wp2
              go_ret
              exact ⟨rfl, HBel.out _ hw3⟩
          · rw [if_pos hS0]
            have hS' : (S != 0) = true := by simpa using hS0
            have HKK : Hid (e.kind = k) := hk
            clear hd hn hl hv HS hc he hj0 hk hS hR kk1 kk2 hS0
            go_enter Tryz.func69, Tryz.ntmps69
            go_wp2_with (first
              | ((with_reducible refine guard_load 25 ?_); first | refine wpList_load_st rfl _ rfl HS3.out.st rfl ?_ | refine wpList_load_st rfl _ rfl HS1.out.st rfl ?_)
              | ((with_reducible refine guard_loadg 38 ?_); refine wpList_load_evg rfl _ rfl HS2.out.ev rfl ?_)
              | (go_at_call 12; refine (valid_st s a n cap _ HN.out HS1.out.ln hm).mono ?_; rw [HV.out]; rintro _ x1 ⟨rfl, hb1⟩; have HS2 : Hid (SE w s e a n cap x1) := SE.keep HS1.out hb1; clear hb1)
              | (go_at_call 96; refine (check_ev 5 e _).mono ?_; rw [HCK.out]; rintro _ x2 ⟨rfl, hb2⟩; have HS3 : Hid (SE w s e a n cap x2) := SE.keep HS2.out hb2; have c8 := HS3.out.st.cell 8 (.int .i64 s.events) rfl; have k0 := HS3.out.st.cell 0 (.int .i64 s.order) rfl; have k1 := HS3.out.ev.cell 1 (.int .i64 e.order) rfl; have k2 := HS3.out.ev.cell 0 (.int .i64 (k : Int)) (by rw [← HKK.out]; rfl); clear hb2)
              | (go_at_call 97; refine (standing_any lo b k s a n cap _ (HD.out.keep HS3.out.bel) hk1 hk10 HN.out HS3.out.ln hm).mono ?_; rw [HST.out]; rintro _ x3 ⟨rfl, hb3⟩; have HS4 : Hid (SE w s e a n cap x3) := SE.keep HS3.out hb3; clear hb3))
            go_ret
            exact ⟨rfl, HS4.out.bel⟩
    · rw [show judS s e = 1 from if_pos (.inr (.inl (by rw [hc]; exact c0)))]
      have hc' : (c != 0) = true := by simpa using c0
      clear hd hn hl hv HS hc c0
      go_enter Tryz.func69, Tryz.ntmps69
      go_wp2_with (first
        | ((with_reducible refine guard_load 25 ?_); refine wpList_load_st rfl _ rfl HS1.out.st rfl ?_)
        | ((with_reducible refine guard_loadg 38 ?_); refine wpList_load_evg rfl _ rfl HS2.out.ev rfl ?_)
        | (go_at_call 12; refine (valid_st s a n cap _ HN.out HS1.out.ln hm).mono ?_; rw [HV.out]; rintro _ x1 ⟨rfl, hb1⟩; have HS2 : Hid (SE w s e a n cap x1) := SE.keep HS1.out hb1; clear hb1)
        | (go_at_call 96; refine (check_ev 5 e _).mono ?_; rw [HCK.out]; rintro _ x2 ⟨rfl, hb2⟩; have HS3 : Hid (SE w s e a n cap x2) := SE.keep HS2.out hb2; clear hb2))
      go_ret
      exact ⟨rfl, HS3.out.bel⟩
end Go.Proofs.YtblfmfanfpohbaaGreat
namespace Go.Proofs.YtblfmfanfpohbaaGreat
open Go.ChangeShapes Go.WideShapes Go.ChangeAt Go.RowKit
set_option linter.unusedVariables false
set_option linter.unusedSimpArgs false
theorem StAt.cells {w : World} {b : Nat} {s : St} {v : Value} (h : StAt w b s v) : w.cell? ⟨b, 0, none⟩ = some (.int .i64 s.order) ∧ w.cell? ⟨b, 1, none⟩ = some (.int .i64 s.status) ∧ w.cell? ⟨b, 2, none⟩ = some (.int .i64 s.prior) ∧ w.cell? ⟨b, 3, none⟩ = some (.int .i64 s.cur) ∧ w.cell? ⟨b, 4, none⟩ = some (.int .i64 s.tax) ∧ w.cell? ⟨b, 5, none⟩ = some v ∧ w.cell? ⟨b, 6, none⟩ = some (.int .i64 s.paid) ∧ w.cell? ⟨b, 7, none⟩ = some (.int .i64 s.refunded) ∧ w.cell? ⟨b, 8, none⟩ = some (.int .i64 s.events) ∧ w.cell? ⟨b, 9, none⟩ = some (.int .i64 s.refused) ∧ w.cell? ⟨b, 10, none⟩ = some (.int .i64 s.stamp) ∧ w.cell? ⟨b, 11, none⟩ = some (.string s.who) :=
  ⟨h.cell 0 _ rfl, h.cell 1 _ rfl, h.cell 2 _ rfl, h.cell 3 _ rfl, h.cell 4 _ rfl, h.cell 5 _ rfl, h.cell 6 _ rfl, h.cell 7 _ rfl, h.cell 8 _ rfl, h.cell 9 _ rfl, h.cell 10 _ rfl, h.cell 11 _ rfl⟩
theorem EvAt.cells10 {w : World} {b : Nat} {e : Ev} (h : EvAt w b e) : w.cell? ⟨b, 0, none⟩ = some (.int .i64 e.kind) ∧ w.cell? ⟨b, 1, none⟩ = some (.int .i64 e.order) ∧ w.cell? ⟨b, 2, none⟩ = some (.int .i64 e.item) ∧ w.cell? ⟨b, 3, none⟩ = some (.int .i64 e.qty) ∧ w.cell? ⟨b, 4, none⟩ = some (.int .i64 e.price) ∧ w.cell? ⟨b, 5, none⟩ = some (.int .i64 e.cur) ∧ w.cell? ⟨b, 6, none⟩ = some (.int .i64 e.tax) ∧ w.cell? ⟨b, 7, none⟩ = some (.string e.who) ∧ w.cell? ⟨b, 8, none⟩ = some (.int .i64 e.stamp) ∧ w.cell? ⟨b, 9, none⟩ = some (.string e.note) :=
  ⟨h.cell 0 _ rfl, h.cell 1 _ rfl, h.cell 2 _ rfl, h.cell 3 _ rfl, h.cell 4 _ rfl, h.cell 5 _ rfl, h.cell 6 _ rfl, h.cell 7 _ rfl, h.cell 8 _ rfl, h.cell 9 _ rfl⟩
end Go.Proofs.YtblfmfanfpohbaaGreat
