/- Own texts, joined: Od9. -/
import Derived.Test.YtmjppeljpifjpaaGreatK18
import Derived.Test.YtmjppeljpifjpaaGreatK21
namespace Go.Proofs.YtmjppeljpifjpaaGreat
open Go.ChangeShapes Go.WideShapes Go.ChangeAt Go.RowKit
set_option linter.unusedVariables false
set_option linter.unusedSimpArgs false
theorem SuitsOk.congr {lo : Nat} {w : World} {v : Value} {f g : St → Bool} (h : SuitsOk lo w v f) (hfg : ∀ s, f s = g s) : SuitsOk lo w v g := by rw [← funext hfg]; exact h
theorem introw (w : World) (l : List Int) (C : Array Value) (T : TypeId) (hC : C = (l.map (Value.int .i64)).toArray) : IntRow (w.alloc (.cells C T)) w.heap.size l := by
  subst hC
  refine ⟨by simp, fun j y hy => ?_⟩
  rw [cell_of_row _ w.heap.size j _ _ (0, 0) (heap_alloc_new w _)]
  simp [hy]
/-- what events of a kind do: the function -/
def doF (k : Nat) : Nat := if k = 1 then 71 else if k = 2 then 75 else if k = 3 then 78 else if k = 4 then 81 else if k = 5 then 82 else if k = 6 then 84 else if k = 7 then 86 else if k = 8 then 87 else if k = 9 then 88 else if k = 10 then 89 else 0
/-- the table in block b -/
def DeedsAt (lo : Nat) (w : World) (b : Nat) : Prop := b < w.heap.size ∧ lo ≤ b ∧ ∀ k : Nat, 1 ≤ k → k ≤ 10 → ∃ vs vr, w.cell? ⟨b, k * 3, none⟩ = some vs ∧ w.cell? ⟨b, k * 3 + 1, none⟩ = some vr ∧ w.cell? ⟨b, k * 3 + 2, none⟩ = some (.func (Fn.func (doF k)) #[] #[]) ∧ SuitsOk lo w vs (fun s => useB s k) ∧ RefOk lo w vr k
theorem DeedsAt.same {lo : Nat} {w x : World} {b : Nat} (h : DeedsAt lo w b) (hb : Same lo w x) : DeedsAt lo x b := by
  refine ⟨Nat.lt_of_lt_of_le h.1 hb.1, h.2.1, fun k h1 h2 => ?_⟩
  obtain ⟨vs, vr, c0, c1, c2, hs, hr⟩ := h.2.2 k h1 h2
  exact ⟨vs, vr, (hb.cell _ h.2.1 h.1).trans c0, (hb.cell _ h.2.1 h.1).trans c1, (hb.cell _ h.2.1 h.1).trans c2, hs.keep hb, hr.keep hb⟩
theorem DeedsAt.keep {lo : Nat} {w x : World} {b : Nat} (h : DeedsAt lo w b) (hb : Below w.heap.size w x) : DeedsAt lo x b := h.same (same_of hb)
set_option maxRecDepth 20000 in
set_option maxHeartbeats 8000000 in
theorem deeds_any (w : World) : Calls Tryz.prog 44 #[] w fun r w' => ∃ b, r = .returned (.slice (some ⟨b, 0, none⟩) 11 11) ∧ DeedsAt w.heap.size w' b ∧ Below w.heap.size w w' := by
  have T1 : Hid True := trivial
  have T2 : Hid True := trivial
  have T3 : Hid True := trivial
  have T4 : Hid True := trivial
  have T5 : Hid True := trivial
  have T6 : Hid True := trivial
  have T7 : Hid True := trivial
  have T8 : Hid True := trivial
  have T9 : Hid True := trivial
  have T10 : Hid True := trivial
  have T11 : Hid True := trivial
  have T12 : Hid True := trivial
  have T13 : Hid True := trivial
  have T14 : Hid True := trivial
  have T15 : Hid True := trivial
  have T16 : Hid True := trivial
  have T17 : Hid True := trivial
  go_enter Tryz.func44, Tryz.ntmps44
  go_wp2_with (first
    | (go_at_call 69; clear T1; refine (at_any w.heap.size [0] _ 1 _ rfl (by decide) (introw _ [0] _ _ rfl) (by omega)).mono ?_; rintro _ x1 ⟨v1, rfl, hs1, hb1⟩; have HS1 : Hid (SuitsOk w.heap.size x1 v1 (fun s => [0].any (fun y => s.status == y))) := hs1; obtain ⟨g1, cb1, rfl, _, _⟩ := hs1; have HB1 : Hid (Below w.heap.size w x1) := below_next ((Below.refl _ _).alloc (Nat.le_refl _) _) hb1; have hz1 : w.heap.size ≤ x1.heap.size := Nat.le_trans (Nat.le_refl _) HB1.out.size; clear hb1)
    | (go_at_call 69; clear T2; refine (at_any w.heap.size [1] _ 1 _ rfl (by decide) (introw _ [1] _ _ rfl) (by omega)).mono ?_; rintro _ x2 ⟨v2, rfl, hs2, hb2⟩; have HS2 : Hid (SuitsOk w.heap.size x2 v2 (fun s => [1].any (fun y => s.status == y))) := hs2; obtain ⟨g2, cb2, rfl, _, _⟩ := hs2; have HB2 : Hid (Below x1.heap.size x1 x2) := below_next ((Below.refl _ _).alloc (Nat.le_refl _) _) hb2; have hz2 : w.heap.size ≤ x2.heap.size := Nat.le_trans hz1 HB2.out.size; clear hb2)
    | (go_at_call 72; clear T3; refine (both_any w.heap.size _ _ _ _ _ HS2.out (unpaid_suits _ _) (by omega)).mono ?_; rintro _ x3 ⟨v3, rfl, hs3, hb3⟩; have HS3 : Hid (SuitsOk w.heap.size x3 v3 (fun s => [1].any (fun y => s.status == y) && (fun s => s.paid == 0) s)) := hs3; obtain ⟨g3, cb3, rfl, _, _⟩ := hs3; have HB3 : Hid (Below x2.heap.size x2 x3) := hb3; have hz3 : w.heap.size ≤ x3.heap.size := Nat.le_trans hz2 HB3.out.size; clear hb3)
    | (go_at_call 69; clear T4; refine (at_any w.heap.size [1] _ 1 _ rfl (by decide) (introw _ [1] _ _ rfl) (by omega)).mono ?_; rintro _ x4 ⟨v4, rfl, hs4, hb4⟩; have HS4 : Hid (SuitsOk w.heap.size x4 v4 (fun s => [1].any (fun y => s.status == y))) := hs4; obtain ⟨g4, cb4, rfl, _, _⟩ := hs4; have HB4 : Hid (Below x3.heap.size x3 x4) := below_next ((Below.refl _ _).alloc (Nat.le_refl _) _) hb4; have hz4 : w.heap.size ≤ x4.heap.size := Nat.le_trans hz3 HB4.out.size; clear hb4)
    | (go_at_call 76; clear T5; refine (money_any w.heap.size _ _ _ 3 (by omega) (unpaid_left _) (fun s e hk => by unfold refR; simp only [hk]; rfl)).mono ?_; rintro _ x5 ⟨v5, rfl, hs5, hb5⟩; have HS5 : Hid (RefOk w.heap.size x5 v5 3) := hs5; obtain ⟨g5, cb5, rfl, _, _⟩ := hs5; have HB5 : Hid (Below x4.heap.size x4 x5) := hb5; have hz5 : w.heap.size ≤ x5.heap.size := Nat.le_trans hz4 HB5.out.size; clear hb5)
    | (go_at_call 69; clear T6; refine (at_any w.heap.size [3] _ 1 _ rfl (by decide) (introw _ [3] _ _ rfl) (by omega)).mono ?_; rintro _ x6 ⟨v6, rfl, hs6, hb6⟩; have HS6 : Hid (SuitsOk w.heap.size x6 v6 (fun s => [3].any (fun y => s.status == y))) := hs6; obtain ⟨g6, cb6, rfl, _, _⟩ := hs6; have HB6 : Hid (Below x5.heap.size x5 x6) := below_next ((Below.refl _ _).alloc (Nat.le_refl _) _) hb6; have hz6 : w.heap.size ≤ x6.heap.size := Nat.le_trans hz5 HB6.out.size; clear hb6)
    | (go_at_call 79; clear T7; refine (taking_any w.heap.size _ _ _ 4 (by omega) unshippedRest_line (fun s e hk => by unfold refR; simp only [hk]; rfl)).mono ?_; rintro _ x7 ⟨v7, rfl, hs7, hb7⟩; have HS7 : Hid (RefOk w.heap.size x7 v7 4) := hs7; obtain ⟨g7, cb7, rfl, _, _⟩ := hs7; have HB7 : Hid (Below x6.heap.size x6 x7) := hb7; have hz7 : w.heap.size ≤ x7.heap.size := Nat.le_trans hz6 HB7.out.size; clear hb7)
    | (go_at_call 69; clear T8; refine (at_any w.heap.size [1, 2, 3] _ 3 _ rfl (by decide) (introw _ [1, 2, 3] _ _ rfl) (by omega)).mono ?_; rintro _ x8 ⟨v8, rfl, hs8, hb8⟩; have HS8 : Hid (SuitsOk w.heap.size x8 v8 (fun s => [1, 2, 3].any (fun y => s.status == y))) := hs8; obtain ⟨g8, cb8, rfl, _, _⟩ := hs8; have HB8 : Hid (Below x7.heap.size x7 x8) := below_next ((Below.refl _ _).alloc (Nat.le_refl _) _) hb8; have hz8 : w.heap.size ≤ x8.heap.size := Nat.le_trans hz7 HB8.out.size; clear hb8)
    | (go_at_call 72; clear T9; refine (both_any w.heap.size _ _ _ _ _ HS8.out (unshipped_suits _ _) (by omega)).mono ?_; rintro _ x9 ⟨v9, rfl, hs9, hb9⟩; have HS9 : Hid (SuitsOk w.heap.size x9 v9 (fun s => [1, 2, 3].any (fun y => s.status == y) && (fun s => unshB s.lines) s)) := hs9; obtain ⟨g9, cb9, rfl, _, _⟩ := hs9; have HB9 : Hid (Below x8.heap.size x8 x9) := hb9; have hz9 : w.heap.size ≤ x9.heap.size := Nat.le_trans hz8 HB9.out.size; clear hb9)
    | (go_at_call 69; clear T10; refine (at_any w.heap.size [1] _ 1 _ rfl (by decide) (introw _ [1] _ _ rfl) (by omega)).mono ?_; rintro _ x10 ⟨v10, rfl, hs10, hb10⟩; have HS10 : Hid (SuitsOk w.heap.size x10 v10 (fun s => [1].any (fun y => s.status == y))) := hs10; obtain ⟨g10, cb10, rfl, _, _⟩ := hs10; have HB10 : Hid (Below x9.heap.size x9 x10) := below_next ((Below.refl _ _).alloc (Nat.le_refl _) _) hb10; have hz10 : w.heap.size ≤ x10.heap.size := Nat.le_trans hz9 HB10.out.size; clear hb10)
    | (go_at_call 72; clear T11; refine (both_any w.heap.size _ _ _ _ _ HS10.out (unpaid_suits _ _) (by omega)).mono ?_; rintro _ x11 ⟨v11, rfl, hs11, hb11⟩; have HS11 : Hid (SuitsOk w.heap.size x11 v11 (fun s => [1].any (fun y => s.status == y) && (fun s => s.paid == 0) s)) := hs11; obtain ⟨g11, cb11, rfl, _, _⟩ := hs11; have HB11 : Hid (Below x10.heap.size x10 x11) := hb11; have hz11 : w.heap.size ≤ x11.heap.size := Nat.le_trans hz10 HB11.out.size; clear hb11)
    | (go_at_call 79; clear T12; refine (taking_any w.heap.size _ _ _ 6 (by omega) ordered_line (fun s e hk => by unfold refR; simp only [hk]; rfl)).mono ?_; rintro _ x12 ⟨v12, rfl, hs12, hb12⟩; have HS12 : Hid (RefOk w.heap.size x12 v12 6) := hs12; obtain ⟨g12, cb12, rfl, _, _⟩ := hs12; have HB12 : Hid (Below x11.heap.size x11 x12) := hb12; have hz12 : w.heap.size ≤ x12.heap.size := Nat.le_trans hz11 HB12.out.size; clear hb12)
    | (go_at_call 69; clear T13; refine (at_any w.heap.size [3, 4, 5] _ 3 _ rfl (by decide) (introw _ [3, 4, 5] _ _ rfl) (by omega)).mono ?_; rintro _ x13 ⟨v13, rfl, hs13, hb13⟩; have HS13 : Hid (SuitsOk w.heap.size x13 v13 (fun s => [3, 4, 5].any (fun y => s.status == y))) := hs13; obtain ⟨g13, cb13, rfl, _, _⟩ := hs13; have HB13 : Hid (Below x12.heap.size x12 x13) := below_next ((Below.refl _ _).alloc (Nat.le_refl _) _) hb13; have hz13 : w.heap.size ≤ x13.heap.size := Nat.le_trans hz12 HB13.out.size; clear hb13)
    | (go_at_call 76; clear T14; refine (money_any w.heap.size _ _ _ 7 (by omega) (kept_left _) (fun s e hk => by unfold refR; simp only [hk]; rfl)).mono ?_; rintro _ x14 ⟨v14, rfl, hs14, hb14⟩; have HS14 : Hid (RefOk w.heap.size x14 v14 7) := hs14; obtain ⟨g14, cb14, rfl, _, _⟩ := hs14; have HB14 : Hid (Below x13.heap.size x13 x14) := hb14; have hz14 : w.heap.size ≤ x14.heap.size := Nat.le_trans hz13 HB14.out.size; clear hb14)
    | (go_at_call 69; clear T15; refine (at_any w.heap.size [1, 3] _ 2 _ rfl (by decide) (introw _ [1, 3] _ _ rfl) (by omega)).mono ?_; rintro _ x15 ⟨v15, rfl, hs15, hb15⟩; have HS15 : Hid (SuitsOk w.heap.size x15 v15 (fun s => [1, 3].any (fun y => s.status == y))) := hs15; obtain ⟨g15, cb15, rfl, _, _⟩ := hs15; have HB15 : Hid (Below x14.heap.size x14 x15) := below_next ((Below.refl _ _).alloc (Nat.le_refl _) _) hb15; have hz15 : w.heap.size ≤ x15.heap.size := Nat.le_trans hz14 HB15.out.size; clear hb15)
    | (go_at_call 69; clear T16; refine (at_any w.heap.size [2] _ 1 _ rfl (by decide) (introw _ [2] _ _ rfl) (by omega)).mono ?_; rintro _ x16 ⟨v16, rfl, hs16, hb16⟩; have HS16 : Hid (SuitsOk w.heap.size x16 v16 (fun s => [2].any (fun y => s.status == y))) := hs16; obtain ⟨g16, cb16, rfl, _, _⟩ := hs16; have HB16 : Hid (Below x15.heap.size x15 x16) := below_next ((Below.refl _ _).alloc (Nat.le_refl _) _) hb16; have hz16 : w.heap.size ≤ x16.heap.size := Nat.le_trans hz15 HB16.out.size; clear hb16)
    | (go_at_call 69; clear T17; refine (at_any w.heap.size [3] _ 1 _ rfl (by decide) (introw _ [3] _ _ rfl) (by omega)).mono ?_; rintro _ x17 ⟨v17, rfl, hs17, hb17⟩; have HS17 : Hid (SuitsOk w.heap.size x17 v17 (fun s => [3].any (fun y => s.status == y))) := hs17; obtain ⟨g17, cb17, rfl, _, _⟩ := hs17; have HB17 : Hid (Below x16.heap.size x16 x17) := below_next ((Below.refl _ _).alloc (Nat.le_refl _) _) hb17; have hz17 : w.heap.size ≤ x17.heap.size := Nat.le_trans hz16 HB17.out.size; clear hb17))
  go_ret
  have bF : ∀ O, Below x17.heap.size x17 (x17.alloc O) := fun O => (Below.refl _ _).alloc (Nat.le_refl _) _
  have b17 : ∀ O, Below x17.heap.size x17 (x17.alloc O) := bF
  have b16 : ∀ O, Below x16.heap.size x16 (x17.alloc O) := fun O => HB17.out.trans ((b17 O).mono HB17.out.size)
  have b15 : ∀ O, Below x15.heap.size x15 (x17.alloc O) := fun O => HB16.out.trans ((b16 O).mono HB16.out.size)
  have b14 : ∀ O, Below x14.heap.size x14 (x17.alloc O) := fun O => HB15.out.trans ((b15 O).mono HB15.out.size)
  have b13 : ∀ O, Below x13.heap.size x13 (x17.alloc O) := fun O => HB14.out.trans ((b14 O).mono HB14.out.size)
  have b12 : ∀ O, Below x12.heap.size x12 (x17.alloc O) := fun O => HB13.out.trans ((b13 O).mono HB13.out.size)
  have b11 : ∀ O, Below x11.heap.size x11 (x17.alloc O) := fun O => HB12.out.trans ((b12 O).mono HB12.out.size)
  have b10 : ∀ O, Below x10.heap.size x10 (x17.alloc O) := fun O => HB11.out.trans ((b11 O).mono HB11.out.size)
  have b9 : ∀ O, Below x9.heap.size x9 (x17.alloc O) := fun O => HB10.out.trans ((b10 O).mono HB10.out.size)
  have b8 : ∀ O, Below x8.heap.size x8 (x17.alloc O) := fun O => HB9.out.trans ((b9 O).mono HB9.out.size)
  have b7 : ∀ O, Below x7.heap.size x7 (x17.alloc O) := fun O => HB8.out.trans ((b8 O).mono HB8.out.size)
  have b6 : ∀ O, Below x6.heap.size x6 (x17.alloc O) := fun O => HB7.out.trans ((b7 O).mono HB7.out.size)
  have b5 : ∀ O, Below x5.heap.size x5 (x17.alloc O) := fun O => HB6.out.trans ((b6 O).mono HB6.out.size)
  have b4 : ∀ O, Below x4.heap.size x4 (x17.alloc O) := fun O => HB5.out.trans ((b5 O).mono HB5.out.size)
  have b3 : ∀ O, Below x3.heap.size x3 (x17.alloc O) := fun O => HB4.out.trans ((b4 O).mono HB4.out.size)
  have b2 : ∀ O, Below x2.heap.size x2 (x17.alloc O) := fun O => HB3.out.trans ((b3 O).mono HB3.out.size)
  have b1 : ∀ O, Below x1.heap.size x1 (x17.alloc O) := fun O => HB2.out.trans ((b2 O).mono HB2.out.size)
  have b0 : ∀ O, Below w.heap.size w (x17.alloc O) := fun O => HB1.out.trans ((b1 O).mono HB1.out.size)
  refine ⟨_, rfl, ⟨by simp, hz17, fun k h1 h2 => ?_⟩, b0 _⟩
  have hk : k = 1 ∨ k = 2 ∨ k = 3 ∨ k = 4 ∨ k = 5 ∨ k = 6 ∨ k = 7 ∨ k = 8 ∨ k = 9 ∨ k = 10 := by omega
  rcases hk with rfl | rfl | rfl | rfl | rfl | rfl | rfl | rfl | rfl | rfl
  · exact ⟨_, _, by simp, by simp, by simp; rfl, (HS1.out.keep (same_of (b1 _))).congr (fun s => by simp only [useB, List.any_cons, List.any_nil, Bool.or_false]; rfl), never_ref _ _ _ (by decide) (by decide) (by decide) (by decide) (by decide)⟩
  · exact ⟨_, _, by simp, by simp, by simp; rfl, (HS3.out.keep (same_of (b3 _))).congr (fun s => by simp only [useB, List.any_cons, List.any_nil, Bool.or_false]; rfl), refuseAdd_ref _ _⟩
  · exact ⟨_, _, by simp, by simp, by simp; rfl, (HS4.out.keep (same_of (b4 _))).congr (fun s => by simp only [useB, List.any_cons, List.any_nil, Bool.or_false]; rfl), HS5.out.keep (same_of (b5 _))⟩
  · exact ⟨_, _, by simp, by simp, by simp; rfl, (HS6.out.keep (same_of (b6 _))).congr (fun s => by simp only [useB, List.any_cons, List.any_nil, Bool.or_false]; rfl), HS7.out.keep (same_of (b7 _))⟩
  · exact ⟨_, _, by simp, by simp, by simp; rfl, (HS9.out.keep (same_of (b9 _))).congr (fun s => by simp only [useB, List.any_cons, List.any_nil, Bool.or_false]; rfl), never_ref _ _ _ (by decide) (by decide) (by decide) (by decide) (by decide)⟩
  · exact ⟨_, _, by simp, by simp, by simp; rfl, (HS11.out.keep (same_of (b11 _))).congr (fun s => by simp only [useB, List.any_cons, List.any_nil, Bool.or_false]; rfl), HS12.out.keep (same_of (b12 _))⟩
  · exact ⟨_, _, by simp, by simp, by simp; rfl, (HS13.out.keep (same_of (b13 _))).congr (fun s => by simp only [useB, List.any_cons, List.any_nil, Bool.or_false]; rfl), HS14.out.keep (same_of (b14 _))⟩
  · exact ⟨_, _, by simp, by simp, by simp; rfl, (HS15.out.keep (same_of (b15 _))).congr (fun s => by simp only [useB, List.any_cons, List.any_nil, Bool.or_false]; rfl), never_ref _ _ _ (by decide) (by decide) (by decide) (by decide) (by decide)⟩
  · exact ⟨_, _, by simp, by simp, by simp; rfl, (HS16.out.keep (same_of (b16 _))).congr (fun s => by simp only [useB, List.any_cons, List.any_nil, Bool.or_false]; rfl), never_ref _ _ _ (by decide) (by decide) (by decide) (by decide) (by decide)⟩
  · exact ⟨_, _, by simp, by simp, by simp; rfl, (HS17.out.keep (same_of (b17 _))).congr (fun s => by simp only [useB, List.any_cons, List.any_nil, Bool.or_false]; rfl), never_ref _ _ _ (by decide) (by decide) (by decide) (by decide) (by decide)⟩
end Go.Proofs.YtmjppeljpifjpaaGreat
