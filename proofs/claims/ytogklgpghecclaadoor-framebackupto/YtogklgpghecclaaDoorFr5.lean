/- daybooklaw11.head. -/
import Derived.Test.YtogklgpghecclaaDoorFr4
namespace Go.Proofs.YtogklgpghecclaaDoor
open Go.ChangeShapes Go.WideShapes Go.ChangeAt Go.RowKit
set_option linter.unusedVariables false
theorem dv_laid (k s : Nat) (body r : List Nat) (v : Value) (hb : ∀ y ∈ body, y < 256) (hk1 : 1 ≤ k) (hk7 : k ≤ 7) (hn : body.length ≤ 16384) (hs : s ≤ 1099511627776) :
    DV (frameL k s body ++ r) v = .tuple #[FrV (k : Int) (s : Int) v, .int .i64 ((body.length + 20 : Nat) : Int), .int .i64 0] ∧ decB (frameL k s body ++ r) = body := by
  obtain ⟨h1, h2, h3, h4, h5⟩ := dec_laid k s body r hb hk1 hk7 hn hs
  refine ⟨?_, h5⟩
  show Value.tuple #[FrV (decK _ : Nat) (decS _ : Nat) _, .int .i64 (decN _ : Nat), .int .i64 (decE _ : Nat)] = _
  rw [h1, h2, h3, h4]
  rfl
def F0 : List Nat := frameL 1 5 [0]
theorem F0_length : F0.length = 21 := frameL_length 1 5 [0]
theorem F0_at : F0.getD 17 0 = 141 := by decide +kernel
theorem F0_dec (v : Value) : DV F0 v = .tuple #[FrV 1 5 v, .int .i64 21, .int .i64 0] ∧ decB F0 = [0] := by
  have h := dv_laid 1 5 [0] [] v (by decide) (by decide) (by decide) (by decide) (by decide)
  rw [List.append_nil] at h
  exact h
set_option maxRecDepth 20000 in
set_option maxHeartbeats 400000 in
theorem head11_any (w : World) (ht : Tab w) :
    Calls Tryd.prog 9 #[] w fun e w' => e = .returned (.bool true) ∧ Below w.heap.size w w' := by
  have HY : Hid (Bytes (w.alloc (.cells #[.int .u8 0] 5)) (some ⟨w.heap.size, 0, none⟩) [0]) := bytes_lit w [0] (getD_lt (by decide))
  have HB0 : Hid (Below w.heap.size w (w.alloc (.cells #[.int .u8 0] 5))) := (Below.refl _ _).alloc (Nat.le_refl _) _
  have HT : Hid (Tab w) := ht
  clear ht
  have HE := fenc_some 1 5 [0] w.heap.size 0 1
  go_enter Tryd.func9, Tryd.ntmps9
  go_wp2_with (first
    | (go_at_call 13; refine (HE _ (by decide) (by decide) (by decide) (by decide) HY.out (HT.out.keep HB0.out)).mono ?_; rintro r w1 ⟨v1, rfl, ho1, hb1⟩; obtain ⟨g1, c1, hv1, hcap1, hby1⟩ := Own.row (l := F0) ho1 (by intro h; have := F0_length; rw [h] at this; simp at this); rw [F0_length] at hv1 hcap1; subst hv1; have d1 := (show _ = _ from (hby1.nonempty (by intro h; have := F0_length; rw [h] at this; simp at this)).elim fun b ⟨off, hx, _, hc⟩ => by cases hx; exact hc 17 (by rw [F0_length]; decide)); rw [F0_at, Nat.zero_add, show ((141 : Nat) : Int) = 141 from rfl] at d1; have HB1 : Hid (Below w.heap.size w w1) := below_next HB0.out hb1; have HY1 : Hid (Bytes w1 (some ⟨g1, 0, none⟩) F0) := hby1; have hg1 : g1 < w1.heap.size := World.block_lt_of_cell? _ _ d1; clear ho1 hby1 hb1 HE)
    | (go_at_call 18; refine (fdec_any F0 21 _ _ _ F0_length HY1.out (by rw [F0_length]; decide) (by rw [F0_length]; omega) (HT.out.keep HB1.out)).mono ?_; rintro r w2 ⟨v2, rfl, ho2, hb2⟩; rw [(F0_dec v2).1]; rw [(F0_dec v2).2] at ho2; obtain ⟨g2, c2, rfl, hcap2, hby2⟩ := ho2.row (by decide); have d2 := (hb2.cell (p := ⟨g1, 17, none⟩) hg1).trans d1; have HB2 : Hid (Below w.heap.size w w2) := below_next HB1.out hb2; have hg2 : g1 < w2.heap.size := World.block_lt_of_cell? _ _ d2; have hg3 : ¬ g1 = w2.heap.size := (by omega); clear ho2 hby2 hb2 d1))
  go_ret
  exact ⟨rfl, HB2.out.alloc HB2.out.size _⟩
end Go.Proofs.YtogklgpghecclaaDoor
