/- Own texts, joined: Cpn, Cnc. -/
import Derived.Test.YtdmncbeloenihaaGreatC03
import Derived.Test.YtdmncbeloenihaaGreatK00
import Derived.Test.YtdmncbeloenihaaGreatK10
import Derived.Test.YtdmncbeloenihaaGreatC10
import Derived.Test.YtdmncbeloenihaaGreatK38
namespace Go.Proofs.YtdmncbeloenihaaGreat
open Go.ChangeShapes Go.WideShapes Go.ChangeAt Go.RowKit
set_option linter.unusedVariables false
theorem bel_drewN {B : Nat} {a w : World} (h : Below B a w) (n : Nat) : Below B a (w.drewN n) := by
  induction n with
  | zero => exact h
  | succ n ih => exact ih.drew
theorem same_yes (l : List Nat) (n1 n2 : Nat) (a1 a2 : Option Addr) (c1 c2 : Nat) (w : World) (e1 : l.length = n1) (e2 : l.length = n2) (hb1 : Bytes w a1 l) (hb2 : Bytes w a2 l) (hl : n1 ≤ maxLen) :
    Calls Tryz.prog 10 #[.slice a1 n1 c1, .slice a2 n2 c2] w fun e w' => e = .returned (.bool true) ∧ Below w.heap.size w w' := by
  refine (same_at l l n1 n2 a1 a2 c1 c2 w e1 e2 hb1 hb2 (by rw [e1]; exact hl) (by rw [e1]; exact hl)).mono ?_
  rw [decide_eq_true rfl]
  rintro e w' ⟨rfl, m, rfl⟩
  exact ⟨rfl, bel_drewN (Below.refl _ _) m⟩
theorem same_no (l m : List Nat) (n1 n2 : Nat) (a1 a2 : Option Addr) (c1 c2 : Nat) (w : World) (hne : l ≠ m) (e1 : l.length = n1) (e2 : m.length = n2) (hb1 : Bytes w a1 l) (hb2 : Bytes w a2 m) (hl : n1 ≤ maxLen) (hm : n2 ≤ maxLen) :
    Calls Tryz.prog 10 #[.slice a1 n1 c1, .slice a2 n2 c2] w fun e w' => e = .returned (.bool false) ∧ Below w.heap.size w w' := by
  refine (same_at l m n1 n2 a1 a2 c1 c2 w e1 e2 hb1 hb2 (by rw [e1]; exact hl) (by rw [e2]; exact hm)).mono ?_
  rw [decide_eq_false hne]
  rintro e w' ⟨rfl, m, rfl⟩
  exact ⟨rfl, bel_drewN (Below.refl _ _) m⟩
end Go.Proofs.YtdmncbeloenihaaGreat
namespace Go.Proofs.YtdmncbeloenihaaGreat
open Go.ChangeShapes Go.WideShapes Go.ChangeAt Go.RowKit
set_option linter.unusedVariables false
def sevS : St := ⟨7, 0, 0, 0, 0, [], 0, 0, 0, 0, 0, ⟨#[]⟩⟩
theorem nilB_e : nilB ⟨#[]⟩ = true := (nilB_iff _).2 nums8_nil
theorem who_ok : chk 5 (whoE ⟨#[]⟩) = 0 := chk_of ⟨by decide, by decide, by decide, by decide, by decide, by decide, by decide, by decide, by decide, by decide, by decide, by decide, by decide, by decide, by decide, by decide, by decide, by decide, by decide, by decide, by decide, .inr rfl, .inr rfl, .inr nilB_e, .inr ⟨rfl, nilB_e⟩⟩
theorem sev_ok : vldB sevS = true := by
  have h1 : whoB sevS.who = true := by show (chk 5 (whoE ⟨#[]⟩) == 0) = true; rw [who_ok]; rfl
  have h2 : bndS sevS = true := by
    unfold bndS
    rw [h1]
    rfl
  have h3 : fitsB sevS = true := by
    have h4 : (sevS.who.toList == []) = true := toList_nil.2 rfl
    unfold fitsB
    rw [if_pos (show standS sevS = 0 from rfl)]
    unfold untB
    rw [h4]
    rfl
  unfold vldB
  rw [h2, h3]
  rfl
theorem sev_ones : ones (sfs sevS) = [2, 7] := by rfl
theorem sev_enc : cenc sevS = ([2, 7], 0) := by unfold cenc; rw [if_pos sev_ok, sev_ones]
theorem sev_dec : cdec [2, 7] = (sevS, 0) := by have h := cdec_back sev_ok; rw [sev_ones] at h; exact h
set_option maxRecDepth 20000 in
set_option maxHeartbeats 2000000 in
theorem head09_any (w : World) : Calls Tryz.prog 4 #[] w fun r w' => r = .returned (.bool true) ∧ Below w.heap.size w w' := by
  have T1 : Hid True := trivial
  go_enter Tryz.func4, Tryz.ntmps4
  go_wp2_with (first
    | (go_at_call 7; refine (cenc_any sevS none 0 0 _ rfl (.inl rfl) (by decide)).mono ?_; unfold CencPost; rw [sev_enc]; rintro _ x1 ⟨v1, rfl, ho1, hb1⟩; obtain ⟨a1, c1, hv1, _, _, hy1, _⟩ := ho1.shape; subst hv1; have HB1 : Hid (Below w.heap.size w x1) := hb1; have HY1 : Hid (Bytes x1 a1 [2, 7]) := hy1; clear ho1 hb1 hy1)
    | (go_at_call 8; refine (cdec_any [2, 7] (some ⟨x1.heap.size, 0, none⟩) 2 2 _ rfl (bytes_lit x1 [2, 7] (lt_getDC (by decide))) (by decide) (by decide)).mono ?_; unfold CdecPost; rw [sev_dec]; rintro _ x2 ⟨v2, rfl, ho2, hb2⟩; obtain ⟨a2, c2, hv2, _, _, hl2, _⟩ := ho2.shape; subst hv2; have hbx : Below x1.heap.size x1 x2 := below_next ((Below.refl x1.heap.size x1).alloc (Nat.le_refl _) _) hb2; have HB2 : Hid (Below w.heap.size w x2) := below_next HB1.out hbx; have HY2 : Hid (Bytes x2 a1 [2, 7]) := HY1.out.keep hbx; have HL2 : Hid (Lns x2 a2 []) := hl2; clear ho2 hb2 hbx hl2)
    | ((with_reducible refine guard_store 27 ?_); clear T1; refine wpList_store_st (s := zeroS) (s2 := sevS) (a2 := a2) (n2 := 0) (c2 := c2) rfl _ _ rfl (StAt.new x2 zeroS (.slice none 0 0)) rfl rfl ?_; intro x3 z1 z2 z3 z4; have hu := (z2 _ _ ((Below.refl x2.heap.size x2).alloc (Nat.le_refl _) _) (Nat.le_refl _)); have HB3 : Hid (Below w.heap.size w x3) := below_next HB2.out hu; have HY3 : Hid (Bytes x3 a1 [2, 7]) := HY2.out.keep hu; have HL3 : Hid (Lns x3 a2 []) := HL2.out.keep hu; have HS3 : Hid (StAt x3 x2.heap.size sevS (.slice a2 0 c2)) := z1; clear z1 z2 z3 z4 hu)
    | (go_at_call 10; refine (same_yes [2, 7] 2 2 a1 (some ⟨x3.heap.size, 0, none⟩) c1 2 _ rfl rfl (HY3.out.keep ((Below.refl x3.heap.size x3).alloc (Nat.le_refl _) _)) (bytes_lit x3 [2, 7] (lt_getDC (by decide))) (by decide)).mono ?_; rintro _ x4 ⟨rfl, hb4⟩; have hbx : Below x3.heap.size x3 x4 := below_next ((Below.refl x3.heap.size x3).alloc (Nat.le_refl _) _) hb4; have HB4 : Hid (Below w.heap.size w x4) := below_next HB3.out hbx; have hs4 := HS3.out.after hbx; have HS4 : Hid (StAt x4 x2.heap.size sevS (.slice a2 0 c2)) := hs4; have HL4 : Hid (Lns x4 a2 []) := HL3.out.keep hbx; have k0 : x4.cell? ⟨x2.heap.size, 0, none⟩ = some (.int .i64 7) := hs4.cell 0 _ rfl; clear hb4 hbx hs4)
    | ((with_reducible refine guard_loadg 27 ?_); refine wpList_load_stg rfl _ rfl HS4.out rfl ?_)
    | (go_at_call 11; refine (csize_any sevS a2 0 c2 _ rfl HL4.out (by decide)).mono ?_; rw [sev_enc]; rintro _ x5 ⟨rfl, hb5⟩; have HB5 : Hid (Below w.heap.size w x5) := below_next HB4.out hb5; clear hb5))
  go_ret
  exact ⟨rfl, HB5.out⟩
end Go.Proofs.YtdmncbeloenihaaGreat
