/- Own texts, joined: Tlu. -/
import Derived.Test.YtbdgiecnhgiogaaK04
import Derived.Deep.RegionHeld3
namespace Go.Proofs.Ytbdgiecnhgiogaa
open Go.ChangeShapes Go.WideShapes Go.ChangeAt Go.RowKit
set_option linter.unusedVariables false
set_option maxRecDepth 20000 in
set_option maxHeartbeats 1000000 in
theorem text_ok (l : List Nat) (b off n cap i u c : Nat) (w : World) (hc : CurAt w c (some ⟨b, off, none⟩) n cap i) (hn : l.length = n) (hb : Bytes w (some ⟨b, off, none⟩) l) (hcap : n ≤ cap) (hu : ¬ 200 < u) (hu0 : 0 < u) (hl : n ≤ 1024) (hs : i + u ≤ n) :
    Calls Try.prog 50 #[.pointer (some ⟨c, 0, none⟩), .int .u64 (u : Int)] w fun r w' => ∃ v, r = .returned v ∧ Own w' w.heap.size v ((l.drop i).take u) ∧ CurAt w' c (some ⟨b, off, none⟩) n cap (i + u) ∧ Kept c c w w' := by
  obtain ⟨h0, h1, h2⟩ := hc.cells
  have HC : Hid (CurAt w c (some ⟨b, off, none⟩) n cap i) := hc
  have HBq : Hid (Bytes w (some ⟨b, off + i, none⟩) ((l.drop i).take u)) := (hb.drop i).take u
  have HL2 : Hid (((l.drop i).take u).length = u) := by show _ = _; rw [List.length_take, List.length_drop, hn]; omega
  obtain ⟨E, hE⟩ : ∃ E : Nat, i + u = E := ⟨_, rfl⟩
  have hEI : (i : Int) + (u : Int) = (E : Int) := by omega
  have hiE : (i : Int) ≤ (E : Int) := by omega
  have hEn : (E : Int) ≤ (n : Int) := by omega
  have hEc : (E : Int) ≤ (cap : Int) := by omega
  have hEk : (E : Int) ≤ 1024 := by omega
  have hi0 : (0 : Int) ≤ (i : Int) := by omega
  have HEu : Hid (E - i = u) := by show _ = _; omega
  have HLE : Hid (((l.drop i).take u).length = E - i) := by show _ = _; rw [HL2.out]; omega
  have hEi : 0 < E - i := by omega
  have hEi2 : E - i ≤ 140737488355328 := by omega
  have hci : ¬ cap = i := by omega
  rw [hE]
  clear hc hb hn hE
  go_enter Try.func50, Try.ntmps50
  go_wp2
  go_region_held3 (fun w' => w'.cell? ⟨c, 0, none⟩ = some (.slice (some ⟨b, off, none⟩) n cap) ∧ w'.cell? ⟨c, 1, none⟩ = some (.int .i64 (i : Int))) (go_keep) ((go_at_call 43; refine (clone_any _ _ _ _ _ _ HLE.out hEi (HBq.out.drewN 1) hEi2).mono ?_; rintro r w1 ⟨v, rfl, ho, hb1⟩; have hcu := (HC.out.drewN 1).keep hb1; obtain ⟨g0, g1, g2⟩ := hcu.cells; have HO : Hid (Own w1 w.heap.size v ((l.drop i).take u)) := ho; have HB1 : Hid (Below w.heap.size (w.drewN 1) w1) := hb1; have HC1 : Hid (CurAt w1 c (some ⟨b, off, none⟩) n cap i) := hcu; clear ho hb1 hcu))
  go_wp2
  go_ret
  refine ⟨v, rfl, ⟨HO.out.1, ownsRow_setCell_below HO.out.2 (a := ⟨c, 1, none⟩) (show c < w.heap.size from lt_of_heap (show w.heap[c]? = _ from HC.out)) _⟩, HC1.out.to E, ?_⟩
  have hkp : Kept c c w w1 := ⟨HB1.out.os, HB1.out.tape, HB1.out.output, HB1.out.size, fun k hk _ _ => HB1.out.block k hk⟩
  exact hkp.set 1 _
end Go.Proofs.Ytbdgiecnhgiogaa
