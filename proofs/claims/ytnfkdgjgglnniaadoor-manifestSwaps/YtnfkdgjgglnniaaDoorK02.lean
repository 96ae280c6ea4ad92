/- Own texts, joined: Four. -/
import Derived.Test.YtnfkdgjgglnniaaDoorK01
namespace Go.Proofs.YtnfkdgjgglnniaaDoor
open Go.ChangeShapes Go.WideShapes Go.ChangeAt Go.RowKit
def V4 (s : Nat) : Array Value := #[.int .u8 ((s : Int) % 256), .int .u8 ((s : Int) / 256 % 256), .int .u8 ((s : Int) / 65536 % 256), .int .u8 ((s : Int) / 16777216)]
theorem V4_four (s : Nat) : V4 s = (B8 (Crcm.four s)).toArray := by
  unfold V4 B8 Crcm.four
  simp
theorem four_byte (s : Nat) (hs : s < 4294967296) (i : Nat) : (Crcm.four s).getD i 0 < 256 := getD_lt (Crcm.four_lt s hs) i
theorem bytes_any (w : World) (l : List Nat) (e : TypeId) (h : ∀ i, l.getD i 0 < 256) : Bytes (w.alloc (.cells (B8 l).toArray e)) (some ⟨w.heap.size, 0, none⟩) l := by
  refine ⟨h, .inr ⟨w.heap.size, 0, rfl, by simp, fun i hi => ?_⟩⟩
  rw [Nat.zero_add]
  have hc := cell_of_row (w.alloc (.cells (B8 l).toArray e)) w.heap.size i (B8 l).toArray e (0, 0) (heap_alloc_new w _)
  rw [hc]
  simpa using B8_get l i hi
set_option maxRecDepth 20000 in
set_option maxHeartbeats 400000 in
theorem laid_any (s : Nat) (w : World) (hs : s < 4294967296) :
    Calls Tryd.prog 60 #[.int .u32 s] w fun e w' => e = .returned (.agg #[.int .u8 ((s : Int) % 256), .int .u8 ((s : Int) / 256 % 256), .int .u8 ((s : Int) / 65536 % 256), .int .u8 ((s : Int) / 16777216)]) ∧ Below w.heap.size w w' := by
  go_enter Tryd.func60, Tryd.ntmps60
  go_wp2
  exact bodyPost_ret (v := .agg #[.int .u8 ((s : Int) % 256), .int .u8 ((s : Int) / 256 % 256), .int .u8 ((s : Int) / 65536 % 256), .int .u8 ((s : Int) / 16777216)]) (by simp [results, Tryd.results60, go_sem]) rfl ⟨rfl, (Below.refl _ _).alloc (Nat.le_refl _) _⟩
set_option maxRecDepth 20000 in
set_option maxHeartbeats 400000 in
theorem four_any (s : Nat) (w : World) (hs : s < 4294967296) :
    Calls Tryd.prog 49 #[.int .u32 s] w fun e w' => ∃ g, e = .returned (.slice (some ⟨g, 0, none⟩) 4 4) ∧ Bytes w' (some ⟨g, 0, none⟩) (Crcm.four s) ∧ Below w.heap.size w w' := by
  go_enter Tryd.func49, Tryd.ntmps49
  go_wp2_with (go_at_call 60; refine (laid_any s _ hs).mono ?_; rintro e w1 ⟨rfl, hb1⟩)
  go_ret
  refine ⟨w1.heap.size, rfl, ?_, hb1.alloc hb1.size _⟩
  have h := bytes_any w1 (Crcm.four s) 103 (four_byte s hs)
  rw [← V4_four] at h
  exact h
end Go.Proofs.YtnfkdgjgglnniaaDoor
