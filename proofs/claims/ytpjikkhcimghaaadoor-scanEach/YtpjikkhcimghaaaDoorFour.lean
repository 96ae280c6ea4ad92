/- What crc.laid, crc.Four and the reference's Four answer. -/
import Derived.Test.YtpjikkhcimghaaaDoorCrc
namespace Go.Proofs.YtpjikkhcimghaaaDoor
open Go.ChangeShapes Go.WideShapes Go.ChangeAt Go.RowKit
def V4 (s : Nat) : Array Value := #[.int .u8 ((s : Int) % 256), .int .u8 ((s : Int) / 256 % 256), .int .u8 ((s : Int) / 65536 % 256), .int .u8 ((s : Int) / 16777216)]
theorem V4_four (s : Nat) : V4 s = (B8 (Crcm.four s)).toArray := by
  unfold V4 B8 Crcm.four
  simp
theorem four_byte (s : Nat) (hs : s < 4294967296) (i : Nat) : (Crcm.four s).getD i 0 < 256 := getD_lt (Crcm.four_lt s hs) i
theorem bytes_any (w : World) (l : List Nat) (e : TypeId) (h : ∀ i, l.getD i 0 < 256) : Bytes (w.alloc (.cells (B8 l).toArray e)) (some ⟨w.heap.size, 0, none⟩) l := by
  refine ⟨h, .inr ⟨w.heap.size, 0, rfl, by simp, fun i hi => ?_⟩⟩
  rw [Nat.zero_add]
  have hc := cell_of_row (w.alloc (.cells (B8 l).toArray e)) w.heap.size i (B8 l).toArray e (0, 0) (heap_alloc_new w _)
  rw [hc]
  simpa using B8_get l i hi
set_option maxRecDepth 20000 in
set_option maxHeartbeats 400000 in
theorem laid_any (s : Nat) (w : World) (hs : s < 4294967296) :
    Calls Tryd.prog 28 #[.int .u32 s] w fun e w' => e = .returned (.agg #[.int .u8 ((s : Int) % 256), .int .u8 ((s : Int) / 256 % 256), .int .u8 ((s : Int) / 65536 % 256), .int .u8 ((s : Int) / 16777216)]) ∧ Below w.heap.size w w' := by
  go_enter Tryd.func28, Tryd.ntmps28
  go_wp2
  exact bodyPost_ret (v := .agg #[.int .u8 ((s : Int) % 256), .int .u8 ((s : Int) / 256 % 256), .int .u8 ((s : Int) / 65536 % 256), .int .u8 ((s : Int) / 16777216)]) (by simp [results, Tryd.results28, go_sem]) rfl ⟨rfl, (Below.refl _ _).alloc (Nat.le_refl _) _⟩
set_option maxRecDepth 20000 in
set_option maxHeartbeats 400000 in
theorem rfour_any (s : Nat) (w : World) (hs : s < 4294967296) :
    Calls Tryd.prog 19 #[.int .u32 s] w fun e w' => ∃ g, e = .returned (.slice (some ⟨g, 0, none⟩) 4 4) ∧ Bytes w' (some ⟨g, 0, none⟩) (Crcm.four s) ∧ Below w.heap.size w w' := by
  have HB : Hid (Bytes (w.alloc (.cells (V4 s) 5)) (some ⟨w.heap.size, 0, none⟩) (Crcm.four s)) := by
    have h := bytes_any w (Crcm.four s) 5 (four_byte s hs)
    rw [← V4_four] at h
    exact h
  go_enter Tryd.func19, Tryd.ntmps19
  go_wp2
  go_ret
  exact ⟨w.heap.size, rfl, HB.out, (Below.refl _ _).alloc (Nat.le_refl _) _⟩
end Go.Proofs.YtpjikkhcimghaaaDoor
