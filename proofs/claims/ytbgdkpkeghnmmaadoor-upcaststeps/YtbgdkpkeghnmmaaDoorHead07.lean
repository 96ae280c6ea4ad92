/- What daybooklaw07's head answers. -/
import Derived.Test.YtbgdkpkeghnmmaaDoorChain
namespace Go.Proofs.YtbgdkpkeghnmmaaDoor
open Go.ChangeShapes Go.WideShapes Go.ChangeAt Go.RowKit
theorem EvAt.cell {w : World} {b : Nat} {e : Ev} (h : EvAt w b e) (i : Nat) (v : Value) (hv : (evA e)[i]? = some v) : w.cell? ⟨b, i, none⟩ = some v := by
  rw [cell_of_row w b i _ _ _ h]; exact hv
theorem evAt_new (w : World) (e : Ev) : EvAt (w.alloc (.cells (evA e) 24)) w.heap.size e := by
  unfold EvAt; exact heap_alloc_new w _
theorem nilB_nil : nilB ⟨#[]⟩ = true := by
  unfold nilB ByteArray.toList ByteArray.toList.loop
  rfl
def addE : Ev := ⟨2, 7, 3, -2, 5, 0, 0, ⟨#[]⟩, 0, ⟨#[]⟩⟩
theorem add_ok : chk 1 addE = 0 := chk_of ⟨by decide, by decide, by decide, by decide, by decide, by decide, by decide, by decide, by decide, by decide, by decide, by decide, by decide, by decide, by decide, by decide, by decide, by decide, by decide, by decide, by decide, .inr rfl, .inr rfl, .inr nilB_nil, .inr ⟨rfl, nilB_nil⟩⟩
theorem add_up : evA (chainE 1 addE) = #[.int .i64 6, .int .i64 7, .int .i64 3, .int .i64 2, .int .i64 500, .int .i64 0, .int .i64 0, .string ⟨#[111, 108, 100]⟩, .int .i64 0, .string ⟨#[]⟩] := rfl
set_option maxRecDepth 20000 in
set_option maxHeartbeats 1000000 in
theorem head07_any (w : World) (ht : Tax w) :
    Calls Tryd.prog 9 #[] w fun x w' => x = .returned (.bool true) ∧ Below w.heap.size w w' := by
  have HT : Hid (Tax w) := ht
  clear ht
  go_enter Tryd.func9, Tryd.ntmps9
  go_wp2_with (go_at_call 11; refine (chain_ok 1 addE _ HT.out add_ok).mono ?_; rw [add_up]; rintro _ w8 ⟨rfl, hb8⟩; have HB8 : Hid (Below w.heap.size w w8) := hb8; clear hb8)
  go_ret
  refine ⟨?_, HB8.out.alloc HB8.out.size _⟩
  first | rfl | (simp; done)
end Go.Proofs.YtbgdkpkeghnmmaaDoor
