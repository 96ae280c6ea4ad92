/- Own texts, joined: Own, ChkD. -/
import Derived.Test.YtldbdhhbmnbmaaaGreatK00
import Derived.Test.YtldbdhhbmnbmaaaGreatK01
import Derived.Test.YtldbdhhbmnbmaaaGreatK03
namespace Go.Proofs.YtldbdhhbmnbmaaaGreat
open Go.ChangeShapes Go.WideShapes Go.ChangeAt Go.RowKit
def nilB (s : ByteArray) : Bool := s.toList.isEmpty
def ownB (v c t : Int) (wh : ByteArray) (s : Int) (n : ByteArray) : Bool := (decide (1 < v) || c == 0) && ((decide (2 < v) || t == 0) && ((decide (3 < v) || nilB wh) && (decide (4 < v) || (s == 0 && nilB n))))
set_option maxRecDepth 20000 in
set_option maxHeartbeats 1000000 in
theorem own_any (v k o i q p c t : Int) (wh : ByteArray) (s : Int) (n : ByteArray) (w : World) (h1 : 1 ≤ v) (h5 : v ≤ 5) :
    Calls Tryz.prog 100 #[.int .i64 v, .agg #[.int .i64 k, .int .i64 o, .int .i64 i, .int .i64 q, .int .i64 p, .int .i64 c, .int .i64 t, .string wh, .int .i64 s, .string n]] w fun e w' => e = .returned (.bool (ownB v c t wh s n)) ∧ Below w.heap.size w w' := by
  have h : v = 1 ∨ v = 2 ∨ v = 3 ∨ v = 4 ∨ v = 5 := by omega
  clear h1 h5
  rcases h with rfl | rfl | rfl | rfl | rfl
  all_goals
    go_enter Tryz.func100, Tryz.ntmps100
    go_wp2
    all_goals
      go_ret
      refine ⟨ret_bool ?_, (Below.refl _ _).alloc (Nat.le_refl _) _⟩
      simp [ownB, nilB, *]
end Go.Proofs.YtldbdhhbmnbmaaaGreat
namespace Go.Proofs.YtldbdhhbmnbmaaaGreat
open Go.RowKit
def chkV (v l m last k o i q p c t : Int) (wh : ByteArray) (s : Int) (n : ByteArray) : Int :=
  if k < 1 ∨ last < k then 31 else if 16 < wh.size ∨ 120 < n.size then 24 else if bnd l m o i q p c t wh s = true ∧ ownB v c t wh s n = true then 0 else 32
end Go.Proofs.YtldbdhhbmnbmaaaGreat
