/- What schema.find answers. -/
import Derived.Test.YtbgdkpkeghnmmaaPlain
namespace Go.Proofs.Ytbgdkpkeghnmmaa
open Go.ChangeShapes Go.WideShapes Go.ChangeAt Go.RowKit
/-- the value of a version: no field but noughts -/
def verV : Int → Value
  | 1 => .iface 26 (.agg #[.int .i64 0, .int .i64 0, .int .i64 0, .int .i64 0, .int .i64 0])
  | 2 => .iface 28 (.agg #[.int .i64 0, .int .i64 0, .int .i64 0, .int .i64 0, .int .i64 0, .int .i64 0])
  | 3 => .iface 30 (.agg #[.int .i64 0, .int .i64 0, .int .i64 0, .int .i64 0, .int .i64 0, .int .i64 0, .int .i64 0])
  | 4 => .iface 32 (.agg #[.int .i64 0, .int .i64 0, .int .i64 0, .int .i64 0, .int .i64 0, .int .i64 0, .int .i64 0, .string ⟨#[]⟩])
  | _ => .iface 34 (.agg #[.int .i64 0, .int .i64 0, .int .i64 0, .int .i64 0, .int .i64 0, .int .i64 0, .int .i64 0, .string ⟨#[]⟩, .int .i64 0, .string ⟨#[]⟩])
set_option maxRecDepth 20000 in
theorem find_no (v : Int) (w : World) (h : v < 1 ∨ 5 < v) :
    Calls Try.prog 16 #[.int .i64 v] w fun e w' => e = .returned (.tuple #[.nilIface, .bool false]) ∧ w = w' := by
  have h1 : (v == 1) = false := by simp; omega
  have h2 : (v == 2) = false := by simp; omega
  have h3 : (v == 3) = false := by simp; omega
  have h4 : (v == 4) = false := by simp; omega
  have h5 : (v == 5) = false := by simp; omega
  clear h
  go_enter Try.func16, Try.ntmps16
  go_wp2
  go_ret2
  exact ⟨rfl, rfl⟩
set_option maxRecDepth 20000 in
theorem find_yes (v : Int) (w : World) (h1 : 1 ≤ v) (h2 : v ≤ 5) :
    Calls Try.prog 16 #[.int .i64 v] w fun e w' => e = .returned (.tuple #[verV v, .bool true]) ∧ w = w' := by
  have h : v = 1 ∨ v = 2 ∨ v = 3 ∨ v = 4 ∨ v = 5 := by omega
  clear h1 h2
  rcases h with rfl | rfl | rfl | rfl | rfl
  all_goals
    go_enter Try.func16, Try.ntmps16
    go_wp2
    go_ret2
    exact ⟨rfl, rfl⟩
end Go.Proofs.Ytbgdkpkeghnmmaa
