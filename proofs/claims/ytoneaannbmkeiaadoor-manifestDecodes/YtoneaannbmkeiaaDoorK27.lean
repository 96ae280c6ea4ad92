/- Own texts, joined: Rm1. -/
import Derived.Test.YtoneaannbmkeiaaDoorK09
namespace Go.Proofs.YtoneaannbmkeiaaDoor
open Go.ChangeShapes Go.WideShapes Go.ChangeAt Go.RowKit
set_option linter.unusedVariables false
set_option maxRecDepth 20000 in
set_option maxHeartbeats 2000000 in
theorem rmv_no0 (g nx fl sn sq : Int) (a : Option Addr) (n cap : Nat) (w : World)  (h0 : g < 1) : Calls Tryd.prog 18 #[.agg #[.int .i64 g, .int .i64 nx, .int .i64 fl, .int .i64 sn, .int .i64 sq, .slice a n cap]] w fun e w' => e = .returned (.bool false) ∧ Below w.heap.size w w' := by
  go_enter Tryd.func18, Tryd.ntmps18
  go_wp2
  go_ret
  exact ⟨rfl, (Below.refl _ _).alloc (Nat.le_refl _) _⟩
set_option maxRecDepth 20000 in
set_option maxHeartbeats 2000000 in
theorem rmv_no1 (g nx fl sn sq : Int) (a : Option Addr) (n cap : Nat) (w : World) (h0 : 1 ≤ g) (h1 : 1099511627776 < g) : Calls Tryd.prog 18 #[.agg #[.int .i64 g, .int .i64 nx, .int .i64 fl, .int .i64 sn, .int .i64 sq, .slice a n cap]] w fun e w' => e = .returned (.bool false) ∧ Below w.heap.size w w' := by
  go_enter Tryd.func18, Tryd.ntmps18
  go_wp2
  go_ret
  exact ⟨rfl, (Below.refl _ _).alloc (Nat.le_refl _) _⟩
set_option maxRecDepth 20000 in
set_option maxHeartbeats 2000000 in
theorem rmv_no2 (g nx fl sn sq : Int) (a : Option Addr) (n cap : Nat) (w : World) (h0 : 1 ≤ g) (h1 : g ≤ 1099511627776) (h2 : nx < 2) : Calls Tryd.prog 18 #[.agg #[.int .i64 g, .int .i64 nx, .int .i64 fl, .int .i64 sn, .int .i64 sq, .slice a n cap]] w fun e w' => e = .returned (.bool false) ∧ Below w.heap.size w w' := by
  go_enter Tryd.func18, Tryd.ntmps18
  go_wp2
  go_ret
  exact ⟨rfl, (Below.refl _ _).alloc (Nat.le_refl _) _⟩
set_option maxRecDepth 20000 in
set_option maxHeartbeats 2000000 in
theorem rmv_no3 (g nx fl sn sq : Int) (a : Option Addr) (n cap : Nat) (w : World) (h0 : 1 ≤ g) (h1 : g ≤ 1099511627776) (h2 : 2 ≤ nx) (h3 : 1000000 < nx) : Calls Tryd.prog 18 #[.agg #[.int .i64 g, .int .i64 nx, .int .i64 fl, .int .i64 sn, .int .i64 sq, .slice a n cap]] w fun e w' => e = .returned (.bool false) ∧ Below w.heap.size w w' := by
  go_enter Tryd.func18, Tryd.ntmps18
  go_wp2
  go_ret
  exact ⟨rfl, (Below.refl _ _).alloc (Nat.le_refl _) _⟩
set_option maxRecDepth 20000 in
set_option maxHeartbeats 2000000 in
theorem rmv_no4 (g nx fl sn sq : Int) (a : Option Addr) (n cap : Nat) (w : World) (h0 : 1 ≤ g) (h1 : g ≤ 1099511627776) (h2 : 2 ≤ nx) (h3 : nx ≤ 1000000) (h4 : sq < 0) : Calls Tryd.prog 18 #[.agg #[.int .i64 g, .int .i64 nx, .int .i64 fl, .int .i64 sn, .int .i64 sq, .slice a n cap]] w fun e w' => e = .returned (.bool false) ∧ Below w.heap.size w w' := by
  go_enter Tryd.func18, Tryd.ntmps18
  go_wp2
  go_ret
  exact ⟨rfl, (Below.refl _ _).alloc (Nat.le_refl _) _⟩
set_option maxRecDepth 20000 in
set_option maxHeartbeats 2000000 in
theorem rmv_no5 (g nx fl sn sq : Int) (a : Option Addr) (n cap : Nat) (w : World) (h0 : 1 ≤ g) (h1 : g ≤ 1099511627776) (h2 : 2 ≤ nx) (h3 : nx ≤ 1000000) (h4 : 0 ≤ sq) (h5 : 1099511627776 < sq) : Calls Tryd.prog 18 #[.agg #[.int .i64 g, .int .i64 nx, .int .i64 fl, .int .i64 sn, .int .i64 sq, .slice a n cap]] w fun e w' => e = .returned (.bool false) ∧ Below w.heap.size w w' := by
  go_enter Tryd.func18, Tryd.ntmps18
  go_wp2
  go_ret
  exact ⟨rfl, (Below.refl _ _).alloc (Nat.le_refl _) _⟩
set_option maxRecDepth 20000 in
set_option maxHeartbeats 2000000 in
theorem rmv_no6 (g nx fl sn sq : Int) (a : Option Addr) (n cap : Nat) (w : World) (h0 : 1 ≤ g) (h1 : g ≤ 1099511627776) (h2 : 2 ≤ nx) (h3 : nx ≤ 1000000) (h4 : 0 ≤ sq) (h5 : sq ≤ 1099511627776) (h6 : fl < 0) : Calls Tryd.prog 18 #[.agg #[.int .i64 g, .int .i64 nx, .int .i64 fl, .int .i64 sn, .int .i64 sq, .slice a n cap]] w fun e w' => e = .returned (.bool false) ∧ Below w.heap.size w w' := by
  go_enter Tryd.func18, Tryd.ntmps18
  go_wp2
  go_ret
  exact ⟨rfl, (Below.refl _ _).alloc (Nat.le_refl _) _⟩
set_option maxRecDepth 20000 in
set_option maxHeartbeats 2000000 in
theorem rmv_no7 (g nx fl sn sq : Int) (a : Option Addr) (n cap : Nat) (w : World) (h0 : 1 ≤ g) (h1 : g ≤ 1099511627776) (h2 : 2 ≤ nx) (h3 : nx ≤ 1000000) (h4 : 0 ≤ sq) (h5 : sq ≤ 1099511627776) (h6 : 0 ≤ fl) (h7 : sq < fl) : Calls Tryd.prog 18 #[.agg #[.int .i64 g, .int .i64 nx, .int .i64 fl, .int .i64 sn, .int .i64 sq, .slice a n cap]] w fun e w' => e = .returned (.bool false) ∧ Below w.heap.size w w' := by
  go_enter Tryd.func18, Tryd.ntmps18
  go_wp2
  go_ret
  exact ⟨rfl, (Below.refl _ _).alloc (Nat.le_refl _) _⟩
set_option maxRecDepth 20000 in
set_option maxHeartbeats 2000000 in
theorem rmv_no8 (g nx fl sn sq : Int) (a : Option Addr) (n cap : Nat) (w : World) (h0 : 1 ≤ g) (h1 : g ≤ 1099511627776) (h2 : 2 ≤ nx) (h3 : nx ≤ 1000000) (h4 : 0 ≤ sq) (h5 : sq ≤ 1099511627776) (h6 : 0 ≤ fl) (h7 : fl ≤ sq) (h8 : sn < 0) : Calls Tryd.prog 18 #[.agg #[.int .i64 g, .int .i64 nx, .int .i64 fl, .int .i64 sn, .int .i64 sq, .slice a n cap]] w fun e w' => e = .returned (.bool false) ∧ Below w.heap.size w w' := by
  go_enter Tryd.func18, Tryd.ntmps18
  go_wp2
  go_ret
  exact ⟨rfl, (Below.refl _ _).alloc (Nat.le_refl _) _⟩
set_option maxRecDepth 20000 in
set_option maxHeartbeats 2000000 in
theorem rmv_no9 (g nx fl sn sq : Int) (a : Option Addr) (n cap : Nat) (w : World) (h0 : 1 ≤ g) (h1 : g ≤ 1099511627776) (h2 : 2 ≤ nx) (h3 : nx ≤ 1000000) (h4 : 0 ≤ sq) (h5 : sq ≤ 1099511627776) (h6 : 0 ≤ fl) (h7 : fl ≤ sq) (h8 : 0 ≤ sn) (h9 : nx ≤ sn) : Calls Tryd.prog 18 #[.agg #[.int .i64 g, .int .i64 nx, .int .i64 fl, .int .i64 sn, .int .i64 sq, .slice a n cap]] w fun e w' => e = .returned (.bool false) ∧ Below w.heap.size w w' := by
  go_enter Tryd.func18, Tryd.ntmps18
  go_wp2
  go_ret
  exact ⟨rfl, (Below.refl _ _).alloc (Nat.le_refl _) _⟩
set_option maxRecDepth 20000 in
set_option maxHeartbeats 2000000 in
theorem rmv_no10 (g nx fl sn sq : Int) (a : Option Addr) (n cap : Nat) (w : World) (h0 : 1 ≤ g) (h1 : g ≤ 1099511627776) (h2 : 2 ≤ nx) (h3 : nx ≤ 1000000) (h4 : 0 ≤ sq) (h5 : sq ≤ 1099511627776) (h6 : 0 ≤ fl) (h7 : fl ≤ sq) (h8 : 0 ≤ sn) (h9 : sn < nx) (b1 : (sn == 0) = true) (b2 : (sq != 0) = true) : Calls Tryd.prog 18 #[.agg #[.int .i64 g, .int .i64 nx, .int .i64 fl, .int .i64 sn, .int .i64 sq, .slice a n cap]] w fun e w' => e = .returned (.bool false) ∧ Below w.heap.size w w' := by
  go_enter Tryd.func18, Tryd.ntmps18
  go_wp2
  go_ret
  exact ⟨rfl, (Below.refl _ _).alloc (Nat.le_refl _) _⟩
set_option maxRecDepth 20000 in
set_option maxHeartbeats 2000000 in
theorem rmv_no11 (g nx fl sn sq : Int) (a : Option Addr) (n cap : Nat) (w : World) (h0 : 1 ≤ g) (h1 : g ≤ 1099511627776) (h2 : 2 ≤ nx) (h3 : nx ≤ 1000000) (h4 : 0 ≤ sq) (h5 : sq ≤ 1099511627776) (h6 : 0 ≤ fl) (h7 : fl ≤ sq) (h8 : 0 ≤ sn) (h9 : sn < nx) (b1 : (sn == 0) = false) (b2 : (sn != 0) = true) (b3 : (sq == 0) = true) : Calls Tryd.prog 18 #[.agg #[.int .i64 g, .int .i64 nx, .int .i64 fl, .int .i64 sn, .int .i64 sq, .slice a n cap]] w fun e w' => e = .returned (.bool false) ∧ Below w.heap.size w w' := by
  go_enter Tryd.func18, Tryd.ntmps18
  go_wp2
  go_ret
  exact ⟨rfl, (Below.refl _ _).alloc (Nat.le_refl _) _⟩
set_option maxRecDepth 20000 in
set_option maxHeartbeats 2000000 in
theorem rmv_no12A (g nx fl sn sq : Int) (a : Option Addr) (n cap : Nat) (w : World) (h0 : 1 ≤ g) (h1 : g ≤ 1099511627776) (h2 : 2 ≤ nx) (h3 : nx ≤ 1000000) (h4 : 0 ≤ sq) (h5 : sq ≤ 1099511627776) (h6 : 0 ≤ fl) (h7 : fl ≤ sq) (h8 : 0 ≤ sn) (h9 : sn < nx) (b1 : (sn == 0) = true) (b2 : (sq != 0) = false) (b3 : (sn != 0) = false) (hn : (n : Int) < 1) : Calls Tryd.prog 18 #[.agg #[.int .i64 g, .int .i64 nx, .int .i64 fl, .int .i64 sn, .int .i64 sq, .slice a n cap]] w fun e w' => e = .returned (.bool false) ∧ Below w.heap.size w w' := by
  go_enter Tryd.func18, Tryd.ntmps18
  go_wp2
  go_ret
  exact ⟨rfl, (Below.refl _ _).alloc (Nat.le_refl _) _⟩
set_option maxRecDepth 20000 in
set_option maxHeartbeats 2000000 in
theorem rmv_no13A (g nx fl sn sq : Int) (a : Option Addr) (n cap : Nat) (w : World) (h0 : 1 ≤ g) (h1 : g ≤ 1099511627776) (h2 : 2 ≤ nx) (h3 : nx ≤ 1000000) (h4 : 0 ≤ sq) (h5 : sq ≤ 1099511627776) (h6 : 0 ≤ fl) (h7 : fl ≤ sq) (h8 : 0 ≤ sn) (h9 : sn < nx) (b1 : (sn == 0) = true) (b2 : (sq != 0) = false) (b3 : (sn != 0) = false) (hn1 : (1 : Int) ≤ (n : Int)) (hn : (256 : Int) < (n : Int)) : Calls Tryd.prog 18 #[.agg #[.int .i64 g, .int .i64 nx, .int .i64 fl, .int .i64 sn, .int .i64 sq, .slice a n cap]] w fun e w' => e = .returned (.bool false) ∧ Below w.heap.size w w' := by
  go_enter Tryd.func18, Tryd.ntmps18
  go_wp2
  go_ret
  exact ⟨rfl, (Below.refl _ _).alloc (Nat.le_refl _) _⟩
set_option maxRecDepth 20000 in
set_option maxHeartbeats 2000000 in
theorem rmv_no12B (g nx fl sn sq : Int) (a : Option Addr) (n cap : Nat) (w : World) (h0 : 1 ≤ g) (h1 : g ≤ 1099511627776) (h2 : 2 ≤ nx) (h3 : nx ≤ 1000000) (h4 : 0 ≤ sq) (h5 : sq ≤ 1099511627776) (h6 : 0 ≤ fl) (h7 : fl ≤ sq) (h8 : 0 ≤ sn) (h9 : sn < nx) (b1 : (sn == 0) = false) (b2 : (sn != 0) = true) (b3 : (sq == 0) = false) (hn : (n : Int) < 1) : Calls Tryd.prog 18 #[.agg #[.int .i64 g, .int .i64 nx, .int .i64 fl, .int .i64 sn, .int .i64 sq, .slice a n cap]] w fun e w' => e = .returned (.bool false) ∧ Below w.heap.size w w' := by
  go_enter Tryd.func18, Tryd.ntmps18
  go_wp2
  go_ret
  exact ⟨rfl, (Below.refl _ _).alloc (Nat.le_refl _) _⟩
set_option maxRecDepth 20000 in
set_option maxHeartbeats 2000000 in
theorem rmv_no13B (g nx fl sn sq : Int) (a : Option Addr) (n cap : Nat) (w : World) (h0 : 1 ≤ g) (h1 : g ≤ 1099511627776) (h2 : 2 ≤ nx) (h3 : nx ≤ 1000000) (h4 : 0 ≤ sq) (h5 : sq ≤ 1099511627776) (h6 : 0 ≤ fl) (h7 : fl ≤ sq) (h8 : 0 ≤ sn) (h9 : sn < nx) (b1 : (sn == 0) = false) (b2 : (sn != 0) = true) (b3 : (sq == 0) = false) (hn1 : (1 : Int) ≤ (n : Int)) (hn : (256 : Int) < (n : Int)) : Calls Tryd.prog 18 #[.agg #[.int .i64 g, .int .i64 nx, .int .i64 fl, .int .i64 sn, .int .i64 sq, .slice a n cap]] w fun e w' => e = .returned (.bool false) ∧ Below w.heap.size w w' := by
  go_enter Tryd.func18, Tryd.ntmps18
  go_wp2
  go_ret
  exact ⟨rfl, (Below.refl _ _).alloc (Nat.le_refl _) _⟩
end Go.Proofs.YtoneaannbmkeiaaDoor
