/- scan.placed. -/
import Derived.Test.YtpjikkhcimghaaaDoorSc1
import Derived.Test.YtpjikkhcimghaaaDoorFr1
import Derived.Deep.RegionWith
namespace Go.Proofs.YtpjikkhcimghaaaDoor
open Go.ChangeShapes Go.WideShapes Go.ChangeAt Go.RowKit
set_option linter.unusedVariables false
theorem each_stops (n : Nat) (hn : 1 ≤ n) (l : List Nat) (m k : Nat) (a : Option Addr) (cap : Nat) (w W : World) (hm : l.length = m) (hb : Bytes w a l) (hcap : m ≤ cap) (hl : m ≤ 140737488351232) (ht : Tab w) (hk0 : w.heap.size ≤ k) (hk : W.heap[k]? = some (.cells #[.slice a m cap] 22)) (hbe : Below w.heap.size w W) :
    SeqW Fence.wide n Tryd.prog 13 #[.pointer (some ⟨k, 0, none⟩)] itV (KB w.heap.size k) (fun pre x W1 => (pre ++ [x]).map It.fm <+: scanL l ∧ Own W1 w.heap.size x.bv x.fm.body) (fun xs => xs.map It.fm = scanL l) (fun pre => pre.map It.fm <+: scanL l) W :=
  fun lp J Jx V hV hJ _ hY h0 => each1_in n hn l m k a cap w hm hb hcap hl ht lp J Jx V hk0 ((hV.block k (lt_of_heap hk)).trans hk) (hbe.trans (hV.mono hbe.size)) hJ hY h0
/-- a placed frame's value -/
abbrev PlV (p z k s : Int) (bv : Value) : Value := .agg #[.int .i64 p, .int .i64 z, .int .i64 k, .int .i64 s, bv]
def PlBox (w : World) (b : Nat) (p z k s : Int) (bv : Value) : Prop := w.heap[b]? = some (.cells #[.int .i64 p, .int .i64 z, .int .i64 k, .int .i64 s, bv] 34)
theorem PlBox.cells {w : World} {b : Nat} {p z k s : Int} {bv : Value} (h : PlBox w b p z k s bv) : w.cell? ⟨b, 0, none⟩ = some (.int .i64 p) ∧ w.cell? ⟨b, 1, none⟩ = some (.int .i64 z) ∧ w.cell? ⟨b, 2, none⟩ = some (.int .i64 k) ∧ w.cell? ⟨b, 3, none⟩ = some (.int .i64 s) ∧ w.cell? ⟨b, 4, none⟩ = some bv :=
  ⟨by rw [cell_of_row _ _ 0 _ _ _ h]; rfl, by rw [cell_of_row _ _ 1 _ _ _ h]; rfl, by rw [cell_of_row _ _ 2 _ _ _ h]; rfl, by rw [cell_of_row _ _ 3 _ _ _ h]; rfl, by rw [cell_of_row _ _ 4 _ _ _ h]; rfl⟩
theorem PlBox.loadVar {w : World} {b : Nat} {p z k s : Int} {bv : Value} (h : PlBox w b p z k s bv) : (Go.loadVar 34 ⟨b, 0, none⟩).run Tryd.prog w = .ok (PlV p z k s bv) w := by
  obtain ⟨h0, h1, h2, h3, h4⟩ := h.cells
  simp [go_sem, h0, h1, h2, h3, h4]
theorem results_pl {fn : Func} {p : Tmp} (h : fn.results = #[.cell p 34]) (tmps : Array Value) (w : World) (b : Nat) {x z k s : Int} {bv : Value} (hp : tmps.getD p undef = .pointer (some ⟨b, 0, none⟩)) (hl : PlBox w b x z k s bv) :
    (results fn tmps).run Tryd.prog w = .ok (PlV x z k s bv) w := by
  simp only [Array.getD_eq_getD_getElem?] at hp
  simp [results, h, hp, asAddr, hl.loadVar]
set_option maxRecDepth 100000 in
set_option maxHeartbeats 4000000 in
theorem placed_any (p k s : Int) (a : Option Addr) (n c : Nat) (w : World) (hn : n ≤ 16384) :
    Calls Tryd.prog 17 #[.int .i64 p, FrV k s (.slice a n c)] w fun e w' => e = .returned (PlV p ((n : Int) + 20) k s (.slice a n c)) ∧ Below w.heap.size w w' := by
  have hnI : (n : Int) ≤ 16384 := by omega
  have HFS : Hid (fsz (n : Int) = (n : Int) + 20) := by show _ = _; unfold fsz; rw [if_neg (by omega)]
  go_enter Tryd.func17, Tryd.ntmps17
  go_wp2
  go_region_with (go_at_call 24; refine (fsize_any (n : Int) _).mono ?_; rw [HFS.out]; rintro e w2 ⟨rfl, rfl⟩)
  all_goals go_wp2
  all_goals
    refine bodyPost_ret (results_pl rfl _ _ (w.heap.size + 1) rfl (?_ : PlBox _ _ p ((n : Int) + 20) k s (.slice a n c))) rfl ?_
    · have h := heap_alloc_new (w.alloc (.cells #[.int .i64 k, .int .i64 s, .slice a n c] 32)) (.cells #[.int .i64 p, .int .i64 ((n : Int) + 20), .int .i64 k, .int .i64 s, .slice a n c] 34)
      rw [World.size_alloc] at h
      exact h
    · exact ⟨rfl, (((Below.refl _ _).alloc (Nat.le_refl _) _).alloc (by simp) _).drew⟩
end Go.Proofs.YtpjikkhcimghaaaDoor
