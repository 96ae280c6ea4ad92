/- Own texts, joined: Tlq, Tlwt. -/
import Derived.Test.YtofealmjggpacaaDoorJ12
import Derived.Test.YtofealmjggpacaaDoorJ31
import Derived.Test.YtofealmjggpacaaDoorJ30
import Derived.Test.YtofealmjggpacaaDoorJ15
import Derived.Lib.SlBytesConst
import Derived.Test.YtofealmjggpacaaDoorJ33
namespace Go.Proofs.YtofealmjggpacaaDoor
open Go.ChangeShapes Go.WideShapes Go.ChangeAt Go.RowKit
set_option linter.unusedVariables false
theorem below_drewN {B : Nat} {a w : World} (h : Below B a w) (n : Nat) : Below B a (w.drewN n) := by
  induction n with
  | zero => exact h
  | succ n ih => exact ih.drew
def headL (g : Nat) : List (Fld × Value) := [(⟨1, false, 5, []⟩, .slice none 0 0), (⟨3, true, 0, [97, 98]⟩, .slice (some ⟨g, 0, none⟩) 2 2)]
theorem head_fs (w : World) : FsAt ((w.alloc (.cells #[.int .u8 97, .int .u8 98] 5 (2, 3))).alloc (.cells #[.int .i64 1, .bool false, .int .u64 5, .slice none 0 0, .int .i64 3, .bool true, .int .u64 0, .slice (some ⟨w.heap.size, 0, none⟩) 2 2] 142)) (some ⟨w.heap.size + 1, 0, none⟩) (headL w.heap.size) := by
  have e1 : ((w.alloc (.cells #[.int .u8 97, .int .u8 98] 5 (2, 3))).alloc (.cells #[.int .i64 1, .bool false, .int .u64 5, .slice none 0 0, .int .i64 3, .bool true, .int .u64 0, .slice (some ⟨w.heap.size, 0, none⟩) 2 2] 142)).heap[w.heap.size + 1]? = some (.cells #[.int .i64 1, .bool false, .int .u64 5, .slice none 0 0, .int .i64 3, .bool true, .int .u64 0, .slice (some ⟨w.heap.size, 0, none⟩) 2 2] 142) := by
    simp only [World.alloc, Array.getElem?_push, Array.size_push]
    rw [if_pos trivial]
  refine ⟨.inr ⟨w.heap.size + 1, 0, rfl, lt_of_heap e1, fun j hj => ?_⟩, fun p hp => ?_⟩
  · rw [Nat.zero_add, cell_of_row _ _ j _ _ _ e1]
    simp only [headL, flat, List.getElem?_toArray]; rfl
  · have hby : Bytes ((w.alloc (.cells #[.int .u8 97, .int .u8 98] 5 (2, 3))).alloc (.cells #[.int .i64 1, .bool false, .int .u64 5, .slice none 0 0, .int .i64 3, .bool true, .int .u64 0, .slice (some ⟨w.heap.size, 0, none⟩) 2 2] 142)) (some ⟨w.heap.size, 0, none⟩) [97, 98] :=
      (bytes_lit_mark w [97, 98] (2, 3) (fun i => by match i with | 0 => decide | 1 => decide | (k + 2) => simp)).keep ((Below.refl _ _).alloc (Nat.le_refl _) _)
    simp only [headL, List.mem_cons, List.not_mem_nil, or_false] at hp
    rcases hp with rfl | rfl
    · exact ⟨by simp, ⟨none, 0, rfl, by simp, Bytes.none _ _⟩, by simp⟩
    · exact ⟨by simp, ⟨some ⟨w.heap.size, 0, none⟩, 2, rfl, by simp, hby⟩, by simp; unfold maxLen; omega⟩
theorem head_encs (g : Nat) : encs ((headL g).map Prod.fst) 0 [] = ([2, 5, 7, 2, 97, 98], 0) := by
  show encs [⟨1, false, 5, []⟩, ⟨3, true, 0, [97, 98]⟩] 0 [] = _
  decide
theorem head_recs : recs [2, 5] = ([⟨1, false, 5, []⟩], 0, 0) := by rfl
theorem head_row {w : World} {base : Nat} {v : Value} {L : List (Fld × Value)} (hL : [(⟨1, false, 5, []⟩ : Fld)] = L.map Prod.fst) (h : Rws w base v L) : ∃ b off cap, v = .slice (some ⟨b, off, none⟩) 1 cap ∧ ∀ o, (w.alloc o).cell? ⟨b, off + 2, none⟩ = some (.int .u64 5) := by
  have hlen : L.length = 1 := by have := congrArg List.length hL; simpa using this.symm
  obtain ⟨p, rfl⟩ := List.length_eq_one_iff.1 hlen
  have hp : p.1 = ⟨1, false, 5, []⟩ := by simpa using hL.symm
  obtain ⟨a, cap, h1, h2⟩ := h.fs (fun q hq => by obtain rfl := List.mem_singleton.1 hq; rw [hp]; exact ⟨by simp, by simp⟩)
  rcases h2.row with h3 | ⟨b, off, rfl, hlt, _⟩
  · cases h3
  · have hc := (h2.cells 0 p rfl).2.2.1
    rw [hp, Nat.zero_mul, Nat.add_zero] at hc
    exact ⟨b, off, cap, h1, fun o => (((Below.refl w.heap.size w).alloc (Nat.le_refl _) o).cell (p := ⟨b, off + 2, none⟩) hlt).trans hc⟩
end Go.Proofs.YtofealmjggpacaaDoor
namespace Go.Proofs.YtofealmjggpacaaDoor
open Go.ChangeShapes Go.WideShapes Go.ChangeAt Go.RowKit
set_option linter.unusedVariables false
/-- a writer's fields, last tag and error behind a field put -/
def wput (fs : List Fld) (A : Int) (e : Nat) (F : Fld) : List Fld × Int × Nat :=
  if e ≠ 0 then (fs, A, e) else if flt F A = 0 then (fs ++ [F], F.tag, 0) else if flt F A = 22 then (fs, A, 0) else ([], A, flt F A)
/-- the writer behind a field put, and all else but its two blocks as it was -/
def WPost (w : World) (base q : Nat) (v : Value) (L : List (Fld × Value)) (A : Int) (e : Nat) (F : Fld) (r : Ending) (w' : World) : Prop :=
  r = .returned (.pointer (some ⟨q, 0, none⟩)) ∧ ∃ v' L', WrAt w' base q v' L' (wput (L.map Prod.fst) A e F).2.1 (wput (L.map Prod.fst) A e F).2.2 ∧ L'.map Prod.fst = (wput (L.map Prod.fst) A e F).1 ∧ (v'.ownBlock = v.ownBlock ∨ ∀ g, v'.ownBlock = some g → w.heap.size ≤ g) ∧ Kept q (v.ownBlock.getD q) w w' ∧ ∀ p ∈ L', p ∈ L ∨ ∀ k, p.2.ownBlock = some k → w.heap.size ≤ k
theorem Kept.of_all {ga gc : Nat} {w w' : World} (h : Below w.heap.size w w') : Kept ga gc w w' := ⟨h.os, h.tape, h.output, h.size, fun k hk _ _ => h.block k hk⟩
theorem rws_fs {w : World} {base : Nat} {v : Value} {L : List (Fld × Value)} (h : Rws w base v L) (hok : ∀ p ∈ L, p.1.num ≤ 18446744073709551615 ∧ p.1.bytes.length ≤ maxLen) : ∃ a cap, v = .slice a L.length cap ∧ FsAt w a L := h.fs hok
end Go.Proofs.YtofealmjggpacaaDoor
