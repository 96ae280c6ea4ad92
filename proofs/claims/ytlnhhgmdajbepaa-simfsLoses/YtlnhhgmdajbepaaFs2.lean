/- A disk in memory. -/
import Derived.Test.YtlnhhgmdajbepaaFs1
import Derived.Test.YtlnhhgmdajbepaaTwo
import Derived.Maps.RangeWalk
namespace Go.Proofs.Ytlnhhgmdajbepaa
open Go.ChangeShapes Go.WideShapes Go.ChangeAt Go.RowKit
set_option linter.unusedVariables false
/-- a disk -/
structure Dk where
  room : Int
  fuse : Int
  off : Bool
  steps : Int
  read : Int
  fs : List Fi
abbrev dkA (D : Dk) (b : Nat) : Array Value := #[.int .i64 D.room, .map (some b), .int .i64 D.fuse, .bool D.off, .int .i64 D.steps, .int .i64 D.read]
def usedN (L : List Fi) : Nat := (L.map (fun f => f.l.length)).sum
abbrev OwnDist (L : List Fi) : Prop := L.Pairwise (fun f g => ∀ k, f.v.ownBlock = some k → g.v.ownBlock ≠ some k)
/-- the disk D lies in block q, its map in block b; all of it from base on -/
structure DkAt (w : World) (base q b : Nat) (D : Dk) : Prop where
  blk : w.heap[q]? = some (.cells (dkA D b) 75)
  map : ∃ M, w.ownsMap Try.prog 9 hvS b D.fs.length M ∧ RepN M D.fs
  srt : SortN D.fs
  dat : ∀ f ∈ D.fs, DatAt w base f.v f.l
  dist : OwnDist D.fs
  lo : base ≤ q ∧ base ≤ b
/-- what a disk's numbers keep to -/
structure DkOk (D : Dk) : Prop where
  room : 0 ≤ D.room ∧ D.room ≤ 67108864
  used : (usedN D.fs : Int) ≤ D.room
  fuse : 0 ≤ D.fuse ∧ D.fuse ≤ 9223372036854775807
  steps : -9223372036854775808 ≤ D.steps ∧ D.steps ≤ 9223372036854775807
  read : -9223372036854775808 ≤ D.read ∧ D.read ≤ 9223372036854775807
  few : D.fs.length ≤ 700
  name : ∀ f ∈ D.fs, f.name.length ≤ 24
  safe : ∀ f ∈ D.fs, f.s ≤ f.l.length
theorem owns_sameS {w w' : World} {b n : Nat} {M : DataW Value} (h : w.ownsMap Try.prog 9 hvS b n M) (hs : w'.heap[b]? = w.heap[b]?) : w'.ownsMap Try.prog 9 hvS b n M := by
  obtain ⟨es, c, h1, h2⟩ := h
  exact ⟨es, c, hs.trans h1, h2⟩
theorem owns_blkS {w : World} {b n : Nat} {M : DataW Value} (h : w.ownsMap Try.prog 9 hvS b n M) : ∃ es c, w.heap[b]? = some (.map es c) := by
  obtain ⟨es, c, h1, _⟩ := h; exact ⟨es, c, h1⟩
theorem owns_tight {w : World} {b n : Nat} {M : DataW Value} (h : w.ownsMap Try.prog 9 hvS b n M) : w.ownsMap Try.prog 9 hvS b (Maps.size M) M := by
  obtain ⟨es, c, h1, h2, h3, h4⟩ := h
  refine ⟨es, c, h1, h2, ?_, h4⟩
  have e1 : Maps.size M = es.size := by rw [h4]; simp [Maps.size, Go.length_sorted]
  rw [e1]
  exact Nat.le_refl _
theorem usedN_mem {L : List Fi} {f : Fi} (h : f ∈ L) : f.l.length ≤ usedN L := by
  unfold usedN
  induction L with
  | nil => cases h
  | cons g r ih =>
    simp only [List.map_cons, List.sum_cons]
    rcases List.mem_cons.1 h with h1 | h1
    · subst h1; omega
    · have := ih h1; omega
theorem DkAt.cells {w : World} {base q b : Nat} {D : Dk} (h : DkAt w base q b D) : w.cell? ⟨q, 0, none⟩ = some (.int .i64 D.room) ∧ w.cell? ⟨q, 1, none⟩ = some (.map (some b)) ∧ w.cell? ⟨q, 2, none⟩ = some (.int .i64 D.fuse) ∧ w.cell? ⟨q, 3, none⟩ = some (.bool D.off) ∧ w.cell? ⟨q, 4, none⟩ = some (.int .i64 D.steps) ∧ w.cell? ⟨q, 5, none⟩ = some (.int .i64 D.read) :=
  ⟨by rw [cell_of_row _ _ 0 _ _ _ h.blk]; rfl, by rw [cell_of_row _ _ 1 _ _ _ h.blk]; rfl, by rw [cell_of_row _ _ 2 _ _ _ h.blk]; rfl, by rw [cell_of_row _ _ 3 _ _ _ h.blk]; rfl, by rw [cell_of_row _ _ 4 _ _ _ h.blk]; rfl, by rw [cell_of_row _ _ 5 _ _ _ h.blk]; rfl⟩
theorem DkAt.froz {w : World} {base q b : Nat} {D : Dk} (h : DkAt w base q b D) (i : Nat) : w.frozen? ⟨q, i, none⟩ = false := frozen_of_row _ _ i _ _ h.blk
theorem DkAt.lt {w : World} {base q b : Nat} {D : Dk} (h : DkAt w base q b D) : q < w.heap.size ∧ b < w.heap.size := by
  obtain ⟨M, hm, _⟩ := h.map
  exact ⟨lt_of_heap h.blk, hm.lt⟩
theorem DkAt.moved {w w' : World} {base q b : Nat} {D : Dk} (h : DkAt w base q b D) (hs : ∀ k, base ≤ k → k < w.heap.size → w'.heap[k]? = w.heap[k]?) : DkAt w' base q b D := by
  obtain ⟨M, hm, hr⟩ := h.map
  obtain ⟨l1, l2⟩ := h.lo
  exact ⟨(hs q l1 (lt_of_heap h.blk)).trans h.blk, ⟨M, owns_sameS hm (hs b l2 hm.lt), hr⟩, h.srt, fun f hf => (h.dat f hf).moved (fun k hk hl _ => hs k hk hl), h.dist, h.lo⟩
theorem DkAt.keep {w w' : World} {base q b : Nat} {D : Dk} (h : DkAt w base q b D) (hb : Below w.heap.size w w') : DkAt w' base q b D := h.moved (fun k _ hk => hb.block k hk)
theorem DkAt.ne {w : World} {base q b : Nat} {D : Dk} (h : DkAt w base q b D) : q ≠ b := by
  obtain ⟨M, hm, _⟩ := h.map
  obtain ⟨es, c, hb⟩ := owns_blkS hm
  intro e
  have := h.blk
  rw [e, hb] at this
  cases this
/-- a file's bytes lie in no block of a disk or of its map -/
theorem DkAt.dat_ne {w : World} {base q b : Nat} {D : Dk} (h : DkAt w base q b D) {v : Value} {l : List Nat} {c : Nat} (hd : DatAt w c v l) : ∀ k, v.ownBlock = some k → k ≠ q ∧ k ≠ b := by
  intro k hk
  obtain ⟨cs, ht⟩ := hd.typ hk
  refine ⟨fun e => ?_, fun e => ?_⟩
  · subst e
    have := h.blk
    rw [ht] at this
    cases this
  · subst e
    obtain ⟨M, hm, _⟩ := h.map
    obtain ⟨es, c2, hb⟩ := owns_blkS hm
    rw [ht] at hb
    cases hb
/-- the disk's own cells are turned (another room, fuse .. ), the rest stays -/
theorem DkAt.setTo {w w' : World} {base q b : Nat} {D D2 : Dk} (h : DkAt w base q b D) (hf : D2.fs = D.fs) (hq : w'.heap[q]? = some (.cells (dkA D2 b) 75)) (hs : ∀ k, base ≤ k → k < w.heap.size → k ≠ q → w'.heap[k]? = w.heap[k]?) : DkAt w' base q b D2 := by
  obtain ⟨M, hm, hr⟩ := h.map
  obtain ⟨l1, l2⟩ := h.lo
  refine ⟨hq, ⟨M, ?_, by rw [hf]; exact hr⟩, by rw [hf]; exact h.srt, fun f hf2 => ?_, by rw [hf]; exact h.dist, h.lo⟩
  · rw [hf]; exact owns_sameS hm (hs b l2 hm.lt h.ne.symm)
  · rw [hf] at hf2
    exact (h.dat f hf2).moved (fun k hk hl ho => hs k hk hl (h.dat_ne (h.dat f hf2) k ho).1)
end Go.Proofs.Ytlnhhgmdajbepaa
