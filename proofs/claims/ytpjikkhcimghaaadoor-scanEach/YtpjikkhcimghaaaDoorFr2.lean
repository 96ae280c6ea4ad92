/- frame: Encode; a frame as a value and in memory. -/
import Derived.Test.YtpjikkhcimghaaaDoorFr1
import Derived.Laws.AppendOwnNone
namespace Go.Proofs.YtpjikkhcimghaaaDoor
open Go.ChangeShapes Go.WideShapes Go.ChangeAt Go.RowKit
set_option linter.unusedVariables false
/-- a frame's value -/
abbrev FrV (kind seq : Int) (bv : Value) : Value := .agg #[.int .i64 kind, .int .i64 seq, bv]
/-- a frame lies in block k -/
def FrmAt (w : World) (k : Nat) (kind seq : Int) (bv : Value) : Prop := w.heap[k]? = some (.cells #[.int .i64 kind, .int .i64 seq, bv] 32)
theorem FrmAt.cells {w : World} {k : Nat} {kind seq : Int} {bv : Value} (h : FrmAt w k kind seq bv) : w.cell? ⟨k, 0, none⟩ = some (.int .i64 kind) ∧ w.cell? ⟨k, 1, none⟩ = some (.int .i64 seq) ∧ w.cell? ⟨k, 2, none⟩ = some bv :=
  ⟨by rw [cell_of_row _ _ 0 _ _ _ h]; rfl, by rw [cell_of_row _ _ 1 _ _ _ h]; rfl, by rw [cell_of_row _ _ 2 _ _ _ h]; rfl⟩
theorem FrmAt.new (w : World) (kind seq : Int) (bv : Value) : FrmAt (w.alloc (.cells #[.int .i64 kind, .int .i64 seq, bv] 32)) w.heap.size kind seq bv := by
  unfold FrmAt; simp only [World.alloc, Array.getElem?_push]; rw [if_pos trivial]
theorem FrmAt.nb {w w' : World} {k : Nat} {kind seq : Int} {bv : Value} (h : FrmAt w k kind seq bv) (hb : NB w w') : FrmAt w' k kind seq bv := hb k _ _ _ h (by decide)
theorem FrmAt.keep {w w' : World} {k : Nat} {kind seq : Int} {bv : Value} (h : FrmAt w k kind seq bv) (hb : Below w.heap.size w w') : FrmAt w' k kind seq bv := h.nb (NB.of_below hb)
def encE (kind seq : Int) (n : Nat) : Nat := if inB kind seq = false then 63 else if 16384 < n then 24 else 0
def encL (kind seq : Int) (body : List Nat) : List Nat := if encE kind seq body.length = 0 then frameL kind.toNat seq.toNat body else []
theorem cells_two (w : World) (x y : Value) (e : TypeId) : ∀ j u, [x, y][j]? = some u → (w.alloc (.cells #[x, y] e)).cell? ((⟨w.heap.size, 0, none⟩ : Addr).add j) = some u := by
  intro j u hj
  match j, hj with
  | 0, hj => simp at hj; subst hj; simp [Addr.add]
  | 1, hj => simp at hj; subst hj; simp [Addr.add]
theorem two_new {k : IntKind} (n m : Int) : ∀ u ∈ [Value.int k n, Value.int k m], u.oneCell' = true := by
  intro u hu; simp at hu; rcases hu with rfl | rfl <;> rfl
theorem alloc_size1 (w : World) (o : Obj) : (w.alloc o).heap.size = w.heap.size + 1 := by simp
/-- what stands while a frame is laid: memory as it was, the frame's parts where they lay, the row of the call's own -/
def EncI (w : World) (k s : Nat) (bv : Value) (wi : World) (v : Value) (l : List Nat) : Prop :=
  Below w.heap.size w wi ∧ NB (w.alloc (.cells #[.int .i64 k, .int .i64 s, bv] 32)) wi ∧ w.heap.size + 1 ≤ wi.heap.size ∧ wi.ownsRow w.heap.size 5 1 v l.length (B8 l)
theorem EncI.cells {w wi : World} {k s : Nat} {bv v : Value} {l : List Nat} (h : EncI w k s bv wi v l) : wi.cell? ⟨w.heap.size, 0, none⟩ = some (.int .i64 k) ∧ wi.cell? ⟨w.heap.size, 1, none⟩ = some (.int .i64 s) ∧ wi.cell? ⟨w.heap.size, 2, none⟩ = some bv :=
  ((FrmAt.new w k s bv).nb h.2.1).cells
theorem EncI.grow {w wi wj : World} {k s : Nat} {bv v v2 : Value} {l m : List Nat} (h : EncI w k s bv wi v l) (hg : wi.grownBy wj v.ownBlock) (ho : wj.ownsRow w.heap.size 5 1 v2 (l.length + m.length) (B8 l ++ B8 m)) : EncI w k s bv wj v2 (l ++ m) := by
  have hb := grown_row h.1 h.2.2.2 h.1.size hg
  refine ⟨hb, h.2.1.trans (NB.of_grown h.2.2.2 hg), Nat.le_trans h.2.2.1 hg.size, ?_⟩
  rw [List.length_append, B8_append]; exact ho
theorem EncI.low {w wi wj : World} {k s K x : Nat} {bv v v2 : Value} {l : List Nat} (h : EncI w k s bv wi v l) (ho : wj.ownsRow w.heap.size 5 1 v2 (l.length + K) (B8 l ++ B8 (le K x))) (hb : Below w.heap.size wi wj) (hq : NB wi wj) : EncI w k s bv wj v2 (l ++ le K x) := by
  refine ⟨h.1.trans hb, h.2.1.trans hq, Nat.le_trans h.2.2.1 hb.size, ?_⟩
  rw [List.length_append, B8_append, le_length]; exact ho
theorem EncI.call {w wi wj : World} {k s : Nat} {bv v : Value} {l : List Nat} (h : EncI w k s bv wi v l) (hb : Below wi.heap.size wi wj) : EncI w k s bv wj v l :=
  ⟨below_next h.1 hb, h.2.1.trans (NB.of_below hb), Nat.le_trans h.2.2.1 hb.size, own_below h.2.2.2 hb⟩
theorem EncI.row {w wi : World} {k s : Nat} {bv v : Value} {l : List Nat} (h : EncI w k s bv wi v l) (hl : ∀ i, l.getD i 0 < 256) (hne : l ≠ []) : ∃ g cap, v = .slice (some ⟨g, 0, none⟩) l.length cap ∧ Bytes wi (some ⟨g, 0, none⟩) l := by
  obtain ⟨g, cap, h1, _, h3⟩ := Own.row (w := wi) (base := w.heap.size) ⟨hl, h.2.2.2⟩ hne
  exact ⟨g, cap, h1, h3⟩

end Go.Proofs.YtpjikkhcimghaaaDoor
