/- A slice of slices of bytes, as it came in. -/
import Derived.Test.YtnecnedkoddihaaDoorDigS
import Derived.Test.YtnecnedkoddihaaDoorBulk
import Derived.Deep.Matrix
namespace Go.Proofs.YtnecnedkoddihaaDoor
open Go.ChangeShapes Go.WideShapes Go.ChangeAt Go.RowKit Go.Deep
set_option linter.unusedVariables false
theorem pieces_of {W : World} (x : Addr) (len cap : Nat) (A : Nat → Option Addr) (L C : Nat → Nat) (Z : Nat → List Int) (hl : len ≤ cap)
    (hr : ∀ r, r < cap → W.cell? (x.add r) = some (.slice (A r) (L r) (C r)) ∧ L r ≤ C r ∧ C r ≤ maxLen ∧ (Z r).length = C r ∧ (∀ n ∈ Z r, (Lit.int .u8 n).wf = true) ∧ (A r = none → C r = 0) ∧
        ∀ a', A r = some a' → 0 ≤ a'.block ∧ ∀ c, c < C r → W.cell? (a'.add c) = some (.int .u8 ((Z r).getD c 0))) :
    ∃ ll : Nat → List Nat, (∀ r, r < len → (ll r).length = L r) ∧ Pieces W (some x) len A ll C := by
  have each : ∀ r, r < len → ∃ l : List Nat, l.length = L r ∧ Bytes W (A r) l := by
    intro r hlt
    obtain ⟨h1, h2, h3, h4, h5, h6, h7⟩ := hr r (by omega)
    cases hA : A r with
    | none =>
      have := h6 hA
      exact ⟨[], by simp; omega, by simp, .inl rfl⟩
    | some a' =>
      obtain ⟨_, hc⟩ := h7 a' hA
      obtain ⟨ll, e1, e2, e3⟩ := row_nats .u8 256 (by decide) wf_u8 W a' (Z r) (L r) (by omega) (by rw [h4]; exact hc) h5
      exact ⟨ll, e1, e2, e3⟩
  obtain ⟨ll, hll⟩ := choose_lt each
  refine ⟨ll, fun r h => (hll r h).1, ?_, fun r h => ⟨(hll r h).2, by rw [(hll r h).1]; exact (hr r (by omega)).2.1, (hr r (by omega)).2.2.2.2.2.1⟩⟩
  by_cases h0 : len = 0
  · exact .inl h0
  · right
    obtain ⟨b, off, spot⟩ := x
    have hc0 := (hr 0 (by omega)).1
    have hspot : spot = none := by simpa [Addr.add] using World.cell?_spot hc0
    subst hspot
    refine ⟨b, off, rfl, World.block_lt_of_cell? _ _ hc0, fun r h => ?_⟩
    have := (hr r (by omega)).1
    rw [show (⟨b, off, none⟩ : Addr).add r = ⟨b, off + r, none⟩ from by simp [Addr.add]] at this
    rw [this, (hll r h).1]
theorem bulk_app {H : Type} (l m : List (DataW H)) : Rows.uptoBulkAll (l ++ m) = Rows.uptoBulkAll l + Rows.uptoBulkAll m := by
  induction l with
  | nil => simp [Rows.uptoBulkAll]
  | cons d r ih => simp only [List.cons_append, Rows.uptoBulkAll, ih]; omega
theorem bulk_range {H : Type} (n : Nat) (f : Nat → DataW H) (ll : Nat → List Nat) (h : ∀ r, r < n → (ll r).length + 1 ≤ Rows.uptoBulk (f r)) : n + tot ll n ≤ Rows.uptoBulkAll ((List.range n).map f) := by
  induction n with
  | zero => simp [tot, Rows.uptoBulkAll]
  | succ n ih =>
    have h1 := ih (fun r hr => h r (by omega))
    have h2 := h n (by omega)
    rw [List.range_succ, List.map_append, bulk_app, tot]
    simp only [List.map_cons, List.map_nil, Rows.uptoBulkAll]
    omega
theorem bulk_row {H : Type} (A : Option Addr) (L : Nat) (C : Nat) (Z : List Int) (hz : Z.length = C) (hl : L ≤ C) (hn : A = none → C = 0) : L + 1 ≤ Rows.uptoBulk (intRow (H := H) .u8 A L Z) := by
  cases A with
  | none => have := hn rfl; simp [intRow, Rows.uptoBulk]; omega
  | some a =>
    have := bulks.slice_le (lits (H := H) .u8 (Z.take L)) (lits .u8 (Z.drop L))
    simp only [lits, List.length_map, List.length_take, List.length_drop] at this
    simp only [intRow, lits]
    omega
end Go.Proofs.YtnecnedkoddihaaDoor
