/- Slices of slices (of bytes, of ints) as they came in, with their sizes. -/
import Derived.Test.YtlnhhgmdajbepaaOpn
import Derived.Deep.Matrix
namespace Go.Proofs.Ytlnhhgmdajbepaa
open Go.ChangeShapes Go.WideShapes Go.ChangeAt Go.RowKit Go.Deep
set_option linter.unusedVariables false
def PzB (w : World) (a : Option Addr) (n : Nat) (A : Nat → Option Addr) (L : Nat → List Nat) (C : Nat → Nat) : Prop :=
  (n = 0 ∨ ∃ b off, a = some ⟨b, off, none⟩ ∧ b < w.heap.size ∧ ∀ r, r < n → w.cell? ⟨b, off + r, none⟩ = some (.slice (A r) (L r).length (C r))) ∧ ∀ r, r < n → Bytes w (A r) (L r) ∧ (L r).length ≤ C r ∧ (A r = none → C r = 0) ∧ (L r).length ≤ 140737488351232
def PzI (w : World) (a : Option Addr) (n : Nat) (A : Nat → Option Addr) (L : Nat → List Int) (C : Nat → Nat) : Prop :=
  (n = 0 ∨ ∃ b off, a = some ⟨b, off, none⟩ ∧ b < w.heap.size ∧ ∀ r, r < n → w.cell? ⟨b, off + r, none⟩ = some (.slice (A r) (L r).length (C r))) ∧ ∀ r, r < n → Ints w (A r) (L r) ∧ (L r).length ≤ C r ∧ (A r = none → C r = 0) ∧ (L r).length * 8 ≤ 140737488351232
theorem PzB.keep {w w' : World} {a : Option Addr} {n : Nat} {A : Nat → Option Addr} {L : Nat → List Nat} {C : Nat → Nat} (h : PzB w a n A L C) (hb : Below w.heap.size w w') : PzB w' a n A L C := by
  refine ⟨?_, fun r hr => ⟨(h.2 r hr).1.keep hb, (h.2 r hr).2⟩⟩
  rcases h.1 with h | ⟨b, off, rfl, hlt, hc⟩
  · exact .inl h
  · exact .inr ⟨b, off, rfl, Nat.lt_of_lt_of_le hlt hb.size, fun i hi => (hb.cell (p := ⟨b, off + i, none⟩) hlt).trans (hc i hi)⟩
theorem PzI.keep {w w' : World} {a : Option Addr} {n : Nat} {A : Nat → Option Addr} {L : Nat → List Int} {C : Nat → Nat} (h : PzI w a n A L C) (hb : Below w.heap.size w w') : PzI w' a n A L C := by
  refine ⟨?_, fun r hr => ⟨(h.2 r hr).1.keep hb, (h.2 r hr).2⟩⟩
  rcases h.1 with h | ⟨b, off, rfl, hlt, hc⟩
  · exact .inl h
  · exact .inr ⟨b, off, rfl, Nat.lt_of_lt_of_le hlt hb.size, fun i hi => (hb.cell (p := ⟨b, off + i, none⟩) hlt).trans (hc i hi)⟩
theorem rows_at {W : World} {x : Addr} {len : Nat} {A : Nat → Option Addr} {L C : Nat → Nat} (h : ∀ r, r < len → W.cell? (x.add r) = some (.slice (A r) (L r) (C r))) : len = 0 ∨ ∃ b off, some x = some (⟨b, off, none⟩ : Addr) ∧ b < W.heap.size ∧ ∀ r, r < len → W.cell? ⟨b, off + r, none⟩ = some (.slice (A r) (L r) (C r)) := by
  by_cases h0 : len = 0
  · exact .inl h0
  · right
    obtain ⟨b, off, spot⟩ := x
    have hc0 := h 0 (by omega)
    have hspot : spot = none := by simpa [Addr.add] using World.cell?_spot hc0
    subst hspot
    refine ⟨b, off, rfl, World.block_lt_of_cell? _ _ hc0, fun r hr => ?_⟩
    have := h r hr
    rw [show (⟨b, off, none⟩ : Addr).add r = ⟨b, off + r, none⟩ from by simp [Addr.add]] at this
    exact this
section
variable {H : Type}
theorem sized_rows {ts : List TypeId} {ds : List (DataW H)} (h : (DataW.weightsEach Try.prog ts ds).all (· ≤ reachBytes) = true) {j len : Nat} {T E q : TypeId} {k : IntKind} {A : Nat → Option Addr} {L C : Nat → Nat} {Z : Nat → List Int} {sp : List (DataW H)} (ht : ts[j]? = some T)
    (hd : ds[j]? = some (.slice ((List.range len).map fun r => intRow k (A r) (L r) (Z r)) sp)) (hu : Try.prog.underlying T = some (.slice E)) (hE : Try.prog.underlying E = some (.slice q)) (hZ : ∀ r, r < len → (Z r).length = C r ∧ (A r = none → C r = 0) ∧ L r ≤ C r) : ∀ r, r < len → C r * Try.prog.bytesOf q ≤ reachBytes := by
  intro r hr
  obtain ⟨z1, z2, z3⟩ := hZ r hr
  cases hA : A r with
  | none => rw [z2 hA]; simp
  | some a =>
    have hm : intRow (H := H) k (A r) (L r) (Z r) ∈ (List.range len).map (fun r => intRow (H := H) k (A r) (L r) (Z r)) := List.mem_map.2 ⟨r, List.mem_range.2 hr, rfl⟩
    have hw : C r * Try.prog.bytesOf q ∈ (intRow (H := H) k (A r) (L r) (Z r)).weights Try.prog E := by
      rw [hA]
      simp only [intRow, DataW.weights, hE, lits, List.length_map, List.length_take, List.length_drop]
      rw [show min (L r) (Z r).length + ((Z r).length - L r) = C r from by rw [z1]; omega]
      simp
    have := List.all_eq_true.1 h _ (DataW.weights_mem_each ht hd _ (by
      simp only [DataW.weights, hu, List.mem_cons, List.mem_append]
      exact .inr (.inl (weights_all_memO hm _ hw))))
    exact of_decide_eq_true this
end
theorem pzb_of {W : World} (x : Addr) (len cap : Nat) (A : Nat → Option Addr) (L C : Nat → Nat) (Z : Nat → List Int) (hl : len ≤ cap) (hsz : ∀ r, r < len → C r * 1 ≤ reachBytes)
    (hr : ∀ r, r < cap → W.cell? (x.add r) = some (.slice (A r) (L r) (C r)) ∧ L r ≤ C r ∧ C r ≤ maxLen ∧ (Z r).length = C r ∧ (∀ n ∈ Z r, (Lit.int .u8 n).wf = true) ∧ (A r = none → C r = 0) ∧
        ∀ a', A r = some a' → 0 ≤ a'.block ∧ ∀ c, c < C r → W.cell? (a'.add c) = some (.int .u8 ((Z r).getD c 0))) :
    ∃ ll : Nat → List Nat, PzB W (some x) len A ll C := by
  have each : ∀ r, r < len → ∃ l : List Nat, l.length = L r ∧ Bytes W (A r) l := by
    intro r hlt
    obtain ⟨h1, h2, h3, h4, h5, h6, h7⟩ := hr r (by omega)
    cases hA : A r with
    | none =>
      have := h6 hA
      exact ⟨[], by simp; omega, by simp, .inl rfl⟩
    | some a' =>
      obtain ⟨_, hc⟩ := h7 a' hA
      obtain ⟨ll, e1, e2, e3⟩ := row_nats .u8 256 (by decide) wf_u8 W a' (Z r) (L r) (by omega) (by rw [h4]; exact hc) h5
      exact ⟨ll, e1, e2, e3⟩
  obtain ⟨ll, hll⟩ := choose_lt each
  refine ⟨ll, ?_, fun r h => ⟨(hll r h).2, by rw [(hll r h).1]; exact (hr r (by omega)).2.1, (hr r (by omega)).2.2.2.2.2.1, ?_⟩⟩
  · rcases rows_at (fun r h => (hr r (by omega : r < cap)).1) (len := len) with h | ⟨b, off, h1, h2, h3⟩
    · exact .inl h
    · exact .inr ⟨b, off, h1, h2, fun r h => by rw [h3 r h, (hll r h).1]⟩
  · have h1 := hsz r h
    have h2 := (hr r (by omega)).2.1
    rw [(hll r h).1]
    simp only [reachBytes] at h1
    omega
theorem pzi_of {W : World} (x : Addr) (len cap : Nat) (A : Nat → Option Addr) (L C : Nat → Nat) (Z : Nat → List Int) (hl : len ≤ cap) (hsz : ∀ r, r < len → C r * 8 ≤ reachBytes)
    (hr : ∀ r, r < cap → W.cell? (x.add r) = some (.slice (A r) (L r) (C r)) ∧ L r ≤ C r ∧ C r ≤ maxLen ∧ (Z r).length = C r ∧ (∀ n ∈ Z r, (Lit.int .i64 n).wf = true) ∧ (A r = none → C r = 0) ∧
        ∀ a', A r = some a' → 0 ≤ a'.block ∧ ∀ c, c < C r → W.cell? (a'.add c) = some (.int .i64 ((Z r).getD c 0))) :
    ∃ ll : Nat → List Int, PzI W (some x) len A ll C := by
  have each : ∀ r, r < len → ∃ l : List Int, l.length = L r ∧ Ints W (A r) l := by
    intro r hlt
    obtain ⟨h1, h2, h3, h4, h5, h6, h7⟩ := hr r (by omega)
    cases hA : A r with
    | none =>
      have := h6 hA
      exact ⟨[], by simp; omega, by simp, .inl rfl⟩
    | some a' =>
      obtain ⟨_, hc⟩ := h7 a' hA
      obtain ⟨ll, e1, e2, e3⟩ := row_ints W a' (Z r) (L r) (by omega) (by rw [h4]; exact hc) h5
      exact ⟨ll, e1, e2, e3⟩
  obtain ⟨ll, hll⟩ := choose_lt each
  refine ⟨ll, ?_, fun r h => ⟨(hll r h).2, by rw [(hll r h).1]; exact (hr r (by omega)).2.1, (hr r (by omega)).2.2.2.2.2.1, ?_⟩⟩
  · rcases rows_at (fun r h => (hr r (by omega : r < cap)).1) (len := len) with h | ⟨b, off, h1, h2, h3⟩
    · exact .inl h
    · exact .inr ⟨b, off, h1, h2, fun r h => by rw [h3 r h, (hll r h).1]⟩
  · have h1 := hsz r h
    have h2 := (hr r (by omega)).2.1
    rw [(hll r h).1]
    simp only [reachBytes] at h1
    omega
end Go.Proofs.Ytlnhhgmdajbepaa
