/- A list of frames that came in, opened: kinds, numbers, bodies, and how much they are together. -/
import Derived.Test.YtfclpkfbfdeegaaDoorSc7
import Derived.Test.YtfclpkfbfdeegaaDoorBulk
import Derived.Deep.SlicePairs
namespace Go.Proofs.YtfclpkfbfdeegaaDoor
open Go.ChangeShapes Go.WideShapes Go.ChangeAt Go.RowKit Go.Deep
set_option linter.unusedVariables false
/-- a frame that came in: its kind and number, its body, where that lies -/
structure Fi where
  k : Int
  s : Int
  body : List Nat
  ad : Option Addr
  cp : Nat
/-- one of them lies well -/
structure FiOk (w : World) (f : Fi) : Prop where
  wk : (Lit.int .i64 f.k).wf = true
  ws : (Lit.int .i64 f.s).wf = true
  byt : Bytes w f.ad f.body
  len : f.body.length ≤ f.cp
  nil : f.ad = none → f.cp = 0
/-- frames that lie from address a on -/
structure FrsA (w : World) (a : Option Addr) (L : List Fi) : Prop where
  lie : L = [] ∨ ∃ b off, a = some ⟨b, off, none⟩ ∧ b < w.heap.size ∧ ∀ i f, L[i]? = some f → w.cell? ⟨b, off + i * 3, none⟩ = some (.int .i64 f.k) ∧ w.cell? ⟨b, off + i * 3 + 1, none⟩ = some (.int .i64 f.s) ∧ w.cell? ⟨b, off + i * 3 + 2, none⟩ = some (.slice f.ad f.body.length f.cp)
  oks : ∀ f ∈ L, FiOk w f
theorem FrsA.keep {w w' : World} {a : Option Addr} {L : List Fi} (h : FrsA w a L) (hb : Below w.heap.size w w') : FrsA w' a L := by
  refine ⟨?_, fun f hf => ?_⟩
  · rcases h.lie with h1 | ⟨b, off, h1, h2, h3⟩
    · exact .inl h1
    · refine .inr ⟨b, off, h1, Nat.lt_of_lt_of_le h2 hb.size, fun i f hf => ?_⟩
      obtain ⟨d0, d1, d2⟩ := h3 i f hf
      exact ⟨(hb.cell (p := ⟨b, off + i * 3, none⟩) h2).trans d0, (hb.cell (p := ⟨b, off + i * 3 + 1, none⟩) h2).trans d1, (hb.cell (p := ⟨b, off + i * 3 + 2, none⟩) h2).trans d2⟩
  · have := h.oks f hf
    exact ⟨this.wk, this.ws, this.byt.keep hb, this.len, this.nil⟩
/-- how much frames are together -/
def fbulk : List Fi → Nat
  | [] => 0
  | f :: r => f.cp + 4 + fbulk r
theorem fbulk_append : ∀ (L M : List Fi), fbulk (L ++ M) = fbulk L + fbulk M
  | [], M => by simp [fbulk]
  | f :: L, M => by simp only [List.cons_append, fbulk, fbulk_append L M]; omega
section
variable {H : Type} {enc : TypeId × Value → H} {w : World} {base : Nat} {held : Bool}
theorem open_frm {fuel : Nat} {c0 c1 c2 : Value} {x : DataW H × List MemPlace} (h : DataW.trod enc Tryd.prog w base (fun _ => true) held fuel 32 [c0, c1, c2] = some x) :
    ∃ f : Fi, c0 = .int .i64 f.k ∧ c1 = .int .i64 f.s ∧ c2 = .slice f.ad f.body.length f.cp ∧ FiOk w f ∧ f.cp + 4 ≤ Rows.uptoBulk x.1 := by
  obtain ⟨xs, n, _, hxy, _, hlen, hf⟩ := DataW.trod_struct Tryd.underlying32 h
  match xs, hlen with
  | [y0, y1, y2], _ =>
    have k0 : Tryd.prog.cellsOf 3 = 1 := by kernel_rfl
    have k3 : Tryd.prog.cellsOf 22 = 1 := by kernel_rfl
    have g0 : DataW.trod enc Tryd.prog w base (fun _ => true) held n 3 [c0] = some y0 := by have := hf 0 _ rfl; simpa [k0] using this
    have g1 : DataW.trod enc Tryd.prog w base (fun _ => true) held n 3 [c1] = some y1 := by have := hf 1 _ rfl; simpa [k0] using this
    have g2 : DataW.trod enc Tryd.prog w base (fun _ => true) held n 22 [c2] = some y2 := by have := hf 2 _ rfl; simpa [k3] using this
    obtain ⟨t, ht, hy0, ht2⟩ := DataW.trod_int Tryd.underlying3 g0
    obtain ⟨u, hu, hy1, hu2⟩ := DataW.trod_int Tryd.underlying3 g1
    simp only [List.cons.injEq, and_true] at ht hu
    subst hxy hy0 hy1
    rcases open_ints Tryd.underlying22 Tryd.underlying5 (by kernel_rfl) g2 with ⟨hcs, hx⟩ | ⟨a, len, cap, zs, hcs, _, hl, hm, hz, hx, hcell, hwz⟩
    · simp only [List.cons.injEq, and_true] at hcs
      subst hx
      exact ⟨⟨t, u, [], none, 0⟩, ht, hu, hcs, ⟨ht2, hu2, ⟨by simp, .inl rfl⟩, Nat.le_refl _, fun _ => rfl⟩, by simp [Rows.uptoBulk, Rows.uptoBulkAll]⟩
    · simp only [List.cons.injEq, and_true] at hcs
      have hz2 : zs.length = cap := by simpa using hz
      obtain ⟨ll, e1, e2, e3⟩ := row_nats .u8 256 (by decide) wf_u8 w a zs len (by omega) hcell hwz
      subst hx
      refine ⟨⟨t, u, ll, some a, cap⟩, ht, hu, by rw [hcs, e1], ⟨ht2, hu2, ⟨e2, e3⟩, by simp only; omega, fun h => by cases h⟩, ?_⟩
      have := bulks.slice_le (lits (H := H) .u8 (zs.take len)) (lits .u8 (zs.drop len))
      simp only [lits, List.length_map, List.length_take, List.length_drop] at this
      simp only [List.map_cons, List.map_nil, Rows.uptoBulk, Rows.uptoBulkAll, lits] at this ⊢
      omega
theorem bulk_map (D : Nat → DataW H) (q : Nat → Fi) : ∀ k : Nat, (∀ i, i < k → (q i).cp + 4 ≤ Rows.uptoBulk (D i)) → fbulk ((List.range k).map q) ≤ Rows.uptoBulkAll ((List.range k).map D)
  | 0, _ => by simp [fbulk]
  | k + 1, h => by
    have ih := bulk_map D q k (fun i hi => h i (by omega))
    rw [List.range_succ, List.map_append, List.map_append, fbulk_append]
    have ha : ∀ L M : List (DataW H), Rows.uptoBulkAll (L ++ M) = Rows.uptoBulkAll L + Rows.uptoBulkAll M := by
      intro L M
      induction L with
      | nil => simp [Rows.uptoBulkAll]
      | cons d r ihr => simp only [List.cons_append, Rows.uptoBulkAll, ihr]; omega
    rw [ha]
    have := h k (by omega)
    simp only [List.map_cons, List.map_nil, fbulk, Rows.uptoBulkAll]
    omega
theorem open_frames {fuel : Nat} {cs : List Value} {x : DataW H × List MemPlace} (h : DataW.trod enc Tryd.prog w base (fun _ => true) held fuel 37 cs = some x) :
    ∃ (a : Option Addr) (cap : Nat) (L : List Fi), cs = [.slice a L.length cap] ∧ L.length ≤ cap ∧ cap ≤ maxLen ∧ FrsA w a L ∧ fbulk L + 1 ≤ Rows.uptoBulk x.1 := by
  rcases open_slice Tryd.underlying37 h with ⟨rfl, rfl⟩ | ⟨a, len, cap, m, n, D, Pl, rfl, hb, hl, hm, hmm, rfl, hx⟩
  · exact ⟨none, 0, [], rfl, Nat.le_refl _, by simp, ⟨.inl rfl, fun f hf => by cases hf⟩, by simp [fbulk, Rows.uptoBulk]⟩
  have hmc : m = cap := by simpa using hmm
  subst hmc
  have ce : Tryd.prog.cellsOf 32 = 3 := by kernel_rfl
  have each : ∀ i, i < m → ∃ f : Fi, w.cell? (a.add (i * 3)) = some (.int .i64 f.k) ∧ w.cell? (a.add (i * 3 + 1)) = some (.int .i64 f.s) ∧ w.cell? (a.add (i * 3 + 2)) = some (.slice f.ad f.body.length f.cp) ∧ FiOk w f ∧ f.cp + 4 ≤ Rows.uptoBulk (D i) := by
    intro i hi
    obtain ⟨cs', h1, h2⟩ := hx i hi
    rw [ce] at h1
    obtain ⟨_, hlen, hcell⟩ := World.cells?_some h1
    match cs', hlen with
    | [v0, v1, v2], _ =>
      obtain ⟨f, r0, r1, r2, r3, r4⟩ := open_frm h2
      have e0 := hcell 0 (by omega)
      have e1 := hcell 1 (by omega)
      have e2 := hcell 2 (by omega)
      rw [add_add] at e0 e1 e2
      subst r0 r1 r2
      exact ⟨f, by simpa using e0, by simpa using e1, by simpa using e2, r3, r4⟩
  haveI : Inhabited Fi := ⟨⟨0, 0, [], none, 0⟩⟩
  obtain ⟨q, hq⟩ := choose_lt each
  refine ⟨some a, m, (List.range len).map q, by simp, by simp; exact hl, hm, ⟨?_, ?_⟩, ?_⟩
  · by_cases h0 : len = 0
    · left; subst h0; rfl
    · right
      obtain ⟨b, off, spot⟩ := a
      have hc0 := (hq 0 (by omega)).1
      have hspot : spot = none := by simpa [Addr.add] using World.cell?_spot hc0
      subst hspot
      refine ⟨b, off, rfl, World.block_lt_of_cell? _ _ hc0, fun i f hf => ?_⟩
      have hi : i < len := by have := (List.getElem?_eq_some_iff.1 hf).1; simpa using this
      rw [List.getElem?_map, List.getElem?_range hi] at hf
      cases hf
      obtain ⟨d0, d1, d2, _⟩ := hq i (by omega)
      have hadd : ∀ z, (⟨b, off, none⟩ : Addr).add z = ⟨b, off + z, none⟩ := fun z => by simp [Addr.add]
      rw [hadd] at d0 d1 d2
      exact ⟨d0, d1, d2⟩
  · intro f hf
    obtain ⟨i, hi, rfl⟩ := List.mem_map.1 hf
    exact (hq i (by have := List.mem_range.1 hi; omega)).2.2.2.1
  · have := bulk_map D q len (fun i hi => (hq i (by omega)).2.2.2.2)
    simp only [Rows.uptoBulk]
    omega
end
end Go.Proofs.YtfclpkfbfdeegaaDoor
