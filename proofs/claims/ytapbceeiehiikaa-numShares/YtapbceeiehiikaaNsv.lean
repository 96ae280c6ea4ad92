/- The reference's Share whatever it is given; new rows of numbers. -/
import Derived.Test.YtapbceeiehiikaaNsu
namespace Go.Proofs.Ytapbceeiehiikaa
open Go.ChangeShapes Go.WideShapes Go.ChangeAt Go.RowKit Go.Sort
set_option linter.unusedVariables false
set_option maxRecDepth 20000 in
set_option maxHeartbeats 4000000 in
theorem rshare_any (t : Int) (l : List Int) (n : Nat) (a : Option Addr) (cap : Nat) (w : World) (ht : inI t) (hI : Ints w a l) (hn : l.length = n) :
    Calls Try.prog 7 #[.int .i64 t, .slice a n cap] w (ShP w t l n) := by
  by_cases h0 : t < 0
  · have HNO : Hid (shB t l = false) := by show _ = _; unfold shB; rw [decide_eq_false_iff_not]; rintro ⟨h, _⟩; omega
    clear hI hn ht
    go_enter Try.func7, Try.ntmps7
    go_wp2
    go_ret2
    exact ShP.no HNO.out (Below.refl _ _)
  · by_cases h64 : 64 < n
    · have h64z : (64 : Int) < (n : Int) := by omega
      have HNO : Hid (shB t l = false) := by show _ = _; unfold shB; rw [decide_eq_false_iff_not]; rintro ⟨_, h, _⟩; omega
      clear hI hn ht
      go_enter Try.func7, Try.ntmps7
      go_wp2
      go_ret2
      exact ShP.no HNO.out (Below.refl _ _)
    · obtain ⟨T, rfl⟩ : ∃ T : Nat, t = (T : Int) := ⟨t.toNat, by omega⟩
      unfold inI at ht
      exact rshare_nat T l n a cap w (by omega) hI hn (by omega)
/-- v is a row made behind base, and holds P -/
def NewI (base : Nat) (w : World) (v : Value) (P : List Int) : Prop := ∃ a c, v = .slice a P.length c ∧ Ints w a P ∧ (P = [] ∨ ∃ g, a = some ⟨g, 0, none⟩ ∧ base ≤ g ∧ RowF (.int .i64) w g P.length (fun i => P.getD i 0))
theorem NewI.void (base : Nat) (w : World) : NewI base w (.slice none 0 0) [] := ⟨_, _, rfl, ⟨by simp, .inl rfl⟩, .inl rfl⟩
theorem NewI.own {w : World} {base : Nat} {v : Value} {P : List Int} (h : OwnI w base v P) : NewI base w v P := by
  obtain ⟨a, c, hv, _, _, hI⟩ := h.shape
  refine ⟨a, c, hv, hI, ?_⟩
  by_cases hp : P = []
  · exact .inl hp
  · obtain ⟨h0, h1, h2⟩ := h
    rcases h2 with ⟨hv2, hn⟩ | ⟨g, cap, cur, hv2, hbg, hg, hr⟩
    · exact absurd (List.length_eq_zero_iff.1 hn) hp
    · rw [hv] at hv2
      cases hv2
      have ho : w.ownsRow base 2 1 (.slice (some ⟨g, 0, none⟩) P.length c) P.length (BI P) := ⟨h1, .inr ⟨g, c, cur, rfl, hbg, hg, hr⟩⟩
      refine .inr ⟨g, rfl, hbg, fun i hi => ?_, fun i hi => frozen_of_row w g i _ _ hg, (own_lt ho).1⟩
      rw [World.ownsRow.cellAt ho i (by omega), BI_get P i hi]
theorem NewI.dealt {w w' : World} {l : List Int} {n b : Nat} {t : Int} (h : Dealt w' l n t b) (hb : w.heap.size ≤ b) : NewI w.heap.size w' (.slice (some ⟨b, 0, none⟩) n n) (shpL l n t.toNat l.sum.toNat) := by
  have hl := shpL_len l n t.toNat l.sum.toNat
  refine ⟨some ⟨b, 0, none⟩, n, by rw [hl], h.ints, .inr ⟨b, rfl, hb, ?_⟩⟩
  rw [hl]
  exact h.row
theorem NewI.keep {base : Nat} {w w' : World} {v : Value} {P : List Int} (h : NewI base w v P) (hb : Below w.heap.size w w') : NewI base w' v P := by
  obtain ⟨a, c, h1, h2, h3⟩ := h
  refine ⟨a, c, h1, h2.keep hb, ?_⟩
  rcases h3 with h3 | ⟨g, h4, h5, h6⟩
  · exact .inl h3
  · exact .inr ⟨g, h4, h5, h6.keep hb h6.lt⟩
theorem Ints.same {w w' : World} {b : Nat} {l : List Int} (h : Ints w (some ⟨b, 0, none⟩) l) (hs : w.heap.size ≤ w'.heap.size) (hb : w'.heap[b]? = w.heap[b]?) : Ints w' (some ⟨b, 0, none⟩) l := by
  refine ⟨h.1, ?_⟩
  rcases h.2 with h2 | ⟨b2, off, e, hlt, hc⟩
  · exact .inl h2
  · cases e
    exact .inr ⟨b, 0, rfl, Nat.lt_of_lt_of_le hlt hs, fun i hi => (World.cell?_of_block (w := w) (a := ⟨b, 0 + i, none⟩) hb).trans (hc i hi)⟩
theorem heap_set_other (w : World) (a : Addr) (v : Value) (k : Nat) (h : k ≠ a.block) : (w.setCell a v).heap[k]? = w.heap[k]? := heap_setCell_other w a k v h
/-- what both answer of a dealing -/
def parts (t : Int) (l : List Int) (n : Nat) : List Int := if shB t l = true then shpL l n t.toNat l.sum.toNat else []
theorem ShP.new {w w' : World} {t : Int} {l : List Int} {n : Nat} {e : Ending} (h : ShP w t l n e w') : ∃ v, e = .returned (.tuple #[v, .bool (shB t l)]) ∧ Below w.heap.size w w' ∧ NewI w.heap.size w' v (parts t l n) := by
  obtain ⟨v, h1, h2, h3, h4⟩ := h
  refine ⟨v, h1, h2, ?_⟩
  unfold parts
  cases hs : shB t l with
  | false => rw [if_neg (by simp), h3 hs]; exact NewI.void _ _
  | true => rw [if_pos rfl]; exact NewI.own (h4 hs)
theorem share_new (t : Int) (l : List Int) (n : Nat) (a : Option Addr) (cap : Nat) (w : World) (ht : inI t) (hI : Ints w a l) (hn : l.length = n) :
    Calls Try.prog 8 #[.int .i64 t, .slice a n cap] w fun e w' => ∃ v, e = .returned (.tuple #[v, .bool (shB t l)]) ∧ Below w.heap.size w w' ∧ NewI w.heap.size w' v (parts t l n) := by
  refine (share_any t l n a cap w ht hI hn).mono ?_
  rintro e w' ⟨v, h1, h2, h3, h4⟩
  refine ⟨v, h1, h2, ?_⟩
  unfold parts
  cases hs : shB t l with
  | false => rw [if_neg (by simp), h3 hs]; exact NewI.void _ _
  | true =>
    rw [if_pos rfl]
    obtain ⟨b, rfl, g1, g2⟩ := h4 hs
    exact NewI.dealt g2 g1
theorem rshare_new (t : Int) (l : List Int) (n : Nat) (a : Option Addr) (cap : Nat) (w : World) (ht : inI t) (hI : Ints w a l) (hn : l.length = n) :
    Calls Try.prog 7 #[.int .i64 t, .slice a n cap] w fun e w' => ∃ v, e = .returned (.tuple #[v, .bool (shB t l)]) ∧ Below w.heap.size w w' ∧ NewI w.heap.size w' v (parts t l n) :=
  (rshare_any t l n a cap w ht hI hn).mono fun _ _ h => h.new
theorem RowF.same {mk : Int → Value} {w w' : World} {b n : Nat} {g : Nat → Int} (h : RowF mk w b n g) (hs : w.heap.size ≤ w'.heap.size) (hb : w'.heap[b]? = w.heap[b]?) : RowF mk w' b n g := by
  refine ⟨fun i hi => (World.cell?_of_block (w := w) (a := ⟨b, i, none⟩) hb).trans (h.cell i hi), fun i hi => ?_, Nat.lt_of_lt_of_le h.lt hs⟩
  rw [← h.free i hi]
  unfold World.frozen?
  rw [hb]
/-- the block of a row that was made behind base -/
theorem NewI.block {base : Nat} {w : World} {a : Option Addr} {n c : Nat} {P : List Int} (h : NewI base w (.slice a n c) P) : ∃ g, base ≤ g ∧ (P.length = 0 ∨ (a = some ⟨g, 0, none⟩ ∧ RowF (.int .i64) w g P.length (fun i => P.getD i 0))) := by
  obtain ⟨a2, c2, h1, h2, h3⟩ := h
  cases h1
  rcases h3 with rfl | ⟨g, h4, h5, h6⟩
  · exact ⟨base, Nat.le_refl _, .inl rfl⟩
  · exact ⟨g, h5, .inr ⟨h4, h6⟩⟩
theorem NewI.ints {base : Nat} {w : World} {a : Option Addr} {n c : Nat} {P : List Int} (h : NewI base w (.slice a n c) P) : Ints w a P := by
  obtain ⟨a2, c2, h1, h2, h3⟩ := h
  cases h1
  exact h2
theorem ints_void (w : World) (a : Option Addr) {P : List Int} (h : P.length = 0) : Ints w a P := by
  have := List.length_eq_zero_iff.1 h
  subst this
  exact ⟨by simp, .inl rfl⟩
end Go.Proofs.Ytapbceeiehiikaa
