/- Own texts, joined: Fsm. -/
import Derived.Test.YtlnhhgmdajbepaaK15
import Derived.Deep.RegionHeld3
namespace Go.Proofs.Ytlnhhgmdajbepaa
open Go.ChangeShapes Go.WideShapes Go.ChangeAt Go.RowKit Go.Shelf
set_option linter.unusedVariables false
structure FlsA (w : World) (a : Option Addr) (xs : List (Fa × Value)) : Prop where
  lie : xs = [] ∨ ∃ b off, a = some ⟨b, off, none⟩ ∧ b < w.heap.size ∧ ∀ j, j < xs.length * 3 → w.cell? ⟨b, off + j, none⟩ = (imfl xs)[j]?
  byt : ∀ x ∈ xs, ∃ a2 c2, x.2 = .slice a2 x.1.l.length c2 ∧ Bytes w a2 x.1.l ∧ x.1.l.length ≤ maxLen ∧ x.1.l.length ≤ c2 ∧ (a2 = none → c2 = 0)
theorem FlsA.keep {w w' : World} {a : Option Addr} {xs : List (Fa × Value)} (h : FlsA w a xs) (hb : Below w.heap.size w w') : FlsA w' a xs := by
  refine ⟨?_, fun x hx => ?_⟩
  · rcases h.lie with h1 | ⟨b, off, h1, h2, h3⟩
    · exact .inl h1
    · exact .inr ⟨b, off, h1, Nat.lt_of_lt_of_le h2 hb.size, fun j hj => (hb.cell (p := ⟨b, off + j, none⟩) h2).trans (h3 j hj)⟩
  · obtain ⟨a2, c2, h1, h2, h3, h4, h5⟩ := h.byt x hx
    exact ⟨a2, c2, h1, h2.keep hb, h3, h4, h5⟩
theorem OwnIm.fls {w : World} {base : Nat} {v : Value} {xs : List (Fa × Value)} (h : OwnIm w base v xs) : ∃ a c, v = .slice a xs.length c ∧ FlsA w a xs ∧ xs.length ≤ c ∧ (a = none → c = 0) := by
  have hby : ∀ x ∈ xs, ∃ a2 c2, x.2 = .slice a2 x.1.l.length c2 ∧ Bytes w a2 x.1.l ∧ x.1.l.length ≤ maxLen ∧ x.1.l.length ≤ c2 ∧ (a2 = none → c2 = 0) := fun x hx => by
    obtain ⟨a2, c2, h1, h2, h3, h4, h5⟩ := (h.2 x hx).shape
    refine ⟨a2, c2, h1, h4, Nat.le_trans h2 h3, h2, fun ha => ?_⟩
    rcases h5 with ⟨_, _, h6⟩ | ⟨g, h6, _⟩
    · exact h6
    · rw [ha] at h6; cases h6
  rcases h.1.2 with ⟨h1, h2⟩ | ⟨g, cap, cur, h1, h3, h4, h5⟩
  · have : xs = [] := List.length_eq_zero_iff.1 h2
    subst this
    exact ⟨none, 0, h1, ⟨.inl rfl, hby⟩, Nat.le_refl _, fun _ => rfl⟩
  · refine ⟨_, cap, h1, ⟨.inr ⟨g, 0, rfl, lt_of_heap h4, fun j hj => ?_⟩, hby⟩, h5.1, fun h => by cases h⟩
    have h' := h.1
    rw [h1] at h'
    rw [Nat.zero_add]
    exact h'.cellAt j hj
theorem imfl_get : ∀ (xs : List (Fa × Value)) (k : Nat) (x : Fa × Value), xs[k]? = some x → (imfl xs)[k * 3]? = some (.string (bs x.1.name)) ∧ (imfl xs)[k * 3 + 1]? = some x.2 ∧ (imfl xs)[k * 3 + 2]? = some (.int .i64 (x.1.s : Int))
  | [], k, x, h => by simp at h
  | y :: r, 0, x, h => by simp at h; subst h; simp [imfl]
  | y :: r, k + 1, x, h => by
    have := imfl_get r k x (by simpa using h)
    rw [show (k + 1) * 3 = k * 3 + 3 from by omega]
    simpa [imfl] using this
theorem FlsA.at {w : World} {a : Option Addr} {xs : List (Fa × Value)} (h : FlsA w a xs) (k : Nat) (x : Fa × Value) (hx : xs[k]? = some x) : ∃ b off, a = some ⟨b, off, none⟩ ∧ b < w.heap.size ∧ w.cell? ⟨b, off + k * 3, none⟩ = some (.string (bs x.1.name)) ∧ w.cell? ⟨b, off + k * 3 + 1, none⟩ = some x.2 ∧ w.cell? ⟨b, off + k * 3 + 2, none⟩ = some (.int .i64 (x.1.s : Int)) := by
  have hk : k < xs.length := (List.getElem?_eq_some_iff.1 hx).1
  obtain ⟨f0, f1, f2⟩ := imfl_get xs k x hx
  rcases h.lie with rfl | ⟨b, off, h1, h2, h3⟩
  · simp at hk
  · exact ⟨b, off, h1, h2, (h3 (k * 3) (by omega)).trans f0, (h3 (k * 3 + 1) (by omega)).trans f1, (h3 (k * 3 + 2) (by omega)).trans f2⟩
set_option maxRecDepth 20000 in
set_option maxHeartbeats 4000000 in
theorem fls_same (xs ys : List (Fa × Value)) (n : Nat) (a a' : Option Addr) (cap cap' : Nat) (w : World) (hxy : xs.map Prod.fst = ys.map Prod.fst) (hn : xs.length = n) (h1 : FlsA w a xs) (h2 : FlsA w a' ys) (hl : n ≤ 16777216) :
    Calls Try.prog 23 #[.slice a n cap, .slice a' n cap'] w fun e w' => e = .returned (.bool true) ∧ Below w.heap.size w w' := by
  have hn2 : ys.length = n := by have := congrArg List.length hxy; simp at this; omega
  have HX : Hid (xs.map Prod.fst = ys.map Prod.fst ∧ xs.length = n ∧ ys.length = n ∧ FlsA w a xs ∧ FlsA w a' ys) := ⟨hxy, hn, hn2, h1, h2⟩
  have hnI : (n : Int) ≤ 16777216 := by omega
  clear hxy hn hn2 h1 h2
  go_enter Try.func23, Try.ntmps23
  go_wp2
  go_loopw [13] (fun i wr => ∃ k : Nat, k ≤ n ∧ i = .int .i64 k ∧ Below w.heap.size w wr) (fun i _ => n - (intOf i).toNat)
  case atStart => exact ⟨0, Nat.zero_le _, rfl, Below.refl _ _⟩
  case round =>
    obtain ⟨k, hk, rfl, hbe⟩ := hrel
    by_cases hkn : k < n
    · obtain ⟨⟨fa, bv⟩, hp⟩ : ∃ p, xs[k]? = some p := ⟨_, List.getElem?_eq_getElem (by rw [HX.out.2.1]; exact hkn)⟩
      obtain ⟨⟨fa', bv'⟩, hp'⟩ : ∃ p, ys[k]? = some p := ⟨_, List.getElem?_eq_getElem (by rw [HX.out.2.2.1]; exact hkn)⟩
      have hfm : fa' = fa := by
        have h := congrArg (fun L => L[k]?) HX.out.1
        simp only [List.getElem?_map, hp, hp', Option.map_some, Option.some.injEq] at h
        exact h.symm
      subst hfm
      obtain ⟨b, off, rfl, hlt, c0, c1, c2⟩ := (HX.out.2.2.2.1.keep hbe).at k _ hp
      obtain ⟨b', off', rfl, hlt', d0, d1, d2⟩ := (HX.out.2.2.2.2.keep hbe).at k _ hp'
      obtain ⟨a2, s2, e2, hy2, hm2, _⟩ := (HX.out.2.2.2.1.keep hbe).byt _ (List.mem_of_getElem? hp)
      obtain ⟨a3, s3, e3, hy3, hm3, _⟩ := (HX.out.2.2.2.2.keep hbe).byt _ (List.mem_of_getElem? hp')
      simp only at c0 c1 c2 d0 d1 d2 e2 e3 hy2 hy3 hm2 hm3
      subst e2 e3
      obtain ⟨nm, hnm⟩ : ∃ nm, fa'.name = nm := ⟨_, rfl⟩
      obtain ⟨S, hS⟩ : ∃ S : Int, (fa'.s : Int) = S := ⟨_, rfl⟩
      obtain ⟨B, hB⟩ : ∃ B, fa'.l = B := ⟨_, rfl⟩
      rw [hnm] at c0 d0
      rw [hS] at c2 d2
      rw [hB] at c1 d1 hy2 hy3 hm2 hm3
      obtain ⟨N, hN⟩ : ∃ N, B.length = N := ⟨_, rfl⟩
      rw [hN] at c1 d1 hm2 hm3
      have HSM : Hid (∀ w1, Below wr.heap.size wr w1 → Calls Try.prog 19 #[.slice a2 N s2, .slice a3 N s3] w1 fun e w' => e = .returned (.bool true) ∧ Below w1.heap.size w1 w') := fun w1 hw1 => (same_at B B N N a2 a3 s2 s3 w1 hN hN (hy2.keep hw1) (hy3.keep hw1) (by rw [hN]; exact hm2) (by rw [hN]; exact hm2)).mono (fun e w' he => ⟨by rw [he.1, decide_eq_true rfl], by obtain ⟨m, rfl⟩ := he.2; exact below_dn (Below.refl _ _) m⟩)
      have hsz := hbe.size
      clear hp hp' hy2 hy3 hm2 hm3 hN hnm hS hB
      go_wp2
      go_region_held3 (fun w' => w'.cell? ⟨b, off + k * 3, none⟩ = some (.string (bs nm)) ∧ w'.cell? ⟨b, off + k * 3 + 1, none⟩ = some (.slice a2 N s2) ∧ w'.cell? ⟨b, off + k * 3 + 2, none⟩ = some (.int .i64 S) ∧ w'.cell? ⟨b', off' + k * 3, none⟩ = some (.string (bs nm)) ∧ w'.cell? ⟨b', off' + k * 3 + 1, none⟩ = some (.slice a3 N s3) ∧ w'.cell? ⟨b', off' + k * 3 + 2, none⟩ = some (.int .i64 S)) (go_keep) (first
        | (go_at_call 19; refine (HSM.out _ ?_).mono ?_; exact below_dn (Below.refl _ _) _; rintro e w3 ⟨rfl, hb3⟩; have cc0 : w3.cell? ⟨b, off + k * 3, none⟩ = some (.string (bs nm)) := (hb3.cell (p := ⟨b, off + k * 3, none⟩) hlt).trans c0; have cc1 : w3.cell? ⟨b, off + k * 3 + 1, none⟩ = some (.slice a2 N s2) := (hb3.cell (p := ⟨b, off + k * 3 + 1, none⟩) hlt).trans c1; have cc2 : w3.cell? ⟨b, off + k * 3 + 2, none⟩ = some (.int .i64 S) := (hb3.cell (p := ⟨b, off + k * 3 + 2, none⟩) hlt).trans c2; have dd0 : w3.cell? ⟨b', off' + k * 3, none⟩ = some (.string (bs nm)) := (hb3.cell (p := ⟨b', off' + k * 3, none⟩) hlt').trans d0; have dd1 : w3.cell? ⟨b', off' + k * 3 + 1, none⟩ = some (.slice a3 N s3) := (hb3.cell (p := ⟨b', off' + k * 3 + 1, none⟩) hlt').trans d1; have dd2 : w3.cell? ⟨b', off' + k * 3 + 2, none⟩ = some (.int .i64 S) := (hb3.cell (p := ⟨b', off' + k * 3 + 2, none⟩) hlt').trans d2; have HB3 : Hid (Below wr.heap.size wr w3) := (below_dn (Below.refl _ _) _).trans hb3; clear hb3)
        | fail)
      all_goals go_wp2
      all_goals go_roundw
      case rel => exact ⟨k + 1, by omega, by go_num, hbe.trans (HB3.out.mono hsz)⟩
      case measure => simp [intOf]; omega
    · go_wp2
      go_ret
      exact ⟨rfl, hbe⟩
end Go.Proofs.Ytlnhhgmdajbepaa
