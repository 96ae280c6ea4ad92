/- Placed frames in memory; the reference's Same of two such lists that say the same. -/
import Derived.Test.YtpcnebcnjnbdnaaDoorSc6
import Derived.Test.YtpcnebcnjnbdnaaDoorFr6
import Derived.Deep.RegionHeld3
namespace Go.Proofs.YtpcnebcnjnbdnaaDoor
open Go.ChangeShapes Go.WideShapes Go.ChangeAt Go.RowKit Go.Shelf
set_option linter.unusedVariables false
theorem get_lt {α : Type} {L : List α} {k : Nat} {p : α} (h : L[k]? = some p) : k < L.length := (List.getElem?_eq_some_iff.1 h).1
theorem lt_get {α : Type} {L : List α} {k : Nat} (h : k < L.length) : ∃ p, L[k]? = some p := ⟨L[k], List.getElem?_eq_getElem h⟩
structure PlcA (w : World) (a : Option Addr) (xs : List It) : Prop where
  lie : xs = [] ∨ ∃ b off, a = some ⟨b, off, none⟩ ∧ b < w.heap.size ∧ ∀ j, j < xs.length * 5 → w.cell? ⟨b, off + j, none⟩ = (pflt xs)[j]?
  byt : ∀ x ∈ xs, ∃ a2 c2, x.bv = .slice a2 x.fm.body.length c2 ∧ Bytes w a2 x.fm.body ∧ x.fm.body.length ≤ maxLen
theorem PlcA.keep {w w' : World} {a : Option Addr} {xs : List It} (h : PlcA w a xs) (hb : Below w.heap.size w w') : PlcA w' a xs := by
  refine ⟨?_, fun x hx => ?_⟩
  · rcases h.lie with h1 | ⟨b, off, h1, h2, h3⟩
    · exact .inl h1
    · exact .inr ⟨b, off, h1, Nat.lt_of_lt_of_le h2 hb.size, fun j hj => (hb.cell (p := ⟨b, off + j, none⟩) h2).trans (h3 j hj)⟩
  · obtain ⟨a2, c2, h1, h2, h3⟩ := h.byt x hx
    exact ⟨a2, c2, h1, h2.keep hb, h3⟩
theorem OwnP.plc {w : World} {base : Nat} {v : Value} {xs : List It} (h : OwnP w base v xs) : ∃ a c, v = .slice a xs.length c ∧ PlcA w a xs := by
  have hby : ∀ x ∈ xs, ∃ a2 c2, x.bv = .slice a2 x.fm.body.length c2 ∧ Bytes w a2 x.fm.body ∧ x.fm.body.length ≤ maxLen := fun x hx => by
    obtain ⟨a2, c2, h1, h2, h3, h4, _⟩ := (h.2 x hx).shape
    exact ⟨a2, c2, h1, h4, Nat.le_trans h2 h3⟩
  rcases h.1.2 with ⟨h1, h2⟩ | ⟨g, cap, cur, h1, h3, h4, h5⟩
  · have : xs = [] := List.length_eq_zero_iff.1 h2
    subst this
    exact ⟨none, 0, h1, .inl rfl, hby⟩
  · refine ⟨_, cap, h1, .inr ⟨g, 0, rfl, lt_of_heap h4, fun j hj => ?_⟩, hby⟩
    have h' := h.1
    rw [h1] at h'
    rw [Nat.zero_add]
    exact h'.cellAt j hj
theorem pflt_get : ∀ (xs : List It) (k : Nat) (x : It), xs[k]? = some x → (pflt xs)[k * 5]? = some (.int .i64 (x.fm.pos : Int)) ∧ (pflt xs)[k * 5 + 1]? = some (.int .i64 ((x.fm.body.length : Int) + 20)) ∧ (pflt xs)[k * 5 + 2]? = some (.int .i64 (x.fm.kind : Int)) ∧ (pflt xs)[k * 5 + 3]? = some (.int .i64 (x.fm.seq : Int)) ∧ (pflt xs)[k * 5 + 4]? = some x.bv
  | [], k, x, h => by simp at h
  | y :: r, 0, x, h => by simp at h; subst h; simp [pflt]
  | y :: r, k + 1, x, h => by
    have := pflt_get r k x (by simpa using h)
    rw [show (k + 1) * 5 = k * 5 + 5 from by omega]
    simpa [pflt] using this
theorem PlcA.at {w : World} {a : Option Addr} {xs : List It} (h : PlcA w a xs) (k : Nat) (x : It) (hx : xs[k]? = some x) : ∃ b off, a = some ⟨b, off, none⟩ ∧ b < w.heap.size ∧ w.cell? ⟨b, off + k * 5, none⟩ = some (.int .i64 (x.fm.pos : Int)) ∧ w.cell? ⟨b, off + k * 5 + 1, none⟩ = some (.int .i64 ((x.fm.body.length : Int) + 20)) ∧ w.cell? ⟨b, off + k * 5 + 2, none⟩ = some (.int .i64 (x.fm.kind : Int)) ∧ w.cell? ⟨b, off + k * 5 + 3, none⟩ = some (.int .i64 (x.fm.seq : Int)) ∧ w.cell? ⟨b, off + k * 5 + 4, none⟩ = some x.bv := by
  have hk := get_lt hx
  obtain ⟨f0, f1, f2, f3, f4⟩ := pflt_get xs k x hx
  rcases h.lie with rfl | ⟨b, off, h1, h2, h3⟩
  · simp at hk
  · exact ⟨b, off, h1, h2, (h3 (k * 5) (by omega)).trans f0, (h3 (k * 5 + 1) (by omega)).trans f1, (h3 (k * 5 + 2) (by omega)).trans f2, (h3 (k * 5 + 3) (by omega)).trans f3, (h3 (k * 5 + 4) (by omega)).trans f4⟩
set_option maxRecDepth 20000 in
set_option maxHeartbeats 4000000 in
theorem psame_any (xs ys : List It) (n : Nat) (a a' : Option Addr) (cap cap' : Nat) (w : World) (hxy : xs.map It.fm = ys.map It.fm) (hn : xs.length = n) (h1 : PlcA w a xs) (h2 : PlcA w a' ys) (hl : n ≤ 16777216) :
    Calls Tryd.prog 13 #[.slice a n cap, .slice a' n cap'] w fun e w' => e = .returned (.bool true) ∧ Below w.heap.size w w' := by
  have hn2 : ys.length = n := by have := congrArg List.length hxy; simp at this; omega
  have HX : Hid (xs.map It.fm = ys.map It.fm ∧ xs.length = n ∧ ys.length = n ∧ PlcA w a xs ∧ PlcA w a' ys) := ⟨hxy, hn, hn2, h1, h2⟩
  have hnI : (n : Int) ≤ 16777216 := by omega
  clear hxy hn hn2 h1 h2
  go_enter Tryd.func13, Tryd.ntmps13
  go_wp2
  go_loopw [13] (fun i wr => ∃ k : Nat, k ≤ n ∧ i = .int .i64 k ∧ Below w.heap.size w wr) (fun i _ => n - (intOf i).toNat)
  case atStart => exact ⟨0, Nat.zero_le _, rfl, Below.refl _ _⟩
  case round =>
    obtain ⟨k, hk, rfl, hbe⟩ := hrel
    by_cases hkn : k < n
    · obtain ⟨⟨⟨p, K, S, B⟩, bv⟩, hp⟩ := lt_get (L := xs) (k := k) (by rw [HX.out.2.1]; exact hkn)
      obtain ⟨⟨fm', bv'⟩, hp'⟩ := lt_get (L := ys) (k := k) (by rw [HX.out.2.2.1]; exact hkn)
      have hfm : fm' = ⟨p, K, S, B⟩ := by
        have h := congrArg (fun L => L[k]?) HX.out.1
        simp only [List.getElem?_map, hp, hp', Option.map_some, Option.some.injEq] at h
        exact h.symm
      subst hfm
      obtain ⟨b, off, rfl, hlt, c0, c1, c2, c3, c4⟩ := (HX.out.2.2.2.1.keep hbe).at k _ hp
      obtain ⟨b', off', rfl, hlt', d0, d1, d2, d3, d4⟩ := (HX.out.2.2.2.2.keep hbe).at k _ hp'
      obtain ⟨a2, s2, e2, hy2, hm2⟩ := (HX.out.2.2.2.1.keep hbe).byt _ (List.mem_of_getElem? hp)
      obtain ⟨a3, s3, e3, hy3, hm3⟩ := (HX.out.2.2.2.2.keep hbe).byt _ (List.mem_of_getElem? hp')
      simp only at c0 c1 c2 c3 c4 d0 d1 d2 d3 d4 e2 e3 hy2 hy3 hm2 hm3
      subst e2 e3
      obtain ⟨N, hN⟩ : ∃ N, B.length = N := ⟨_, rfl⟩
      rw [hN] at c1 c4 d1 d4 hm2 hm3
      have HSM : Hid (∀ w1, Below wr.heap.size wr w1 → Calls Tryd.prog 16 #[FrV (K : Int) (S : Int) (.slice a2 N s2), FrV (K : Int) (S : Int) (.slice a3 N s3)] w1 fun e w' => e = .returned (.bool true) ∧ Below w1.heap.size w1 w') := fun w1 hw1 => (fsame_any K S K S B B N N a2 a3 s2 s3 w1 hN hN (hy2.keep hw1) (hy3.keep hw1) hm2 hm3 rfl rfl).mono (by rintro e w' ⟨rfl, h⟩; exact ⟨by simp, h⟩)
      have hsz := hbe.size
      clear hp hp' hy2 hy3 hm2 hm3 hN
      go_wp2
      go_region_held3 (fun w' => w'.cell? ⟨b, off + k * 5, none⟩ = some (.int .i64 (p : Int)) ∧ w'.cell? ⟨b, off + k * 5 + 1, none⟩ = some (.int .i64 ((N : Int) + 20)) ∧ w'.cell? ⟨b, off + k * 5 + 2, none⟩ = some (.int .i64 (K : Int)) ∧ w'.cell? ⟨b, off + k * 5 + 3, none⟩ = some (.int .i64 (S : Int)) ∧ w'.cell? ⟨b, off + k * 5 + 4, none⟩ = some (.slice a2 N s2) ∧ w'.cell? ⟨b', off' + k * 5, none⟩ = some (.int .i64 (p : Int)) ∧ w'.cell? ⟨b', off' + k * 5 + 1, none⟩ = some (.int .i64 ((N : Int) + 20)) ∧ w'.cell? ⟨b', off' + k * 5 + 2, none⟩ = some (.int .i64 (K : Int)) ∧ w'.cell? ⟨b', off' + k * 5 + 3, none⟩ = some (.int .i64 (S : Int)) ∧ w'.cell? ⟨b', off' + k * 5 + 4, none⟩ = some (.slice a3 N s3)) (go_keep) (first
        | (go_at_call 16; refine (HSM.out _ ?_).mono ?_; exact below_drewN (Below.refl _ _) _; rintro e w3 ⟨rfl, hb3⟩; have cc0 : w3.cell? ⟨b, off + k * 5, none⟩ = some (.int .i64 (p : Int)) := (hb3.cell (p := ⟨b, off + k * 5, none⟩) hlt).trans c0; have cc1 : w3.cell? ⟨b, off + k * 5 + 1, none⟩ = some (.int .i64 ((N : Int) + 20)) := (hb3.cell (p := ⟨b, off + k * 5 + 1, none⟩) hlt).trans c1; have cc2 : w3.cell? ⟨b, off + k * 5 + 2, none⟩ = some (.int .i64 (K : Int)) := (hb3.cell (p := ⟨b, off + k * 5 + 2, none⟩) hlt).trans c2; have cc3 : w3.cell? ⟨b, off + k * 5 + 3, none⟩ = some (.int .i64 (S : Int)) := (hb3.cell (p := ⟨b, off + k * 5 + 3, none⟩) hlt).trans c3; have cc4 : w3.cell? ⟨b, off + k * 5 + 4, none⟩ = some (.slice a2 N s2) := (hb3.cell (p := ⟨b, off + k * 5 + 4, none⟩) hlt).trans c4; have dd0 : w3.cell? ⟨b', off' + k * 5, none⟩ = some (.int .i64 (p : Int)) := (hb3.cell (p := ⟨b', off' + k * 5, none⟩) hlt').trans d0; have dd1 : w3.cell? ⟨b', off' + k * 5 + 1, none⟩ = some (.int .i64 ((N : Int) + 20)) := (hb3.cell (p := ⟨b', off' + k * 5 + 1, none⟩) hlt').trans d1; have dd2 : w3.cell? ⟨b', off' + k * 5 + 2, none⟩ = some (.int .i64 (K : Int)) := (hb3.cell (p := ⟨b', off' + k * 5 + 2, none⟩) hlt').trans d2; have dd3 : w3.cell? ⟨b', off' + k * 5 + 3, none⟩ = some (.int .i64 (S : Int)) := (hb3.cell (p := ⟨b', off' + k * 5 + 3, none⟩) hlt').trans d3; have dd4 : w3.cell? ⟨b', off' + k * 5 + 4, none⟩ = some (.slice a3 N s3) := (hb3.cell (p := ⟨b', off' + k * 5 + 4, none⟩) hlt').trans d4; have HB3 : Hid (Below wr.heap.size wr w3) := (below_drewN (Below.refl wr.heap.size wr) _).trans hb3; clear hb3)
        | fail)
      all_goals go_wp2
      all_goals go_roundw
      case rel => exact ⟨k + 1, by omega, by go_num, hbe.trans (HB3.out.mono hsz)⟩
      case measure => simp [intOf]; omega
    · go_wp2
      go_ret
      exact ⟨rfl, hbe⟩
end Go.Proofs.YtpcnebcnjnbdnaaDoor
