/- num.Share: where it deals nothing; and the first example. -/
import Derived.Test.YtblfmfanfpohbaaGreatNsj
namespace Go.Proofs.YtblfmfanfpohbaaGreat
open Go.ChangeShapes Go.WideShapes Go.ChangeAt Go.RowKit Go.Sort
/-- does Share deal -/
def shB (t : Int) (l : List Int) : Bool := decide (0 ≤ t ∧ l.length ≤ 64 ∧ wgB l = true)
set_option maxRecDepth 20000 in
set_option maxHeartbeats 4000000 in
theorem share_no (t : Int) (l : List Int) (n : Nat) (a : Option Addr) (cap : Nat) (w : World) (hI : Ints w a l) (hn : l.length = n) (hb : shB t l = false) :
    Calls Tryz.prog 18 #[.int .i64 t, .slice a n cap] w fun e w' => e = .returned (.tuple #[.slice none 0 0, .bool false]) ∧ Below w.heap.size w w' := by
  by_cases ht : t < 0
  · clear hb hI hn
    go_enter Tryz.func18, Tryz.ntmps18
    go_wp2
    go_ret2
    exact ⟨rfl, Below.refl _ _⟩
  · by_cases h64 : 64 < n
    · have h64z : (64 : Int) < (n : Int) := by omega
      clear hb hI hn
      go_enter Tryz.func18, Tryz.ntmps18
      go_wp2
      go_ret2
      exact ⟨rfl, Below.refl _ _⟩
    · have h64z : ¬ (64 : Int) < (n : Int) := by omega
      have hwg : wgB l = false := by
        cases hw : wgB l with
        | false => rfl
        | true =>
          unfold shB at hb
          rw [decide_eq_false_iff_not] at hb
          exact absurd ⟨by omega, by omega, hw⟩ hb
      obtain ⟨v, hv⟩ : ∃ v, wgV l = v := ⟨_, rfl⟩
      clear hb
      go_enter Tryz.func18, Tryz.ntmps18
      go_wp2_with (first
        | (go_at_call 42; refine (weigh_any l n a cap w hn hI (by omega)).mono ?_; rw [hwg, hv]; rintro e w1 ⟨rfl, hb1⟩))
      go_ret2
      exact ⟨rfl, hb1⟩
/-- the parts as a list -/
def shpL (l : List Int) (n T W : Nat) : List Int := (List.range n).map fun i => (shp n T W (wtN l) i : Int)
theorem shpL_len (l : List Int) (n T W : Nat) : (shpL l n T W).length = n := by simp [shpL]
theorem shpL_get (l : List Int) (n T W i : Nat) (hi : i < n) : (shpL l n T W).getD i 0 = (shp n T W (wtN l) i : Int) := by
  unfold shpL
  simp [List.getD_eq_getElem?_getD, hi]
theorem shpL_in {l : List Int} {n T W : Nat} (h : Deal l n T W) (hf : ∃ f, Ord n (rst T W (wtN l)) f) : ∀ x ∈ shpL l n T W, inI x := by
  intro x hx
  unfold shpL at hx
  rw [List.mem_map] at hx
  obtain ⟨i, hi, rfl⟩ := hx
  obtain ⟨f, hf⟩ := hf
  have := shp_le hf h.hW h.W0 h.n0 (List.mem_range.1 hi)
  have := h.T1
  unfold inI
  omega
theorem RowF.ints {w : World} {b n : Nat} {g : Nat → Int} (h : RowF (.int .i64) w b n g) (l : List Int) (hl : l.length = n) (e : ∀ i, i < n → l.getD i 0 = g i) (hin : ∀ x ∈ l, inI x) : Ints w (some ⟨b, 0, none⟩) l := by
  refine ⟨hin, ?_⟩
  by_cases h0 : n = 0
  · exact .inl (List.length_eq_zero_iff.1 (by omega))
  · refine .inr ⟨b, 0, rfl, h.lt, fun i hi => ?_⟩
    rw [Nat.zero_add, h.cell i (by omega), e i (by omega)]
theorem ShareP.ints {w w' : World} {l : List Int} {n T W : Nat} {v : Value} (h : ShareP w l n T W v w') (hD : Deal l n T W) : ∃ b, v = .slice (some ⟨b, 0, none⟩) n n ∧ w.heap.size ≤ b ∧ Ints w' (some ⟨b, 0, none⟩) (shpL l n T W) ∧ RowF (.int .i64) w' b n (fun i => (shpL l n T W).getD i 0) ∧ (∃ f, Ord n (rst T W (wtN l)) f) ∧ Below w.heap.size w w' := by
  obtain ⟨b, h1, h2, h3, h4, h5⟩ := h
  exact ⟨b, h1, h2, h3.ints _ (shpL_len _ _ _ _) (fun i hi => shpL_get l n T W i hi) (shpL_in hD h4), h3.congr fun i hi => (shpL_get l n T W i hi).symm, h4, h5⟩
theorem deal111 : Deal [1, 1, 1] 3 10 3 := ⟨rfl, by omega, by omega, by decide, by decide, by omega, by omega, by omega, by decide⟩
theorem wg111 : wgB [1, 1, 1] = true ∧ wgV [1, 1, 1] = ((3 : Nat) : Int) := by decide
theorem shp111 : shpL [1, 1, 1] 3 10 3 = [4, 3, 3] := by decide
/-- what Share answers where it deals, told of any later world -/
structure Dealt (w' : World) (l : List Int) (n : Nat) (t : Int) (b : Nat) : Prop where
  deal : Deal l n t.toNat l.sum.toNat
  pos : 0 ≤ t
  row : RowF (.int .i64) w' b n (fun i => (shpL l n t.toNat l.sum.toNat).getD i 0)
  ord : ∃ f, Ord n (rst t.toNat l.sum.toNat (wtN l)) f
theorem Dealt.keep {w w' : World} {l : List Int} {n b : Nat} {t : Int} (h : Dealt w l n t b) (hb : Below w.heap.size w w') : Dealt w' l n t b := ⟨h.deal, h.pos, h.row.keep hb h.row.lt, h.ord⟩
theorem Dealt.ints {w : World} {l : List Int} {n b : Nat} {t : Int} (h : Dealt w l n t b) : Ints w (some ⟨b, 0, none⟩) (shpL l n t.toNat l.sum.toNat) := h.row.ints _ (shpL_len _ _ _ _) (fun _ _ => rfl) (shpL_in h.deal h.ord)
theorem share_any (t : Int) (l : List Int) (n : Nat) (a : Option Addr) (cap : Nat) (w : World) (ht : inI t) (hI : Ints w a l) (hn : l.length = n) :
    Calls Tryz.prog 18 #[.int .i64 t, .slice a n cap] w fun e w' => ∃ v, e = .returned (.tuple #[v, .bool (shB t l)]) ∧ Below w.heap.size w w' ∧ (shB t l = false → v = .slice none 0 0) ∧ (shB t l = true → ∃ b, v = .slice (some ⟨b, 0, none⟩) n n ∧ w.heap.size ≤ b ∧ Dealt w' l n t b) := by
  cases hs : shB t l with
  | false =>
    refine (share_no t l n a cap w hI hn hs).mono ?_
    rintro e w' ⟨rfl, hb⟩
    exact ⟨_, rfl, hb, fun _ => rfl, fun h => nomatch h⟩
  | true =>
    have h := hs
    unfold shB at h
    rw [decide_eq_true_iff] at h
    obtain ⟨h1, h2, h3⟩ := h
    obtain ⟨T, rfl⟩ : ∃ T : Nat, t = (T : Int) := ⟨t.toNat, by omega⟩
    unfold inI at ht
    obtain ⟨W, hD, hv⟩ := deal_of l n T hn (by omega) (by omega) h3
    refine (share_yes l n T W a cap w hI h3 hv hD).mono ?_
    rintro e w' ⟨v, rfl, hp⟩
    obtain ⟨b, g1, g2, g3, g4, g5, g6⟩ := hp.ints hD
    have hW : l.sum.toNat = W := by rw [hD.s]; simp
    refine ⟨v, rfl, g6, (fun h => nomatch h), fun _ => ⟨b, g1, g2, ?_⟩⟩
    refine ⟨?_, by omega, ?_, ?_⟩
    · rw [hW, show ((T : Int)).toNat = T from by simp]; exact hD
    · rw [hW, show ((T : Int)).toNat = T from by simp]; exact g4
    · rw [hW, show ((T : Int)).toNat = T from by simp]; exact g5
theorem shpL_sum {l : List Int} {n T W : Nat} (h : Deal l n T W) (hf : ∃ f, Ord n (rst T W (wtN l)) f) : (shpL l n T W).sum = (T : Int) := by
  obtain ⟨f, hf⟩ := hf
  have h1 := sum_wt (shpL l n T W) (by
    intro x hx
    unfold shpL at hx
    rw [List.mem_map] at hx
    obtain ⟨i, _, rfl⟩ := hx
    omega)
  rw [shpL_len] at h1
  rw [← h1, sumN_congr (h := shp n T W (wtN l)) fun i hi => by
    show ((shpL l n T W).getD i 0).toNat = _
    rw [shpL_get l n T W i hi]
    simp]
  rw [shp_sum hf h.hW h.W0 h.n0]
theorem shB_all (t : Int) (l : List Int) (n : Nat) (hn : l.length = n) : shB t l = ((decide (0 ≤ t) && decide (n ≤ 64) && fitB l.sum && decide (0 < fitV l.sum)) && decide (∀ x ∈ l, 0 ≤ x)) := by
  subst hn
  unfold shB wgB
  cases hf : fitB l.sum with
  | false => simp
  | true =>
    have hr : fitV l.sum = l.sum := by
      unfold fitB at hf
      unfold fitV
      rw [if_pos (by simpa using hf)]
    rw [hr]
    by_cases h1 : 0 ≤ t <;> by_cases h2 : l.length ≤ 64 <;> by_cases h3 : 0 < l.sum <;> simp [h1, h2, h3]
end Go.Proofs.YtblfmfanfpohbaaGreat
