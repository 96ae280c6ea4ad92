/- The reference's long numbers: Zero, Over with its rest, and rows of them. -/
import Derived.Test.YtblfmfanfpohbaaGreatOver
import Derived.Test.YtblfmfanfpohbaaGreatRSum
import Derived.Test.YtblfmfanfpohbaaGreatNsk
import Derived.Deep.MidRow
namespace Go.Proofs.YtblfmfanfpohbaaGreat
open Go.ChangeShapes Go.WideShapes Go.ChangeAt Go.RowKit Go.Sort
theorem cmp0 (A : Nat) : (cmpV A 0 == 0) = decide (A = 0) := by
  unfold cmpV
  rcases Nat.eq_zero_or_pos A with c | c
  · subst c; decide
  · rw [decide_eq_false (by omega)]
    have h1 : ¬ A < 0 := by omega
    simp [h1, c]
theorem LA_zero : #[Value.bool false, Value.int .u64 0, Value.int .u64 0, Value.int .u64 0, Value.int .u64 0, Value.int .u64 0, Value.int .u64 0, Value.int .u64 0, Value.int .u64 0, Value.int .u64 0, Value.int .u64 0, Value.int .u64 0, Value.int .u64 0, Value.int .u64 0, Value.int .u64 0, Value.int .u64 0, Value.int .u64 0] = LA false (fun _ => 0) := rfl
theorem V_nought : V (fun _ => 0) 16 = 0 := rfl
set_option maxRecDepth 20000 in
set_option maxHeartbeats 2000000 in
theorem zero_any (s : Bool) (x : Nat → Nat) (w : World) (hx : Dig x) :
    Calls Tryz.prog 35 #[.agg (LA s x)] w fun e w' => e = .returned (.bool (decide (V x 16 = 0))) ∧ Below w.heap.size w w' := by
  obtain ⟨X, hX⟩ : ∃ X, LA s x = X := ⟨_, rfl⟩
  have HX : Hid (LA s x = X) := hX
  have HD : Hid (Dig x) := hx
  rw [hX]
  have hsx : X.size = 17 := by rw [← hX]; rfl
  have HL : Hid (LongAt (w.alloc (.cells X 61)) w.heap.size s x ∧ Below w.heap.size w (w.alloc (.cells X 61))) := by rw [← hX]; exact lay1 w s x
  obtain ⟨r, hr⟩ : ∃ r, cmpV (V x 16) 0 = r := ⟨_, rfl⟩
  have HR : Hid ((r == 0) = decide (V x 16 = 0)) := by show _ = _; rw [← hr]; exact cmp0 _
  have HC : Hid (cmpV (V x 16) 0 = r) := hr
  clear hX hx hr
  go_enter Tryz.func35, Tryz.ntmps35
  go_wp2_with (first
    | ((with_reducible refine guard_load 61 ?_); refine wpList_load_long rfl _ rfl HL.out.1 rfl ?_)
    | (go_at_call 40; rw [LA_zero]; refine (cmp_any s false x (fun _ => 0) _ HD.out (fun _ => by simp)).mono ?_; rw [V_nought, HC.out]; rintro e w2 ⟨rfl, hb2⟩; have HB2 : Hid (Below w.heap.size w w2) := bnx HL.out.2 hb2; clear hb2))
  go_ret
  exact ⟨ret_bool HR.out, HB2.out⟩
theorem over_qr (v u : Value) (A W : Nat) (w : World) (hv : IsL v (A : Int)) (hu : IsL u (W : Int)) (h0 : 0 < W) (h1 : W < 65536 ^ 15) :
    Calls Tryz.prog 37 #[v, u] w fun e w' => ∃ s q r, e = .returned (.tuple #[.agg (LA s q), .agg (LA false r)]) ∧ (Dig q ∧ sgn s (V q 16) = ((A / W : Nat) : Int)) ∧ (Dig r ∧ V r 16 = A % W) ∧ Below w.heap.size w w' := by
  obtain ⟨s, x, rfl, hx, hA⟩ := hv
  obtain ⟨t, y, rfl, hy, hW⟩ := hu
  have eA : V x 16 = A := by unfold sgn at hA; split at hA <;> omega
  have eW : V y 16 = W := by unfold sgn at hW; split at hW <;> omega
  have ht : t = false := by
    cases t with
    | false => rfl
    | true => unfold sgn at hW; rw [if_pos rfl] at hW; omega
  refine (over_any s t x y A W w hx hy eA eW h0 h1).mono ?_
  rintro e w' ⟨q, r, rfl, hq, hr, hVq, hVr, hb⟩
  refine ⟨_, q, r, rfl, ⟨hq, ?_⟩, ⟨hr, hVr⟩, hb⟩
  rw [hVq, ht]
  cases s with
  | false => rfl
  | true =>
    have : A = 0 := by unfold sgn at hA; rw [if_pos rfl] at hA; omega
    subst this
    rw [Nat.zero_div]; rfl
theorem times_nat (v u : Value) (A B : Nat) (w : World) (hv : IsL v (A : Int)) (hu : IsL u (B : Int)) (hA : A < 18446744073709551616) (hB : B < 18446744073709551616) :
    Calls Tryz.prog 38 #[v, u] w fun e w' => ∃ r, e = .returned r ∧ IsL r ((A * B : Nat) : Int) ∧ Below w.heap.size w w' := by
  obtain ⟨s, x, rfl, hx, h1⟩ := hv
  obtain ⟨t, y, rfl, hy, h2⟩ := hu
  have e1 : V x 16 = A := by unfold sgn at h1; split at h1 <;> omega
  have e2 : V y 16 = B := by unfold sgn at h2; split at h2 <;> omega
  have h9 : (18446744073709551616 : Nat) ≤ 65536 ^ 8 := by decide
  refine (times_any s t x y w hx hy).mono ?_
  rintro e w' ⟨z, rfl, hz, hV, hb⟩
  refine ⟨_, rfl, ⟨_, z, rfl, hz, ?_⟩, hb⟩
  have g1 : V x 16 = V x 8 := Tm.low (by rw [e1]; exact Nat.lt_of_lt_of_le hA h9)
  have g2 : V y 16 = V y 8 := Tm.low (by rw [e2]; exact Nat.lt_of_lt_of_le hB h9)
  have hV' : V z 16 = A * B := by rw [hV, ← g1, ← g2, e1, e2]
  rw [hV']
  unfold sgn
  by_cases c : (s != t) = true
  · rw [if_pos c]
    have : A = 0 ∨ B = 0 := by
      cases s with
      | true => unfold sgn at h1; rw [if_pos rfl] at h1; left; omega
      | false =>
        cases t with
        | true => unfold sgn at h2; rw [if_pos rfl] at h2; right; omega
        | false => cases c
    have h0 : A * B = 0 := by rcases this with h | h <;> rw [h] <;> simp
    rw [h0]; rfl
  · rw [if_neg c]
/-- the cells of a row of long numbers -/
def lcs (L : List (Nat → Nat)) : List Value := L.flatMap fun d => (LA false d).toList
theorem lcs_len (L : List (Nat → Nat)) : (lcs L).length = L.length * 17 := by
  induction L with
  | nil => rfl
  | cons d r ih => unfold lcs at ih ⊢; rw [List.flatMap_cons, List.length_append, ih, List.length_cons]; show 17 + _ = _; omega
theorem lcs_append (L M : List (Nat → Nat)) : lcs (L ++ M) = lcs L ++ lcs M := by unfold lcs; rw [List.flatMap_append]
theorem lcs_one (d : Nat → Nat) : lcs [d] = (LA false d).toList := by unfold lcs; simp
theorem lcs_get (L : List (Nat → Nat)) (k : Nat) (hk : k < L.length) (j : Nat) (hj : j < 17) : (lcs L)[k * 17 + j]? = (LA false (L.getD k (fun _ => 0)))[j]? := by
  induction L generalizing k with
  | nil => simp at hk
  | cons d r ih =>
    unfold lcs
    rw [List.flatMap_cons]
    cases k with
    | zero =>
      rw [Nat.zero_mul, Nat.zero_add, List.getElem?_append_left (by show j < 17; exact hj)]
      simp [Array.getElem?_toList]
    | succ k =>
      rw [List.getElem?_append_right (by show 17 ≤ _; omega)]
      have := ih k (by simpa using hk)
      unfold lcs at this
      rw [show (k + 1) * 17 + j - (LA false d).toList.length = k * 17 + j from by show _ - 17 = _; omega, this]
      simp
/-- the value v is a row of the call's own that holds these long numbers -/
def OwnLg (w : World) (base : Nat) (v : Value) (L : List (Nat → Nat)) : Prop := w.ownsRow base 61 17 v L.length (lcs L)
theorem OwnLg.shape {w : World} {base : Nat} {v : Value} {L : List (Nat → Nat)} (h : OwnLg w base v L) :
    ∃ a cap, v = .slice a L.length cap ∧ L.length ≤ cap ∧ (L = [] ∨ ∃ g, a = some ⟨g, 0, none⟩ ∧ base ≤ g ∧ g < w.heap.size ∧ ∀ k, k < L.length → w.rangeAt g (k * 17) (LA false (L.getD k (fun _ => 0))).toList) := by
  have h' := h
  obtain ⟨h1, h2⟩ := h
  rcases h2 with ⟨rfl, hn⟩ | ⟨g, cap, cur, rfl, hb, hg, hnc, hcm, hcs, htake⟩
  · have : L = [] := List.length_eq_zero_iff.1 hn
    subst this
    exact ⟨none, 0, rfl, Nat.le_refl _, .inl rfl⟩
  · have hlt : g < w.heap.size := by
      by_cases hh : g < w.heap.size
      · exact hh
      · rw [Array.getElem?_eq_none (by omega)] at hg; cases hg
    refine ⟨some ⟨g, 0, none⟩, cap, rfl, hnc, .inr ⟨g, rfl, hb, hlt, fun k hk j v hj => ?_⟩⟩
    have hj17 : j < 17 := by
      by_cases c : j < 17
      · exact c
      · rw [List.getElem?_eq_none (by show 17 ≤ j; omega)] at hj; cases hj
    have hc := World.ownsRow.cellAt h' (k * 17 + j) (by omega)
    rw [hc, lcs_get L k hk j hj17, ← hj]
    simp [Array.getElem?_toList]
theorem Tryz.infoLg : (Tryz.prog.info? 61).map (fun i => (i.zero, i.size, i.bytes)) = some (some (.agg (LA false fun _ => 0)), 17, 136) := by kernel_rfl
theorem LA_oneL (d : Nat → Nat) : ∀ u ∈ (LA false d).toList, u.oneCell' = true := by
  intro u hu
  have := LA_one false d
  rw [Array.all_eq_true_iff_forall_mem] at this
  exact this u (by simpa using hu)
end Go.Proofs.YtblfmfanfpohbaaGreat
