/- Own texts, joined: Own, Ev, ChkD, Chk1, Chk2, Chk3, Chk4, Chk5, EvM, Nb, Evg, Ost. -/
import Derived.Test.YtblfmfanfpohbaaGreatG01
import Derived.ProofKit
import Derived.WalkKit
import Derived.OpenShut
import Derived.Below
import Derived.Deep.Fields
import Derived.Test.YtblfmfanfpohbaaGreatG02
import Derived.Test.YtblfmfanfpohbaaGreatGld
import Derived.Laws.ResultCell
import Derived.Test.YtblfmfanfpohbaaGreatAid
namespace Go.Proofs.YtblfmfanfpohbaaGreat
open Go.ChangeShapes Go.WideShapes Go.ChangeAt Go.RowKit
def nilB (s : ByteArray) : Bool := s.toList.isEmpty
def ownB (v c t : Int) (wh : ByteArray) (s : Int) (n : ByteArray) : Bool := (decide (1 < v) || c == 0) && ((decide (2 < v) || t == 0) && ((decide (3 < v) || nilB wh) && (decide (4 < v) || (s == 0 && nilB n))))
set_option maxRecDepth 20000 in
set_option maxHeartbeats 1000000 in
theorem own_any (v k o i q p c t : Int) (wh : ByteArray) (s : Int) (n : ByteArray) (w : World) (h1 : 1 ≤ v) (h5 : v ≤ 5) :
    Calls Tryz.prog 112 #[.int .i64 v, .agg #[.int .i64 k, .int .i64 o, .int .i64 i, .int .i64 q, .int .i64 p, .int .i64 c, .int .i64 t, .string wh, .int .i64 s, .string n]] w fun e w' => e = .returned (.bool (ownB v c t wh s n)) ∧ Below w.heap.size w w' := by
  have h : v = 1 ∨ v = 2 ∨ v = 3 ∨ v = 4 ∨ v = 5 := by omega
  clear h1 h5
  rcases h with rfl | rfl | rfl | rfl | rfl
  all_goals
    go_enter Tryz.func112, Tryz.ntmps112
    go_wp2
    all_goals
      go_ret
      refine ⟨ret_bool ?_, (Below.refl _ _).alloc (Nat.le_refl _) _⟩
      simp [ownB, nilB, *]
end Go.Proofs.YtblfmfanfpohbaaGreat
namespace Go.Proofs.YtblfmfanfpohbaaGreat
open Go.ChangeShapes Go.WideShapes Go.ChangeAt Go.RowKit Go.Deep
/-- an event: its fields -/
structure Ev where
  kind : Int
  order : Int
  item : Int
  qty : Int
  price : Int
  cur : Int
  tax : Int
  who : ByteArray
  stamp : Int
  note : ByteArray
/-- whole numbers of 64 bits -/
def inW (a : Int) : Prop := -9223372036854775808 ≤ a ∧ a ≤ 9223372036854775807
theorem inW_of {a : Int} (h : (Lit.int .i64 a).wf = true) : inW a := by
  simpa [inW, Lit.wf, IntKind.min, IntKind.max, IntKind.signed, IntKind.bits] using h
/-- an event that fits its fields -/
structure Ev.Fit (e : Ev) : Prop where
  kind : inW e.kind
  order : inW e.order
  item : inW e.item
  qty : inW e.qty
  price : inW e.price
  cur : inW e.cur
  tax : inW e.tax
  who : e.who.size ≤ maxLen
  stamp : inW e.stamp
  note : e.note.size ≤ maxLen
theorem array10 {α : Type} {cs : Array α} (h : cs.size = 10) : ∃ c0 c1 c2 c3 c4 c5 c6 c7 c8 c9, cs = #[c0, c1, c2, c3, c4, c5, c6, c7, c8, c9] := by
  obtain ⟨l⟩ := cs
  match l, h with
  | [c0, c1, c2, c3, c4, c5, c6, c7, c8, c9], _ => exact ⟨c0, c1, c2, c3, c4, c5, c6, c7, c8, c9, rfl⟩
section
variable {H : Type} {enc : TypeId × Value → H} {P : Program} {w : World} {base : Nat} {spare : Nat → Bool} {held : Bool}
theorem struct10 {t : TypeId} {f0 f1 f2 f3 f4 f5 f6 f7 f8 f9 : Field} {fuel : Nat} {c0 c1 c2 c3 c4 c5 c6 c7 c8 c9 : Value} {x : DataW H × List MemPlace} (ht : P.underlying t = some (.struct #[f0, f1, f2, f3, f4, f5, f6, f7, f8, f9])) (hone : oneCellFields P #[f0, f1, f2, f3, f4, f5, f6, f7, f8, f9] = true)
    (h : DataW.trod enc P w base spare held fuel t [c0, c1, c2, c3, c4, c5, c6, c7, c8, c9] = some x) :
    ∃ y0 y1 y2 y3 y4 y5 y6 y7 y8 y9 n, x = (.agg [y0.1, y1.1, y2.1, y3.1, y4.1, y5.1, y6.1, y7.1, y8.1, y9.1], y0.2 ++ (y1.2 ++ (y2.2 ++ (y3.2 ++ (y4.2 ++ (y5.2 ++ (y6.2 ++ (y7.2 ++ (y8.2 ++ y9.2)))))))))
      ∧ DataW.trod enc P w base spare held n f0.type [c0] = some y0 ∧ DataW.trod enc P w base spare held n f1.type [c1] = some y1 ∧ DataW.trod enc P w base spare held n f2.type [c2] = some y2 ∧ DataW.trod enc P w base spare held n f3.type [c3] = some y3
      ∧ DataW.trod enc P w base spare held n f4.type [c4] = some y4 ∧ DataW.trod enc P w base spare held n f5.type [c5] = some y5 ∧ DataW.trod enc P w base spare held n f6.type [c6] = some y6 ∧ DataW.trod enc P w base spare held n f7.type [c7] = some y7
      ∧ DataW.trod enc P w base spare held n f8.type [c8] = some y8 ∧ DataW.trod enc P w base spare held n f9.type [c9] = some y9 := by
  obtain ⟨xs, n, _, rfl, _, hlen, hf⟩ := DataW.trod_struct ht h
  obtain ⟨o0, k0⟩ := hone_of hone 0 f0 rfl
  obtain ⟨o1, k1⟩ := hone_of hone 1 f1 rfl
  obtain ⟨o2, k2⟩ := hone_of hone 2 f2 rfl
  obtain ⟨o3, k3⟩ := hone_of hone 3 f3 rfl
  obtain ⟨o4, k4⟩ := hone_of hone 4 f4 rfl
  obtain ⟨o5, k5⟩ := hone_of hone 5 f5 rfl
  obtain ⟨o6, k6⟩ := hone_of hone 6 f6 rfl
  obtain ⟨o7, k7⟩ := hone_of hone 7 f7 rfl
  obtain ⟨o8, k8⟩ := hone_of hone 8 f8 rfl
  obtain ⟨o9, k9⟩ := hone_of hone 9 f9 rfl
  match xs, hlen with
  | [y0, y1, y2, y3, y4, y5, y6, y7, y8, y9], _ =>
    exact ⟨y0, y1, y2, y3, y4, y5, y6, y7, y8, y9, n, by simp, by simpa [o0, k0] using hf 0 f0 rfl, by simpa [o1, k1] using hf 1 f1 rfl, by simpa [o2, k2] using hf 2 f2 rfl, by simpa [o3, k3] using hf 3 f3 rfl, by simpa [o4, k4] using hf 4 f4 rfl,
      by simpa [o5, k5] using hf 5 f5 rfl, by simpa [o6, k6] using hf 6 f6 rfl, by simpa [o7, k7] using hf 7 f7 rfl, by simpa [o8, k8] using hf 8 f8 rfl, by simpa [o9, k9] using hf 9 f9 rfl⟩
theorem int_of {t : TypeId} {n : Nat} {c : Value} {y : DataW H × List MemPlace} (u : P.underlying t = some (.int .i64)) (h : DataW.trod enc P w base spare held n t [c] = some y) : ∃ a, c = .int .i64 a ∧ y = (.lit (.int .i64 a), []) ∧ inW a := by
  obtain ⟨a, hc, rfl, hw⟩ := DataW.trod_int u h
  simp only [List.cons.injEq, and_true] at hc
  exact ⟨a, hc, rfl, inW_of hw⟩
theorem str_of {t : TypeId} {n : Nat} {c : Value} {y : DataW H × List MemPlace} (u : P.underlying t = some .string) (h : DataW.trod enc P w base spare held n t [c] = some y) : ∃ s : ByteArray, c = .string s ∧ y = (.lit (.string s.data.toList), []) ∧ s.size ≤ maxLen := by
  obtain ⟨s, hc, rfl, hw⟩ := DataW.trod_string u h
  simp only [List.cons.injEq, and_true] at hc
  exact ⟨s, hc, rfl, hw⟩
theorem open_event {r : Reach} {b0 : Nat} {t : TypeId} {f0 f1 f2 f3 f4 f5 f6 f7 f8 f9 : Field} {v : Value} {d : DataW H} {p : List MemPlace} (hs : P.underlying t = some (.struct #[f0, f1, f2, f3, f4, f5, f6, f7, f8, f9])) (hone : oneCellFields P #[f0, f1, f2, f3, f4, f5, f6, f7, f8, f9] = true) (hC : P.cellsOf t = 10)
    (u0 : P.underlying f0.type = some (.int .i64)) (u1 : P.underlying f1.type = some (.int .i64)) (u2 : P.underlying f2.type = some (.int .i64)) (u3 : P.underlying f3.type = some (.int .i64)) (u4 : P.underlying f4.type = some (.int .i64)) (u5 : P.underlying f5.type = some (.int .i64))
    (u6 : P.underlying f6.type = some (.int .i64)) (u7 : P.underlying f7.type = some .string) (u8 : P.underlying f8.type = some (.int .i64)) (u9 : P.underlying f9.type = some .string)
    (hv : Value.okWide P w r b0 t v) (h : DataW.Trod enc P w base spare held t v d p) :
    ∃ e : Ev, v = .agg #[.int .i64 e.kind, .int .i64 e.order, .int .i64 e.item, .int .i64 e.qty, .int .i64 e.price, .int .i64 e.cur, .int .i64 e.tax, .string e.who, .int .i64 e.stamp, .string e.note] ∧ p = [] ∧ e.Fit := by
  obtain ⟨cs, rfl, hsz⟩ := okWide_struct hs hv
  obtain ⟨c0, c1, c2, c3, c4, c5, c6, c7, c8, c9, rfl⟩ := array10 (hsz.trans hC)
  obtain ⟨fuel, hf⟩ := h
  obtain ⟨y0, y1, y2, y3, y4, y5, y6, y7, y8, y9, n, hx, h0, h1, h2, h3, h4, h5, h6, h7, h8, h9⟩ := struct10 hs hone (by simpa [Value.cells] using hf)
  obtain ⟨a0, rfl, rfl, w0⟩ := int_of u0 h0
  obtain ⟨a1, rfl, rfl, w1⟩ := int_of u1 h1
  obtain ⟨a2, rfl, rfl, w2⟩ := int_of u2 h2
  obtain ⟨a3, rfl, rfl, w3⟩ := int_of u3 h3
  obtain ⟨a4, rfl, rfl, w4⟩ := int_of u4 h4
  obtain ⟨a5, rfl, rfl, w5⟩ := int_of u5 h5
  obtain ⟨a6, rfl, rfl, w6⟩ := int_of u6 h6
  obtain ⟨a7, rfl, rfl, w7⟩ := str_of u7 h7
  obtain ⟨a8, rfl, rfl, w8⟩ := int_of u8 h8
  obtain ⟨a9, rfl, rfl, w9⟩ := str_of u9 h9
  simp only [Prod.mk.injEq] at hx
  exact ⟨⟨a0, a1, a2, a3, a4, a5, a6, a7, a8, a9⟩, rfl, by simpa using hx.2, ⟨w0, w1, w2, w3, w4, w5, w6, w7, w8, w9⟩⟩
end
end Go.Proofs.YtblfmfanfpohbaaGreat
namespace Go.Proofs.YtblfmfanfpohbaaGreat
open Go.RowKit
def chkV (v l m last k o i q p c t : Int) (wh : ByteArray) (s : Int) (n : ByteArray) : Int :=
  if k < 1 ∨ last < k then 31 else if 16 < wh.size ∨ 120 < n.size then 24 else if bnd l m o i q p c t wh s = true ∧ ownB v c t wh s n = true then 0 else 32
end Go.Proofs.YtblfmfanfpohbaaGreat
namespace Go.Proofs.YtblfmfanfpohbaaGreat
open Go.ChangeShapes Go.WideShapes Go.ChangeAt Go.RowKit
set_option linter.unusedSimpArgs false
set_option maxRecDepth 20000 in
set_option maxHeartbeats 4000000 in
theorem check1 (k o i q p c t : Int) (wh : ByteArray) (s : Int) (n : ByteArray) (w : World) :
    Calls Tryz.prog 96 #[.int .i64 1, .agg #[.int .i64 k, .int .i64 o, .int .i64 i, .int .i64 q, .int .i64 p, .int .i64 c, .int .i64 t, .string wh, .int .i64 s, .string n]] w fun e w' => e = .returned (.int .i64 (chkV 1 (-10000) 1000000 5 k o i q p c t wh s n)) ∧ Below w.heap.size w w' := by
  obtain ⟨E, _, hE, hn, hbel, _, r0, r1, r2, r3, r4, r5, r6, r7, r8, r9⟩ := ev_held w k o i q p c t wh s n
  have HN : Hid (∀ w1 w2, E w1 → Below w1.heap.size w1 w2 → E w2) := hn
  have HB : Hid (∀ w2, E w2 → Below w.heap.size w w2) := hbel
  have R : Hid (∀ w2, E w2 → _ ∧ _ ∧ _ ∧ _ ∧ _ ∧ _ ∧ _ ∧ _ ∧ _ ∧ _) := fun w2 h => ⟨r0 w2 h, r1 w2 h, r2 w2 h, r3 w2 h, r4 w2 h, r5 w2 h, r6 w2 h, r7 w2 h, r8 w2 h, r9 w2 h⟩
  clear hn hbel r0 r1 r2 r3 r4 r5 r6 r7 r8 r9
  have CK : ∀ v w2, E w2 → Calls Tryz.prog 140 #[.agg v] w2 fun e w' => e = .returned (.int .i64 (5)) ∧ E w' := fun v w2 h => (v1_last v w2).mono fun e w' ⟨h1, h2⟩ => ⟨h1, HN.out _ _ h h2⟩
  have HCK : Hid (_) := CK
  clear CK
  have hm3 := m_last1
  have hk : k < 1 ∨ (1 ≤ k ∧ 5 < k) ∨ (1 ≤ k ∧ k ≤ 5) := by omega
  rcases hk with hk | ⟨hk, hk2⟩ | ⟨hk, hk2⟩
  · have HR : Hid (chkV 1 (-10000) 1000000 5 k o i q p c t wh s n = 31) := if_pos (.inl hk)
    have hd : decide (k < 1) = true := by simpa using hk
    go_enter Tryz.func96, Tryz.ntmps96
    go_wp2_with (go_at_call 110; refine (find_yes 1 _ (by omega) (by omega)).mono ?_; rintro e w' ⟨rfl, rfl⟩; unfold verV)
    refine wp_region_quiet (C := E) (by kernel_rfl) (by kernel_rfl) hE ?_
    simp only [List.toList_toArray]
    repeat (first
      | go_big_quiet_skip
      | (go_big_quiet_want
         first
         | (refine quiet_val (v := ?_) (fun w2 hw2 => ?_) ?_
            rotate_left
            · (first | (go_simp; with_reducible rfl) | (obtain ⟨q0, _⟩ := R.out w2 hw2; go_simp; with_reducible rfl))
            go_big_quiet_on; simp only [Act.put, List.setIfInBounds_toArray, List.set_cons_zero, List.set_cons_succ])
         | (refine quiet_call (v := ?_) (f := ?_) (args := ?_) (fun w2 hw2 => ?_) (fun w2 hw2 => ?_) ?_
            rotate_left 3
            · (go_simp; refine ⟨?_, ?_⟩ <;> with_reducible rfl)
            · (go_at_call 140; exact HCK.out _ _ hw2)
            go_big_quiet_on; simp only [Act.put, List.setIfInBounds_toArray, List.set_cons_zero, List.set_cons_succ])))
    refine wpQuiet_nil ?_
    intro w3 hw3'
    have HW3 : Hid (E w3) := hw3'
    clear hw3' hE
    go_wp2
    go_ret
    exact ⟨ret_int HR.out.symm, HB.out _ HW3.out⟩
  · have HR : Hid (chkV 1 (-10000) 1000000 5 k o i q p c t wh s n = 31) := if_pos (.inr hk2)
    have hd : decide (k < 1) = false := by simp; omega
    have hd2 : decide (5 < k) = true := by simpa using hk2
    go_enter Tryz.func96, Tryz.ntmps96
    go_wp2_with (go_at_call 110; refine (find_yes 1 _ (by omega) (by omega)).mono ?_; rintro e w' ⟨rfl, rfl⟩; unfold verV)
    refine wp_region_quiet (C := E) (by kernel_rfl) (by kernel_rfl) hE ?_
    simp only [List.toList_toArray]
    repeat (first
      | go_big_quiet_skip
      | (go_big_quiet_want
         first
         | (refine quiet_val (v := ?_) (fun w2 hw2 => ?_) ?_
            rotate_left
            · (first | (go_simp; with_reducible rfl) | (obtain ⟨q0, _⟩ := R.out w2 hw2; go_simp; with_reducible rfl))
            go_big_quiet_on; simp only [Act.put, List.setIfInBounds_toArray, List.set_cons_zero, List.set_cons_succ])
         | (refine quiet_call (v := ?_) (f := ?_) (args := ?_) (fun w2 hw2 => ?_) (fun w2 hw2 => ?_) ?_
            rotate_left 3
            · (go_simp; refine ⟨?_, ?_⟩ <;> with_reducible rfl)
            · (go_at_call 140; exact HCK.out _ _ hw2)
            go_big_quiet_on; simp only [Act.put, List.setIfInBounds_toArray, List.set_cons_zero, List.set_cons_succ])))
    refine wpQuiet_nil ?_
    intro w3 hw3'
    have HW3 : Hid (E w3) := hw3'
    clear hw3' hE
    go_wp2
    go_ret
    exact ⟨ret_int HR.out.symm, HB.out _ HW3.out⟩
  · have HK : Hid (¬ (k < 1 ∨ 5 < k)) := by show ¬ _; omega
    have hd : decide (k < 1) = false := by simp; omega
    have hd2 : decide (5 < k) = false := by simp; omega
    go_enter Tryz.func96, Tryz.ntmps96
    go_wp2_with (go_at_call 110; refine (find_yes 1 _ (by omega) (by omega)).mono ?_; rintro e w' ⟨rfl, rfl⟩; unfold verV)
    refine wp_region_quiet (C := E) (by kernel_rfl) (by kernel_rfl) hE ?_
    simp only [List.toList_toArray]
    repeat (first
      | go_big_quiet_skip
      | (go_big_quiet_want
         first
         | (refine quiet_val (v := ?_) (fun w2 hw2 => ?_) ?_
            rotate_left
            · (first | (go_simp; with_reducible rfl) | (obtain ⟨q0, _⟩ := R.out w2 hw2; go_simp; with_reducible rfl))
            go_big_quiet_on; simp only [Act.put, List.setIfInBounds_toArray, List.set_cons_zero, List.set_cons_succ])
         | (refine quiet_call (v := ?_) (f := ?_) (args := ?_) (fun w2 hw2 => ?_) (fun w2 hw2 => ?_) ?_
            rotate_left 3
            · (go_simp; refine ⟨?_, ?_⟩ <;> with_reducible rfl)
            · (go_at_call 140; exact HCK.out _ _ hw2)
            go_big_quiet_on; simp only [Act.put, List.setIfInBounds_toArray, List.set_cons_zero, List.set_cons_succ])))
    refine wpQuiet_nil ?_
    intro w3 hw3'
    have HW3 : Hid (E w3) := hw3'
    clear hw3' hE
    obtain ⟨q0, q1, q2, q3, q4, q5, q6, q7, q8, q9⟩ := R.out w3 HW3.out
    by_cases hs1 : 16 < wh.size
    · have HR : Hid (chkV 1 (-10000) 1000000 5 k o i q p c t wh s n = 24) := by show _ = _; unfold chkV; rw [if_neg HK.out, if_pos (.inl hs1)]
      have hs1' : (16 : Int) < (wh.size : Int) := by omega
      go_wp2
      go_ret
      exact ⟨ret_int HR.out.symm, HB.out _ HW3.out⟩
    · by_cases hs2 : 120 < n.size
      · have HR : Hid (chkV 1 (-10000) 1000000 5 k o i q p c t wh s n = 24) := by show _ = _; unfold chkV; rw [if_neg HK.out, if_pos (.inr hs2)]
        have hs1' : (wh.size : Int) ≤ 16 := by omega
        have hs2' : (120 : Int) < (n.size : Int) := by omega
        have hd3 : decide ((16 : Int) < (wh.size : Int)) = false := by simp; omega
        go_wp2
        go_ret
        exact ⟨ret_int HR.out.symm, HB.out _ HW3.out⟩
      · have HS : Hid (¬ (16 < wh.size ∨ 120 < n.size)) := by show ¬ _; omega
        have hs1' : (wh.size : Int) ≤ 16 := by omega
        have hs2' : (n.size : Int) ≤ 120 := by omega
        have hd3 : decide ((16 : Int) < (wh.size : Int)) = false := by simp; omega
        have hd4 : decide ((120 : Int) < (n.size : Int)) = false := by simp; omega
        have HWH : Hid (wh.size ≤ 16) := by show _ ≤ _; omega
        clear hs1 hs2
        cases hb : bnd (-10000) 1000000 o i q p c t wh s with
        | false =>
          have HR : Hid (chkV 1 (-10000) 1000000 5 k o i q p c t wh s n = 32) := by show _ = _; unfold chkV; rw [if_neg HK.out, if_neg HS.out, if_neg (by rw [hb]; simp)]
          go_wp2_with (go_at_call 111; refine (boundA _ _ _ _ k o i q p c t wh s n w3 HWH.out m_least1 m_most1).mono ?_; rw [hb]; rintro e w4 ⟨rfl, hb4⟩)
          go_ret
          exact ⟨ret_int HR.out.symm, HB.out _ (HN.out _ _ HW3.out hb4)⟩
        | true =>
          cases ho : ownB 1 c t wh s n with
          | false =>
            have HR : Hid (chkV 1 (-10000) 1000000 5 k o i q p c t wh s n = 32) := by show _ = _; unfold chkV; rw [if_neg HK.out, if_neg HS.out, if_neg (by rw [ho]; simp)]
            go_wp2_with (first
              | (go_at_call 111; refine (boundA _ _ _ _ k o i q p c t wh s n w3 HWH.out m_least1 m_most1).mono ?_; rw [hb]; rintro e w4 ⟨rfl, hb4⟩; have HW4 : Hid (E w4) := HN.out _ _ HW3.out hb4; clear hb4 q0 q1 q2 q3 q4 q5 q6 q7 q8 q9; obtain ⟨q0, q1, q2, q3, q4, q5, q6, q7, q8, q9⟩ := R.out w4 HW4.out)
              | (go_at_call 112; refine (own_any 1 k o i q p c t wh s n w4 (by omega) (by omega)).mono ?_; rw [ho]; rintro e w5 ⟨rfl, hb5⟩))
            go_ret
            exact ⟨ret_int HR.out.symm, HB.out _ (HN.out _ _ HW4.out hb5)⟩
          | true =>
            have HR : Hid (chkV 1 (-10000) 1000000 5 k o i q p c t wh s n = 0) := by show _ = _; unfold chkV; rw [if_neg HK.out, if_neg HS.out, if_pos ⟨hb, ho⟩]
            go_wp2_with (first
              | (go_at_call 111; refine (boundA _ _ _ _ k o i q p c t wh s n w3 HWH.out m_least1 m_most1).mono ?_; rw [hb]; rintro e w4 ⟨rfl, hb4⟩; have HW4 : Hid (E w4) := HN.out _ _ HW3.out hb4; clear hb4 q0 q1 q2 q3 q4 q5 q6 q7 q8 q9; obtain ⟨q0, q1, q2, q3, q4, q5, q6, q7, q8, q9⟩ := R.out w4 HW4.out)
              | (go_at_call 112; refine (own_any 1 k o i q p c t wh s n w4 (by omega) (by omega)).mono ?_; rw [ho]; rintro e w5 ⟨rfl, hb5⟩))
            go_ret
            exact ⟨ret_int HR.out.symm, HB.out _ (HN.out _ _ HW4.out hb5)⟩
end Go.Proofs.YtblfmfanfpohbaaGreat
namespace Go.Proofs.YtblfmfanfpohbaaGreat
open Go.ChangeShapes Go.WideShapes Go.ChangeAt Go.RowKit
set_option linter.unusedSimpArgs false
set_option maxRecDepth 20000 in
set_option maxHeartbeats 4000000 in
theorem check2 (k o i q p c t : Int) (wh : ByteArray) (s : Int) (n : ByteArray) (w : World) :
    Calls Tryz.prog 96 #[.int .i64 2, .agg #[.int .i64 k, .int .i64 o, .int .i64 i, .int .i64 q, .int .i64 p, .int .i64 c, .int .i64 t, .string wh, .int .i64 s, .string n]] w fun e w' => e = .returned (.int .i64 (chkV 2 (-10000) 100000000 5 k o i q p c t wh s n)) ∧ Below w.heap.size w w' := by
  obtain ⟨E, _, hE, hn, hbel, _, r0, r1, r2, r3, r4, r5, r6, r7, r8, r9⟩ := ev_held w k o i q p c t wh s n
  have HN : Hid (∀ w1 w2, E w1 → Below w1.heap.size w1 w2 → E w2) := hn
  have HB : Hid (∀ w2, E w2 → Below w.heap.size w w2) := hbel
  have R : Hid (∀ w2, E w2 → _ ∧ _ ∧ _ ∧ _ ∧ _ ∧ _ ∧ _ ∧ _ ∧ _ ∧ _) := fun w2 h => ⟨r0 w2 h, r1 w2 h, r2 w2 h, r3 w2 h, r4 w2 h, r5 w2 h, r6 w2 h, r7 w2 h, r8 w2 h, r9 w2 h⟩
  clear hn hbel r0 r1 r2 r3 r4 r5 r6 r7 r8 r9
  have CK : ∀ v w2, E w2 → Calls Tryz.prog 140 #[.agg v] w2 fun e w' => e = .returned (.int .i64 (5)) ∧ E w' := fun v w2 h => (v1_last v w2).mono fun e w' ⟨h1, h2⟩ => ⟨h1, HN.out _ _ h h2⟩
  have HCK : Hid (_) := CK
  clear CK
  have hm3 := m_last2
  have hk : k < 1 ∨ (1 ≤ k ∧ 5 < k) ∨ (1 ≤ k ∧ k ≤ 5) := by omega
  rcases hk with hk | ⟨hk, hk2⟩ | ⟨hk, hk2⟩
  · have HR : Hid (chkV 2 (-10000) 100000000 5 k o i q p c t wh s n = 31) := if_pos (.inl hk)
    have hd : decide (k < 1) = true := by simpa using hk
    go_enter Tryz.func96, Tryz.ntmps96
    go_wp2_with (go_at_call 110; refine (find_yes 2 _ (by omega) (by omega)).mono ?_; rintro e w' ⟨rfl, rfl⟩; unfold verV)
    refine wp_region_quiet (C := E) (by kernel_rfl) (by kernel_rfl) hE ?_
    simp only [List.toList_toArray]
    repeat (first
      | go_big_quiet_skip
      | (go_big_quiet_want
         first
         | (refine quiet_val (v := ?_) (fun w2 hw2 => ?_) ?_
            rotate_left
            · (first | (go_simp; with_reducible rfl) | (obtain ⟨q0, _⟩ := R.out w2 hw2; go_simp; with_reducible rfl))
            go_big_quiet_on; simp only [Act.put, List.setIfInBounds_toArray, List.set_cons_zero, List.set_cons_succ])
         | (refine quiet_call (v := ?_) (f := ?_) (args := ?_) (fun w2 hw2 => ?_) (fun w2 hw2 => ?_) ?_
            rotate_left 3
            · (go_simp; refine ⟨?_, ?_⟩ <;> with_reducible rfl)
            · (go_at_call 140; exact HCK.out _ _ hw2)
            go_big_quiet_on; simp only [Act.put, List.setIfInBounds_toArray, List.set_cons_zero, List.set_cons_succ])))
    refine wpQuiet_nil ?_
    intro w3 hw3'
    have HW3 : Hid (E w3) := hw3'
    clear hw3' hE
    go_wp2
    go_ret
    exact ⟨ret_int HR.out.symm, HB.out _ HW3.out⟩
  · have HR : Hid (chkV 2 (-10000) 100000000 5 k o i q p c t wh s n = 31) := if_pos (.inr hk2)
    have hd : decide (k < 1) = false := by simp; omega
    have hd2 : decide (5 < k) = true := by simpa using hk2
    go_enter Tryz.func96, Tryz.ntmps96
    go_wp2_with (go_at_call 110; refine (find_yes 2 _ (by omega) (by omega)).mono ?_; rintro e w' ⟨rfl, rfl⟩; unfold verV)
    refine wp_region_quiet (C := E) (by kernel_rfl) (by kernel_rfl) hE ?_
    simp only [List.toList_toArray]
    repeat (first
      | go_big_quiet_skip
      | (go_big_quiet_want
         first
         | (refine quiet_val (v := ?_) (fun w2 hw2 => ?_) ?_
            rotate_left
            · (first | (go_simp; with_reducible rfl) | (obtain ⟨q0, _⟩ := R.out w2 hw2; go_simp; with_reducible rfl))
            go_big_quiet_on; simp only [Act.put, List.setIfInBounds_toArray, List.set_cons_zero, List.set_cons_succ])
         | (refine quiet_call (v := ?_) (f := ?_) (args := ?_) (fun w2 hw2 => ?_) (fun w2 hw2 => ?_) ?_
            rotate_left 3
            · (go_simp; refine ⟨?_, ?_⟩ <;> with_reducible rfl)
            · (go_at_call 140; exact HCK.out _ _ hw2)
            go_big_quiet_on; simp only [Act.put, List.setIfInBounds_toArray, List.set_cons_zero, List.set_cons_succ])))
    refine wpQuiet_nil ?_
    intro w3 hw3'
    have HW3 : Hid (E w3) := hw3'
    clear hw3' hE
    go_wp2
    go_ret
    exact ⟨ret_int HR.out.symm, HB.out _ HW3.out⟩
  · have HK : Hid (¬ (k < 1 ∨ 5 < k)) := by show ¬ _; omega
    have hd : decide (k < 1) = false := by simp; omega
    have hd2 : decide (5 < k) = false := by simp; omega
    go_enter Tryz.func96, Tryz.ntmps96
    go_wp2_with (go_at_call 110; refine (find_yes 2 _ (by omega) (by omega)).mono ?_; rintro e w' ⟨rfl, rfl⟩; unfold verV)
    refine wp_region_quiet (C := E) (by kernel_rfl) (by kernel_rfl) hE ?_
    simp only [List.toList_toArray]
    repeat (first
      | go_big_quiet_skip
      | (go_big_quiet_want
         first
         | (refine quiet_val (v := ?_) (fun w2 hw2 => ?_) ?_
            rotate_left
            · (first | (go_simp; with_reducible rfl) | (obtain ⟨q0, _⟩ := R.out w2 hw2; go_simp; with_reducible rfl))
            go_big_quiet_on; simp only [Act.put, List.setIfInBounds_toArray, List.set_cons_zero, List.set_cons_succ])
         | (refine quiet_call (v := ?_) (f := ?_) (args := ?_) (fun w2 hw2 => ?_) (fun w2 hw2 => ?_) ?_
            rotate_left 3
            · (go_simp; refine ⟨?_, ?_⟩ <;> with_reducible rfl)
            · (go_at_call 140; exact HCK.out _ _ hw2)
            go_big_quiet_on; simp only [Act.put, List.setIfInBounds_toArray, List.set_cons_zero, List.set_cons_succ])))
    refine wpQuiet_nil ?_
    intro w3 hw3'
    have HW3 : Hid (E w3) := hw3'
    clear hw3' hE
    obtain ⟨q0, q1, q2, q3, q4, q5, q6, q7, q8, q9⟩ := R.out w3 HW3.out
    by_cases hs1 : 16 < wh.size
    · have HR : Hid (chkV 2 (-10000) 100000000 5 k o i q p c t wh s n = 24) := by show _ = _; unfold chkV; rw [if_neg HK.out, if_pos (.inl hs1)]
      have hs1' : (16 : Int) < (wh.size : Int) := by omega
      go_wp2
      go_ret
      exact ⟨ret_int HR.out.symm, HB.out _ HW3.out⟩
    · by_cases hs2 : 120 < n.size
      · have HR : Hid (chkV 2 (-10000) 100000000 5 k o i q p c t wh s n = 24) := by show _ = _; unfold chkV; rw [if_neg HK.out, if_pos (.inr hs2)]
        have hs1' : (wh.size : Int) ≤ 16 := by omega
        have hs2' : (120 : Int) < (n.size : Int) := by omega
        have hd3 : decide ((16 : Int) < (wh.size : Int)) = false := by simp; omega
        go_wp2
        go_ret
        exact ⟨ret_int HR.out.symm, HB.out _ HW3.out⟩
      · have HS : Hid (¬ (16 < wh.size ∨ 120 < n.size)) := by show ¬ _; omega
        have hs1' : (wh.size : Int) ≤ 16 := by omega
        have hs2' : (n.size : Int) ≤ 120 := by omega
        have hd3 : decide ((16 : Int) < (wh.size : Int)) = false := by simp; omega
        have hd4 : decide ((120 : Int) < (n.size : Int)) = false := by simp; omega
        have HWH : Hid (wh.size ≤ 16) := by show _ ≤ _; omega
        clear hs1 hs2
        cases hb : bnd (-10000) 100000000 o i q p c t wh s with
        | false =>
          have HR : Hid (chkV 2 (-10000) 100000000 5 k o i q p c t wh s n = 32) := by show _ = _; unfold chkV; rw [if_neg HK.out, if_neg HS.out, if_neg (by rw [hb]; simp)]
          go_wp2_with (go_at_call 111; refine (boundB _ _ _ _ k o i q p c t wh s n w3 HWH.out m_least2 m_most2).mono ?_; rw [hb]; rintro e w4 ⟨rfl, hb4⟩)
          go_ret
          exact ⟨ret_int HR.out.symm, HB.out _ (HN.out _ _ HW3.out hb4)⟩
        | true =>
          cases ho : ownB 2 c t wh s n with
          | false =>
            have HR : Hid (chkV 2 (-10000) 100000000 5 k o i q p c t wh s n = 32) := by show _ = _; unfold chkV; rw [if_neg HK.out, if_neg HS.out, if_neg (by rw [ho]; simp)]
            go_wp2_with (first
              | (go_at_call 111; refine (boundB _ _ _ _ k o i q p c t wh s n w3 HWH.out m_least2 m_most2).mono ?_; rw [hb]; rintro e w4 ⟨rfl, hb4⟩; have HW4 : Hid (E w4) := HN.out _ _ HW3.out hb4; clear hb4 q0 q1 q2 q3 q4 q5 q6 q7 q8 q9; obtain ⟨q0, q1, q2, q3, q4, q5, q6, q7, q8, q9⟩ := R.out w4 HW4.out)
              | (go_at_call 112; refine (own_any 2 k o i q p c t wh s n w4 (by omega) (by omega)).mono ?_; rw [ho]; rintro e w5 ⟨rfl, hb5⟩))
            go_ret
            exact ⟨ret_int HR.out.symm, HB.out _ (HN.out _ _ HW4.out hb5)⟩
          | true =>
            have HR : Hid (chkV 2 (-10000) 100000000 5 k o i q p c t wh s n = 0) := by show _ = _; unfold chkV; rw [if_neg HK.out, if_neg HS.out, if_pos ⟨hb, ho⟩]
            go_wp2_with (first
              | (go_at_call 111; refine (boundB _ _ _ _ k o i q p c t wh s n w3 HWH.out m_least2 m_most2).mono ?_; rw [hb]; rintro e w4 ⟨rfl, hb4⟩; have HW4 : Hid (E w4) := HN.out _ _ HW3.out hb4; clear hb4 q0 q1 q2 q3 q4 q5 q6 q7 q8 q9; obtain ⟨q0, q1, q2, q3, q4, q5, q6, q7, q8, q9⟩ := R.out w4 HW4.out)
              | (go_at_call 112; refine (own_any 2 k o i q p c t wh s n w4 (by omega) (by omega)).mono ?_; rw [ho]; rintro e w5 ⟨rfl, hb5⟩))
            go_ret
            exact ⟨ret_int HR.out.symm, HB.out _ (HN.out _ _ HW4.out hb5)⟩
end Go.Proofs.YtblfmfanfpohbaaGreat
namespace Go.Proofs.YtblfmfanfpohbaaGreat
open Go.ChangeShapes Go.WideShapes Go.ChangeAt Go.RowKit
set_option linter.unusedSimpArgs false
set_option maxRecDepth 20000 in
set_option maxHeartbeats 4000000 in
theorem check3 (k o i q p c t : Int) (wh : ByteArray) (s : Int) (n : ByteArray) (w : World) :
    Calls Tryz.prog 96 #[.int .i64 3, .agg #[.int .i64 k, .int .i64 o, .int .i64 i, .int .i64 q, .int .i64 p, .int .i64 c, .int .i64 t, .string wh, .int .i64 s, .string n]] w fun e w' => e = .returned (.int .i64 (chkV 3 (0) 100000000 7 k o i q p c t wh s n)) ∧ Below w.heap.size w w' := by
  obtain ⟨E, _, hE, hn, hbel, _, r0, r1, r2, r3, r4, r5, r6, r7, r8, r9⟩ := ev_held w k o i q p c t wh s n
  have HN : Hid (∀ w1 w2, E w1 → Below w1.heap.size w1 w2 → E w2) := hn
  have HB : Hid (∀ w2, E w2 → Below w.heap.size w w2) := hbel
  have R : Hid (∀ w2, E w2 → _ ∧ _ ∧ _ ∧ _ ∧ _ ∧ _ ∧ _ ∧ _ ∧ _ ∧ _) := fun w2 h => ⟨r0 w2 h, r1 w2 h, r2 w2 h, r3 w2 h, r4 w2 h, r5 w2 h, r6 w2 h, r7 w2 h, r8 w2 h, r9 w2 h⟩
  clear hn hbel r0 r1 r2 r3 r4 r5 r6 r7 r8 r9
  have CK : ∀ v w2, E w2 → Calls Tryz.prog 148 #[.agg v] w2 fun e w' => e = .returned (.int .i64 (7)) ∧ E w' := fun v w2 h => (v3_last v w2).mono fun e w' ⟨h1, h2⟩ => ⟨h1, HN.out _ _ h h2⟩
  have HCK : Hid (_) := CK
  clear CK
  have hm3 := m_last3
  have hk : k < 1 ∨ (1 ≤ k ∧ 7 < k) ∨ (1 ≤ k ∧ k ≤ 7) := by omega
  rcases hk with hk | ⟨hk, hk2⟩ | ⟨hk, hk2⟩
  · have HR : Hid (chkV 3 (0) 100000000 7 k o i q p c t wh s n = 31) := if_pos (.inl hk)
    have hd : decide (k < 1) = true := by simpa using hk
    go_enter Tryz.func96, Tryz.ntmps96
    go_wp2_with (go_at_call 110; refine (find_yes 3 _ (by omega) (by omega)).mono ?_; rintro e w' ⟨rfl, rfl⟩; unfold verV)
    refine wp_region_quiet (C := E) (by kernel_rfl) (by kernel_rfl) hE ?_
    simp only [List.toList_toArray]
    repeat (first
      | go_big_quiet_skip
      | (go_big_quiet_want
         first
         | (refine quiet_val (v := ?_) (fun w2 hw2 => ?_) ?_
            rotate_left
            · (first | (go_simp; with_reducible rfl) | (obtain ⟨q0, _⟩ := R.out w2 hw2; go_simp; with_reducible rfl))
            go_big_quiet_on; simp only [Act.put, List.setIfInBounds_toArray, List.set_cons_zero, List.set_cons_succ])
         | (refine quiet_call (v := ?_) (f := ?_) (args := ?_) (fun w2 hw2 => ?_) (fun w2 hw2 => ?_) ?_
            rotate_left 3
            · (go_simp; refine ⟨?_, ?_⟩ <;> with_reducible rfl)
            · (go_at_call 148; exact HCK.out _ _ hw2)
            go_big_quiet_on; simp only [Act.put, List.setIfInBounds_toArray, List.set_cons_zero, List.set_cons_succ])))
    refine wpQuiet_nil ?_
    intro w3 hw3'
    have HW3 : Hid (E w3) := hw3'
    clear hw3' hE
    go_wp2
    go_ret
    exact ⟨ret_int HR.out.symm, HB.out _ HW3.out⟩
  · have HR : Hid (chkV 3 (0) 100000000 7 k o i q p c t wh s n = 31) := if_pos (.inr hk2)
    have hd : decide (k < 1) = false := by simp; omega
    have hd2 : decide (7 < k) = true := by simpa using hk2
    go_enter Tryz.func96, Tryz.ntmps96
    go_wp2_with (go_at_call 110; refine (find_yes 3 _ (by omega) (by omega)).mono ?_; rintro e w' ⟨rfl, rfl⟩; unfold verV)
    refine wp_region_quiet (C := E) (by kernel_rfl) (by kernel_rfl) hE ?_
    simp only [List.toList_toArray]
    repeat (first
      | go_big_quiet_skip
      | (go_big_quiet_want
         first
         | (refine quiet_val (v := ?_) (fun w2 hw2 => ?_) ?_
            rotate_left
            · (first | (go_simp; with_reducible rfl) | (obtain ⟨q0, _⟩ := R.out w2 hw2; go_simp; with_reducible rfl))
            go_big_quiet_on; simp only [Act.put, List.setIfInBounds_toArray, List.set_cons_zero, List.set_cons_succ])
         | (refine quiet_call (v := ?_) (f := ?_) (args := ?_) (fun w2 hw2 => ?_) (fun w2 hw2 => ?_) ?_
            rotate_left 3
            · (go_simp; refine ⟨?_, ?_⟩ <;> with_reducible rfl)
            · (go_at_call 148; exact HCK.out _ _ hw2)
            go_big_quiet_on; simp only [Act.put, List.setIfInBounds_toArray, List.set_cons_zero, List.set_cons_succ])))
    refine wpQuiet_nil ?_
    intro w3 hw3'
    have HW3 : Hid (E w3) := hw3'
    clear hw3' hE
    go_wp2
    go_ret
    exact ⟨ret_int HR.out.symm, HB.out _ HW3.out⟩
  · have HK : Hid (¬ (k < 1 ∨ 7 < k)) := by show ¬ _; omega
    have hd : decide (k < 1) = false := by simp; omega
    have hd2 : decide (7 < k) = false := by simp; omega
    go_enter Tryz.func96, Tryz.ntmps96
    go_wp2_with (go_at_call 110; refine (find_yes 3 _ (by omega) (by omega)).mono ?_; rintro e w' ⟨rfl, rfl⟩; unfold verV)
    refine wp_region_quiet (C := E) (by kernel_rfl) (by kernel_rfl) hE ?_
    simp only [List.toList_toArray]
    repeat (first
      | go_big_quiet_skip
      | (go_big_quiet_want
         first
         | (refine quiet_val (v := ?_) (fun w2 hw2 => ?_) ?_
            rotate_left
            · (first | (go_simp; with_reducible rfl) | (obtain ⟨q0, _⟩ := R.out w2 hw2; go_simp; with_reducible rfl))
            go_big_quiet_on; simp only [Act.put, List.setIfInBounds_toArray, List.set_cons_zero, List.set_cons_succ])
         | (refine quiet_call (v := ?_) (f := ?_) (args := ?_) (fun w2 hw2 => ?_) (fun w2 hw2 => ?_) ?_
            rotate_left 3
            · (go_simp; refine ⟨?_, ?_⟩ <;> with_reducible rfl)
            · (go_at_call 148; exact HCK.out _ _ hw2)
            go_big_quiet_on; simp only [Act.put, List.setIfInBounds_toArray, List.set_cons_zero, List.set_cons_succ])))
    refine wpQuiet_nil ?_
    intro w3 hw3'
    have HW3 : Hid (E w3) := hw3'
    clear hw3' hE
    obtain ⟨q0, q1, q2, q3, q4, q5, q6, q7, q8, q9⟩ := R.out w3 HW3.out
    by_cases hs1 : 16 < wh.size
    · have HR : Hid (chkV 3 (0) 100000000 7 k o i q p c t wh s n = 24) := by show _ = _; unfold chkV; rw [if_neg HK.out, if_pos (.inl hs1)]
      have hs1' : (16 : Int) < (wh.size : Int) := by omega
      go_wp2
      go_ret
      exact ⟨ret_int HR.out.symm, HB.out _ HW3.out⟩
    · by_cases hs2 : 120 < n.size
      · have HR : Hid (chkV 3 (0) 100000000 7 k o i q p c t wh s n = 24) := by show _ = _; unfold chkV; rw [if_neg HK.out, if_pos (.inr hs2)]
        have hs1' : (wh.size : Int) ≤ 16 := by omega
        have hs2' : (120 : Int) < (n.size : Int) := by omega
        have hd3 : decide ((16 : Int) < (wh.size : Int)) = false := by simp; omega
        go_wp2
        go_ret
        exact ⟨ret_int HR.out.symm, HB.out _ HW3.out⟩
      · have HS : Hid (¬ (16 < wh.size ∨ 120 < n.size)) := by show ¬ _; omega
        have hs1' : (wh.size : Int) ≤ 16 := by omega
        have hs2' : (n.size : Int) ≤ 120 := by omega
        have hd3 : decide ((16 : Int) < (wh.size : Int)) = false := by simp; omega
        have hd4 : decide ((120 : Int) < (n.size : Int)) = false := by simp; omega
        have HWH : Hid (wh.size ≤ 16) := by show _ ≤ _; omega
        clear hs1 hs2
        cases hb : bnd (0) 100000000 o i q p c t wh s with
        | false =>
          have HR : Hid (chkV 3 (0) 100000000 7 k o i q p c t wh s n = 32) := by show _ = _; unfold chkV; rw [if_neg HK.out, if_neg HS.out, if_neg (by rw [hb]; simp)]
          go_wp2_with (go_at_call 111; refine (boundC _ _ _ _ k o i q p c t wh s n w3 HWH.out m_least3 m_most3).mono ?_; rw [hb]; rintro e w4 ⟨rfl, hb4⟩)
          go_ret
          exact ⟨ret_int HR.out.symm, HB.out _ (HN.out _ _ HW3.out hb4)⟩
        | true =>
          cases ho : ownB 3 c t wh s n with
          | false =>
            have HR : Hid (chkV 3 (0) 100000000 7 k o i q p c t wh s n = 32) := by show _ = _; unfold chkV; rw [if_neg HK.out, if_neg HS.out, if_neg (by rw [ho]; simp)]
            go_wp2_with (first
              | (go_at_call 111; refine (boundC _ _ _ _ k o i q p c t wh s n w3 HWH.out m_least3 m_most3).mono ?_; rw [hb]; rintro e w4 ⟨rfl, hb4⟩; have HW4 : Hid (E w4) := HN.out _ _ HW3.out hb4; clear hb4 q0 q1 q2 q3 q4 q5 q6 q7 q8 q9; obtain ⟨q0, q1, q2, q3, q4, q5, q6, q7, q8, q9⟩ := R.out w4 HW4.out)
              | (go_at_call 112; refine (own_any 3 k o i q p c t wh s n w4 (by omega) (by omega)).mono ?_; rw [ho]; rintro e w5 ⟨rfl, hb5⟩))
            go_ret
            exact ⟨ret_int HR.out.symm, HB.out _ (HN.out _ _ HW4.out hb5)⟩
          | true =>
            have HR : Hid (chkV 3 (0) 100000000 7 k o i q p c t wh s n = 0) := by show _ = _; unfold chkV; rw [if_neg HK.out, if_neg HS.out, if_pos ⟨hb, ho⟩]
            go_wp2_with (first
              | (go_at_call 111; refine (boundC _ _ _ _ k o i q p c t wh s n w3 HWH.out m_least3 m_most3).mono ?_; rw [hb]; rintro e w4 ⟨rfl, hb4⟩; have HW4 : Hid (E w4) := HN.out _ _ HW3.out hb4; clear hb4 q0 q1 q2 q3 q4 q5 q6 q7 q8 q9; obtain ⟨q0, q1, q2, q3, q4, q5, q6, q7, q8, q9⟩ := R.out w4 HW4.out)
              | (go_at_call 112; refine (own_any 3 k o i q p c t wh s n w4 (by omega) (by omega)).mono ?_; rw [ho]; rintro e w5 ⟨rfl, hb5⟩))
            go_ret
            exact ⟨ret_int HR.out.symm, HB.out _ (HN.out _ _ HW4.out hb5)⟩
end Go.Proofs.YtblfmfanfpohbaaGreat
namespace Go.Proofs.YtblfmfanfpohbaaGreat
open Go.ChangeShapes Go.WideShapes Go.ChangeAt Go.RowKit
set_option linter.unusedSimpArgs false
set_option maxRecDepth 20000 in
set_option maxHeartbeats 4000000 in
theorem check4 (k o i q p c t : Int) (wh : ByteArray) (s : Int) (n : ByteArray) (w : World) :
    Calls Tryz.prog 96 #[.int .i64 4, .agg #[.int .i64 k, .int .i64 o, .int .i64 i, .int .i64 q, .int .i64 p, .int .i64 c, .int .i64 t, .string wh, .int .i64 s, .string n]] w fun e w' => e = .returned (.int .i64 (chkV 4 (0) 100000000 9 k o i q p c t wh s n)) ∧ Below w.heap.size w w' := by
  obtain ⟨E, _, hE, hn, hbel, _, r0, r1, r2, r3, r4, r5, r6, r7, r8, r9⟩ := ev_held w k o i q p c t wh s n
  have HN : Hid (∀ w1 w2, E w1 → Below w1.heap.size w1 w2 → E w2) := hn
  have HB : Hid (∀ w2, E w2 → Below w.heap.size w w2) := hbel
  have R : Hid (∀ w2, E w2 → _ ∧ _ ∧ _ ∧ _ ∧ _ ∧ _ ∧ _ ∧ _ ∧ _ ∧ _) := fun w2 h => ⟨r0 w2 h, r1 w2 h, r2 w2 h, r3 w2 h, r4 w2 h, r5 w2 h, r6 w2 h, r7 w2 h, r8 w2 h, r9 w2 h⟩
  clear hn hbel r0 r1 r2 r3 r4 r5 r6 r7 r8 r9
  have CK : ∀ v w2, E w2 → Calls Tryz.prog 153 #[.agg v] w2 fun e w' => e = .returned (.int .i64 (9)) ∧ E w' := fun v w2 h => (v4_last v w2).mono fun e w' ⟨h1, h2⟩ => ⟨h1, HN.out _ _ h h2⟩
  have HCK : Hid (_) := CK
  clear CK
  have hm3 := m_last4
  have hk : k < 1 ∨ (1 ≤ k ∧ 9 < k) ∨ (1 ≤ k ∧ k ≤ 9) := by omega
  rcases hk with hk | ⟨hk, hk2⟩ | ⟨hk, hk2⟩
  · have HR : Hid (chkV 4 (0) 100000000 9 k o i q p c t wh s n = 31) := if_pos (.inl hk)
    have hd : decide (k < 1) = true := by simpa using hk
    go_enter Tryz.func96, Tryz.ntmps96
    go_wp2_with (go_at_call 110; refine (find_yes 4 _ (by omega) (by omega)).mono ?_; rintro e w' ⟨rfl, rfl⟩; unfold verV)
    refine wp_region_quiet (C := E) (by kernel_rfl) (by kernel_rfl) hE ?_
    simp only [List.toList_toArray]
    repeat (first
      | go_big_quiet_skip
      | (go_big_quiet_want
         first
         | (refine quiet_val (v := ?_) (fun w2 hw2 => ?_) ?_
            rotate_left
            · (first | (go_simp; with_reducible rfl) | (obtain ⟨q0, _⟩ := R.out w2 hw2; go_simp; with_reducible rfl))
            go_big_quiet_on; simp only [Act.put, List.setIfInBounds_toArray, List.set_cons_zero, List.set_cons_succ])
         | (refine quiet_call (v := ?_) (f := ?_) (args := ?_) (fun w2 hw2 => ?_) (fun w2 hw2 => ?_) ?_
            rotate_left 3
            · (go_simp; refine ⟨?_, ?_⟩ <;> with_reducible rfl)
            · (go_at_call 153; exact HCK.out _ _ hw2)
            go_big_quiet_on; simp only [Act.put, List.setIfInBounds_toArray, List.set_cons_zero, List.set_cons_succ])))
    refine wpQuiet_nil ?_
    intro w3 hw3'
    have HW3 : Hid (E w3) := hw3'
    clear hw3' hE
    go_wp2
    go_ret
    exact ⟨ret_int HR.out.symm, HB.out _ HW3.out⟩
  · have HR : Hid (chkV 4 (0) 100000000 9 k o i q p c t wh s n = 31) := if_pos (.inr hk2)
    have hd : decide (k < 1) = false := by simp; omega
    have hd2 : decide (9 < k) = true := by simpa using hk2
    go_enter Tryz.func96, Tryz.ntmps96
    go_wp2_with (go_at_call 110; refine (find_yes 4 _ (by omega) (by omega)).mono ?_; rintro e w' ⟨rfl, rfl⟩; unfold verV)
    refine wp_region_quiet (C := E) (by kernel_rfl) (by kernel_rfl) hE ?_
    simp only [List.toList_toArray]
    repeat (first
      | go_big_quiet_skip
      | (go_big_quiet_want
         first
         | (refine quiet_val (v := ?_) (fun w2 hw2 => ?_) ?_
            rotate_left
            · (first | (go_simp; with_reducible rfl) | (obtain ⟨q0, _⟩ := R.out w2 hw2; go_simp; with_reducible rfl))
            go_big_quiet_on; simp only [Act.put, List.setIfInBounds_toArray, List.set_cons_zero, List.set_cons_succ])
         | (refine quiet_call (v := ?_) (f := ?_) (args := ?_) (fun w2 hw2 => ?_) (fun w2 hw2 => ?_) ?_
            rotate_left 3
            · (go_simp; refine ⟨?_, ?_⟩ <;> with_reducible rfl)
            · (go_at_call 153; exact HCK.out _ _ hw2)
            go_big_quiet_on; simp only [Act.put, List.setIfInBounds_toArray, List.set_cons_zero, List.set_cons_succ])))
    refine wpQuiet_nil ?_
    intro w3 hw3'
    have HW3 : Hid (E w3) := hw3'
    clear hw3' hE
    go_wp2
    go_ret
    exact ⟨ret_int HR.out.symm, HB.out _ HW3.out⟩
  · have HK : Hid (¬ (k < 1 ∨ 9 < k)) := by show ¬ _; omega
    have hd : decide (k < 1) = false := by simp; omega
    have hd2 : decide (9 < k) = false := by simp; omega
    go_enter Tryz.func96, Tryz.ntmps96
    go_wp2_with (go_at_call 110; refine (find_yes 4 _ (by omega) (by omega)).mono ?_; rintro e w' ⟨rfl, rfl⟩; unfold verV)
    refine wp_region_quiet (C := E) (by kernel_rfl) (by kernel_rfl) hE ?_
    simp only [List.toList_toArray]
    repeat (first
      | go_big_quiet_skip
      | (go_big_quiet_want
         first
         | (refine quiet_val (v := ?_) (fun w2 hw2 => ?_) ?_
            rotate_left
            · (first | (go_simp; with_reducible rfl) | (obtain ⟨q0, _⟩ := R.out w2 hw2; go_simp; with_reducible rfl))
            go_big_quiet_on; simp only [Act.put, List.setIfInBounds_toArray, List.set_cons_zero, List.set_cons_succ])
         | (refine quiet_call (v := ?_) (f := ?_) (args := ?_) (fun w2 hw2 => ?_) (fun w2 hw2 => ?_) ?_
            rotate_left 3
            · (go_simp; refine ⟨?_, ?_⟩ <;> with_reducible rfl)
            · (go_at_call 153; exact HCK.out _ _ hw2)
            go_big_quiet_on; simp only [Act.put, List.setIfInBounds_toArray, List.set_cons_zero, List.set_cons_succ])))
    refine wpQuiet_nil ?_
    intro w3 hw3'
    have HW3 : Hid (E w3) := hw3'
    clear hw3' hE
    obtain ⟨q0, q1, q2, q3, q4, q5, q6, q7, q8, q9⟩ := R.out w3 HW3.out
    by_cases hs1 : 16 < wh.size
    · have HR : Hid (chkV 4 (0) 100000000 9 k o i q p c t wh s n = 24) := by show _ = _; unfold chkV; rw [if_neg HK.out, if_pos (.inl hs1)]
      have hs1' : (16 : Int) < (wh.size : Int) := by omega
      go_wp2
      go_ret
      exact ⟨ret_int HR.out.symm, HB.out _ HW3.out⟩
    · by_cases hs2 : 120 < n.size
      · have HR : Hid (chkV 4 (0) 100000000 9 k o i q p c t wh s n = 24) := by show _ = _; unfold chkV; rw [if_neg HK.out, if_pos (.inr hs2)]
        have hs1' : (wh.size : Int) ≤ 16 := by omega
        have hs2' : (120 : Int) < (n.size : Int) := by omega
        have hd3 : decide ((16 : Int) < (wh.size : Int)) = false := by simp; omega
        go_wp2
        go_ret
        exact ⟨ret_int HR.out.symm, HB.out _ HW3.out⟩
      · have HS : Hid (¬ (16 < wh.size ∨ 120 < n.size)) := by show ¬ _; omega
        have hs1' : (wh.size : Int) ≤ 16 := by omega
        have hs2' : (n.size : Int) ≤ 120 := by omega
        have hd3 : decide ((16 : Int) < (wh.size : Int)) = false := by simp; omega
        have hd4 : decide ((120 : Int) < (n.size : Int)) = false := by simp; omega
        have HWH : Hid (wh.size ≤ 16) := by show _ ≤ _; omega
        clear hs1 hs2
        cases hb : bnd (0) 100000000 o i q p c t wh s with
        | false =>
          have HR : Hid (chkV 4 (0) 100000000 9 k o i q p c t wh s n = 32) := by show _ = _; unfold chkV; rw [if_neg HK.out, if_neg HS.out, if_neg (by rw [hb]; simp)]
          go_wp2_with (go_at_call 111; refine (boundC _ _ _ _ k o i q p c t wh s n w3 HWH.out m_least4 m_most4).mono ?_; rw [hb]; rintro e w4 ⟨rfl, hb4⟩)
          go_ret
          exact ⟨ret_int HR.out.symm, HB.out _ (HN.out _ _ HW3.out hb4)⟩
        | true =>
          cases ho : ownB 4 c t wh s n with
          | false =>
            have HR : Hid (chkV 4 (0) 100000000 9 k o i q p c t wh s n = 32) := by show _ = _; unfold chkV; rw [if_neg HK.out, if_neg HS.out, if_neg (by rw [ho]; simp)]
            go_wp2_with (first
              | (go_at_call 111; refine (boundC _ _ _ _ k o i q p c t wh s n w3 HWH.out m_least4 m_most4).mono ?_; rw [hb]; rintro e w4 ⟨rfl, hb4⟩; have HW4 : Hid (E w4) := HN.out _ _ HW3.out hb4; clear hb4 q0 q1 q2 q3 q4 q5 q6 q7 q8 q9; obtain ⟨q0, q1, q2, q3, q4, q5, q6, q7, q8, q9⟩ := R.out w4 HW4.out)
              | (go_at_call 112; refine (own_any 4 k o i q p c t wh s n w4 (by omega) (by omega)).mono ?_; rw [ho]; rintro e w5 ⟨rfl, hb5⟩))
            go_ret
            exact ⟨ret_int HR.out.symm, HB.out _ (HN.out _ _ HW4.out hb5)⟩
          | true =>
            have HR : Hid (chkV 4 (0) 100000000 9 k o i q p c t wh s n = 0) := by show _ = _; unfold chkV; rw [if_neg HK.out, if_neg HS.out, if_pos ⟨hb, ho⟩]
            go_wp2_with (first
              | (go_at_call 111; refine (boundC _ _ _ _ k o i q p c t wh s n w3 HWH.out m_least4 m_most4).mono ?_; rw [hb]; rintro e w4 ⟨rfl, hb4⟩; have HW4 : Hid (E w4) := HN.out _ _ HW3.out hb4; clear hb4 q0 q1 q2 q3 q4 q5 q6 q7 q8 q9; obtain ⟨q0, q1, q2, q3, q4, q5, q6, q7, q8, q9⟩ := R.out w4 HW4.out)
              | (go_at_call 112; refine (own_any 4 k o i q p c t wh s n w4 (by omega) (by omega)).mono ?_; rw [ho]; rintro e w5 ⟨rfl, hb5⟩))
            go_ret
            exact ⟨ret_int HR.out.symm, HB.out _ (HN.out _ _ HW4.out hb5)⟩
end Go.Proofs.YtblfmfanfpohbaaGreat
namespace Go.Proofs.YtblfmfanfpohbaaGreat
open Go.ChangeShapes Go.WideShapes Go.ChangeAt Go.RowKit
set_option linter.unusedSimpArgs false
set_option maxRecDepth 20000 in
set_option maxHeartbeats 4000000 in
theorem check5 (k o i q p c t : Int) (wh : ByteArray) (s : Int) (n : ByteArray) (w : World) :
    Calls Tryz.prog 96 #[.int .i64 5, .agg #[.int .i64 k, .int .i64 o, .int .i64 i, .int .i64 q, .int .i64 p, .int .i64 c, .int .i64 t, .string wh, .int .i64 s, .string n]] w fun e w' => e = .returned (.int .i64 (chkV 5 (0) 100000000 10 k o i q p c t wh s n)) ∧ Below w.heap.size w w' := by
  obtain ⟨E, _, hE, hn, hbel, _, r0, r1, r2, r3, r4, r5, r6, r7, r8, r9⟩ := ev_held w k o i q p c t wh s n
  have HN : Hid (∀ w1 w2, E w1 → Below w1.heap.size w1 w2 → E w2) := hn
  have HB : Hid (∀ w2, E w2 → Below w.heap.size w w2) := hbel
  have R : Hid (∀ w2, E w2 → _ ∧ _ ∧ _ ∧ _ ∧ _ ∧ _ ∧ _ ∧ _ ∧ _ ∧ _) := fun w2 h => ⟨r0 w2 h, r1 w2 h, r2 w2 h, r3 w2 h, r4 w2 h, r5 w2 h, r6 w2 h, r7 w2 h, r8 w2 h, r9 w2 h⟩
  clear hn hbel r0 r1 r2 r3 r4 r5 r6 r7 r8 r9
  have CK : ∀ v w2, E w2 → Calls Tryz.prog 155 #[.agg v] w2 fun e w' => e = .returned (.int .i64 (10)) ∧ E w' := fun v w2 h => (v5_last v w2).mono fun e w' ⟨h1, h2⟩ => ⟨h1, HN.out _ _ h h2⟩
  have HCK : Hid (_) := CK
  clear CK
  have hm3 := m_last5
  have hk : k < 1 ∨ (1 ≤ k ∧ 10 < k) ∨ (1 ≤ k ∧ k ≤ 10) := by omega
  rcases hk with hk | ⟨hk, hk2⟩ | ⟨hk, hk2⟩
  · have HR : Hid (chkV 5 (0) 100000000 10 k o i q p c t wh s n = 31) := if_pos (.inl hk)
    have hd : decide (k < 1) = true := by simpa using hk
    go_enter Tryz.func96, Tryz.ntmps96
    go_wp2_with (go_at_call 110; refine (find_yes 5 _ (by omega) (by omega)).mono ?_; rintro e w' ⟨rfl, rfl⟩; unfold verV)
    refine wp_region_quiet (C := E) (by kernel_rfl) (by kernel_rfl) hE ?_
    simp only [List.toList_toArray]
    repeat (first
      | go_big_quiet_skip
      | (go_big_quiet_want
         first
         | (refine quiet_val (v := ?_) (fun w2 hw2 => ?_) ?_
            rotate_left
            · (first | (go_simp; with_reducible rfl) | (obtain ⟨q0, _⟩ := R.out w2 hw2; go_simp; with_reducible rfl))
            go_big_quiet_on; simp only [Act.put, List.setIfInBounds_toArray, List.set_cons_zero, List.set_cons_succ])
         | (refine quiet_call (v := ?_) (f := ?_) (args := ?_) (fun w2 hw2 => ?_) (fun w2 hw2 => ?_) ?_
            rotate_left 3
            · (go_simp; refine ⟨?_, ?_⟩ <;> with_reducible rfl)
            · (go_at_call 155; exact HCK.out _ _ hw2)
            go_big_quiet_on; simp only [Act.put, List.setIfInBounds_toArray, List.set_cons_zero, List.set_cons_succ])))
    refine wpQuiet_nil ?_
    intro w3 hw3'
    have HW3 : Hid (E w3) := hw3'
    clear hw3' hE
    go_wp2
    go_ret
    exact ⟨ret_int HR.out.symm, HB.out _ HW3.out⟩
  · have HR : Hid (chkV 5 (0) 100000000 10 k o i q p c t wh s n = 31) := if_pos (.inr hk2)
    have hd : decide (k < 1) = false := by simp; omega
    have hd2 : decide (10 < k) = true := by simpa using hk2
    go_enter Tryz.func96, Tryz.ntmps96
    go_wp2_with (go_at_call 110; refine (find_yes 5 _ (by omega) (by omega)).mono ?_; rintro e w' ⟨rfl, rfl⟩; unfold verV)
    refine wp_region_quiet (C := E) (by kernel_rfl) (by kernel_rfl) hE ?_
    simp only [List.toList_toArray]
    repeat (first
      | go_big_quiet_skip
      | (go_big_quiet_want
         first
         | (refine quiet_val (v := ?_) (fun w2 hw2 => ?_) ?_
            rotate_left
            · (first | (go_simp; with_reducible rfl) | (obtain ⟨q0, _⟩ := R.out w2 hw2; go_simp; with_reducible rfl))
            go_big_quiet_on; simp only [Act.put, List.setIfInBounds_toArray, List.set_cons_zero, List.set_cons_succ])
         | (refine quiet_call (v := ?_) (f := ?_) (args := ?_) (fun w2 hw2 => ?_) (fun w2 hw2 => ?_) ?_
            rotate_left 3
            · (go_simp; refine ⟨?_, ?_⟩ <;> with_reducible rfl)
            · (go_at_call 155; exact HCK.out _ _ hw2)
            go_big_quiet_on; simp only [Act.put, List.setIfInBounds_toArray, List.set_cons_zero, List.set_cons_succ])))
    refine wpQuiet_nil ?_
    intro w3 hw3'
    have HW3 : Hid (E w3) := hw3'
    clear hw3' hE
    go_wp2
    go_ret
    exact ⟨ret_int HR.out.symm, HB.out _ HW3.out⟩
  · have HK : Hid (¬ (k < 1 ∨ 10 < k)) := by show ¬ _; omega
    have hd : decide (k < 1) = false := by simp; omega
    have hd2 : decide (10 < k) = false := by simp; omega
    go_enter Tryz.func96, Tryz.ntmps96
    go_wp2_with (go_at_call 110; refine (find_yes 5 _ (by omega) (by omega)).mono ?_; rintro e w' ⟨rfl, rfl⟩; unfold verV)
    refine wp_region_quiet (C := E) (by kernel_rfl) (by kernel_rfl) hE ?_
    simp only [List.toList_toArray]
    repeat (first
      | go_big_quiet_skip
      | (go_big_quiet_want
         first
         | (refine quiet_val (v := ?_) (fun w2 hw2 => ?_) ?_
            rotate_left
            · (first | (go_simp; with_reducible rfl) | (obtain ⟨q0, _⟩ := R.out w2 hw2; go_simp; with_reducible rfl))
            go_big_quiet_on; simp only [Act.put, List.setIfInBounds_toArray, List.set_cons_zero, List.set_cons_succ])
         | (refine quiet_call (v := ?_) (f := ?_) (args := ?_) (fun w2 hw2 => ?_) (fun w2 hw2 => ?_) ?_
            rotate_left 3
            · (go_simp; refine ⟨?_, ?_⟩ <;> with_reducible rfl)
            · (go_at_call 155; exact HCK.out _ _ hw2)
            go_big_quiet_on; simp only [Act.put, List.setIfInBounds_toArray, List.set_cons_zero, List.set_cons_succ])))
    refine wpQuiet_nil ?_
    intro w3 hw3'
    have HW3 : Hid (E w3) := hw3'
    clear hw3' hE
    obtain ⟨q0, q1, q2, q3, q4, q5, q6, q7, q8, q9⟩ := R.out w3 HW3.out
    by_cases hs1 : 16 < wh.size
    · have HR : Hid (chkV 5 (0) 100000000 10 k o i q p c t wh s n = 24) := by show _ = _; unfold chkV; rw [if_neg HK.out, if_pos (.inl hs1)]
      have hs1' : (16 : Int) < (wh.size : Int) := by omega
      go_wp2
      go_ret
      exact ⟨ret_int HR.out.symm, HB.out _ HW3.out⟩
    · by_cases hs2 : 120 < n.size
      · have HR : Hid (chkV 5 (0) 100000000 10 k o i q p c t wh s n = 24) := by show _ = _; unfold chkV; rw [if_neg HK.out, if_pos (.inr hs2)]
        have hs1' : (wh.size : Int) ≤ 16 := by omega
        have hs2' : (120 : Int) < (n.size : Int) := by omega
        have hd3 : decide ((16 : Int) < (wh.size : Int)) = false := by simp; omega
        go_wp2
        go_ret
        exact ⟨ret_int HR.out.symm, HB.out _ HW3.out⟩
      · have HS : Hid (¬ (16 < wh.size ∨ 120 < n.size)) := by show ¬ _; omega
        have hs1' : (wh.size : Int) ≤ 16 := by omega
        have hs2' : (n.size : Int) ≤ 120 := by omega
        have hd3 : decide ((16 : Int) < (wh.size : Int)) = false := by simp; omega
        have hd4 : decide ((120 : Int) < (n.size : Int)) = false := by simp; omega
        have HWH : Hid (wh.size ≤ 16) := by show _ ≤ _; omega
        clear hs1 hs2
        cases hb : bnd (0) 100000000 o i q p c t wh s with
        | false =>
          have HR : Hid (chkV 5 (0) 100000000 10 k o i q p c t wh s n = 32) := by show _ = _; unfold chkV; rw [if_neg HK.out, if_neg HS.out, if_neg (by rw [hb]; simp)]
          go_wp2_with (go_at_call 111; refine (boundC _ _ _ _ k o i q p c t wh s n w3 HWH.out m_least5 m_most5).mono ?_; rw [hb]; rintro e w4 ⟨rfl, hb4⟩)
          go_ret
          exact ⟨ret_int HR.out.symm, HB.out _ (HN.out _ _ HW3.out hb4)⟩
        | true =>
          cases ho : ownB 5 c t wh s n with
          | false =>
            have HR : Hid (chkV 5 (0) 100000000 10 k o i q p c t wh s n = 32) := by show _ = _; unfold chkV; rw [if_neg HK.out, if_neg HS.out, if_neg (by rw [ho]; simp)]
            go_wp2_with (first
              | (go_at_call 111; refine (boundC _ _ _ _ k o i q p c t wh s n w3 HWH.out m_least5 m_most5).mono ?_; rw [hb]; rintro e w4 ⟨rfl, hb4⟩; have HW4 : Hid (E w4) := HN.out _ _ HW3.out hb4; clear hb4 q0 q1 q2 q3 q4 q5 q6 q7 q8 q9; obtain ⟨q0, q1, q2, q3, q4, q5, q6, q7, q8, q9⟩ := R.out w4 HW4.out)
              | (go_at_call 112; refine (own_any 5 k o i q p c t wh s n w4 (by omega) (by omega)).mono ?_; rw [ho]; rintro e w5 ⟨rfl, hb5⟩))
            go_ret
            exact ⟨ret_int HR.out.symm, HB.out _ (HN.out _ _ HW4.out hb5)⟩
          | true =>
            have HR : Hid (chkV 5 (0) 100000000 10 k o i q p c t wh s n = 0) := by show _ = _; unfold chkV; rw [if_neg HK.out, if_neg HS.out, if_pos ⟨hb, ho⟩]
            go_wp2_with (first
              | (go_at_call 111; refine (boundC _ _ _ _ k o i q p c t wh s n w3 HWH.out m_least5 m_most5).mono ?_; rw [hb]; rintro e w4 ⟨rfl, hb4⟩; have HW4 : Hid (E w4) := HN.out _ _ HW3.out hb4; clear hb4 q0 q1 q2 q3 q4 q5 q6 q7 q8 q9; obtain ⟨q0, q1, q2, q3, q4, q5, q6, q7, q8, q9⟩ := R.out w4 HW4.out)
              | (go_at_call 112; refine (own_any 5 k o i q p c t wh s n w4 (by omega) (by omega)).mono ?_; rw [ho]; rintro e w5 ⟨rfl, hb5⟩))
            go_ret
            exact ⟨ret_int HR.out.symm, HB.out _ (HN.out _ _ HW4.out hb5)⟩
end Go.Proofs.YtblfmfanfpohbaaGreat
namespace Go.Proofs.YtblfmfanfpohbaaGreat
open Go.ChangeShapes Go.WideShapes Go.ChangeAt Go.RowKit
def evA (e : Ev) : Array Value := #[.int .i64 e.kind, .int .i64 e.order, .int .i64 e.item, .int .i64 e.qty, .int .i64 e.price, .int .i64 e.cur, .int .i64 e.tax, .string e.who, .int .i64 e.stamp, .string e.note]
def zeroE : Ev := ⟨0, 0, 0, 0, 0, 0, 0, ⟨#[]⟩, 0, ⟨#[]⟩⟩
theorem evA_one (e : Ev) : (evA e).all (·.oneCell') = true := by simp [evA, Value.oneCell']
def EvAt (w : World) (b : Nat) (e : Ev) : Prop := w.heap[b]? = some (.cells (evA e) 38)
theorem EvAt.lt {w : World} {b : Nat} {e : Ev} (h : EvAt w b e) : b < w.heap.size := by
  by_cases hh : b < w.heap.size
  · exact hh
  · unfold EvAt at h; rw [Array.getElem?_eq_none (by omega)] at h; cases h
theorem EvAt.keep {B : Nat} {w w' : World} {b : Nat} {e : Ev} (h : EvAt w b e) (hb : Below B w w') (hlt : b < B) : EvAt w' b e := (hb.block b hlt).trans h
theorem EvAt.after {w w' : World} {b : Nat} {e : Ev} (h : EvAt w b e) (hb : Below w.heap.size w w') : EvAt w' b e := h.keep hb h.lt
theorem Tryz.infoEv : (Tryz.prog.info? 38).map (·.size) = some 10 := by kernel_rfl
theorem EvAt.loadVar {w : World} {b : Nat} {e : Ev} (h : EvAt w b e) : (Go.loadVar 38 ⟨b, 0, none⟩).run Tryz.prog w = .ok (.agg (evA e)) w :=
  run_loadVar_row _ _ _ _ _ _ _ h Tryz.underlying38 rfl Tryz.infoEv
theorem EvAt.load {w : World} {b : Nat} {e : Ev} (h : EvAt w b e) : (Instr.loadAt 38 (.pointer (some ⟨b, 0, none⟩))).run Tryz.prog w = .ok (.agg (evA e)) w := by
  simp only [Instr.loadAt, Instr.sureAddr, Sem.run_bind, Sem.run_pure, Result.andThen_ok, h.loadVar]
theorem below_setRow {B : Nat} {a w : World} (h : Below B a w) (g : Nat) (c : Array Value) (hB : B ≤ g) : Below B a (w.setRow g c) := by
  refine ⟨h.os, h.tape, h.output, ?_, fun k hk => ?_⟩
  · have := h.size; simp [World.setRow]; exact this
  · rw [← h.block k hk]
    simp only [World.setRow, Array.getElem?_modify]
    rw [if_neg (by omega)]
theorem EvAt.store {w : World} {b : Nat} {e : Ev} (h : EvAt w b e) (e2 : Ev) : ∃ w2, (Instr.storeAt 38 (.pointer (some ⟨b, 0, none⟩)) (.agg (evA e2))).run Tryz.prog w = .ok () w2 ∧ EvAt w2 b e2 ∧ (∀ B a, Below B a w → B ≤ b → Below B a w2) ∧ (∀ k, k ≠ b → w2.heap[k]? = w.heap[k]?) ∧ w2.heap.size = w.heap.size := by
  refine ⟨w.setRow b (evA e2), ?_, ?_, fun B a hb hB => below_setRow hb b _ hB, fun k hk => ?_, ?_⟩
  · simp only [Instr.storeAt, Instr.sureAddr, Sem.run_bind, Sem.run_pure, Result.andThen_ok, run_storeVar_row w b 38 38 (evA e) (evA e2) h Tryz.infoEv rfl (evA_one e2)]
  · unfold EvAt at h ⊢
    simp [World.setRow, Array.getElem?_modify, h]
  · simp only [World.setRow, Array.getElem?_modify]
    rw [if_neg (Ne.symm hk)]
  · simp [World.setRow]
theorem wpList_load_ev {ops : Array Oper} {rest : List Oper} {o : Oper} {a : Act} {w : World} {Q : Exit → Act → World → Prop} (hgd : o.guard = none) (x : Operand) (ho : o.op = .load 38 x)
    {b : Nat} {e : Ev} (hL : EvAt w b e) (hx : a.eval x = .pointer (some ⟨b, 0, none⟩)) (h : wpList Tryz.prog ops Q rest (a.put o.dst (.agg (evA e))) w) : wpList Tryz.prog ops Q (o :: rest) a w :=
  wpList_plain hgd fun _ hK => by
    unfold Oper.wp execOp
    simp only [ho, hx, Sem.run_bind, Sem.run_pure, Result.andThen_ok, hL.load]
    exact hK _ _ h
theorem wpList_store_ev {ops : Array Oper} {rest : List Oper} {o : Oper} {a : Act} {w : World} {Q : Exit → Act → World → Prop} (hgd : o.guard = none) (x y : Operand) (ho : o.op = .store 38 x y)
    {b : Nat} {e e2 : Ev} (hL : EvAt w b e) (hx : a.eval x = .pointer (some ⟨b, 0, none⟩)) (hy : a.eval y = .agg (evA e2))
    (h : ∀ w2, EvAt w2 b e2 → (∀ B a, Below B a w → B ≤ b → Below B a w2) → (∀ k, k ≠ b → w2.heap[k]? = w.heap[k]?) → w2.heap.size = w.heap.size → wpList Tryz.prog ops Q rest (a.put o.dst undef) w2) : wpList Tryz.prog ops Q (o :: rest) a w :=
  wpList_plain hgd fun _ hK => by
    obtain ⟨w2, h1, h2, h3, h4, h5⟩ := hL.store e2
    unfold Oper.wp execOp
    simp only [ho, hx, hy, Sem.run_bind, Sem.run_pure, Result.andThen_ok, h1]
    exact hK _ _ (h w2 h2 h3 h4 h5)
theorem results_ev {fn : Func} {p u : Tmp} (h : fn.results = #[.cell p 38, .tmp u]) (tmps : Array Value) (w : World) (b : Nat) (e : Ev) (x : Value) (hp : tmps.getD p undef = .pointer (some ⟨b, 0, none⟩)) (hx : tmps.getD u undef = x) (hl : EvAt w b e) :
    (results fn tmps).run Tryz.prog w = .ok (.tuple #[.agg (evA e), x]) w := by
  rw [results_cell_tmp h, hp]
  simp only [asAddr, Sem.run_pure, Result.andThen_ok, hl.loadVar, hx]
/-- the least quantity, the highest price, the last kind of a version -/
def loQ (v : Int) : Int := if v ≤ 2 then -10000 else 0
def hiP (v : Int) : Int := if v ≤ 1 then 1000000 else 100000000
def lastK (v : Int) : Int := if v ≤ 2 then 5 else if v ≤ 3 then 7 else if v ≤ 4 then 9 else 10
def chk (v : Int) (e : Ev) : Int := if v < 1 ∨ 5 < v then 30 else chkV v (loQ v) (hiP v) (lastK v) e.kind e.order e.item e.qty e.price e.cur e.tax e.who e.stamp e.note
set_option maxRecDepth 20000 in
theorem check_no (v : Int) (e : Ev) (w : World) (h : v < 1 ∨ 5 < v) :
    Calls Tryz.prog 96 #[.int .i64 v, .agg (evA e)] w fun x w' => x = .returned (.int .i64 30) ∧ Below w.heap.size w w' := by
  have HV : Hid (v < 1 ∨ 5 < v) := h
  clear h
  go_enter Tryz.func96, Tryz.ntmps96
  go_wp2_with (go_at_call 110; refine (find_no v _ HV.out).mono ?_; rintro e w' ⟨rfl, rfl⟩)
  go_ret
  exact ⟨rfl, (Below.refl _ _).alloc (Nat.le_refl _) _⟩
theorem check_ev (v : Int) (e : Ev) (w : World) :
    Calls Tryz.prog 96 #[.int .i64 v, .agg (evA e)] w fun x w' => x = .returned (.int .i64 (chk v e)) ∧ Below w.heap.size w w' := by
  by_cases h : v < 1 ∨ 5 < v
  · rw [show chk v e = 30 from if_pos h]
    exact check_no v e w h
  · rw [show chk v e = chkV v (loQ v) (hiP v) (lastK v) e.kind e.order e.item e.qty e.price e.cur e.tax e.who e.stamp e.note from if_neg h]
    have hv : v = 1 ∨ v = 2 ∨ v = 3 ∨ v = 4 ∨ v = 5 := by omega
    rcases hv with rfl | rfl | rfl | rfl | rfl
    · exact check1 e.kind e.order e.item e.qty e.price e.cur e.tax e.who e.stamp e.note w
    · exact check2 e.kind e.order e.item e.qty e.price e.cur e.tax e.who e.stamp e.note w
    · exact check3 e.kind e.order e.item e.qty e.price e.cur e.tax e.who e.stamp e.note w
    · exact check4 e.kind e.order e.item e.qty e.price e.cur e.tax e.who e.stamp e.note w
    · exact check5 e.kind e.order e.item e.qty e.price e.cur e.tax e.who e.stamp e.note w
/-- an event is right in a version -/
structure Right (v : Int) (e : Ev) : Prop where
  v1 : 1 ≤ v
  v5 : v ≤ 5
  kind0 : 1 ≤ e.kind
  kind1 : e.kind ≤ lastK v
  who : e.who.size ≤ 16
  note : e.note.size ≤ 120
  order0 : 1 ≤ e.order
  order1 : e.order ≤ 1099511627776
  item0 : 0 ≤ e.item
  item1 : e.item ≤ 65535
  qty0 : loQ v ≤ e.qty
  qty1 : e.qty ≤ 10000
  price0 : 0 ≤ e.price
  price1 : e.price ≤ hiP v
  cur0 : 0 ≤ e.cur
  cur1 : e.cur ≤ 3
  tax0 : 0 ≤ e.tax
  tax1 : e.tax ≤ 5000
  plain : plainB e.who.data.toList = true
  stamp0 : 0 ≤ e.stamp
  stamp1 : e.stamp ≤ 1099511627776
  own1 : 1 < v ∨ e.cur = 0
  own2 : 2 < v ∨ e.tax = 0
  own3 : 3 < v ∨ nilB e.who = true
  own4 : 4 < v ∨ (e.stamp = 0 ∧ nilB e.note = true)
theorem right_of {v : Int} {e : Ev} (h : chk v e = 0) : Right v e := by
  unfold chk at h
  split at h
  · cases h
  · rename_i hv
    unfold chkV at h
    split at h
    · cases h
    · rename_i hk
      split at h
      · cases h
      · rename_i hs
        split at h
        · rename_i hb
          obtain ⟨h1, h2⟩ := hb
          simp only [bnd, wit, Bool.and_eq_true, decide_eq_true_eq] at h1
          simp only [ownB, Bool.and_eq_true, Bool.or_eq_true, decide_eq_true_eq, beq_iff_eq] at h2
          obtain ⟨⟨a1, a2⟩, ⟨a3, a4⟩, ⟨a5, a6⟩, ⟨a7, a8⟩, ⟨a9, a10⟩, ⟨a11, a12⟩, a13, a14, a15⟩ := h1
          obtain ⟨b1, b2, b3, b4⟩ := h2
          exact ⟨by omega, by omega, by omega, by omega, by omega, by omega, a1, a2, a3, a4, a5, a6, a7, a8, a9, a10, a11, a12, a13, a14, a15, b1, b2, b3, b4⟩
        · cases h
theorem chk_of {v : Int} {e : Ev} (r : Right v e) : chk v e = 0 := by
  unfold chk
  rw [if_neg (by have := r.v1; have := r.v5; omega)]
  unfold chkV
  rw [if_neg (by have := r.kind0; have := r.kind1; omega), if_neg (by have := r.who; have := r.note; omega), if_pos]
  refine ⟨?_, ?_⟩
  · simp only [bnd, wit, Bool.and_eq_true, decide_eq_true_eq]
    exact ⟨⟨r.order0, r.order1⟩, ⟨r.item0, r.item1⟩, ⟨r.qty0, r.qty1⟩, ⟨r.price0, r.price1⟩, ⟨r.cur0, r.cur1⟩, ⟨r.tax0, r.tax1⟩, r.plain, r.stamp0, r.stamp1⟩
  · simp only [ownB, Bool.and_eq_true, Bool.or_eq_true, decide_eq_true_eq, beq_iff_eq]
    exact ⟨r.own1, r.own2, r.own3, r.own4⟩
theorem evAt_new (w : World) (e : Ev) : EvAt (w.alloc (.cells (evA e) 38)) w.heap.size e := by
  unfold EvAt; exact heap_alloc_new w _
end Go.Proofs.YtblfmfanfpohbaaGreat
namespace Go.Proofs.YtblfmfanfpohbaaGreat
open Go.ChangeShapes Go.WideShapes Go.ChangeAt Go.RowKit
set_option linter.unusedVariables false
theorem below_next {w a b : World} (h : Below w.heap.size w a) (k : Below a.heap.size a b) : Below w.heap.size w b := h.trans (k.mono h.size)
theorem lt_of_heap {w : World} {k : Nat} {o : Obj} (h : w.heap[k]? = some o) : k < w.heap.size := by
  by_cases hh : k < w.heap.size
  · exact hh
  · rw [Array.getElem?_eq_none (by omega)] at h; cases h
theorem own_below {w w' : World} {base : Nat} {e : TypeId} {size : Nat} {v : Value} {n : Nat} {xs : List Value} (h : w.ownsRow base e size v n xs) (hb : Below w.heap.size w w') : w'.ownsRow base e size v n xs := by
  refine ⟨h.1, ?_⟩
  rcases h.2 with h2 | ⟨g, cap, cur, h3, h4, h5, h6⟩
  · exact .inl h2
  · refine .inr ⟨g, cap, cur, h3, h4, ?_, h6⟩
    have hlt : g < w.heap.size := by
      by_cases hh : g < w.heap.size
      · exact hh
      · rw [Array.getElem?_eq_none (by omega)] at h5; cases h5
    rw [hb.block g hlt]; exact h5
theorem grown_other {w w' : World} {base n k T : Nat} {v : Value} {xs : List Value} {c : Array Value} {m : Nat × Nat} (ho : w.ownsRow base 5 1 v n xs) (hg : w.grownBy w' v.ownBlock) (hk : w.heap[k]? = some (.cells c T m)) (hT : T ≠ 5) : w'.heap[k]? = some (.cells c T m) := by
  rw [hg.block k (lt_of_heap hk) (fun h => ?_)]
  · exact hk
  · rcases ho.2 with ⟨rfl, _⟩ | ⟨g, cap, cur, rfl, _, hh, _⟩
    · simp [Value.ownBlock] at h
    · have : k = g := by simpa [Value.ownBlock] using h
      subst this
      rw [hk] at hh
      cases hh
      exact hT rfl
/-- blocks that hold no bytes are as they were -/
def NB (w w' : World) : Prop := ∀ (k : Nat) (c : Array Value) (T : TypeId) (m : Nat × Nat), w.heap[k]? = some (Obj.cells c T m) → T ≠ 5 → w'.heap[k]? = some (Obj.cells c T m)
theorem NB.trans {a b c : World} (h : NB a b) (k : NB b c) : NB a c := fun j x T m h1 h2 => k j x T m (h j x T m h1 h2) h2
theorem NB.of_below {w w' : World} (h : Below w.heap.size w w') : NB w w' := fun j x T m h1 _ => (h.block j (lt_of_heap h1)).trans h1
theorem NB.of_grown {w w' : World} {base n : Nat} {v : Value} {xs : List Value} (ho : w.ownsRow base 5 1 v n xs) (hg : w.grownBy w' v.ownBlock) : NB w w' := fun j x T m h1 h2 => grown_other ho hg h1 h2
theorem NB.refl (w : World) : NB w w := fun _ _ _ _ h _ => h
end Go.Proofs.YtblfmfanfpohbaaGreat
namespace Go.Proofs.YtblfmfanfpohbaaGreat
open Go.ChangeShapes Go.WideShapes Go.ChangeAt Go.RowKit
theorem wpList_want {ops : Array Oper} {rest : List Oper} {o : Oper} {a : Act} {w : World} {Q : Exit → Act → World → Prop} (hw : Region.wanted o (yielded ops a.tmps) = true)
    (h : ∀ K : Act → World → Prop, (∀ a w, wpList Tryz.prog ops Q rest a w → K a w) → o.wp Tryz.prog a w K Q) : wpList Tryz.prog ops Q (o :: rest) a w :=
  wpList_step fun K hK => by rw [if_pos hw]; exact h K hK
theorem guard_loadg {ops : Array Oper} {rest : List Oper} {a : Act} {w : World} {Q : Exit → Act → World → Prop} {dst : Option Tmp} {ty : TypeId} {pos : String} {after : Array Edge} {x : Operand} {g : Nat × Bool} (t : TypeId)
    (h : wpList Tryz.prog ops Q (⟨dst, .load t x, ty, pos, after, some g⟩ :: rest) a w) : wpList Tryz.prog ops Q (⟨dst, .load t x, ty, pos, after, some g⟩ :: rest) a w := h
theorem wpList_load_evg {ops : Array Oper} {rest : List Oper} {o : Oper} {a : Act} {w : World} {Q : Exit → Act → World → Prop} (hw : Region.wanted o (yielded ops a.tmps) = true) (x : Operand) (ho : o.op = .load 38 x)
    {b : Nat} {e : Ev} (hL : EvAt w b e) (hx : a.eval x = .pointer (some ⟨b, 0, none⟩)) (h : wpList Tryz.prog ops Q rest (a.put o.dst (.agg (evA e))) w) : wpList Tryz.prog ops Q (o :: rest) a w :=
  wpList_want hw fun _ hK => by
    unfold Oper.wp execOp
    simp only [ho, hx, Sem.run_bind, Sem.run_pure, Result.andThen_ok, hL.load]
    exact hK _ _ h
set_option maxRecDepth 20000 in
theorem ev_self (e : Ev) (w : World) : (Op.equalIn 10000 38 (.agg (evA e)) (.agg (evA e))).run Tryz.prog w = .ok true w := by
  unfold evA
  simp [go_sem, Tryz.underlying38]
theorem ev_eql (e : Ev) (w : World) : (binOp .eql 38 (.agg (evA e)) (.agg (evA e))).run Tryz.prog w = .ok (.bool true) w := by
  rw [run_eql_struct, ev_self]; rfl
theorem ev_neq (e : Ev) (w : World) : (binOp .neq 38 (.agg (evA e)) (.agg (evA e))).run Tryz.prog w = .ok (.bool false) w := by
  rw [run_neq_struct, ev_self]; rfl
theorem exec_load_ev {o : Oper} {a : Act} {w : World} (x : Operand) (ho : o.op = .load 38 x) {b : Nat} {e : Ev} (hx : a.eval x = .pointer (some ⟨b, 0, none⟩)) (hL : EvAt w b e) : (execOp a.eval o).run Tryz.prog w = .ok (.value (.agg (evA e))) w := by
  unfold execOp
  simp only [ho, hx, Sem.run_bind, Sem.run_pure, Result.andThen_ok, hL.load]
/-- an event in block b; nothing older than w has turned -/
def EvC (w : World) (b : Nat) (e : Ev) (x : World) : Prop := EvAt x b e ∧ Below w.heap.size w x
theorem EvC.keep {w x y : World} {b : Nat} {e : Ev} (h : EvC w b e x) (hb : Below x.heap.size x y) : EvC w b e y := ⟨h.1.after hb, h.2.trans (hb.mono h.2.size)⟩
end Go.Proofs.YtblfmfanfpohbaaGreat
namespace Go.Proofs.YtblfmfanfpohbaaGreat
open Go.ChangeShapes Go.WideShapes Go.ChangeAt Go.RowKit
set_option linter.unusedVariables false
/-- a line of an order -/
structure Ln where
  item : Int
  price : Int
  qty : Int
  shipped : Int
/-- the cells of a list of lines -/
def lfl : List Ln → List Value
  | [] => []
  | p :: r => .int .i64 p.item :: .int .i64 p.price :: .int .i64 p.qty :: .int .i64 p.shipped :: lfl r
theorem lfl_append : ∀ (L M : List Ln), lfl (L ++ M) = lfl L ++ lfl M
  | [], M => rfl
  | p :: r, M => by simp only [List.cons_append, lfl, lfl_append r M]
theorem lfl_length : ∀ (L : List Ln), (lfl L).length = L.length * 4
  | [] => rfl
  | p :: r => by simp only [lfl, List.length_cons, lfl_length r]; omega
theorem lfl_one : ∀ (L : List Ln), ∀ u ∈ lfl L, u.oneCell' = true
  | [], u, h => by cases h
  | p :: r, u, h => by
    simp only [lfl, List.mem_cons] at h
    rcases h with rfl | rfl | rfl | rfl | h
    · rfl
    · rfl
    · rfl
    · rfl
    · exact lfl_one r u h
theorem lfl_get : ∀ (L : List Ln) (k : Nat) (p : Ln), L[k]? = some p → (lfl L)[k * 4]? = some (.int .i64 p.item) ∧ (lfl L)[k * 4 + 1]? = some (.int .i64 p.price) ∧ (lfl L)[k * 4 + 2]? = some (.int .i64 p.qty) ∧ (lfl L)[k * 4 + 3]? = some (.int .i64 p.shipped)
  | q :: r, 0, p, h => by simp at h; subst h; exact ⟨rfl, rfl, rfl, rfl⟩
  | q :: r, k + 1, p, h => by
    have := lfl_get r k p (by simpa using h)
    rw [show (k + 1) * 4 = k * 4 + 4 from by omega]
    simpa [lfl] using this
  | [], k, p, h => by simp at h
theorem ln_lt {α : Type} {L : List α} {k : Nat} {p : α} (h : L[k]? = some p) : k < L.length := by
  by_cases hh : k < L.length
  · exact hh
  · rw [List.getElem?_eq_none (by omega)] at h; cases h
theorem ln_get {α : Type} {L : List α} {k : Nat} (h : k < L.length) : ∃ p, L[k]? = some p := ⟨_, List.getElem?_eq_getElem h⟩
theorem ln_take {α : Type} (L : List α) (k : Nat) (p : α) (h : L[k]? = some p) : L.take (k + 1) = L.take k ++ [p] := by
  have hk := ln_lt h
  rw [List.take_succ_eq_append_getElem hk]
  rw [List.getElem?_eq_getElem hk] at h
  cases h; rfl
theorem ln_drop {α : Type} (L : List α) (k : Nat) (p : α) (h : L[k]? = some p) : L.drop k = p :: L.drop (k + 1) := by
  have hk := ln_lt h
  rw [List.drop_eq_getElem_cons hk]
  rw [List.getElem?_eq_getElem hk] at h
  cases h; rfl
/-- the lines L lie from address a on -/
def Lns (w : World) (a : Option Addr) (L : List Ln) : Prop :=
  L = [] ∨ ∃ b off, a = some ⟨b, off, none⟩ ∧ b < w.heap.size ∧ ∀ j, j < L.length * 4 → w.cell? ⟨b, off + j, none⟩ = (lfl L)[j]?
theorem Lns.keep {w w' : World} {a : Option Addr} {L : List Ln} (h : Lns w a L) (hb : Below w.heap.size w w') : Lns w' a L := by
  rcases h with h1 | ⟨b, off, h1, h2, h3⟩
  · exact .inl h1
  · exact .inr ⟨b, off, h1, Nat.lt_of_lt_of_le h2 hb.size, fun j hj => (hb.cell (p := ⟨b, off + j, none⟩) h2).trans (h3 j hj)⟩
theorem Lns.cells {w : World} {a : Option Addr} {L : List Ln} (h : Lns w a L) (k : Nat) (p : Ln) (hp : L[k]? = some p) : ∃ b off, a = some ⟨b, off, none⟩ ∧ b < w.heap.size ∧ w.cell? ⟨b, off + k * 4, none⟩ = some (.int .i64 p.item) ∧ w.cell? ⟨b, off + k * 4 + 1, none⟩ = some (.int .i64 p.price) ∧ w.cell? ⟨b, off + k * 4 + 2, none⟩ = some (.int .i64 p.qty) ∧ w.cell? ⟨b, off + k * 4 + 3, none⟩ = some (.int .i64 p.shipped) := by
  have hk := ln_lt hp
  obtain ⟨f0, f1, f2, f3⟩ := lfl_get L k p hp
  rcases h with rfl | ⟨b, off, rfl, hlt, h⟩
  · simp at hp
  · exact ⟨b, off, rfl, hlt, (h (k * 4) (by omega)).trans f0, (h (k * 4 + 1) (by omega)).trans f1, (h (k * 4 + 2) (by omega)).trans f2, (h (k * 4 + 3) (by omega)).trans f3⟩
/-- the value v is a row of the call's own that holds the lines L -/
def OwnL (w : World) (base : Nat) (v : Value) (L : List Ln) : Prop := w.ownsRow base 44 4 v L.length (lfl L)
theorem OwnL.shape {w : World} {base : Nat} {v : Value} {L : List Ln} (h : OwnL w base v L) :
    ∃ a cap, v = .slice a L.length cap ∧ L.length ≤ cap ∧ cap ≤ maxLen ∧ Lns w a L ∧ ((a = none ∧ L = [] ∧ cap = 0) ∨ ∃ g, a = some ⟨g, 0, none⟩ ∧ base ≤ g ∧ g < w.heap.size) := by
  have h' := h
  obtain ⟨h1, h2⟩ := h
  rcases h2 with ⟨rfl, hn⟩ | ⟨g, cap, cur, rfl, hb, hg, hnc, hcm, hcs, htake⟩
  · have : L = [] := List.length_eq_zero_iff.1 hn
    subst this
    exact ⟨none, 0, rfl, Nat.le_refl _, by simp, .inl rfl, .inl ⟨rfl, rfl, rfl⟩⟩
  · have hlt := lt_of_heap hg
    refine ⟨some ⟨g, 0, none⟩, cap, rfl, hnc, hcm, .inr ⟨g, 0, rfl, hlt, fun j hj => ?_⟩, .inr ⟨g, rfl, hb, hlt⟩⟩
    rw [Nat.zero_add]
    exact World.ownsRow.cellAt h' j hj
theorem OwnL.keep {w w' : World} {base : Nat} {v : Value} {L : List Ln} (h : OwnL w base v L) (hb : Below w.heap.size w w') : OwnL w' base v L := own_below h hb
theorem OwnL.nil (w : World) (base : Nat) : OwnL w base (.slice none 0 0) [] := World.ownsRow_nil w base _ 4
theorem OwnL.lit (w : World) : OwnL (w.alloc (.cells #[] 44)) w.heap.size (.slice (some ⟨w.heap.size, 0, none⟩) 0 0) [] := World.ownsRow_lit w #[] 0 (Nat.le_refl _) (by simp) rfl
theorem OwnL.snoc {w : World} {base : Nat} {v : Value} {L : List Ln} {p : Ln} {n : Nat} (hn : L.length = n) (h : w.ownsRow base 44 4 v (n + 1) (lfl L ++ [.int .i64 p.item, .int .i64 p.price, .int .i64 p.qty, .int .i64 p.shipped])) : OwnL w base v (L ++ [p]) := by
  unfold OwnL
  rw [List.length_append, lfl_append, hn]
  exact h
theorem Tryz.infoLn : (Tryz.prog.info? 44).map (fun i => (i.zero, i.size, i.bytes)) = some (some (.agg #[.int .i64 0, .int .i64 0, .int .i64 0, .int .i64 0]), 4, 32) := by kernel_rfl
/-- a state -/
structure St where
  order : Int
  status : Int
  prior : Int
  cur : Int
  tax : Int
  lines : List Ln
  paid : Int
  refunded : Int
  events : Int
  refused : Int
  stamp : Int
  who : ByteArray
/-- its cells, the lines being the slice v -/
def stA (s : St) (v : Value) : Array Value := #[.int .i64 s.order, .int .i64 s.status, .int .i64 s.prior, .int .i64 s.cur, .int .i64 s.tax, v, .int .i64 s.paid, .int .i64 s.refunded, .int .i64 s.events, .int .i64 s.refused, .int .i64 s.stamp, .string s.who]
def zeroS : St := ⟨0, 0, 0, 0, 0, [], 0, 0, 0, 0, 0, ⟨#[]⟩⟩
theorem stA_one (s : St) (a : Option Addr) (n c : Nat) : (stA s (.slice a n c)).all (·.oneCell') = true := by simp [stA, Value.oneCell']
def StAt (w : World) (b : Nat) (s : St) (v : Value) : Prop := w.heap[b]? = some (.cells (stA s v) 25)
theorem StAt.lt {w : World} {b : Nat} {s : St} {v : Value} (h : StAt w b s v) : b < w.heap.size := by
  by_cases hh : b < w.heap.size
  · exact hh
  · unfold StAt at h; rw [Array.getElem?_eq_none (by omega)] at h; cases h
theorem StAt.after {w w' : World} {b : Nat} {s : St} {v : Value} (h : StAt w b s v) (hb : Below w.heap.size w w') : StAt w' b s v := (hb.block b h.lt).trans h
theorem StAt.keep {B : Nat} {w w' : World} {b : Nat} {s : St} {v : Value} (h : StAt w b s v) (hb : Below B w w') (hlt : b < B) : StAt w' b s v := (hb.block b hlt).trans h
theorem StAt.cell {w : World} {b : Nat} {s : St} {v : Value} (h : StAt w b s v) (i : Nat) (x : Value) (hx : (stA s v)[i]? = some x) : w.cell? ⟨b, i, none⟩ = some x := by
  rw [cell_of_row w b i (stA s v) 25 (0, 0) h]; exact hx
theorem StAt.new (w : World) (s : St) (v : Value) : StAt (w.alloc (.cells (stA s v) 25)) w.heap.size s v := by
  unfold StAt
  exact heap_alloc_new w _
theorem Tryz.infoSt : (Tryz.prog.info? 25).map (·.size) = some 12 := by kernel_rfl
theorem StAt.loadVar {w : World} {b : Nat} {s : St} {v : Value} (h : StAt w b s v) : (Go.loadVar 25 ⟨b, 0, none⟩).run Tryz.prog w = .ok (.agg (stA s v)) w :=
  run_loadVar_row _ _ _ _ _ _ _ h Tryz.underlying25 rfl Tryz.infoSt
theorem StAt.load {w : World} {b : Nat} {s : St} {v : Value} (h : StAt w b s v) : (Instr.loadAt 25 (.pointer (some ⟨b, 0, none⟩))).run Tryz.prog w = .ok (.agg (stA s v)) w := by
  simp only [Instr.loadAt, Instr.sureAddr, Sem.run_bind, Sem.run_pure, Result.andThen_ok, h.loadVar]
theorem StAt.store {w : World} {b : Nat} {s : St} {v : Value} (h : StAt w b s v) (s2 : St) (a : Option Addr) (n c : Nat) : ∃ w2, (Instr.storeAt 25 (.pointer (some ⟨b, 0, none⟩)) (.agg (stA s2 (.slice a n c)))).run Tryz.prog w = .ok () w2 ∧ StAt w2 b s2 (.slice a n c) ∧ (∀ B a, Below B a w → B ≤ b → Below B a w2) ∧ (∀ k, k ≠ b → w2.heap[k]? = w.heap[k]?) ∧ w2.heap.size = w.heap.size := by
  refine ⟨w.setRow b (stA s2 (.slice a n c)), ?_, ?_, fun B a hb hB => below_setRow hb b _ hB, fun k hk => ?_, ?_⟩
  · simp only [Instr.storeAt, Instr.sureAddr, Sem.run_bind, Sem.run_pure, Result.andThen_ok, run_storeVar_row w b 25 25 (stA s v) (stA s2 (.slice a n c)) h Tryz.infoSt rfl (stA_one s2 a n c)]
  · unfold StAt at h ⊢
    simp [World.setRow, Array.getElem?_modify, h]
  · simp only [World.setRow, Array.getElem?_modify]
    rw [if_neg (Ne.symm hk)]
  · simp [World.setRow]
theorem wpList_load_st {ops : Array Oper} {rest : List Oper} {o : Oper} {a : Act} {w : World} {Q : Exit → Act → World → Prop} (hgd : o.guard = none) (x : Operand) (ho : o.op = .load 25 x)
    {b : Nat} {s : St} {v : Value} (hL : StAt w b s v) (hx : a.eval x = .pointer (some ⟨b, 0, none⟩)) (h : wpList Tryz.prog ops Q rest (a.put o.dst (.agg (stA s v))) w) : wpList Tryz.prog ops Q (o :: rest) a w :=
  wpList_plain hgd fun _ hK => by
    unfold Oper.wp execOp
    simp only [ho, hx, Sem.run_bind, Sem.run_pure, Result.andThen_ok, hL.load]
    exact hK _ _ h
theorem wpList_store_st {ops : Array Oper} {rest : List Oper} {o : Oper} {a : Act} {w : World} {Q : Exit → Act → World → Prop} (hgd : o.guard = none) (x y : Operand) (ho : o.op = .store 25 x y)
    {b : Nat} {s s2 : St} {v : Value} {a2 : Option Addr} {n2 c2 : Nat} (hL : StAt w b s v) (hx : a.eval x = .pointer (some ⟨b, 0, none⟩)) (hy : a.eval y = .agg (stA s2 (.slice a2 n2 c2)))
    (h : ∀ w2, StAt w2 b s2 (.slice a2 n2 c2) → (∀ B a, Below B a w → B ≤ b → Below B a w2) → (∀ k, k ≠ b → w2.heap[k]? = w.heap[k]?) → w2.heap.size = w.heap.size → wpList Tryz.prog ops Q rest (a.put o.dst undef) w2) : wpList Tryz.prog ops Q (o :: rest) a w :=
  wpList_plain hgd fun _ hK => by
    obtain ⟨w2, h1, h2, h3, h4, h5⟩ := hL.store s2 a2 n2 c2
    unfold Oper.wp execOp
    simp only [ho, hx, hy, Sem.run_bind, Sem.run_pure, Result.andThen_ok, h1]
    exact hK _ _ (h w2 h2 h3 h4 h5)
theorem wpList_load_stg {ops : Array Oper} {rest : List Oper} {o : Oper} {a : Act} {w : World} {Q : Exit → Act → World → Prop} (hgd : Region.wanted o (yielded ops a.tmps) = true) (x : Operand) (ho : o.op = .load 25 x)
    {b : Nat} {s : St} {v : Value} (hL : StAt w b s v) (hx : a.eval x = .pointer (some ⟨b, 0, none⟩)) (h : wpList Tryz.prog ops Q rest (a.put o.dst (.agg (stA s v))) w) : wpList Tryz.prog ops Q (o :: rest) a w :=
  wpList_want hgd fun _ hK => by
    unfold Oper.wp execOp
    simp only [ho, hx, Sem.run_bind, Sem.run_pure, Result.andThen_ok, hL.load]
    exact hK _ _ h
theorem exec_load_st {o : Oper} {a : Act} {w : World} (x : Operand) (ho : o.op = .load 25 x) {b : Nat} {s : St} {v : Value} (hx : a.eval x = .pointer (some ⟨b, 0, none⟩)) (hL : StAt w b s v) : (execOp a.eval o).run Tryz.prog w = .ok (.value (.agg (stA s v))) w := by
  unfold execOp
  simp only [ho, hx, Sem.run_bind, Sem.run_pure, Result.andThen_ok, hL.load]
/-- a state in block b, its lines at a; nothing older than w has turned -/
def StC (w : World) (b : Nat) (s : St) (a : Option Addr) (n cap : Nat) (x : World) : Prop := StAt x b s (.slice a n cap) ∧ Lns x a s.lines ∧ Below w.heap.size w x
theorem StC.keep {w x y : World} {b : Nat} {s : St} {a : Option Addr} {n cap : Nat} (h : StC w b s a n cap x) (hb : Below x.heap.size x y) : StC w b s a n cap y := ⟨h.1.after hb, h.2.1.keep hb, h.2.2.trans (hb.mono h.2.2.size)⟩
theorem StC.new (w : World) (s : St) (a : Option Addr) (n cap : Nat) (h : Lns w a s.lines) : StC w w.heap.size s a n cap (w.alloc (.cells (stA s (.slice a n cap)) 25)) := ⟨StAt.new w s _, h.keep ((Below.refl _ _).alloc (Nat.le_refl _) _), (Below.refl _ _).alloc (Nat.le_refl _) _⟩
theorem StC.drew {w x : World} {b : Nat} {s : St} {a : Option Addr} {n cap : Nat} (h : StC w b s a n cap x) : StC w b s a n cap x.drew := h.keep (Below.refl _ _).drew
theorem StC.alloc {w x : World} {b : Nat} {s : St} {a : Option Addr} {n cap : Nat} (h : StC w b s a n cap x) (o : Obj) : StC w b s a n cap (x.alloc o) := h.keep ((Below.refl _ _).alloc (Nat.le_refl _) o)
end Go.Proofs.YtblfmfanfpohbaaGreat
