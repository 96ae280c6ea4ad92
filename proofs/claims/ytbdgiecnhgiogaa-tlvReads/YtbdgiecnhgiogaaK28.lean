/- Own texts, joined: Tlwp, Rdec. -/
import Derived.Test.YtbdgiecnhgiogaaK23
import Derived.Test.YtbdgiecnhgiogaaK27
import Derived.Laws.OwnMore
import Derived.Test.YtbdgiecnhgiogaaRows
import Derived.Test.YtbdgiecnhgiogaaK01
namespace Go.Proofs.Ytbdgiecnhgiogaa
open Go.ChangeShapes Go.WideShapes Go.ChangeAt Go.RowKit
set_option linter.unusedVariables false
/-- bytes of one's own while they are turned: all blocks but theirs are as they were -/
structure Tu (w wr : World) (base : Nat) (a : Option Addr) (k c : Nat) : Prop where
  os : wr.os = w.os
  tape : wr.tape = w.tape
  output : wr.output = w.output
  size : wr.heap.size = w.heap.size
  block : ∀ j, a ≠ some ⟨j, 0, none⟩ → wr.heap[j]? = w.heap[j]?
  p : ∃ xs, wr.ownsRow base 5 1 (.slice a k c) k xs ∧ ∀ x ∈ xs, ∃ z : Int, x = .int .u8 z
theorem Tu.step {w wr : World} {base : Nat} {a : Option Addr} {k c : Nat} (h : Tu w wr base a k c) (j : Nat) (hj : j < k) :
    ∃ g z, a = some ⟨g, 0, none⟩ ∧ wr.cell? ⟨g, j, none⟩ = some (.int .u8 z) ∧ wr.frozen? ⟨g, j, none⟩ = false ∧ ∀ y : Int, Tu w (wr.setCell ⟨g, j, none⟩ (.int .u8 y)) base a k c := by
  obtain ⟨xs, hx, hz⟩ := h.p
  have hx2 := hx
  rcases hx2.2 with ⟨_, hn⟩ | ⟨g, cap, cur, hv, hb, _⟩
  · omega
  · injection hv with h1 h2 h3
    subst h1
    have e2 := hx.cellAt j (by omega)
    have hl := hx.1
    obtain ⟨x, hxj⟩ : ∃ x, xs[j]? = some x := ⟨_, List.getElem?_eq_getElem (by omega)⟩
    obtain ⟨z, rfl⟩ := hz x (List.mem_of_getElem? hxj)
    refine ⟨g, z, rfl, by rw [e2]; exact hxj, hx.frozenAt j, fun y => ?_⟩
    have hst := hx.stored j (.int .u8 y)
    refine ⟨h.os, h.tape, h.output, by simp [World.setCell]; exact h.size, fun k hk => (heap_setCell_other _ ⟨g, j, none⟩ k _ (fun hh => hk (by rw [hh]))).trans (h.block k hk), ⟨_, hst.1, fun x hx => by rcases List.mem_or_eq_of_mem_set hx with h9 | rfl; exact hz x h9; exact ⟨y, rfl⟩⟩⟩
theorem Tu.start {w : World} {base : Nat} {a : Option Addr} {k c : Nat} {l : List Nat} (h : Own w base (.slice a k c) l) (hk : l.length = k) : Tu w w base a k c := by
  subst hk
  exact ⟨rfl, rfl, rfl, rfl, fun _ _ => rfl, ⟨_, h.2, fun x hx => by obtain ⟨n, _, rfl⟩ := List.mem_map.1 hx; exact ⟨_, rfl⟩⟩⟩
theorem Tu.lo {w wr : World} {base : Nat} {a : Option Addr} {k c : Nat} (h : Tu w wr base a k c) (g : Nat) (hg : a = some ⟨g, 0, none⟩) : base ≤ g ∧ g < wr.heap.size := by
  obtain ⟨xs, hx, _⟩ := h.p
  exact hx.lt g (by rw [hg]; rfl)
theorem Tu.below {w wr : World} {base b : Nat} {a : Option Addr} {k c : Nat} (h : Tu w wr base a k c) (hb : b ≤ base) : Below b w wr :=
  ⟨h.os, h.tape, h.output, by rw [h.size]; exact Nat.le_refl _, fun j hj => h.block j (fun hh => by have := (h.lo j hh).1; omega)⟩
theorem Tu.betw {w wr : World} {base s t : Nat} {a : Option Addr} {k c : Nat} (h : Tu w wr base a k c) (hs : s ≤ base) (ht : ∀ g, a = some ⟨g, 0, none⟩ → g < t) : Betw s t w wr :=
  ⟨h.os, h.tape, h.output, by rw [h.size]; exact Nat.le_refl _, fun j _ hj => h.block j (fun hh => by have h1 := (h.lo j hh).1; have h2 := ht j hh; omega)⟩
theorem rfault_at (f : Fld) (last : Int) (a : Option Addr) (n cap : Nat) (w : World) (hn : f.bytes.length = n) (hu : f.num ≤ 18446744073709551615) :
    Calls Try.prog 16 #[FV f.tag f.text f.num (.slice a n cap), .int .i64 last] w fun r w' => r = .returned (.int .i64 (flt f last : Int)) ∧ Below w.heap.size w w' := by
  subst hn
  exact rfault_any f last a cap w hu
theorem oks_of {L M : List (Fld × Value)} {P : Fld → Prop} (h : L.map Prod.fst = M.map Prod.fst) (hM : ∀ p ∈ M, P p.1) : ∀ p ∈ L, P p.1 := by
  intro p hp
  have h1 : p.1 ∈ M.map Prod.fst := by rw [← h]; exact List.mem_map.2 ⟨p, hp, rfl⟩
  obtain ⟨q, hq, hqp⟩ := List.mem_map.1 h1
  rw [← hqp]
  exact hM q hq
/-- the round's field with another number -/
theorem set6 {wr w6 : World} {tag : Int} {u : Nat} (hb : Below wr.heap.size wr w6) (hf : FldAt w6 (wr.heap.size + 1) tag false u (.slice none 0 0)) (y : Nat) : ∃ W6, w6.setCell ⟨wr.heap.size + 1, 2, none⟩ (.int .u64 (y : Int)) = W6 ∧ Below wr.heap.size wr W6 ∧ FldAt W6 (wr.heap.size + 1) tag false y (.slice none 0 0) ∧ W6.heap.size = w6.heap.size :=
  ⟨_, rfl, hb.setCell (p := ⟨wr.heap.size + 1, 2, none⟩) (by simp) _, hf.setNum y, by simp [World.setCell]⟩
theorem FldAt.froz {w : World} {k : Nat} {tag : Int} {text : Bool} {num : Nat} {bv : Value} (h : FldAt w k tag text num bv) (j : Nat) : w.frozen? ⟨k, j, none⟩ = false := frozen_of_row _ _ j _ _ h
theorem zig_nat (x : Int) (h0 : -9223372036854775808 ≤ x) (h1 : x ≤ 9223372036854775807) : ∃ y : Nat, zig x = (y : Int) ∧ y ≤ 18446744073709551615 := by
  unfold zig
  split
  · exact ⟨(2 * x).toNat, by omega, by omega⟩
  · exact ⟨(-2 * x - 1).toNat, by omega, by omega⟩
/-- the round's field written over by one with a text -/
theorem set7 {wr w7 : World} {tag : Int} {u : Nat} {bv : Value} (hb : Below wr.heap.size wr w7) (hf : FldAt w7 (wr.heap.size + 1) tag false u (.slice none 0 0)) : ∃ X, (((w7.setCell ⟨wr.heap.size + 1, 0, none⟩ (.int .i64 tag)).setCell ⟨wr.heap.size + 1, 1, none⟩ (.bool true)).setCell ⟨wr.heap.size + 1, 2, none⟩ (.int .u64 0)).setCell ⟨wr.heap.size + 1, 3, none⟩ bv = X ∧ Below wr.heap.size wr X ∧ FldAt X (wr.heap.size + 1) tag true 0 bv ∧ X.heap.size = w7.heap.size ∧ ∀ j, j ≠ wr.heap.size + 1 → X.heap[j]? = w7.heap[j]? := by
  refine ⟨_, rfl, (((hb.setCell (p := ⟨wr.heap.size + 1, 0, none⟩) (by simp) _).setCell (p := ⟨wr.heap.size + 1, 1, none⟩) (by simp) _).setCell (p := ⟨wr.heap.size + 1, 2, none⟩) (by simp) _).setCell (p := ⟨wr.heap.size + 1, 3, none⟩) (by simp) _, ?_, by simp [World.setCell], fun j hj => ?_⟩
  · have h1 := heap_setCell_same w7 (wr.heap.size + 1) 0 _ _ (.int .i64 tag) hf
    have h2 := heap_setCell_same _ (wr.heap.size + 1) 1 _ _ (.bool true) h1
    have h3 := heap_setCell_same _ (wr.heap.size + 1) 2 _ _ (.int .u64 0) h2
    have h4 := heap_setCell_same _ (wr.heap.size + 1) 3 _ _ bv h3
    exact h4
  · exact (heap_setCell_other _ ⟨wr.heap.size + 1, 3, none⟩ j _ hj).trans ((heap_setCell_other _ ⟨wr.heap.size + 1, 2, none⟩ j _ hj).trans ((heap_setCell_other _ ⟨wr.heap.size + 1, 1, none⟩ j _ hj).trans (heap_setCell_other _ ⟨wr.heap.size + 1, 0, none⟩ j _ hj)))
theorem own_bytesW {w : World} {base : Nat} {a : Option Addr} {k c : Nat} {m : List Nat} (h : Own w base (.slice a k c) m) : Bytes w a m := by
  obtain ⟨a2, c2, hv, _, _, hb, _⟩ := h.shape
  injection hv with h1
  subst h1
  exact hb
theorem own_mv {w w' : World} {base b : Nat} {v : Value} {l : List Nat} (h : Own w base v l) (hb : b ≤ base) (hs : ∀ k, base ≤ k → k < w.heap.size → v.ownBlock = some k → w'.heap[k]? = w.heap[k]?) : Own w' b v l :=
  ⟨h.1, World.ownsRow.mono (own_moved2 h.2 hs) hb⟩
end Go.Proofs.Ytbdgiecnhgiogaa
namespace Go.Proofs.Ytbdgiecnhgiogaa
open Go.ChangeShapes Go.WideShapes Go.ChangeAt Go.RowKit
theorem val7_append (l : List Nat) (c : Nat) : val7 (l ++ [c]) = val7 l + c % 128 * 128 ^ l.length := by
  induction l with
  | nil => simp [val7]
  | cons x r ih =>
    simp only [List.cons_append, val7, List.length_cons]
    rw [ih, Nat.pow_succ]
    grind
theorem val7_lt (l : List Nat) : val7 l < 128 ^ l.length := by
  induction l with
  | nil => simp [val7]
  | cons x r ih =>
    simp only [val7, List.length_cons]
    rw [Nat.pow_succ]
    omega
theorem val7_drop (l : List Nat) (j : Nat) : val7 (l.drop j) ≤ val7 l := by
  induction l generalizing j with
  | nil => simp
  | cons x r ih =>
    cases j with
    | zero => simp
    | succ j =>
      have := ih j
      simp only [List.drop_succ_cons, val7]
      omega
theorem take_snoc_at (l : List Nat) (k c : Nat) (h : k < l.length) (hc : c = l.getD k 0) : l.take (k + 1) = l.take k ++ [c] := by
  subst hc
  rw [List.take_succ_eq_append_getElem h, List.getD_eq_getElem?_getD, List.getElem?_eq_getElem h]; rfl
theorem dec_stop (l : List Nat) (k : Nat) (hk : k ≤ l.length) (hk9 : k ≤ 9) (h : ∀ j, j < k → 128 ≤ l.getD j 0) : dec 0 0 l = dec k (val7 (l.take k)) (l.drop k) := by
  induction k with
  | zero => simp [val7]
  | succ k ih =>
    rw [ih (by omega) (by omega) (fun j hj => h j (by omega)), drop_at l k _ (by omega) rfl, dec_cons]
    have := h k (by omega)
    rw [if_neg (by omega), if_pos this, take_snoc_at l k _ (by omega) rfl, val7_append, List.length_take, Nat.min_eq_left (by omega)]
theorem val7_top (l : List Nat) (k c : Nat) (h : k < l.length) (hc : c = l.getD k 0) (h256 : c < 256) (hk : k ≤ 8 ∨ (k = 9 ∧ c ≤ 1)) : val7 (l.take (k + 1)) ≤ 18446744073709551615 := by
  have h1 := val7_lt (l.take k)
  rw [List.length_take, Nat.min_eq_left (by omega)] at h1
  have h2 := or_step _ c k h1 h256 hk
  rw [take_snoc_at l k c h hc, val7_append, List.length_take, Nat.min_eq_left (by omega)]
  omega
theorem drop_take_step (l : List Nat) (k j c : Nat) (h : k < l.length) (hj : j ≤ k) (hc : c = l.getD j 0) : val7 ((l.take (k + 1)).drop j) = c % 128 + 128 * val7 ((l.take (k + 1)).drop (j + 1)) := by
  have h1 : j < (l.take (k + 1)).length := by rw [List.length_take]; omega
  have h2 : c = (l.take (k + 1)).getD j 0 := by
    rw [hc, List.getD_eq_getElem?_getD, List.getD_eq_getElem?_getD, List.getElem?_take, if_pos (by omega)]
  rw [drop_at _ j c h1 h2]
  rfl
set_option maxRecDepth 20000 in
set_option maxHeartbeats 2000000 in
theorem rdec_any (l : List Nat) (a : Option Addr) (cap : Nat) (w : World) (hb : Bytes w a l) (hl : l.length ≤ maxLen) :
    Calls Try.prog 45 #[.slice a l.length cap] w fun e w' => e = .returned (.tuple #[.int .u64 (dec 0 0 l).1, .int .i64 (dec 0 0 l).2.1, .int .i64 (dec 0 0 l).2.2]) ∧ w = w' := by
  unfold maxLen at hl
  obtain ⟨hby, rfl | ⟨b, off, rfl, hlt, hcell⟩⟩ := hb
  · go_enter Try.func45, Try.ntmps45
    go_wp2
    refine wp_loop_rounds 1 ?_
    rw [rounds_succ]
    go_wp2
    go_ret3
    exact ⟨rfl, rfl⟩
  · go_enter Try.func45, Try.ntmps45
    go_wp2
    go_loop [5] (fun i => ∃ k : Nat, k ≤ l.length ∧ k ≤ 9 ∧ i = .int .i64 k ∧ ∀ j, j < k → 128 ≤ l.getD j 0) (fun i => l.length - (intOf i).toNat)
    case atStart => exact ⟨0, Nat.zero_le _, by omega, rfl, fun j hj => by omega⟩
    case round =>
      obtain ⟨k, hk, hk9, rfl, hj⟩ := hrel
      have HJ : Hid (∀ j, j < k → 128 ≤ l.getD j 0) := hj
      have HD : Hid (_ = _) := dec_stop l k hk hk9 hj
      clear hj
      have HCELL : Hid (∀ i, i < l.length → w.cell? ⟨b, off + i, none⟩ = some (.int .u8 (l.getD i 0 : Nat))) := hcell
      have HBY : Hid (∀ i, l.getD i 0 < 256) := hby
      by_cases hkl : k < l.length
      · have hc := hcell k hkl
        have hc256 := hby k
        obtain ⟨c, hcE⟩ : ∃ c, c = l.getD k 0 := ⟨_, rfl⟩
        rw [← hcE] at hc hc256
        have HC : Hid (c = l.getD k 0) := hcE
        clear hcE hcell hby
        have HT : Hid (c < 128 → ¬ (k = 9 ∧ 1 < c) → ¬ (c = 0 ∧ 0 < k) → dec 0 0 l = (val7 (l.take (k + 1)), k + 1, 0)) := by
          show _ → _
          intro h1 h2 h3
          rw [HD.out, drop_at l k c hkl HC.out, dec_cons, if_neg h2, if_neg (by omega), if_neg h3, take_snoc_at l k c hkl HC.out, val7_append, List.length_take, Nat.min_eq_left (by omega)]
        have HV : Hid (k ≤ 8 ∨ (k = 9 ∧ c ≤ 1) → val7 (l.take (k + 1)) ≤ 18446744073709551615) := fun h => val7_top l k c hkl HC.out hc256 h
        have HDC : Hid (dec 0 0 l = if k = 9 ∧ 1 < c then (0, 0, 12) else if 128 ≤ c then dec (k + 1) (val7 (l.take k) + c % 128 * 128 ^ k) (l.drop (k + 1)) else if c = 0 ∧ 0 < k then (0, 0, 11) else (val7 (l.take k) + c % 128 * 128 ^ k, k + 1, 0)) := by
          show _ = _
          rw [HD.out, drop_at l k c hkl HC.out, dec_cons]
        clear HD
        have hkb : k < 9 ∨ k = 9 := by omega
        rcases hkb with hk8 | rfl
        · have hkn : ((k : Int) == 9) = false := by simp; omega
          have hkl2 : ((k : Int) == (l.length : Int)) = false := by simp; omega
          by_cases hc128 : 128 ≤ c
          · go_wp2
            go_round
            case rel =>
              refine ⟨k + 1, by omega, by omega, by go_num, fun j hj => ?_⟩
              by_cases hjk : j < k
              · exact HJ.out j hjk
              · obtain rfl : j = k := by omega
                rw [← HC.out]; exact hc128
            case measure => first | (simp [intOf]; done) | (simp [intOf]; omega)
          · have hc128' : (c : Int) < 128 := by omega
            have hgeq : ¬ (128 : Int) ≤ (c : Int) := by omega
            by_cases h11 : c = 0 ∧ 0 < k
            · have HE : Hid (dec 0 0 l = (0, 0, 11)) := by
                show _ = _
                rw [HDC.out, if_neg (by omega), if_neg hc128, if_pos h11]
              have hc0 : ((c : Int) == 0) = true := by simp; omega
              have hk0 : (0 : Int) < (k : Int) := by omega
              clear HDC HT HV HJ HBY HCELL HC hc128 h11
              go_wp2
              go_ret3
              exact ⟨by rw [HE.out]; rfl, rfl⟩
            · have HE : Hid (_ = _) := HT.out (by omega) (by omega) h11
              have hval := HV.out (by omega)
              clear HDC HT HV HJ HC hc128
              by_cases hk0 : 0 < k
              · have hc0 : ((c : Int) == 0) = false := by simp; omega
                have hk0' : (0 : Int) < (k : Int) := by omega
                clear h11 hk0
                go_wp2
                go_loop [6, 7] (fun vu vi => ∃ j u : Nat, j ≤ k + 1 ∧ vu = .int .u64 u ∧ u = val7 ((l.take (k + 1)).drop j) ∧ ((j = 0 ∧ vi = .int .i64 (-1)) ∨ ∃ j' : Nat, j = j' + 1 ∧ vi = .int .i64 j')) (fun _ vi => (intOf vi + 1).toNat)
                case atStart => exact ⟨k + 1, 0, Nat.le_refl _, rfl, by rw [List.drop_eq_nil_of_le (by rw [List.length_take]; omega)]; rfl, .inr ⟨k, rfl, rfl⟩⟩
                case round =>
                  obtain ⟨j, u, hjk, rfl, hu, hvi⟩ := hrel
                  have HU : Hid (u = val7 ((l.take (k + 1)).drop j)) := hu
                  clear hu
                  rcases hvi with ⟨rfl, rfl⟩ | ⟨j', rfl, rfl⟩
                  · clear HCELL HBY
                    go_wp2
                    go_ret3
                    rw [HE.out]
                    exact ⟨ret3 (by rw [HU.out]; rfl) rfl rfl, rfl⟩
                  · have hd := HCELL.out j' (by omega)
                    have hd256 := HBY.out j'
                    obtain ⟨d, hdE⟩ : ∃ d, d = l.getD j' 0 := ⟨_, rfl⟩
                    rw [← hdE] at hd hd256
                    have HS : Hid (_ = _) := drop_take_step l k j' d hkl (by omega) hdE
                    have hB1 := val7_drop (l.take (k + 1)) j'
                    rw [HS.out, ← HU.out] at hB1
                    have hB2 : (u : Int) * 128 + (d : Int) % 128 ≤ 18446744073709551615 := by omega
                    have hB3 : (u : Int) * 128 ≤ 18446744073709551615 := by omega
                    have hjl : (j' : Int) < (l.length : Int) := by omega
                    clear hB1 hdE
                    go_wp2
                    go_round
                    case rel =>
                      refine ⟨j', u * 128 + d % 128, by omega, by go_num, by rw [HS.out, ← HU.out]; omega, ?_⟩
                      cases j' with
                      | zero => exact .inl ⟨rfl, rfl⟩
                      | succ j'' => exact .inr ⟨j'', rfl, by go_num⟩
                    case measure => first | (simp [intOf]; done) | (simp [intOf]; omega)
              · have hk0' : ¬ (0 : Int) < (k : Int) := by omega
                clear h11 hk0
                go_wp2
                go_loop [6, 7] (fun vu vi => ∃ j u : Nat, j ≤ k + 1 ∧ vu = .int .u64 u ∧ u = val7 ((l.take (k + 1)).drop j) ∧ ((j = 0 ∧ vi = .int .i64 (-1)) ∨ ∃ j' : Nat, j = j' + 1 ∧ vi = .int .i64 j')) (fun _ vi => (intOf vi + 1).toNat)
                case atStart => exact ⟨k + 1, 0, Nat.le_refl _, rfl, by rw [List.drop_eq_nil_of_le (by rw [List.length_take]; omega)]; rfl, .inr ⟨k, rfl, rfl⟩⟩
                case round =>
                  obtain ⟨j, u, hjk, rfl, hu, hvi⟩ := hrel
                  have HU : Hid (u = val7 ((l.take (k + 1)).drop j)) := hu
                  clear hu
                  rcases hvi with ⟨rfl, rfl⟩ | ⟨j', rfl, rfl⟩
                  · clear HCELL HBY
                    go_wp2
                    go_ret3
                    rw [HE.out]
                    exact ⟨ret3 (by rw [HU.out]; rfl) rfl rfl, rfl⟩
                  · have hd := HCELL.out j' (by omega)
                    have hd256 := HBY.out j'
                    obtain ⟨d, hdE⟩ : ∃ d, d = l.getD j' 0 := ⟨_, rfl⟩
                    rw [← hdE] at hd hd256
                    have HS : Hid (_ = _) := drop_take_step l k j' d hkl (by omega) hdE
                    have hB1 := val7_drop (l.take (k + 1)) j'
                    rw [HS.out, ← HU.out] at hB1
                    have hB2 : (u : Int) * 128 + (d : Int) % 128 ≤ 18446744073709551615 := by omega
                    have hB3 : (u : Int) * 128 ≤ 18446744073709551615 := by omega
                    have hjl : (j' : Int) < (l.length : Int) := by omega
                    clear hB1 hdE
                    go_wp2
                    go_round
                    case rel =>
                      refine ⟨j', u * 128 + d % 128, by omega, by go_num, by rw [HS.out, ← HU.out]; omega, ?_⟩
                      cases j' with
                      | zero => exact .inl ⟨rfl, rfl⟩
                      | succ j'' => exact .inr ⟨j'', rfl, by go_num⟩
                    case measure => first | (simp [intOf]; done) | (simp [intOf]; omega)
        · have hkl2 : ((9 : Int) == (l.length : Int)) = false := by simp; omega
          by_cases hc1 : 1 < c
          · have HE : Hid (dec 0 0 l = (0, 0, 12)) := by
              show _ = _
              rw [HDC.out, if_pos ⟨rfl, hc1⟩]
            have hc1' : (1 : Int) < (c : Int) := by omega
            clear HDC HT HV HJ HBY HCELL HC hc1
            go_wp2
            go_ret3
            exact ⟨by rw [HE.out]; rfl, rfl⟩
          · have hc1' : ¬ (1 : Int) < (c : Int) := by omega
            by_cases h11 : c = 0
            · have HE : Hid (dec 0 0 l = (0, 0, 11)) := by
                show _ = _
                rw [HDC.out, if_neg (by omega), if_neg (by omega), if_pos (by omega)]
              have hc0 : ((c : Int) == 0) = true := by simp; omega
              clear HDC HT HV HJ HBY HCELL HC hc1 h11
              go_wp2
              go_ret3
              exact ⟨by rw [HE.out]; rfl, rfl⟩
            · have HE : Hid (_ = _) := HT.out (by omega) (by omega) (by omega)
              have hval := HV.out (by omega)
              have hc0 : ((c : Int) == 0) = false := by simp; omega
              clear HDC HT HV HJ HC hc1 h11
              go_wp2
              go_loop [6, 7] (fun vu vi => ∃ j u : Nat, j ≤ 9 + 1 ∧ vu = .int .u64 u ∧ u = val7 ((l.take (9 + 1)).drop j) ∧ ((j = 0 ∧ vi = .int .i64 (-1)) ∨ ∃ j' : Nat, j = j' + 1 ∧ vi = .int .i64 j')) (fun _ vi => (intOf vi + 1).toNat)
              case atStart => exact ⟨9 + 1, 0, Nat.le_refl _, rfl, by rw [List.drop_eq_nil_of_le (by rw [List.length_take]; omega)]; rfl, .inr ⟨9, rfl, rfl⟩⟩
              case round =>
                obtain ⟨j, u, hjk, rfl, hu, hvi⟩ := hrel
                have HU : Hid (u = val7 ((l.take (9 + 1)).drop j)) := hu
                clear hu
                rcases hvi with ⟨rfl, rfl⟩ | ⟨j', rfl, rfl⟩
                · clear HCELL HBY
                  go_wp2
                  go_ret3
                  rw [HE.out]
                  exact ⟨ret3 (by rw [HU.out]; rfl) rfl rfl, rfl⟩
                · have hd := HCELL.out j' (by omega)
                  have hd256 := HBY.out j'
                  obtain ⟨d, hdE⟩ : ∃ d, d = l.getD j' 0 := ⟨_, rfl⟩
                  rw [← hdE] at hd hd256
                  have HS : Hid (_ = _) := drop_take_step l 9 j' d hkl (by omega) hdE
                  have hB1 := val7_drop (l.take (9 + 1)) j'
                  rw [HS.out, ← HU.out] at hB1
                  have hB2 : (u : Int) * 128 + (d : Int) % 128 ≤ 18446744073709551615 := by omega
                  have hB3 : (u : Int) * 128 ≤ 18446744073709551615 := by omega
                  have hjl : (j' : Int) < (l.length : Int) := by omega
                  clear hB1 hdE
                  go_wp2
                  go_round
                  case rel =>
                    refine ⟨j', u * 128 + d % 128, by omega, by go_num, by rw [HS.out, ← HU.out]; omega, ?_⟩
                    cases j' with
                    | zero => exact .inl ⟨rfl, rfl⟩
                    | succ j'' => exact .inr ⟨j'', rfl, by go_num⟩
                  case measure => first | (simp [intOf]; done) | (simp [intOf]; omega)
      · have hkl2 : ((k : Int) == (l.length : Int)) = true := by simp; omega
        have HE : Hid (dec 0 0 l = (0, 0, 10)) := by
          show _ = _
          rw [HD.out, List.drop_eq_nil_of_le (by omega)]; rfl
        clear HD HJ hcell hby HBY HCELL
        go_wp2
        go_ret3
        exact ⟨by rw [HE.out]; rfl, rfl⟩
theorem rdec_at (l : List Nat) (n u k e : Nat) (a : Option Addr) (cap : Nat) (w : World) (e1 : l.length = n) (hd : dec 0 0 l = (u, k, e)) (hb : Bytes w a l) (hl : l.length ≤ maxLen) :
    Calls Try.prog 45 #[.slice a n cap] w fun x w' => x = .returned (.tuple #[.int .u64 u, .int .i64 k, .int .i64 e]) ∧ w = w' := by
  subst e1
  refine (rdec_any l a cap w hb hl).mono ?_
  rw [hd]
  exact fun _ _ h => h
end Go.Proofs.Ytbdgiecnhgiogaa
