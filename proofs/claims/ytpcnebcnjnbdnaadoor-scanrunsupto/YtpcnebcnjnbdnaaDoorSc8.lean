/- The reference's Run. -/
import Derived.Test.YtpcnebcnjnbdnaaDoorSc7
import Derived.Test.YtpcnebcnjnbdnaaDoorSlc
namespace Go.Proofs.YtpcnebcnjnbdnaaDoor
open Go.ChangeShapes Go.WideShapes Go.ChangeAt Go.RowKit Go.Shelf
set_option linter.unusedVariables false
set_option maxRecDepth 100000 in
set_option maxHeartbeats 1000000 in
/-- from no place at all -/
theorem run_off (m : Nat) (a : Option Addr) (cap : Nat) (d first most : Int) (w : World) (hd : d < 0 ∨ (m : Int) < d) :
    Calls Tryd.prog 18 #[.slice a m cap, .int .i64 d, .int .i64 first, .int .i64 most] w fun e W' => e = .returned (.tuple #[.slice none 0 0, .int .i64 0]) ∧ Below w.heap.size w W' := by
  by_cases h0 : d < 0
  · clear hd
    go_enter Tryd.func18, Tryd.ntmps18
    go_wp2
    go_ret2
    exact ⟨rfl, (((Below.refl _ w).alloc (Nat.le_refl _) _).alloc (by simp) _).alloc (by simp; omega) _⟩
  · have h1 : (m : Int) < d := by omega
    clear hd
    go_enter Tryd.func18, Tryd.ntmps18
    go_wp2
    go_ret2
    exact ⟨rfl, (((Below.refl _ w).alloc (Nat.le_refl _) _).alloc (by simp) _).alloc (by simp; omega) _⟩
set_option maxRecDepth 100000 in
set_option maxHeartbeats 1000000 in
theorem rrun_off (m : Nat) (a : Option Addr) (cap : Nat) (d first most : Int) (w : World) (hd : d < 0 ∨ (m : Int) < d) :
    Calls Tryd.prog 17 #[.slice a m cap, .int .i64 d, .int .i64 first, .int .i64 most] w fun e W' => e = .returned (.tuple #[.slice none 0 0, .int .i64 0]) ∧ Below w.heap.size w W' := by
  by_cases h0 : d < 0
  · clear hd
    go_enter Tryd.func17, Tryd.ntmps17
    go_wp2
    go_ret2
    exact ⟨rfl, Below.refl _ w⟩
  · have h1 : (m : Int) < d := by omega
    clear hd
    go_enter Tryd.func17, Tryd.ntmps17
    go_wp2
    go_ret2
    exact ⟨rfl, Below.refl _ w⟩
theorem take_snoc {α : Type} {L : List α} {k : Nat} {x : α} (h : L[k]? = some x) : L.take (k + 1) = L.take k ++ [x] := by
  rw [List.take_add_one, h]; rfl
set_option maxRecDepth 100000 in
set_option maxHeartbeats 8000000 in
theorem rrun_any (l : List Nat) (m : Nat) (a : Option Addr) (cap d : Nat) (first most : Int) (w : World) (hm : l.length = m) (hb : Bytes w a l) (hcap : m ≤ cap) (hl : m ≤ 16777216) (hd : d ≤ m) (hf0 : -9223372036854775808 ≤ first) (hf1 : first ≤ 9223372036854775807) :
    Calls Tryd.prog 17 #[.slice a m cap, .int .i64 (d : Int), .int .i64 first, .int .i64 most] w fun e W' => ∃ (xs : List It) (v : Value), e = .returned (.tuple #[v, .int .i64 (endZ d (runL l d first most) : Int)]) ∧ xs.map It.fm = runL l d first most ∧ OwnP W' w.heap.size v xs ∧ Below w.heap.size w W' := by
  obtain ⟨i0, hi, hz0, hz1, hz2⟩ := info_parts Tryd.infoPl
  have hdI : (d : Int) ≤ (m : Int) := by omega
  have hmI : (m : Int) ≤ 16777216 := by omega
  have HX : Hid (l.length = m ∧ Bytes w a l ∧ m ≤ cap) := ⟨hm, hb, hcap⟩
  have HD : Hid ((l.drop d).length = m - d) := by show _ = _; rw [List.length_drop, hm]
  clear hm hb hcap
  go_enter Tryd.func17, Tryd.ntmps17
  go_wp2_with (first
    | ((with_reducible refine at_slice ?_); refine wpList_slice_l rfl _ _ rfl rfl rfl hd HX.out.2.2 HX.out.1 HX.out.2.1 ?_; intro ax hax)
    | (go_at_call 11; refine (rall_any (l.drop d) (m - d) ax _ _ HD.out hax (by have := HX.out.2.2; omega) (by omega)).mono ?_; rintro e w1 ⟨xs, v1, rfl, hx1, hp1, hb1⟩; obtain ⟨a1, c1, rfl, hq1⟩ := hp1.plc; obtain ⟨n, hn⟩ : ∃ n, xs.length = n := ⟨_, rfl⟩; rw [hn]; have HP : Hid (OwnP w1 w.heap.size (.slice a1 xs.length c1) xs ∧ PlcA w1 a1 xs ∧ xs.map It.fm = scanL (l.drop d) ∧ xs.length = n ∧ Below w.heap.size w w1) := ⟨hp1, hq1, hx1, hn, hb1⟩; clear hp1 hx1 hq1 hb1 hn hax))
  have HN : Hid (20 * n ≤ m - d) := by
    have := scanL_count (l.drop d)
    rw [← HP.out.2.2.1, HD.out, List.length_map, HP.out.2.2.2.1] at this
    exact this
  have hn20 : n ≤ 838860 := by have := HN.out; omega
  have hnI : (n : Int) ≤ 838860 := by omega
  go_loopw [13, 14, 37] (fun vo ve vi wr => ∃ (v0 : Value) (k E : Nat), v0 = vo ∧ k ≤ n ∧ vi = .int .i64 k ∧ ve = .int .i64 E ∧ E = endZ d (((xs.take k).map (shI d)).map It.fm) ∧ Acc first most (xs.take k) ∧ wr.ownsRow w1.heap.size 36 5 v0 k (pflt ((xs.take k).map (shI d))) ∧ Below w1.heap.size w1 wr) (fun _ _ vi _ => n - (intOf vi).toNat)
  case atStart => exact ⟨_, 0, d, rfl, Nat.zero_le _, rfl, rfl, rfl, (fun i x h => by simp at h), World.ownsRow_lit w1 #[] 0 (Nat.le_refl _) (by simp) rfl, (Below.refl _ _).alloc (Nat.le_refl _) _⟩
  case round =>
    obtain ⟨v0, k, E, rfl, hk, rfl, rfl, hE, hacc, hrow, hbr⟩ := hrel
    have HR : Hid (E = endZ d (((xs.take k).map (shI d)).map It.fm) ∧ Acc first most (xs.take k) ∧ wr.ownsRow w1.heap.size 36 5 v0 k (pflt ((xs.take k).map (shI d)))) := ⟨hE, hacc, hrow⟩
    clear hE hacc hrow
    have hsz := hbr.size
    have HTL : Hid ((xs.take k).length = k) := by show _ = _; rw [List.length_take, HP.out.2.2.2.1]; omega
    -- what is handed back at k frames
    have HFIN : Hid (((xs.take k).map (shI d)).map It.fm = runL l d first most → ∀ wq, Below wr.heap.size wr wq → ∃ (zs : List It) (v : Value), Ending.returned (.tuple #[v0, .int .i64 (E : Int)]) = .returned (.tuple #[v, .int .i64 (endZ d (runL l d first most) : Int)]) ∧ zs.map It.fm = runL l d first most ∧ OwnP wq w.heap.size v zs ∧ Below w.heap.size w wq) := fun hfin wq hwq => by
      have hbq : Below w1.heap.size w1 wq := hbr.trans (hwq.mono hsz)
      refine ⟨(xs.take k).map (shI d), v0, by rw [HR.out.1, hfin], hfin, ⟨?_, ?_⟩, HP.out.2.2.2.2.trans (hbq.mono HP.out.2.2.2.2.size)⟩
      · rw [List.length_map, HTL.out]
        exact World.ownsRow.mono (own_below HR.out.2.2 hwq) HP.out.2.2.2.2.size
      · intro x hx
        obtain ⟨y, hy, rfl⟩ := List.mem_map.1 hx
        exact ⟨(HP.out.1.2 y (List.mem_of_mem_take hy)).1, own_below (HP.out.1.2 y (List.mem_of_mem_take hy)).2 hbq⟩
    by_cases hkn : k < n
    · obtain ⟨⟨⟨p, K, S, B⟩, bv⟩, hp⟩ := lt_get (L := xs) (k := k) (by rw [HP.out.2.2.2.1]; exact hkn)
      obtain ⟨b, off, rfl, hlt, c0, c1, c2, c3, c4⟩ := (HP.out.2.1.keep hbr).at k _ hp
      obtain ⟨a2, s2, e2, _⟩ := HP.out.2.1.byt _ (List.mem_of_getElem? hp)
      have hmem : (⟨p, K, S, B⟩ : Fm) ∈ scanL (l.drop d) := by rw [← HP.out.2.2.1]; exact List.mem_map.2 ⟨_, List.mem_of_getElem? hp, rfl⟩
      obtain ⟨hbl, hps⟩ := scanL_facts _ _ hmem
      have hS : S ≤ 1099511627776 := scanN_seq _ _ _ _ hmem
      simp only [HD.out] at c0 c1 c2 c3 c4 e2 hbl hps
      subst e2
      have hpI : (p : Int) + (B.length : Int) + 20 + (d : Int) ≤ 16777216 := by omega
      have hSI : (S : Int) ≤ 1099511627776 := by omega
      have HPRE : Hid (xs.map It.fm = (xs.take (k + 1)).map It.fm ++ (xs.drop (k + 1)).map It.fm) := by show _ = _; rw [← List.map_append, List.take_append_drop]
      -- the condition, as the law has it
      have HCOND : Hid (Off first most k ⟨⟨p, K, S, B⟩, .slice a2 B.length s2⟩ ↔ (most ≤ (k : Int) ∨ K ≠ 1 ∨ first < 0 ∨ 1099511627776 < first ∨ (S : Int) ≠ first + (k : Int))) := by
        unfold Hid Off
        simp only
        constructor
        · rintro (h | h | h)
          · exact .inl h
          · exact .inr (.inl h)
          · exact .inr (.inr (.inr (.inr h)))
        · rintro (h | h | h | h | h)
          · exact .inl h
          · exact .inr (.inl h)
          · refine .inr (.inr fun e => ?_)
            by_cases hk0 : k = 0
            · subst hk0; omega
            · have := HR.out.2.1 0
              obtain ⟨y, hy⟩ := lt_get (L := xs.take k) (k := 0) (by rw [HTL.out]; omega)
              have := (this y hy).2.2
              omega
          · refine .inr (.inr fun e => ?_)
            by_cases hk0 : k = 0
            · subst hk0; omega
            · have := HR.out.2.1 0
              obtain ⟨y, hy⟩ := lt_get (L := xs.take k) (k := 0) (by rw [HTL.out]; omega)
              have h2 := (this y hy).2.2
              have h3 : y.fm.seq ≤ 1099511627776 := scanN_seq _ _ _ y.fm (by rw [show scanN _ _ _ = scanL (l.drop d) from rfl, ← HP.out.2.2.1]; exact List.mem_map.2 ⟨y, List.mem_of_mem_take (List.mem_of_getElem? hy), rfl⟩)
              omega
          · exact .inr (.inr h)
      have HT1 : Hid (xs.take (k + 1) = xs.take k ++ [⟨⟨p, K, S, B⟩, .slice a2 B.length s2⟩]) := take_snoc hp
      have HSTOP : Hid (Off first most k ⟨⟨p, K, S, B⟩, .slice a2 B.length s2⟩ → ((xs.take k).map (shI d)).map It.fm = runL l d first most) := fun ho => by
        have h := runN_all HR.out.2.1 ((⟨p, K, S, B⟩ : Fm) :: (xs.drop (k + 1)).map It.fm)
        rw [map_sh, runL, ← HP.out.2.2.1, HPRE.out, HT1.out]
        simp only [List.map_append, List.map_cons, List.map_nil, List.append_assoc, List.cons_append, List.nil_append]
        rw [h, HTL.out, runN, if_pos (by exact ho), List.append_nil]
      clear hp hmem
      by_cases hoff : Off first most k ⟨⟨p, K, S, B⟩, .slice a2 B.length s2⟩
      · have HF : Hid (∀ wq, Below wr.heap.size wr wq → ∃ (zs : List It) (v : Value), Ending.returned (.tuple #[v0, .int .i64 (E : Int)]) = .returned (.tuple #[v, .int .i64 (endZ d (runL l d first most) : Int)]) ∧ zs.map It.fm = runL l d first most ∧ OwnP wq w.heap.size v zs ∧ Below w.heap.size w wq) := HFIN.out (HSTOP.out hoff)
        have HBX : Hid (∀ o, Below wr.heap.size wr (wr.alloc o)) := fun o => (Below.refl _ _).alloc (Nat.le_refl _) _
        clear HFIN HSTOP
        by_cases h1 : most ≤ (k : Int)
        · clear hoff
          go_wp2
          go_ret2
          exact HF.out _ (HBX.out _)
        · by_cases h2 : K = 1
          · subst h2
            by_cases h3 : first < 0
            · clear hoff
              go_wp2
              go_ret2
              exact HF.out _ (HBX.out _)
            · by_cases h4 : 1099511627776 < first
              · clear hoff
                go_wp2
                go_ret2
                exact HF.out _ (HBX.out _)
              · have h5 : ((S : Int) != first + (k : Int)) = true := by
                  rcases HCOND.out.1 hoff with h | h | h | h | h
                  · exact absurd h h1
                  · exact absurd rfl h
                  · exact absurd h h3
                  · exact absurd h h4
                  · simpa using h
                clear hoff
                go_wp2
                go_ret2
                exact HF.out _ (HBX.out _)
          · have h2b : ((K : Int) != 1) = true := by simp; omega
            clear hoff h2
            go_wp2
            go_ret2
            exact HF.out _ (HBX.out _)
      · have HAC : Hid (Acc first most (xs.take (k + 1))) := by show Acc _ _ _; rw [HT1.out]; exact Acc.snoc HR.out.2.1 (by rw [HTL.out]; exact hoff)
        have hc := mt HCOND.out.2 hoff
        simp only [not_or, Decidable.not_not] at hc
        obtain ⟨h1, rfl, h2, h3, h4⟩ := hc
        have h5 : ((S : Int) != first + (k : Int)) = false := by simp [h4]
        clear h4 hoff HFIN HSTOP HCOND
        have HO4 : Hid (((wr.alloc (.cells #[.int .i64 ((p : Int) + (d : Int)), .int .i64 ((B.length : Int) + 20), .int .i64 1, .int .i64 (S : Int), .slice a2 B.length s2] 36)).alloc (.cells #[.int .i64 ((p : Int) + (d : Int)), .int .i64 ((B.length : Int) + 20), .int .i64 1, .int .i64 (S : Int), .slice a2 B.length s2] 36)).ownsRow w1.heap.size 36 5 v0 k (pflt ((xs.take k).map (shI d)))) := World.ownsRow.alloc (World.ownsRow.alloc HR.out.2.2 _) _
        have HB4 : Hid (Below w1.heap.size w1 ((wr.alloc (.cells #[.int .i64 ((p : Int) + (d : Int)), .int .i64 ((B.length : Int) + 20), .int .i64 1, .int .i64 (S : Int), .slice a2 B.length s2] 36)).alloc (.cells #[.int .i64 ((p : Int) + (d : Int)), .int .i64 ((B.length : Int) + 20), .int .i64 1, .int .i64 (S : Int), .slice a2 B.length s2] 36))) := (hbr.alloc hsz _).alloc (by simp; omega) _
        have HNW : Hid (∀ j u, [.int .i64 ((p : Int) + (d : Int)), .int .i64 ((B.length : Int) + 20), .int .i64 1, .int .i64 (S : Int), .slice a2 B.length s2][j]? = some u → ((wr.alloc (.cells #[.int .i64 ((p : Int) + (d : Int)), .int .i64 ((B.length : Int) + 20), .int .i64 1, .int .i64 (S : Int), .slice a2 B.length s2] 36)).alloc (.cells #[.int .i64 ((p : Int) + (d : Int)), .int .i64 ((B.length : Int) + 20), .int .i64 1, .int .i64 (S : Int), .slice a2 B.length s2] 36)).cell? ((⟨wr.heap.size + 1, 0, none⟩ : Addr).add j) = some u) := (by have h := cell_newL (wr.alloc (.cells #[.int .i64 ((p : Int) + (d : Int)), .int .i64 ((B.length : Int) + 20), .int .i64 1, .int .i64 (S : Int), .slice a2 B.length s2] 36)) [.int .i64 ((p : Int) + (d : Int)), .int .i64 ((B.length : Int) + 20), .int .i64 1, .int .i64 (S : Int), .slice a2 B.length s2] 36; rw [World.size_alloc] at h; exact h)
        have HSZ : Hid (w1.heap.size ≤ ((wr.alloc (.cells #[.int .i64 ((p : Int) + (d : Int)), .int .i64 ((B.length : Int) + 20), .int .i64 1, .int .i64 (S : Int), .slice a2 B.length s2] 36)).alloc (.cells #[.int .i64 ((p : Int) + (d : Int)), .int .i64 ((B.length : Int) + 20), .int .i64 1, .int .i64 (S : Int), .slice a2 B.length s2] 36)).heap.size) := HB4.out.size
        go_wp2_with (at_builtin; refine wpList_append_own _ rfl _ _ 25 rfl w1.heap.size 36 i0 (.agg #[.int .i64 0, .int .i64 0, .int .i64 0, .int .i64 0, .slice none 0 0]) 5 56 Tryd.underlying25 hi hz0 hz1 hz2 rfl (by decide) _ _ _ rfl HO4.out ⟨wr.heap.size + 1, 0, none⟩ 1 1 [.int .i64 ((p : Int) + (d : Int)), .int .i64 ((B.length : Int) + 20), .int .i64 1, .int .i64 (S : Int), .slice a2 B.length s2] rfl rfl HNW.out (one5 _ _ _ _ _ _ _) (by unfold maxLen; omega) (by omega) HSZ.out ?_; intro v4 w5 ho5 hg5 _; have HO5 : Hid (w5.ownsRow w1.heap.size 36 5 v4 (k + 1) (pflt ((xs.take (k + 1)).map (shI d)))) := (by show World.ownsRow _ _ _ _ _ _ _; refine RowEq ho5 ?_; rw [HT1.out, List.map_append, pflt_append]; simp [shI, sh, pflt, Int.add_comm]); have HB5 : Hid (Below w1.heap.size w1 w5) := grown_row HB4.out HO4.out HSZ.out hg5; obtain ⟨x0, x1, x2⟩ := far_box2 (w := w1) (W := wr) (w2 := wr) HR.out.2.2 (Below.refl _ _) HO4.out hg5; clear ho5 hg5)
        exact ⟨⟨v4, k + 1, d + p + B.length + 20, rfl, by omega, by go_num, by congr 1; omega, by rw [HT1.out, List.map_append, List.map_append]; simp only [List.map_cons, List.map_nil]; rw [endF_snoc]; rfl, HAC.out, HO5.out, HB5.out⟩, by simp [intOf]; omega⟩
    · obtain rfl : k = n := by omega
      have HF : Hid (((xs.take k).map (shI d)).map It.fm = runL l d first most) := by
        have h := runN_all HR.out.2.1 []
        show _ = _
        rw [map_sh, runL, ← HP.out.2.2.1]
        rw [List.append_nil] at h
        have ht : xs.take k = xs := List.take_of_length_le (by rw [HP.out.2.2.2.1]; exact Nat.le_refl _)
        rw [ht] at h ⊢
        rw [h]
        simp [runN]
      have HF2 : Hid (_) := HFIN.out HF.out wr (Below.refl _ _)
      clear HFIN
      go_wp2
      go_ret2
      exact HF2.out
end Go.Proofs.YtpcnebcnjnbdnaaDoor
