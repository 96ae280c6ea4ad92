/- Allowed against Judge: for every state and every event. -/
import Derived.Test.YtmjppeljpifjpaaGreatM39
import Derived.Test.YtmjppeljpifjpaaGreatK41
import Derived.Test.YtmjppeljpifjpaaGreatM74
import Derived.Test.YtmjppeljpifjpaaGreatM64
import Derived.Test.YtmjppeljpifjpaaGreatM61
import Derived.Test.YtmjppeljpifjpaaGreatK55
import Derived.SizedLaws
import Derived.ChangeOld
import Derived.OrdersHeld
import Derived.Deep.RegionHeld
namespace Go.Proofs.YtmjppeljpifjpaaGreat.orderAllows
open Go.ChangeShapes Go.WideShapes Go.ChangeAt Go.RowKit
set_option linter.unusedVariables false
set_option linter.unusedSimpArgs false
theorem SE.stored {w x y : World} {s : St} {e : Ev} {a : Option Addr} {n cap b : Nat} (hl : Lns w a s.lines) (h : SE w s e a n cap x) (hb : w.heap.size + 2 ≤ b) (z2 : ∀ B a, Below B a x → B ≤ b → Below B a y) (z3 : ∀ k, k ≠ b → y.heap[k]? = x.heap[k]?) : SE w s e a n cap y :=
  ⟨(z3 _ (by omega)).trans h.st, (z3 _ (by omega)).trans h.ev, hl.keep (z2 _ _ h.bel (by omega)), z2 _ _ h.bel (by omega)⟩
theorem std_use (s : St) (k : Int) : stdR s k = 0 ↔ useB s k = true := by
  unfold stdR
  by_cases h0 : s.status = 0
  · by_cases h1 : k = 1
    · subst h1
      rw [if_neg (by simp), if_neg (by simp [h0])]
      simp [useB, h0]
    · rw [if_pos ⟨h0, h1⟩]
      have : useB s k = false := by
        unfold useB
        rw [if_neg h1]
        simp [h0]
      rw [this]
      simp
  · rw [if_neg (by simp [h0])]
    by_cases h1 : k = 1
    · subst h1
      rw [if_pos ⟨h0, rfl⟩]
      simp [useB, h0]
    · rw [if_neg (by simp [h1])]
      cases h : useB s k <;> simp
theorem std_vals (s : St) (k : Int) : stdR s k = 0 ∨ stdR s k = 3 ∨ stdR s k = 4 ∨ stdR s k = 5 := by
  unfold stdR
  repeat' split
  all_goals simp
theorem ref_vals (s : St) (e : Ev) : refR s e ≠ 3 ∧ refR s e ≠ 4 ∧ refR s e ≠ 5 := by
  unfold refR refAdd refTake refMoney
  repeat' split
  all_goals decide
theorem alw_pre (s : St) (j : Nat) : ∀ d, ∃ r, alw s (j + d) = alw s j ++ r
  | 0 => ⟨[], by simp⟩
  | d + 1 => by
    obtain ⟨r, hr⟩ := alw_pre s j d
    exact ⟨r ++ _, by show alw s (j + d) ++ _ = _; rw [hr, List.append_assoc]⟩
theorem alw_at {s : St} {j : Nat} (hj : j < 10) (h : stdR s ((j : Int) + 1) = 0) : (alw s 10)[(alw s j).length]? = some ((j : Int) + 1) ∧ (alw s j).length < (alw s 10).length ∧ (alw s (j + 1)).length = (alw s j).length + 1 := by
  have h1 : alw s (j + 1) = alw s j ++ [(j : Int) + 1] := by show alw s j ++ (if stdR s ((j : Int) + 1) = 0 then _ else _) = _; rw [if_pos h]
  obtain ⟨r, hr⟩ := alw_pre s (j + 1) (10 - (j + 1))
  rw [show j + 1 + (10 - (j + 1)) = 10 from by omega, h1] at hr
  rw [hr, h1]
  refine ⟨by simp, by simp, by simp⟩
theorem alw_mem (s : St) (k : Int) : ∀ j : Nat, k ∈ alw s j ↔ (1 ≤ k ∧ k ≤ j ∧ stdR s k = 0)
  | 0 => by
    constructor
    · intro h; cases h
    · intro h; have := h.1; have := h.2.1; simp at this; omega
  | j + 1 => by
    have ih := alw_mem s k j
    show k ∈ alw s j ++ (if stdR s ((j : Int) + 1) = 0 then [(j : Int) + 1] else []) ↔ _
    rw [List.mem_append, ih]
    constructor
    · rintro (h | h)
      · exact ⟨h.1, by have := h.2.1; omega, h.2.2⟩
      · split at h
        · rename_i h0
          simp at h
          subst h
          exact ⟨by omega, by omega, h0⟩
        · cases h
    · rintro ⟨h1, h2, h3⟩
      by_cases hk : k ≤ j
      · exact .inl ⟨h1, hk, h3⟩
      · right
        obtain rfl : k = (j : Int) + 1 := by omega
        rw [if_pos h3]
        simp
theorem any_mem (L : List Int) (k : Int) : L.any (· == k) = decide (k ∈ L) := by
  rw [Bool.eq_iff_iff]
  simp
theorem any_step (L : List Int) (k : Int) (i : Nat) (x : Int) (h : L[i]? = some x) : (L.take (i + 1)).any (· == k) = ((L.take i).any (· == k) || (x == k)) := by
  rw [ln_take L i x h, List.any_append]
  simp
/-- kinds that lie in a row -/
def KsAt (x : World) (ka : Option Addr) (L : List Int) : Prop := ∀ (k : Nat) (v : Int), L[k]? = some v → ∃ g, ka = some ⟨g, 0, none⟩ ∧ g < x.heap.size ∧ x.cell? ⟨g, k, none⟩ = some (.int .i64 v)
theorem KsAt.keep {x y : World} {ka : Option Addr} {L : List Int} (h : KsAt x ka L) (hb : Below x.heap.size x y) : KsAt y ka L := fun k v hk => by
  obtain ⟨g, h1, h2, h3⟩ := h k v hk
  exact ⟨g, h1, Nat.lt_of_lt_of_le h2 hb.size, (hb.cell (p := ⟨g, k, none⟩) h2).trans h3⟩
theorem ownK_at {w : World} {base : Nat} {v : Value} {L : List Int} (h : OwnK w base v L) : ∃ ka c, v = .slice ka L.length c ∧ L.length ≤ c ∧ c ≤ maxLen ∧ KsAt w ka L := by
  obtain ⟨ka, c, h1, h2, h3, h4⟩ := h.shape
  refine ⟨ka, c, h1, h2, h3, fun k v hk => ?_⟩
  rcases h4 with ⟨_, rfl⟩ | ⟨g, rfl, _, h5, h6⟩
  · simp at hk
  · exact ⟨g, rfl, h5, h6 k v hk⟩
/-- the row's block -/
def KB (x : World) (lo : Nat) (ka : Option Addr) (M : Nat) : Prop := M = 0 ∨ ∃ g cur, ka = some ⟨g, 0, none⟩ ∧ lo ≤ g ∧ x.heap[g]? = some (.cells cur 35 (0, 0)) ∧ M ≤ cur.size
theorem KB.keep {x y : World} {lo : Nat} {ka : Option Addr} {M : Nat} (h : KB x lo ka M) (hb : Below x.heap.size x y) : KB y lo ka M := by
  rcases h with h | ⟨g, cur, h1, h2, h3, h4⟩
  · exact .inl h
  · exact .inr ⟨g, cur, h1, h2, (hb.block g (lt_of_heap h3)).trans h3, h4⟩
theorem ownK_kb {w : World} {base : Nat} {ka : Option Addr} {c M : Nat} {L : List Int} (h : OwnK w base (.slice ka M c) L) (hM : L.length = M) : KB w base ka M := by
  obtain ⟨h1, h2⟩ := h
  rcases h2 with ⟨hv, hn⟩ | ⟨g, cap, cur, hv, hb, hg, hnc, hcm, hcs, htake⟩
  · left; omega
  · right
    injection hv with e1 e2 e3
    refine ⟨g, cur, e1, hb, hg, ?_⟩
    rw [hcs]
    omega
set_option maxRecDepth 20000 in
set_option maxHeartbeats 8000000 in
theorem walk (s : St) (a : Option Addr) (n cap : Nat) (e : Ev) (w : World) (hn : s.lines.length = n) (hl : Lns w a s.lines) (hc : n ≤ cap) (hm : n * 32 ≤ 140737488351232) (hfit : e.Fit) :
    Calls Tryz.prog 11 #[.agg (stA s (.slice a n cap)), .agg (evA e)] w fun r w' => r = .returned (.bool true) ∧ Below w.heap.size w w' := by
  have HN : Hid (s.lines.length = n) := hn
  have HL : Hid (Lns w a s.lines) := hl
  have hlm : n ≤ maxLen := by unfold maxLen; omega
  have HS0 : Hid (SE w s e a n cap ((w.alloc (.cells (stA s (.slice a n cap)) 25)).alloc (.cells (evA e) 37))) := SE.new w s e a n cap hl
  have HV7 : Hid (vldB (empS 7) = true) := emp_valid (by decide) (by decide)
  have HA7 : Hid (alw (empS 7) 10 = [1]) := by show alw (empS 7) 10 = [1]; decide
  have T1 : Hid True := trivial
  have T2 : Hid True := trivial
  cases hv : vldB s with
  | false =>
    have HV : Hid (vldB s = false) := hv
    clear hn hl hfit hv
    go_enter Tryz.func11, Tryz.ntmps11
    go_wp2_with (first
      | (go_at_call 20; refine (empty_any 7 _).mono ?_; rintro _ x1 ⟨rfl, hb1⟩; have HS1 : Hid (SE w s e a n cap x1) := SE.keep HS0.out hb1; clear hb1)
      | (go_at_call 27; clear T1; refine (allowed_any (empS 7) none 0 0 _ rfl (.inl rfl) (by decide)).mono ?_; rw [HV7.out, if_pos rfl, HA7.out]; rintro _ x2 ⟨v2, rfl, ho2, hb2⟩; obtain ⟨k2, c2, hv2, _, _, hk2⟩ := ownK_at ho2; simp only [List.length_cons, List.length_nil] at hv2; subst hv2; obtain ⟨g2, rfl, _, kc⟩ := hk2 0 1 rfl; have HS2 : Hid (SE w s e a n cap x2) := SE.keep HS1.out hb2; clear hb2 ho2 hk2)
      | ((with_reducible refine guard_load 25 ?_); clear T2; refine wpList_load_st rfl _ rfl HS2.out.st rfl ?_)
      | (go_at_call 14; refine (scopy_any s a n cap _ HN.out HS2.out.ln hm).mono ?_; rintro _ x3 ⟨v3, rfl, ho3, hb3⟩; obtain ⟨a3, c3, hv3, _, _, hl3, _⟩ := ho3.shape; simp only [HN.out] at hv3; subst hv3; have HL3 : Hid (Lns x3 a3 s.lines) := hl3; have HS3 : Hid (SE w s e a n cap x3) := SE.keep HS2.out hb3; clear hb3 ho3 hl3)
      | (go_at_call 27; refine (allowed_any s a3 n c3 _ HN.out HL3.out hlm).mono ?_; rw [HV.out, if_neg (by decide)]; rintro _ x4 ⟨v4, rfl, ho4, hb4⟩; obtain ⟨k4, c4, hv4, _, _, hk4⟩ := ownK_at ho4; simp only [List.length_nil] at hv4; subst hv4; have HS4 : Hid (SE w s e a n cap x4) := SE.keep HS3.out hb4; clear hb4 ho4 hk4)
      | ((with_reducible refine guard_load 25 ?_); refine wpList_load_st rfl _ rfl HS4.out.st rfl ?_)
      | (go_at_call 15; refine (rvalid_any s a n cap _ HN.out HS4.out.ln hlm).mono ?_; rw [HV.out]; rintro _ x5 ⟨rfl, hb5⟩; have HS5 : Hid (SE w s e a n cap x5) := SE.keep HS4.out hb5; clear hb5))
    go_ret
    exact ⟨rfl, HS5.out.bel⟩
  | true =>
    have HV : Hid (vldB s = true) := hv
    obtain ⟨L, hLL⟩ : ∃ L, alw s 10 = L := ⟨_, rfl⟩
    have HLL : Hid (alw s 10 = L) := hLL
    obtain ⟨M, hMM⟩ : ∃ M, L.length = M := ⟨_, rfl⟩
    have HMM : Hid (L.length = M) := hMM
    have hM10 : M ≤ 10 := by have := alw_len s 10; rw [hLL] at this; omega
    clear hn hl hfit hv hLL hMM
    go_enter Tryz.func11, Tryz.ntmps11
    go_wp2_with (first
      | (go_at_call 20; refine (empty_any 7 _).mono ?_; rintro _ x1 ⟨rfl, hb1⟩; have HS1 : Hid (SE w s e a n cap x1) := SE.keep HS0.out hb1; clear hb1)
      | (go_at_call 27; clear T1; refine (allowed_any (empS 7) none 0 0 _ rfl (.inl rfl) (by decide)).mono ?_; rw [HV7.out, if_pos rfl, HA7.out]; rintro _ x2 ⟨v2, rfl, ho2, hb2⟩; obtain ⟨k2, c2, hv2, _, _, hk2⟩ := ownK_at ho2; simp only [List.length_cons, List.length_nil] at hv2; subst hv2; obtain ⟨g2, rfl, _, kc⟩ := hk2 0 1 rfl; have HS2 : Hid (SE w s e a n cap x2) := SE.keep HS1.out hb2; clear hb2 ho2 hk2)
      | ((with_reducible refine guard_load 25 ?_); clear T2; refine wpList_load_st rfl _ rfl HS2.out.st rfl ?_)
      | (go_at_call 14; refine (scopy_any s a n cap _ HN.out HS2.out.ln hm).mono ?_; rintro _ x3 ⟨v3, rfl, ho3, hb3⟩; obtain ⟨a3, c3, hv3, _, _, hl3, _⟩ := ho3.shape; simp only [HN.out] at hv3; subst hv3; have HL3 : Hid (Lns x3 a3 s.lines) := hl3; have HS3 : Hid (SE w s e a n cap x3) := SE.keep HS2.out hb3; clear hb3 ho3 hl3)
      | (go_at_call 27; refine (allowed_any s a3 n c3 _ HN.out HL3.out hlm).mono ?_; rw [HV.out, if_pos rfl, HLL.out]; rintro _ x4 ⟨v4, rfl, ho4, hb4⟩; obtain ⟨ka, kcap, hv4, hkc, hkm, hk4⟩ := ownK_at ho4; rw [HMM.out] at hv4 hkc; subst hv4; have HKB : Hid (KB x4 (w.heap.size + 2) ka M) := ownK_kb (World.ownsRow.mono ho4 HS3.out.ev.lt) HMM.out; have HKA : Hid (KsAt x4 ka L) := hk4; have HS4 : Hid (SE w s e a n cap x4) := SE.keep HS3.out hb4; clear hb4 ho4 hk4)
      | ((with_reducible refine guard_load 25 ?_); refine wpList_load_st rfl _ rfl HS4.out.st rfl ?_)
      | (go_at_call 15; refine (rvalid_any s a n cap _ HN.out HS4.out.ln hlm).mono ?_; rw [HV.out]; rintro _ x5 ⟨rfl, hb5⟩; have HS5 : Hid (SE w s e a n cap x5) := SE.keep HS4.out hb5; have HKA5 : Hid (KsAt x5 ka L) := HKA.out.keep hb5; have HKB5 : Hid (KB x5 (w.heap.size + 2) ka M) := HKB.out.keep hb5; clear hb5))
    clear HS0 HS1 HS2 HS3 HS4 HL3 HKA HKB kc
    go_loopw [8, 7] (fun vk vn wr => ∃ (j : Nat), j ≤ 10 ∧ vk = .int .i64 ((j : Int) + 1) ∧ vn = .int .i64 ((alw s j).length : Int) ∧ Hid (SE w s e a n cap wr ∧ KsAt wr ka L ∧ KB wr (w.heap.size + 2) ka M)) (fun vk _ _ => 11 - (intOf vk).toNat)
    case atStart => exact ⟨0, by omega, rfl, rfl, HS5.out, HKA5.out, HKB5.out⟩
    case round =>
      clear HS5 HKA5 HKB5
      obtain ⟨j, hj, rfl, rfl, HI⟩ := hrel
      by_cases hj10 : j < 10
      · have hd : decide ((j : Int) + 1 ≤ 10) = true := by simp; omega
        obtain ⟨u, hu⟩ : ∃ u, useB s ((j : Int) + 1) = u := ⟨_, rfl⟩
        have HU : Hid (useB s ((j : Int) + 1) = u) := hu
        cases u with
        | true =>
          obtain ⟨p1, p2, p3⟩ := alw_at hj10 ((std_use s _).2 hu)
          rw [HLL.out] at p1 p2
          rw [HMM.out] at p2
          obtain ⟨g, hga, hgl, kc⟩ := HI.out.2.1 _ _ p1
          obtain ⟨nn, hnn⟩ : ∃ nn, (alw s j).length = nn := ⟨_, rfl⟩
          rw [hnn] at p1 p2 p3 kc ⊢
          have HP3 : Hid ((alw s (j + 1)).length = nn + 1) := p3
          subst hga
          have hge : decide ((M : Int) ≤ (nn : Int)) = false := by simp; omega
          have hjj : ((j : Int) + 1 != (j : Int) + 1) = false := by simp
          clear p1 p3 hu hnn
          go_wp2_with (first
            | ((with_reducible refine guard_load 25 ?_); refine wpList_load_st rfl _ rfl HI.out.1.st rfl ?_)
            | (go_at_call 28; refine (ruse_any s ((j : Int) + 1) a n cap _ HN.out HI.out.1.ln hlm HV.out (by omega) (by omega)).mono ?_; rw [HU.out]; rintro _ y1 ⟨rfl, hb1⟩; have HI1 : Hid (SE w s e a n cap y1 ∧ KsAt y1 (some ⟨g, 0, none⟩) L ∧ KB y1 (w.heap.size + 2) (some ⟨g, 0, none⟩) M) := ⟨SE.keep HI.out.1 hb1, HI.out.2.1.keep hb1, HI.out.2.2.keep hb1⟩; have kc1 := (hb1.cell (p := ⟨g, nn, none⟩) hgl).trans kc; clear hb1))
          go_roundw
          case rel => exact ⟨j + 1, by omega, by go_num, by rw [HP3.out]; go_num, HI1.out⟩
          case measure => simp [intOf]; omega
        | false =>
          have h0 : ¬ stdR s ((j : Int) + 1) = 0 := fun h => by have := (std_use s _).1 h; rw [hu] at this; cases this
          have HP3 : Hid (alw s (j + 1) = alw s j) := by show alw s j ++ (if stdR s ((j : Int) + 1) = 0 then _ else _) = _; rw [if_neg h0, List.append_nil]
          clear hu h0
          go_wp2_with (first
            | ((with_reducible refine guard_load 25 ?_); refine wpList_load_st rfl _ rfl HI.out.1.st rfl ?_)
            | (go_at_call 28; refine (ruse_any s ((j : Int) + 1) a n cap _ HN.out HI.out.1.ln hlm HV.out (by omega) (by omega)).mono ?_; rw [HU.out]; rintro _ y1 ⟨rfl, hb1⟩; have HI1 : Hid (SE w s e a n cap y1 ∧ KsAt y1 ka L ∧ KB y1 (w.heap.size + 2) ka M) := ⟨SE.keep HI.out.1 hb1, HI.out.2.1.keep hb1, HI.out.2.2.keep hb1⟩; clear hb1))
          go_roundw
          case rel => exact ⟨j + 1, by omega, by go_num, by rw [HP3.out], HI1.out⟩
          case measure => simp [intOf]; omega
      · obtain rfl : j = 10 := by omega
        have hMl : (alw s 10).length = M := by rw [HLL.out, HMM.out]
        rw [hMl]
        have hmm : ((M : Int) != (M : Int)) = false := by simp
        have HZ : Hid (SE w s e a n cap wr ∧ KB wr (w.heap.size + 2) ka M) := ⟨HI.out.1, HI.out.2.2⟩
        clear HI hMl
        rename World => wz
        go_wp2
        go_loopw [61] (fun vi wr => ∃ (i : Nat), i ≤ M ∧ vi = .int .i64 i ∧ Hid (SE w s e a n cap wr ∧ KB wr (w.heap.size + 2) ka M)) (fun vi _ => M - (intOf vi).toNat)
        case atStart => exact ⟨0, by omega, rfl, HZ.out⟩
        case round =>
          clear HZ
          obtain ⟨i, hi, rfl, HI⟩ := hrel
          by_cases hiM : i < M
          · obtain ⟨g, cur, hga, hlo, hg, hsz⟩ := (HI.out.2).resolve_left (by omega)
            subst hga
            obtain ⟨u0, hu0⟩ : ∃ u0, cur[i]? = some u0 := ⟨_, Array.getElem?_eq_getElem (by omega)⟩
            have hcell : wr.cell? ⟨g, i, none⟩ = some u0 := by rw [cell_of_row wr g i cur _ (0, 0) hg]; exact hu0
            have hfz : wr.frozen? ⟨g, i, none⟩ = false := frozen_of_row _ _ i _ _ hg
            have HZ2 : Hid (SE w s e a n cap (wr.setCell ⟨g, i, none⟩ (.int .i64 0)) ∧ KB (wr.setCell ⟨g, i, none⟩ (.int .i64 0)) (w.heap.size + 2) (some ⟨g, 0, none⟩) M) :=
              ⟨SE.stored HL.out HI.out.1 hlo (fun B a h hB => h.setCell (p := ⟨g, i, none⟩) hB _) (fun k hk => heap_setCell_other wr ⟨g, i, none⟩ k _ hk), .inr ⟨g, cur.setIfInBounds i (.int .i64 0), rfl, hlo, heap_setCell_same wr g i _ _ _ hg, by simpa using hsz⟩⟩
            clear HI hg hu0 hlo hsz
            go_wp2
            go_roundw
            case rel => exact ⟨i + 1, by omega, by go_num, HZ2.out⟩
            case measure => simp [intOf]; omega
          · obtain rfl : i = M := by omega
            have HS6 : Hid (SE w s e a n cap wr) := HI.out.1
            clear HI
            rename World => wy
            go_wp2_with (first
              | ((with_reducible refine guard_load 25 ?_); refine wpList_load_st rfl _ rfl HS6.out.st rfl ?_)
              | (go_at_call 14; refine (scopy_any s a n cap _ HN.out HS6.out.ln hm).mono ?_; rintro _ x7 ⟨v7, rfl, ho7, hb7⟩; obtain ⟨a7, c7, hv7, _, _, hl7, _⟩ := ho7.shape; simp only [HN.out] at hv7; subst hv7; have HL7 : Hid (Lns x7 a7 s.lines) := hl7; have HS7 : Hid (SE w s e a n cap x7) := SE.keep HS6.out hb7; clear hb7 ho7 hl7)
              | (go_at_call 27; refine (allowed_any s a7 n c7 _ HN.out HL7.out hlm).mono ?_; rw [HV.out, if_pos rfl, HLL.out]; rintro _ x8 ⟨v8, rfl, ho8, hb8⟩; obtain ⟨kb, kcap2, hv8, hkc2, hkm2, hk8⟩ := ownK_at ho8; rw [HMM.out] at hv8 hkc2; subst hv8; have HKA8 : Hid (KsAt x8 kb L) := hk8; have HS8 : Hid (SE w s e a n cap x8) := SE.keep HS7.out hb8; clear hb8 ho8 hk8))
            go_loopw [72, 10] (fun vi vb wr => ∃ (q : Nat), q ≤ i ∧ vi = .int .i64 q ∧ vb = .bool ((L.take q).any (· == e.kind)) ∧ wr = x8) (fun vi _ _ => i - (intOf vi).toNat)
            case atStart => exact ⟨0, by omega, rfl, rfl, rfl⟩
            case round =>
              obtain ⟨q, hq, rfl, rfl, rfl⟩ := hrel
              by_cases hqi : q < i
              · obtain ⟨x, hx⟩ := ln_get (L := L) (k := q) (by rw [HMM.out]; exact hqi)
                obtain ⟨g, hgb, _, kc⟩ := HKA8.out q x hx
                subst hgb
                have d0 := HS8.out.ev.cell 0 (.int .i64 e.kind) rfl
                have HST : Hid ((L.take (q + 1)).any (· == e.kind) = ((L.take q).any (· == e.kind) || (x == e.kind))) := any_step L e.kind q x hx
                obtain ⟨bb, hbb⟩ : ∃ bb, (L.take q).any (· == e.kind) = bb := ⟨_, rfl⟩
                rw [hbb] at HST ⊢
                clear hx hbb
                cases bb with
                | true =>
                  go_wp2
                  go_roundw
                  case rel => exact ⟨q + 1, by omega, by go_num, by rw [HST.out]; rfl, by first | rfl | trivial⟩
                  case measure => simp [intOf]; omega
                | false =>
                  go_wp2
                  go_roundw
                  case rel => exact ⟨q + 1, by omega, by go_num, by rw [HST.out]; simp, by first | rfl | trivial⟩
                  case measure => simp [intOf]; omega
              · obtain rfl : q = i := by omega
                rw [List.take_of_length_le (by rw [HMM.out]; exact Nat.le_refl _), any_mem, ← HLL.out]
                obtain ⟨j2, hj2⟩ : ∃ j, judS s e = j := ⟨_, rfl⟩
                have HJ : Hid (judS s e = j2) := hj2
                obtain ⟨inb, hin⟩ : ∃ b, decide (e.kind ∈ alw s 10) = b := ⟨_, rfl⟩
                rw [hin]
                have HIN : Hid (decide (e.kind ∈ alw s 10) = inb) := hin
                have HSW : Hid (SE w s e a n cap wr) := HS8.out
                clear hj2 hin
                go_wp2
                refine wp_region_held (S := fun y => StAt y w.heap.size s (.slice a n cap) ∧ EvAt y (w.heap.size + 1) e) (by kernel_rfl) ?_
                change wpAnyH _ _ _ _ _ _ _ _ (World.drew _)
                have HSP : Hid (SE w s e a n cap wr.drew) := SE.drew HSW.out
                refine wpAnyH_take (i := 0) (oi := { dst := some 84, op := Op.load 25 (Operand.tmp 2), type := 25, pos := "law.go:203", after := #[], guard := none }) (v := .agg (stA s (.slice a n cap))) rfl (by kernel_rfl) (by kernel_rfl) (by kernel_rfl) (fun _ _ _ h => h) (Or.inl ⟨by rfl, fun y hy => exec_load_st (.tmp 2) rfl rfl hy.1⟩) ⟨HSP.out.st, HSP.out.ev⟩ ?_
                simp only [Act.put, List.setIfInBounds_toArray, List.set_cons_zero, List.set_cons_succ]
                refine wpAnyH_take (i := 2) (oi := { dst := some 86, op := Op.load 37 (Operand.tmp 3), type := 37, pos := "law.go:203", after := #[], guard := none }) (v := .agg (evA e)) rfl (by kernel_rfl) (by kernel_rfl) (by kernel_rfl) (fun _ _ _ h => h) (Or.inl ⟨by rfl, fun y hy => exec_load_ev (.tmp 3) rfl rfl hy.2⟩) ⟨HSP.out.st, HSP.out.ev⟩ ?_
                simp only [Act.put, List.setIfInBounds_toArray, List.set_cons_zero, List.set_cons_succ]
                refine wpAnyH_ready (rs := [1]) (by kernel_rfl) (by simp) ?_
                refine AllReadyH.cons (o := { dst := some 85, op := Op.call { callee := Callee.value (Operand.func 14), args := #[Operand.tmp 84], argTypes := #[25] }, type := 25, pos := "law.go:203", after := #[{ on := 0, ground := Ground.data }], guard := none }) rfl (fun K hK => ?_) AllReadyH.nil
                go_simp
                refine (scopy_any s a n cap _ HN.out HSP.out.ln hm).mono ?_
                rintro _ y2 ⟨v2, rfl, ho2, hb2⟩
                obtain ⟨a2, c2, hv2, _, _, hl2, _⟩ := ho2.shape
                simp only [HN.out] at hv2
                subst hv2
                have HL2 : Hid (Lns y2 a2 s.lines) := hl2
                have HS2 : Hid (SE w s e a n cap y2) := SE.keep HSP.out hb2
                clear hb2 ho2 hl2
                (refine hK _ _ ⟨HS2.out.st, HS2.out.ev⟩ ?_; clear hK K; intro _)
                try simp only [Act.put, List.setIfInBounds_toArray, List.set_cons_zero, List.set_cons_succ]
                refine wpAnyH_ready (rs := [3]) (by kernel_rfl) (by simp) ?_
                refine AllReadyH.cons (o := { dst := some 87, op := Op.call { callee := Callee.value (Operand.func 21), args := #[Operand.tmp 85, Operand.tmp 86], argTypes := #[25, 37] }, type := 38, pos := "law.go:203", after := #[{ on := 1, ground := Ground.data }, { on := 2, ground := Ground.data }, { on := 1, ground := Ground.chain }], guard := none }) rfl (fun K hK => ?_) AllReadyH.nil
                go_simp
                refine (ojudge_any s e a2 n c2 _ HN.out HL2.out hlm).mono ?_
                rw [HJ.out]
                rintro _ y3 ⟨rfl, hb3⟩
                have HS3 : Hid (SE w s e a n cap y3) := SE.keep HS2.out hb3
                clear hb3
                (refine hK _ _ ⟨HS3.out.st, HS3.out.ev⟩ ?_; clear hK K; intro _)
                try simp only [Act.put, List.setIfInBounds_toArray, List.set_cons_zero, List.set_cons_succ]
                refine wpAnyH_ready (rs := [4]) (by kernel_rfl) (by simp) ?_
                refine AllReadyH.cons (o := { dst := some 13, op := Op.assign (Operand.tmp 87), type := 38, pos := "law.go:203", after := #[{ on := 3, ground := Ground.data }, { on := 3, ground := Ground.chain }, { on := 0, ground := Ground.phase }, { on := 1, ground := Ground.phase }, { on := 2, ground := Ground.phase }, { on := 3, ground := Ground.phase }], guard := none }) rfl (fun K hK => ?_) AllReadyH.nil
                go_simp
                (refine hK _ _ ⟨HS3.out.st, HS3.out.ev⟩ ?_; clear hK K; intro _)
                try simp only [Act.put, List.setIfInBounds_toArray, List.set_cons_zero, List.set_cons_succ]
                refine wpAnyH_done (by kernel_rfl) ?_ _
                by_cases h12 : j2 = 1 ∨ j2 = 2
                · have hb12 : (j2 == 1) = true ∨ ((j2 == 1) = false ∧ (j2 == 2) = true) := by rcases h12 with rfl | rfl <;> simp
                  obtain ⟨c, hcc⟩ : ∃ c, chk 5 e = c := ⟨_, rfl⟩
                  have HCC : Hid (chk 5 e = c) := hcc
                  have hone : c ≠ 0 ∨ s.events = 1099511627776 ∨ e.order ≠ s.order := by
                    have hJ := HJ.out
                    unfold judS at hJ
                    split at hJ
                    · rename_i h
                      rcases h with h | h | h
                      · rw [HV.out] at h; cases h
                      · exact .inl (by rw [← hcc]; exact h)
                      · exact .inr (.inl h)
                    · split at hJ
                      · rename_i h; exact .inr (.inr h)
                      · exfalso
                        have h3 := std_vals s e.kind
                        have h4 : refR s e = 0 ∨ 6 ≤ refR s e := by
                          unfold refR refAdd refTake refMoney
                          repeat' split
                          all_goals decide
                        split at hJ <;> omega
                  clear h12 hcc
                  by_cases c1 : c = 0
                  · have c1b : (c != 0) = false := by simpa using c1
                    by_cases c2 : s.events = 1099511627776
                    · have c2b : (s.events == 1099511627776) = true := by simpa using c2
                      clear hone c1 c2
                      rcases hb12 with hb1 | ⟨hb1, hb2⟩ <;>
                      · go_wp2_with (first
                          | ((with_reducible refine guard_load 37 ?_); refine wpList_load_ev rfl _ rfl HS3.out.ev rfl ?_)
                          | (go_at_call 29; refine (rcheck_ev 5 e _).mono ?_; rw [HCC.out]; rintro _ y4 ⟨rfl, hb4⟩; have HS9 : Hid (SE w s e a n cap y4) := SE.keep HS3.out hb4; have e8 := HS9.out.st.cell 8 (.int .i64 s.events) rfl; have e0 := HS9.out.st.cell 0 (.int .i64 s.order) rfl; have f1 := HS9.out.ev.cell 1 (.int .i64 e.order) rfl; clear hb4))
                        go_ret
                        exact ⟨rfl, HS9.out.bel⟩
                    · have c2b : (s.events == 1099511627776) = false := by simpa using c2
                      have c3b : (e.order != s.order) = true := by have : e.order ≠ s.order := by rcases hone with h | h | h; (exact absurd c1 h); (exact absurd h c2); exact h
                                                                   simpa using this
                      clear hone c1 c2
                      rcases hb12 with hb1 | ⟨hb1, hb2⟩ <;>
                      · go_wp2_with (first
                          | ((with_reducible refine guard_load 37 ?_); refine wpList_load_ev rfl _ rfl HS3.out.ev rfl ?_)
                          | (go_at_call 29; refine (rcheck_ev 5 e _).mono ?_; rw [HCC.out]; rintro _ y4 ⟨rfl, hb4⟩; have HS9 : Hid (SE w s e a n cap y4) := SE.keep HS3.out hb4; have e8 := HS9.out.st.cell 8 (.int .i64 s.events) rfl; have e0 := HS9.out.st.cell 0 (.int .i64 s.order) rfl; have f1 := HS9.out.ev.cell 1 (.int .i64 e.order) rfl; clear hb4))
                        go_ret
                        exact ⟨rfl, HS9.out.bel⟩
                  · have c1b : (c != 0) = true := by simpa using c1
                    clear hone c1
                    rcases hb12 with hb1 | ⟨hb1, hb2⟩ <;>
                    · go_wp2_with (first
                        | ((with_reducible refine guard_load 37 ?_); refine wpList_load_ev rfl _ rfl HS3.out.ev rfl ?_)
                        | (go_at_call 29; refine (rcheck_ev 5 e _).mono ?_; rw [HCC.out]; rintro _ y4 ⟨rfl, hb4⟩; have HS9 : Hid (SE w s e a n cap y4) := SE.keep HS3.out hb4; clear hb4))
                      go_ret
                      exact ⟨rfl, HS9.out.bel⟩
                · have hb1 : (j2 == 1) = false := by have : ¬ j2 = 1 := fun h => h12 (.inl h); simpa using this
                  have hb2 : (j2 == 2) = false := by have : ¬ j2 = 2 := fun h => h12 (.inr h); simpa using this
                  have hp := jud_parts (s := s) (e := e) (by rw [HJ.out]; exact fun h => h12 (.inl h))
                  have hrest := (jud_rest (s := s) (e := e) (by rw [HJ.out]; exact fun h => h12 (.inl h)) (by rw [HJ.out]; exact fun h => h12 (.inr h))).2
                  rw [HJ.out] at hrest
                  have hr := right_of hp.2.1
                  have k1 : e.kind ≤ 10 := by have := hr.kind1; have h5 : lastK 5 ≤ 10 := (by decide); omega
                  have hmem := alw_mem s e.kind 10
                  have hsv := std_vals s e.kind
                  have hrv := ref_vals s e
                  by_cases hz : stdR s e.kind = 0
                  · have hi1 : inb = true := by rw [← HIN.out]; exact decide_eq_true (hmem.2 ⟨hr.kind0, by omega, hz⟩)
                    rw [if_neg (by simp [hz])] at hrest
                    have g3 : (j2 != 3) = true := by rw [hrest]; simpa using hrv.1
                    have g4 : (j2 != 4) = true := by rw [hrest]; simpa using hrv.2.1
                    have g5 : (j2 != 5) = true := by rw [hrest]; simpa using hrv.2.2
                    subst hi1
                    clear h12 hp hrest hr hmem hsv hrv hz k1 HIN
                    go_wp2
                    go_ret
                    exact ⟨rfl, HS3.out.bel⟩
                  · have hi1 : inb = false := by rw [← HIN.out]; exact decide_eq_false (fun h => hz (hmem.1 h).2.2)
                    rw [if_pos hz] at hrest
                    subst hi1
                    have h345 : j2 = 3 ∨ j2 = 4 ∨ j2 = 5 := by omega
                    clear h12 hp hrest hr hmem hsv hrv hz k1 HIN hb1 hb2
                    rcases h345 with rfl | rfl | rfl <;>
                    · go_wp2
                      go_ret
                      exact ⟨rfl, HS3.out.bel⟩
theorem own : ownKnob Tryz.prog.godebug = none := by kernel_rfl
theorem laidOut : laidOutB Tryz.prog = true := by kernel_rfl
set_option maxRecDepth 100000 in
theorem contract (H : Type) (enc : TypeId × Value → H) (W : World) (base : Nat) (args : Array Value) (ds gs : List (DataW H)) (before : List MemPlace)
    (hval : ∀ (j : Nat) t v, Tryz.f11.params[j]? = some t → args[j]? = some v → Value.okWide Tryz.prog W .any base t v)
    (hW : DataW.Whole enc Tryz.prog Tryz.f11.params.toList Rows.orderAllowsSpec.vars false W args.toList ds gs before)
    (hsz : (DataW.weightsEach Tryz.prog (Tryz.f11.params.toList ++ Rows.orderAllowsSpec.plain.varTypes Tryz.prog) (ds ++ gs)).all (· ≤ reachBytes) = true) :
    Calls Tryz.prog 11 args W fun e W' => ∃ v, e = .returned v ∧ Rows.orderAllowsSpec.post enc Tryz.prog Tryz.f11 false true false false W args v W' := by
  have hW' := hW
  obtain ⟨p, q, hA0, hV, rfl, hfz, hnd⟩ := hW
  have hA : DataW.TrodAll enc Tryz.prog W 0 (fun _ => true) true Tryz.f11.params.toList args.toList ds p := hA0
  rw [Tryz.params11] at hA hval hsz
  obtain ⟨v0, vs0, d0, ds0, p0, q0, hargs, rfl, rfl, h0, r0⟩ := trodAll_cons hA
  obtain ⟨v1, vs1, d1, ds1, p1, q1, rfl, rfl, rfl, h1, r1⟩ := trodAll_cons r0
  obtain ⟨rfl, rfl, rfl⟩ := trodAll_nil r1
  obtain rfl : args = #[v0, v1] := by cases args; simp_all
  obtain ⟨rfl, rfl⟩ := trodVars_none hV
  have k0 := h0
  have lt0 : ∀ x ∈ p0, x.block < W.heap.size := by obtain ⟨m, hm⟩ := k0; exact DataW.trod_lt m _ _ _ hm
  obtain ⟨st0, a0, n0, cap0, rfl, hlen0, w0, c0, m0⟩ := open_state (hval 0 25 v0 rfl rfl) h0 hsz (j := 0) rfl rfl
  have k1 := h1
  have lt1 : ∀ x ∈ p1, x.block < W.heap.size := by obtain ⟨m, hm⟩ := k1; exact DataW.trod_lt m _ _ _ hm
  obtain ⟨a1, rfl, _, w1⟩ := open_event Tryz.underlying37 (by kernel_rfl) (by kernel_rfl) (by kernel_rfl) (by kernel_rfl) (by kernel_rfl) (by kernel_rfl) (by kernel_rfl) (by kernel_rfl) (by kernel_rfl) (by kernel_rfl) (by kernel_rfl) (by kernel_rfl) (hval 1 37 v1 rfl rfl) h1
  clear hA0
  refine (walk st0 a0 n0 cap0 a1 W hlen0 w0 c0 m0 w1).mono fun e W' ⟨he, bel⟩ => ?_
  subst he
  exact ⟨_, rfl, _, _, _, [], _, [], hW', trodAll_mk1 (shut_bool Tryz.underlying4 _), (trodAll_cons_mk (Below.trod laidOut (by kernel_rfl) (of_decide_eq_true (by kernel_rfl)) k0 bel lt0) (trodAll_cons_mk (Below.trod laidOut (by kernel_rfl) (of_decide_eq_true (by kernel_rfl)) k1 bel lt1) trodAll_mk0)), rfl, bel.frame _, fun h => by cases h⟩
set_option maxRecDepth 100000 in
theorem lifted (os : Os) (started : os.Started) (H : Type) (enc : TypeId × Value → H) :
    ReturnsInHanded {} Tryz.checked os 11 .any (Rows.orderAllowsSpec.pre6 enc Tryz.prog Tryz.f11 Rows.orderAllowsRow.domain false) (Rows.orderAllowsSpec.post enc Tryz.prog Tryz.f11 false true false false) := by
  refine returnsInHanded_of_change_sized (C := Tryz.checked) own started (by kernel_rfl) Tryz.func11
    (ChangeSpec.witness6 (enc := enc) (C := Tryz.checked) false ⟨#[], #[.agg #[.int .i64 0, .int .i64 0, .int .i64 0, .int .i64 0, .int .i64 0, .slice none 0 0, .int .i64 0, .int .i64 0, .int .i64 0, .int .i64 0, .int .i64 0, .string ⟨#[]⟩], .agg #[.int .i64 0, .int .i64 0, .int .i64 0, .int .i64 0, .int .i64 0, .int .i64 0, .int .i64 0, .string ⟨#[]⟩, .int .i64 0, .string ⟨#[]⟩]], []⟩ 8 (by kernel_rfl) (by kernel_rfl) (by kernel_rfl) (by kernel_rfl)) ?_
  intro W base args ds gs before hval hW _ hsz _
  exact contract H enc W base args ds gs before hval hW hsz
theorem over : Rows.orderAllowsRow.holds Tryz.pinned (OpenSpec.ofChange Rows.orderAllowsSpec) :=
  OpenClaim.holds_of_wide 11 Tryz.f11 rfl rfl rfl rfl rfl rfl rfl ⟨rfl, rfl, rfl, rfl, rfl⟩ rfl rfl rfl rfl rfl (by kernel_rfl) Tryz.func11 (by kernel_rfl)
    (of_decide_eq_true (by kernel_rfl)) (by unfold Func.isWrapper; first | (rw [if_pos (by decide +kernel)]; kernel_rfl) | (rw [if_neg (by decide +kernel)]; exact ⟨rfl, rfl⟩))
    (fun os started H enc _ => lifted os started H enc)
theorem proved : Rows.OrderAllowsSaid := over
end Go.Proofs.YtmjppeljpifjpaaGreat.orderAllows
