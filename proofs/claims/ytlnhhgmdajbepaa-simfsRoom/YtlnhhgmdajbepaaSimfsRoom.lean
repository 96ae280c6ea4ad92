/- For every room and every script: a disk never has more bytes than there is room for, Used is what its files have, and what is refused changes nothing. No condition. -/
import Derived.Test.YtlnhhgmdajbepaaOpw
namespace Go.Proofs.Ytlnhhgmdajbepaa.simfsRoom
open Go.ChangeShapes Go.WideShapes Go.ChangeAt Go.RowKit
set_option linter.unusedVariables false
theorem im_kept {x y : World} {base : Nat} {v : Value} {X : List (Fa × Value)} (h : OwnIm x base v X) (hs : ∀ k, base ≤ k → k < x.heap.size → y.heap[k]? = x.heap[k]?) : OwnIm y base v X := by
  refine ⟨⟨h.1.1, ?_⟩, fun p hp => ?_⟩
  · rcases h.1.2 with h1 | ⟨g, cap, cur, h1, h2, h3, h4⟩
    · exact .inl h1
    · exact .inr ⟨g, cap, cur, h1, h2, (hs g h2 (lt_of_heap h3)).trans h3, h4⟩
  · have h9 := h.2 p hp
    refine ⟨h9.1, h9.2.1, ?_⟩
    rcases h9.2.2 with h1 | ⟨g, cap, cur, h1, h2, h3, h4⟩
    · exact .inl h1
    · exact .inr ⟨g, cap, cur, h1, h2, (hs g h2 (lt_of_heap h3)).trans h3, h4⟩
theorem fls_at {w : World} {base : Nat} {a : Option Addr} {m c : Nat} {X : List (Fa × Value)} (h : OwnIm w base (.slice a m c) X) : X.length = m ∧ FlsA w a X := by
  obtain ⟨a2, c2, e, h2, _⟩ := h.fls
  injection e with e1 e2 e3
  subst e1
  exact ⟨e2.symm, h2⟩
theorem used_take (L : List Fa) (k : Nat) (h : k < L.length) : usedA (L.take (k + 1)) = usedA (L.take k) + (L[k]).l.length := by
  unfold usedA
  rw [List.take_succ_eq_append_getElem h, List.map_append, List.sum_append]
  simp
theorem used_le (L : List Fa) (k : Nat) : usedA (L.take k) ≤ usedA L := by
  have h : usedA L = usedA (L.take k) + usedA (L.drop k) := by
    unfold usedA
    conv => lhs; rw [← List.take_append_drop k L]
    rw [List.map_append, List.sum_append]
  omega
theorem fst_at {X : List (Fa × Value)} {L : List Fa} (h : X.map Prod.fst = L) {k : Nat} {p : Fa × Value} (hp : X[k]? = some p) : ∃ hk : k < L.length, L[k] = p.1 := by
  subst h
  have hk : k < X.length := (List.getElem?_eq_some_iff.1 hp).1
  refine ⟨by simpa using hk, ?_⟩
  rw [List.getElem_map]
  rw [(List.getElem?_eq_some_iff.1 hp).2]
set_option maxRecDepth 100000 in
set_option maxHeartbeats 8000000 in
theorem walk (room : Int) (L : List Oa) (a : Option Addr) (cap : Nat) (w : World) (w0 : (Lit.int .i64 room).wf = true) (hL : OpsAt w a L) (hc : L.length ≤ cap ∧ cap * 104 ≤ 140737488351232) :
    Calls Try.prog 9 #[.int .i64 room, .slice a L.length cap] w fun e w' => e = .returned (.bool true) ∧ Below w.heap.size w w' := by
  have hri := wf_i64 room w0
  obtain ⟨n, hn⟩ : ∃ n, L.length = n := ⟨_, rfl⟩
  have HN : Hid (L.length = n) := hn
  have hnI : (n : Int) ≤ 140737488351232 := by omega
  have hn0 : (0 : Int) ≤ (n : Int) := by omega
  rw [hn]
  have HL : Hid (OpsAt w a L) := hL
  have HRI : Hid (inI room) := hri
  have hr1 := hri.1
  have hr2 := hri.2
  clear w0 hL hc hn hri
  go_enter Try.func9, Try.ntmps9
  go_wp2_with (first
    | (go_at_call 13; refine (head10_any w).mono ?_; rintro _ x1 ⟨rfl, hb1⟩; have HB1 : Hid (Below w.heap.size w x1) := hb1; clear hb1)
    | (go_at_call 14; refine (new_A room x1 HRI.out.1 HRI.out.2).mono ?_; rintro _ x2 ⟨q, b, rfl, hd2, hb2⟩; have HD2 : Hid (DA x2 x1.heap.size q b (newD room).ab ∧ AkOk (newD room).ab ∧ (newD room).ab.room = roomI room ∧ Below w.heap.size w x2) := ⟨hd2, newA_ok room, rfl, HB1.out.trans (hb2.mono HB1.out.size)⟩; clear hd2 hb2)
    | go_in)
  go_loopw [21] (fun v21 wr => ∃ (k : Nat) (A : Ak), v21 = .int .i64 (k : Int) ∧ k ≤ n ∧ Hid (DA wr x1.heap.size q b A ∧ AkOk A ∧ A.room = roomI room ∧ Below w.heap.size w wr)) (fun v21 _ => n - (intOf v21).toNat)
  case atStart => exact ⟨0, _, rfl, Nat.zero_le _, HD2.out⟩
  case round =>
    obtain ⟨k, A, rfl, hk, HRR⟩ := hrel
    rename World => wo
    by_cases hkn : k < n
    · obtain ⟨o, ho⟩ : ∃ o, L[k]? = some o := ⟨_, List.getElem?_eq_getElem (by rw [HN.out]; exact hkn)⟩
      have hops := HL.out.keep HRR.out.2.2.2
      obtain ⟨b0, off, rfl, hb0, hrg⟩ : ∃ b0 off, a = some ⟨b0, off, none⟩ ∧ b0 < wo.heap.size ∧ wo.rangeAt b0 (off + k * 7) (opL o) := by
        rcases hops.1 with h1 | ⟨b0, off, h1, h2, h3⟩
        · rw [h1] at ho; simp at ho
        · exact ⟨b0, off, h1, h2, h3 k o ho⟩
      have HRNG : Hid (wo.rangeAt b0 (off + k * 7) (opL o)) := hrg
      have HOI : Hid (OpIn wo o) := hops.2 o (List.mem_of_getElem? ho)
      have HOZ : Hid (OpAt (wo.alloc (.cells #[.int .i64 0, .string ⟨#[]⟩, .string ⟨#[]⟩, .slice none 0 0, .int .i64 0, .int .i64 0, .slice none 0 0] 34)) wo.heap.size opZ) := OpAt.newZ wo
      obtain ⟨R, hR⟩ : ∃ R, doA A o = R := ⟨_, rfl⟩
      have hok2 : AkOk R.1 := by rw [← hR]; exact doA_ok HRR.out.2.1 HOI.out.n
      have hrm : R.1.room = roomI room := by rw [← hR, doA_room]; exact HRR.out.2.2.1
      have hbad : R.2.2.2 ≠ 0 → R.2.2.2 ≠ 3 → R.1 = A := by rw [← hR]; exact doA_bad A o
      obtain ⟨A2, by2, nn, E⟩ := R
      simp only at hok2 hrm hbad
      have HR : Hid (doA A o = (A2, by2, nn, E)) := hR
      have HOK : Hid (AkOk A2) := hok2
      obtain ⟨m, hm⟩ : ∃ m, A2.fs.length = m := ⟨_, rfl⟩
      have HM : Hid (A2.fs.length = m ∧ m ≤ 700) := ⟨hm, by rw [← hm]; exact hok2.few⟩
      obtain ⟨U, hU⟩ : ∃ U : Nat, usedA A2.fs = U := ⟨_, rfl⟩
      have HU : Hid (usedA A2.fs = U) := hU
      obtain ⟨Z, hZ⟩ : ∃ Z : Int, A2.room = Z := ⟨_, rfl⟩
      have HZ : Hid (A2.room = Z) := hZ
      have hZ0 : 0 ≤ Z ∧ Z ≤ 67108864 ∧ (U : Int) ≤ Z := by have h1 := hok2.room; have h2 := hok2.used; rw [hU] at h2; rw [hZ] at h1 h2; exact ⟨h1.1, h1.2, h2⟩
      have HZZ : Hid (Z = roomI room ∧ 0 ≤ Z ∧ Z ≤ 67108864 ∧ (U : Int) ≤ Z) := ⟨by rw [← hZ]; exact hrm, hZ0⟩
      have hkI : (k : Int) < (n : Int) := by omega
      have hk0 : (0 : Int) ≤ (k : Int) := by omega
      have hmI : (m : Int) ≤ 700 := by have := HM.out.2; omega
      have hm0 : (0 : Int) ≤ (m : Int) := by omega
      clear hops hrg ho hR hok2 hrm hm hU hZ hZ0
      go_wp2_with (first
        | ((with_reducible refine guard_load 34 ?_); refine wpList_load_opr rfl _ rfl HRNG.out rfl ?_)
        | ((with_reducible refine guard_store 34 ?_); refine wpList_store_op rfl _ _ rfl rfl HOZ.out rfl rfl (p2 := o) ?_; intro x3 ho3 hb3 hs3; have HB3 : Hid (Below wo.heap.size wo x3) := hb3 _ _ ((Below.refl _ _).alloc (Nat.le_refl _) _) (Nat.le_refl _); have HO3 : Hid (OpAt x3 wo.heap.size o) := ho3; have HD3 : Hid (DF x3 x1.heap.size q b A (fun _ => False)) := (HRR.out.1.keep HB3.out).df; clear ho3 hb3 hs3)
        | ((with_reducible refine guard_load 34 ?_); refine wpList_load_opb rfl _ rfl HO4.out rfl ?_)
        | (go_at_call 24; refine (image_F HD3.out HRR.out.2.1).mono ?_; rintro _ x4 ⟨vb, Xb, rfl, hi4, he4, hb4⟩; (obtain ⟨ab, cb, hvb, _, _⟩ := hi4.fls); (obtain ⟨mb, hmb⟩ : ∃ mb, Xb.length = mb := ⟨_, rfl⟩); rw [hmb] at hvb; subst hvb; clear hmb; have HI4 : Hid (OwnIm x4 x3.heap.size (.slice ab mb cb) Xb ∧ Xb.map Prod.fst = A.fs) := ⟨hi4, he4⟩; have HB4 : Hid (Below x3.heap.size x3 x4) := hb4; have HO4 : Hid (OpAt x4 wo.heap.size o) := HO3.out.keep hb4; have HD4 : Hid (DF x4 x1.heap.size q b A (fun k => False ∨ (x3.heap.size ≤ k ∧ k < x4.heap.size))) := HD3.out.more hb4; clear hi4 he4 hb4)
        | (go_at_call 18; refine (call_F x4 x1.heap.size q b A _ HD4.out HRR.out.2.1 o (HOI.out.keep (HB3.out.trans (HB4.out.mono HB3.out.size)))).mono ?_; rw [HR.out]; rintro _ x5 ⟨v5, rfl, ho5, hd5, hk5, hb5⟩; have HD5 : Hid (DF x5 x1.heap.size q b A2 (fun k => False ∨ (x3.heap.size ≤ k ∧ k < x4.heap.size))) := hd5; have HI5 : Hid (OwnIm x5 x3.heap.size (.slice ab mb cb) Xb) := im_kept HI4.out.1 (fun k h1 h2 => hk5 k (.inr ⟨h1, h2⟩)); have HB5 : Hid (Below w.heap.size w x5) := (HRR.out.2.2.2.trans ((HB3.out.trans (HB4.out.mono HB3.out.size)).mono HRR.out.2.2.2.size)).trans (hb5.mono HB1.out.size); clear ho5 hd5 hk5 hb5)
        | (go_at_call 24; refine (image_F HD5.out HOK.out).mono ?_; rintro _ x6 ⟨va, Xa, rfl, hi6, he6, hb6⟩; (obtain ⟨aa, ca, hva, _, _⟩ := hi6.fls); (have hlen6 : Xa.length = m := by have h9 := congrArg List.length he6; rw [List.length_map, HM.out.1] at h9; exact h9); rw [hlen6] at hva; subst hva; have HI6 : Hid (OwnIm x6 x5.heap.size (.slice aa m ca) Xa ∧ Xa.map Prod.fst = A2.fs) := ⟨hi6, he6⟩; have HI6b : Hid (OwnIm x6 x3.heap.size (.slice ab mb cb) Xb) := HI5.out.keep hb6; have HB6 : Hid (Below w.heap.size w x6) := HB5.out.trans (hb6.mono HB5.out.size); have HD6 : Hid (DF x6 x1.heap.size q b A2 (fun k => False ∨ (x3.heap.size ≤ k ∧ k < x4.heap.size))) := HD5.out.keep hb6; clear hi6 he6 hb6 hlen6)
        | go_in)
      go_loopw [13, 38] (fun v13 v38 wr => ∃ j : Nat, v13 = .int .i64 (usedA (A2.fs.take j) : Nat) ∧ v38 = .int .i64 (j : Int) ∧ j ≤ m ∧ Hid (Below x6.heap.size x6 wr)) (fun _ v38 _ => m - (intOf v38).toNat)
      case atStart => exact ⟨0, rfl, rfl, Nat.zero_le _, Below.refl _ _⟩
      case round =>
        obtain ⟨j, rfl, rfl, hj, HBJ⟩ := hrel
        by_cases hjm : j < m
        · obtain ⟨hxl, hfl⟩ := fls_at HI6.out.1
          obtain ⟨⟨fa, bv⟩, hp⟩ : ∃ p, Xa[j]? = some p := ⟨_, List.getElem?_eq_getElem (by rw [hxl]; exact hjm)⟩
          obtain ⟨g6, o6, rfl, hlt6, d0, d1, d2⟩ := (hfl.keep HBJ.out).at j _ hp
          obtain ⟨a2, s2, e2, _⟩ := (hfl.keep HBJ.out).byt _ (List.mem_of_getElem? hp)
          obtain ⟨hjl, hfe⟩ := fst_at HI6.out.2 hp
          have hst := used_take A2.fs j hjl
          rw [hfe] at hst
          have hle := used_le A2.fs (j + 1)
          rw [HU.out] at hle
          simp only at d1 e2 hst
          subst e2
          obtain ⟨N, hN⟩ : ∃ N, fa.l.length = N := ⟨_, rfl⟩
          rw [hN] at d1 hst
          obtain ⟨V, hV⟩ : ∃ V, usedA (A2.fs.take j) = V := ⟨_, rfl⟩
          rw [hV] at hst ⊢
          have HST : Hid (usedA (A2.fs.take (j + 1)) = V + N) := hst
          have hVN : (V : Int) + (N : Int) ≤ 67108864 := by have := HZZ.out; omega
          have hV0 : (0 : Int) ≤ (V : Int) := by omega
          have hN0 : (0 : Int) ≤ (N : Int) := by omega
          have hjI : (j : Int) < (m : Int) := by omega
          clear hxl hfl hp d0 d2 hfe hst hle hN hV hjl
          go_wp2
          go_roundw
          case rel => exact ⟨j + 1, by rw [HST.out]; go_num, by go_num, by omega, HBJ.out⟩
          case measure => simp [intOf]; omega
        · obtain rfl : j = m := by omega
          have hfull : usedA (A2.fs.take j) = U := by rw [List.take_of_length_le (by rw [HM.out.1]; exact Nat.le_refl _)]; exact HU.out
          rw [hfull]
          rename World => wz
          have HBW : Hid (Below w.heap.size w wz) := HB6.out.trans (HBJ.out.mono HB6.out.size)
          have HDZ : Hid (DA wz x1.heap.size q b A2) := HD6.out.da.keep HBJ.out
          have hz1 : (0 : Int) ≤ Z - (U : Int) := by have := HZZ.out; omega
          have hz2 : ¬ Z - (U : Int) < 0 := by omega
          have hU0 : (0 : Int) ≤ (U : Int) := by omega
          have HNX : Hid (DA wz x1.heap.size q b A2 ∧ AkOk A2 ∧ A2.room = roomI room ∧ Below w.heap.size w wz) := ⟨HDZ.out, HOK.out, by rw [HZ.out]; exact HZZ.out.1, HBW.out⟩
          have T1 : Hid True := trivial
          clear hfull hjm hj
          by_cases hE0 : E = 0
          · subst hE0
            by_cases hr0 : room < 0
            · have hz3 : ¬ (0 : Int) < (U : Int) := by have h1 := HZZ.out; unfold roomI at h1; rw [if_pos hr0] at h1; omega
              go_wp2_with (first
                | (go_at_call 38; clear T1; refine (used_A HDZ.out HOK.out).mono ?_; rw [HU.out]; rintro _ y1 ⟨rfl, hc1⟩; have HC1 : Hid (Below wz.heap.size wz y1) := hc1; have HDY1 : Hid (DA y1 x1.heap.size q b A2) := HDZ.out.keep hc1; clear hc1)
                | (go_at_call 31; refine (free_A HDY1.out HOK.out).mono ?_; rw [HU.out, HZ.out]; rintro _ y2 ⟨rfl, hc2⟩; have HC2 : Hid (Below wz.heap.size wz y2) := HC1.out.trans (hc2.mono HC1.out.size); have HDY2 : Hid (DA y2 x1.heap.size q b A2) := HDY1.out.keep hc2; clear hc2)
                | (go_at_call 38; refine (used_A HDY2.out HOK.out).mono ?_; rw [HU.out]; rintro _ y3 ⟨rfl, hc3⟩; have HC3 : Hid (Below wz.heap.size wz y3) := HC2.out.trans (hc3.mono HC2.out.size); clear hc3)
                | go_in)
              all_goals go_roundw
              case rel => exact ⟨k + 1, A2, by go_num, by omega, ⟨HNX.out.1.keep HC3.out, HNX.out.2.1, HNX.out.2.2.1, HNX.out.2.2.2.trans (HC3.out.mono HNX.out.2.2.2.size)⟩⟩
              case measure => simp [intOf]; omega
            · have hz3 : ¬ room < (U : Int) := by have h1 := HZZ.out; unfold roomI at h1; rw [if_neg hr0] at h1; have h2 := h1.1; split at h2 <;> omega
              go_wp2_with (first
                | (go_at_call 38; clear T1; refine (used_A HDZ.out HOK.out).mono ?_; rw [HU.out]; rintro _ y1 ⟨rfl, hc1⟩; have HC1 : Hid (Below wz.heap.size wz y1) := hc1; have HDY1 : Hid (DA y1 x1.heap.size q b A2) := HDZ.out.keep hc1; clear hc1)
                | (go_at_call 31; refine (free_A HDY1.out HOK.out).mono ?_; rw [HU.out, HZ.out]; rintro _ y2 ⟨rfl, hc2⟩; have HC2 : Hid (Below wz.heap.size wz y2) := HC1.out.trans (hc2.mono HC1.out.size); have HDY2 : Hid (DA y2 x1.heap.size q b A2) := HDY1.out.keep hc2; clear hc2)
                | (go_at_call 38; refine (used_A HDY2.out HOK.out).mono ?_; rw [HU.out]; rintro _ y3 ⟨rfl, hc3⟩; have HC3 : Hid (Below wz.heap.size wz y3) := HC2.out.trans (hc3.mono HC2.out.size); clear hc3)
                | go_in)
              all_goals go_roundw
              case rel => exact ⟨k + 1, A2, by go_num, by omega, ⟨HNX.out.1.keep HC3.out, HNX.out.2.1, HNX.out.2.2.1, HNX.out.2.2.2.trans (HC3.out.mono HNX.out.2.2.2.size)⟩⟩
              case measure => simp [intOf]; omega
          · have e0 : ((E : Int) != 0) = true := by simp; exact hE0
            by_cases hE3 : E = 3
            · subst hE3
              by_cases hr0 : room < 0
              · have hz3 : ¬ (0 : Int) < (U : Int) := by have h1 := HZZ.out; unfold roomI at h1; rw [if_pos hr0] at h1; omega
                go_wp2_with (first
                  | (go_at_call 38; clear T1; refine (used_A HDZ.out HOK.out).mono ?_; rw [HU.out]; rintro _ y1 ⟨rfl, hc1⟩; have HC1 : Hid (Below wz.heap.size wz y1) := hc1; have HDY1 : Hid (DA y1 x1.heap.size q b A2) := HDZ.out.keep hc1; clear hc1)
                  | (go_at_call 31; refine (free_A HDY1.out HOK.out).mono ?_; rw [HU.out, HZ.out]; rintro _ y2 ⟨rfl, hc2⟩; have HC2 : Hid (Below wz.heap.size wz y2) := HC1.out.trans (hc2.mono HC1.out.size); have HDY2 : Hid (DA y2 x1.heap.size q b A2) := HDY1.out.keep hc2; clear hc2)
                  | (go_at_call 38; refine (used_A HDY2.out HOK.out).mono ?_; rw [HU.out]; rintro _ y3 ⟨rfl, hc3⟩; have HC3 : Hid (Below wz.heap.size wz y3) := HC2.out.trans (hc3.mono HC2.out.size); clear hc3)
                  | go_in)
                all_goals go_roundw
                case rel => exact ⟨k + 1, A2, by go_num, by omega, ⟨HNX.out.1.keep HC3.out, HNX.out.2.1, HNX.out.2.2.1, HNX.out.2.2.2.trans (HC3.out.mono HNX.out.2.2.2.size)⟩⟩
                case measure => simp [intOf]; omega
              · have hz3 : ¬ room < (U : Int) := by have h1 := HZZ.out; unfold roomI at h1; rw [if_neg hr0] at h1; have h2 := h1.1; split at h2 <;> omega
                go_wp2_with (first
                  | (go_at_call 38; clear T1; refine (used_A HDZ.out HOK.out).mono ?_; rw [HU.out]; rintro _ y1 ⟨rfl, hc1⟩; have HC1 : Hid (Below wz.heap.size wz y1) := hc1; have HDY1 : Hid (DA y1 x1.heap.size q b A2) := HDZ.out.keep hc1; clear hc1)
                  | (go_at_call 31; refine (free_A HDY1.out HOK.out).mono ?_; rw [HU.out, HZ.out]; rintro _ y2 ⟨rfl, hc2⟩; have HC2 : Hid (Below wz.heap.size wz y2) := HC1.out.trans (hc2.mono HC1.out.size); have HDY2 : Hid (DA y2 x1.heap.size q b A2) := HDY1.out.keep hc2; clear hc2)
                  | (go_at_call 38; refine (used_A HDY2.out HOK.out).mono ?_; rw [HU.out]; rintro _ y3 ⟨rfl, hc3⟩; have HC3 : Hid (Below wz.heap.size wz y3) := HC2.out.trans (hc3.mono HC2.out.size); clear hc3)
                  | go_in)
                all_goals go_roundw
                case rel => exact ⟨k + 1, A2, by go_num, by omega, ⟨HNX.out.1.keep HC3.out, HNX.out.2.1, HNX.out.2.2.1, HNX.out.2.2.2.trans (HC3.out.mono HNX.out.2.2.2.size)⟩⟩
                case measure => simp [intOf]; omega
            · have e3 : ((E : Int) != 3) = true := by simp; omega
              have HAA : Hid (A2 = A) := hbad hE0 hE3
              have HMB : Hid (mb = j ∧ Xb.length = j) := by
                have h1 := (fls_at HI6b.out).1
                have h2 : Xb.length = A.fs.length := by rw [← HI4.out.2, List.length_map]
                have h3 : A.fs.length = j := by rw [← HAA.out]; exact HM.out.1
                exact ⟨by omega, by omega⟩
              have hmb := HMB.out.1.symm
              subst hmb
              by_cases hr0 : room < 0
              · have hz3 : ¬ (0 : Int) < (U : Int) := by have h1 := HZZ.out; unfold roomI at h1; rw [if_pos hr0] at h1; omega
                go_wp2_with (first
                  | (go_at_call 38; clear T1; refine (used_A HDZ.out HOK.out).mono ?_; rw [HU.out]; rintro _ y1 ⟨rfl, hc1⟩; have HC1 : Hid (Below wz.heap.size wz y1) := hc1; have HDY1 : Hid (DA y1 x1.heap.size q b A2) := HDZ.out.keep hc1; clear hc1)
                  | (go_at_call 31; refine (free_A HDY1.out HOK.out).mono ?_; rw [HU.out, HZ.out]; rintro _ y2 ⟨rfl, hc2⟩; have HC2 : Hid (Below wz.heap.size wz y2) := HC1.out.trans (hc2.mono HC1.out.size); have HDY2 : Hid (DA y2 x1.heap.size q b A2) := HDY1.out.keep hc2; clear hc2)
                  | (go_at_call 38; refine (used_A HDY2.out HOK.out).mono ?_; rw [HU.out]; rintro _ y3 ⟨rfl, hc3⟩; have HC3 : Hid (Below wz.heap.size wz y3) := HC2.out.trans (hc3.mono HC2.out.size); clear hc3)
                  | (go_at_call 23; refine (fls_same Xb Xa j ab aa cb ca y3 (by rw [HI4.out.2, HI6.out.2, HAA.out]) HMB.out.2 ((fls_at HI6b.out).2.keep (HBJ.out.trans (HC3.out.mono HBJ.out.size))) ((fls_at HI6.out.1).2.keep (HBJ.out.trans (HC3.out.mono HBJ.out.size))) (by have := HM.out.2; omega)).mono ?_; rintro _ y4 ⟨rfl, hc4⟩; have HC4 : Hid (Below wz.heap.size wz y4) := HC3.out.trans (hc4.mono HC3.out.size); clear hc4)
                  | go_in)
                all_goals go_roundw
                case rel => exact ⟨k + 1, A2, by go_num, by omega, ⟨HNX.out.1.keep HC4.out, HNX.out.2.1, HNX.out.2.2.1, HNX.out.2.2.2.trans (HC4.out.mono HNX.out.2.2.2.size)⟩⟩
                case measure => simp [intOf]; omega
              · have hz3 : ¬ room < (U : Int) := by have h1 := HZZ.out; unfold roomI at h1; rw [if_neg hr0] at h1; have h2 := h1.1; split at h2 <;> omega
                go_wp2_with (first
                  | (go_at_call 38; clear T1; refine (used_A HDZ.out HOK.out).mono ?_; rw [HU.out]; rintro _ y1 ⟨rfl, hc1⟩; have HC1 : Hid (Below wz.heap.size wz y1) := hc1; have HDY1 : Hid (DA y1 x1.heap.size q b A2) := HDZ.out.keep hc1; clear hc1)
                  | (go_at_call 31; refine (free_A HDY1.out HOK.out).mono ?_; rw [HU.out, HZ.out]; rintro _ y2 ⟨rfl, hc2⟩; have HC2 : Hid (Below wz.heap.size wz y2) := HC1.out.trans (hc2.mono HC1.out.size); have HDY2 : Hid (DA y2 x1.heap.size q b A2) := HDY1.out.keep hc2; clear hc2)
                  | (go_at_call 38; refine (used_A HDY2.out HOK.out).mono ?_; rw [HU.out]; rintro _ y3 ⟨rfl, hc3⟩; have HC3 : Hid (Below wz.heap.size wz y3) := HC2.out.trans (hc3.mono HC2.out.size); clear hc3)
                  | (go_at_call 23; refine (fls_same Xb Xa j ab aa cb ca y3 (by rw [HI4.out.2, HI6.out.2, HAA.out]) HMB.out.2 ((fls_at HI6b.out).2.keep (HBJ.out.trans (HC3.out.mono HBJ.out.size))) ((fls_at HI6.out.1).2.keep (HBJ.out.trans (HC3.out.mono HBJ.out.size))) (by have := HM.out.2; omega)).mono ?_; rintro _ y4 ⟨rfl, hc4⟩; have HC4 : Hid (Below wz.heap.size wz y4) := HC3.out.trans (hc4.mono HC3.out.size); clear hc4)
                  | go_in)
                all_goals go_roundw
                case rel => exact ⟨k + 1, A2, by go_num, by omega, ⟨HNX.out.1.keep HC4.out, HNX.out.2.1, HNX.out.2.2.1, HNX.out.2.2.2.trans (HC4.out.mono HNX.out.2.2.2.size)⟩⟩
                case measure => simp [intOf]; omega
    · obtain rfl : k = n := by omega
      clear hkn hk
      go_wp2
      go_ret
      exact ⟨rfl, HRR.out.2.2.2⟩
theorem own : ownKnob Try.prog.godebug = none := by kernel_rfl
theorem laidOut : laidOutB Try.prog = true := by kernel_rfl
set_option maxRecDepth 100000 in
theorem contract (H : Type) (enc : TypeId × Value → H) (W : World) (base : Nat) (args : Array Value) (ds gs : List (DataW H)) (before : List MemPlace)
    (hval : ∀ (j : Nat) t v, Try.f9.params[j]? = some t → args[j]? = some v → Value.okWide Try.prog W .any base t v)
    (hW : DataW.Whole enc Try.prog Try.f9.params.toList Rows.simfsRoomSpec.vars false W args.toList ds gs before)
    (hsz : (DataW.weightsEach Try.prog (Try.f9.params.toList ++ Rows.simfsRoomSpec.plain.varTypes Try.prog) (ds ++ gs)).all (· ≤ reachBytes) = true) :
    Calls Try.prog 9 args W fun e W' => ∃ v, e = .returned v ∧ Rows.simfsRoomSpec.post enc Try.prog Try.f9 false true false false W args v W' := by
  have hW' := hW
  obtain ⟨p, q, hA0, hV, rfl, hfz, hnd⟩ := hW
  have hA : DataW.TrodAll enc Try.prog W 0 (fun _ => true) true Try.f9.params.toList args.toList ds p := hA0
  rw [Try.params9] at hA hval hsz
  obtain ⟨v0, vs0, d0, ds0, p0, q0, hargs, rfl, rfl, h0, r0⟩ := trodAll_cons hA
  obtain ⟨v1, vs1, d1, ds1, p1, q1, rfl, rfl, rfl, h1, r1⟩ := trodAll_cons r0
  obtain ⟨rfl, rfl, rfl⟩ := trodAll_nil r1
  obtain rfl : args = #[v0, v1] := by cases args; simp_all
  obtain ⟨rfl, rfl⟩ := trodVars_none hV
  obtain ⟨a0, rfl, rfl, rfl, w0⟩ := open_int Try.underlying3 (hval 0 3 v0 rfl rfl) h0
  obtain ⟨a1, len1, cap1, rfl⟩ := okWide_slice Try.underlying22 (hval 1 22 v1 rfl rfl)
  have k1 := h1
  have lt1 : ∀ x ∈ p1, x.block < W.heap.size := by obtain ⟨m, hm⟩ := k1; exact DataW.trod_lt m _ _ _ hm
  obtain ⟨l1, hlen1, w1, c1⟩ : ∃ L : List Oa, L.length = len1 ∧ OpsAt W a1 L ∧ (len1 ≤ cap1 ∧ cap1 * 104 ≤ 140737488351232) := by
    obtain ⟨fuel, hf⟩ := h1
    rcases open_ops hf with ⟨hcs, hx⟩ | ⟨x, l, c, L, D, hcs, hl, hm, hLl, hfs, hrw, hx, hD⟩
    · simp [Value.cells] at hcs
      obtain ⟨rfl, rfl, rfl⟩ := hcs
      exact ⟨[], rfl, ⟨.inl rfl, fun p hp => by cases hp⟩, Nat.le_refl _, by simp⟩
    · simp [Value.cells] at hcs
      obtain ⟨rfl, rfl, rfl⟩ := hcs
      have hd : d1 = _ := hx
      obtain ⟨s1, s2⟩ := sized_ops hsz (j := 1) rfl (by rw [hd]; rfl) hl hLl hrw hD
      refine ⟨L, hLl, ⟨?_, s2⟩, hl, s1⟩
      rcases hfs with h1 | ⟨b, off, h1, h2, h3⟩
      · exact .inl h1
      · exact .inr ⟨b, off, by rw [h1], h2, h3⟩
  subst hlen1
  clear hA0
  refine (walk a0 l1 a1 cap1 W w0 w1 c1).mono fun e W' ⟨he, bel⟩ => ?_
  subst he
  exact ⟨_, rfl, _, _, _, [], _, [], hW', trodAll_mk1 (shut_bool Try.underlying4 _), (trodAll_cons_mk (shut_int Try.underlying3 w0) (trodAll_cons_mk (Below.trod laidOut (by kernel_rfl) (of_decide_eq_true (by kernel_rfl)) k1 bel lt1) trodAll_mk0)), rfl, bel.frame _, fun h => by cases h⟩
set_option maxRecDepth 100000 in
theorem lifted (os : Os) (started : os.Started) (H : Type) (enc : TypeId × Value → H) :
    ReturnsInHanded {} Try.checked os 9 .any (Rows.simfsRoomSpec.pre6 enc Try.prog Try.f9 Rows.simfsRoomRow.domain false) (Rows.simfsRoomSpec.post enc Try.prog Try.f9 false true false false) := by
  refine returnsInHanded_of_change_sized (C := Try.checked) own started (by kernel_rfl) Try.func9
    (ChangeSpec.witness6 (enc := enc) (C := Try.checked) false ⟨#[], #[.int .i64 0, .slice none 0 0], []⟩ 8 (by kernel_rfl) (by kernel_rfl) (by kernel_rfl) (by kernel_rfl)) ?_
  intro W base args ds gs before hval hW _ hsz _
  exact contract H enc W base args ds gs before hval hW hsz
theorem over : Rows.simfsRoomRow.holds Try.pinned (OpenSpec.ofChange Rows.simfsRoomSpec) :=
  OpenClaim.holds_of_wide 9 Try.f9 rfl rfl rfl rfl rfl rfl rfl ⟨rfl, rfl, rfl, rfl, rfl⟩ rfl rfl rfl rfl rfl (by kernel_rfl) Try.func9 (by kernel_rfl)
    (of_decide_eq_true (by kernel_rfl)) (by unfold Func.isWrapper; first | (rw [if_pos (by decide +kernel)]; kernel_rfl) | (rw [if_neg (by decide +kernel)]; exact ⟨rfl, rfl⟩))
    (fun os started H enc _ => lifted os started H enc)
theorem proved : Rows.SimfsRoomSaid := over
end Go.Proofs.Ytlnhhgmdajbepaa.simfsRoom
