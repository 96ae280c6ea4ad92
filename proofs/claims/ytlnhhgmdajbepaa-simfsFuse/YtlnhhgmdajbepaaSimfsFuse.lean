/- For every room, every fuse and every script: with a fuse of n the first n - 1 steps go as without; the n-th answers ErrDown, and so does everything behind it. No condition. -/
import Derived.Test.YtlnhhgmdajbepaaFsu
namespace Go.Proofs.Ytlnhhgmdajbepaa.simfsFuse
open Go.ChangeShapes Go.WideShapes Go.ChangeAt Go.RowKit
set_option linter.unusedVariables false
abbrev fF : Nat → Prop := fun _ => False
set_option maxRecDepth 100000 in
set_option maxHeartbeats 8000000 in
theorem walk (room n : Int) (L : List Oa) (a : Option Addr) (cap : Nat) (w : World) (w0 : (Lit.int .i64 room).wf = true) (w1 : (Lit.int .i64 n).wf = true) (hL : OpsAt w a L) (hc : L.length ≤ cap ∧ cap * 104 ≤ 140737488351232) :
    Calls Try.prog 8 #[.int .i64 room, .int .i64 n, .slice a L.length cap] w fun e w' => e = .returned (.bool true) ∧ Below w.heap.size w w' := by
  have hri := wf_i64 room w0
  have hni := wf_i64 n w1
  obtain ⟨N, hN⟩ : ∃ N, L.length = N := ⟨_, rfl⟩
  have HN : Hid (L.length = N) := hN
  have hnI : (N : Int) ≤ 140737488351232 := by omega
  have hn0 : (0 : Int) ≤ (N : Int) := by omega
  rw [hN]
  have HL : Hid (OpsAt w a L) := hL
  have HRI : Hid (inI room) := hri
  have hr1 := hri.1
  have hr2 := hri.2
  have hm1 := hni.1
  have hm2 := hni.2
  have T0 : Hid True := trivial
  clear w0 w1 hL hc hN hri hni
  by_cases hn1 : n < 1
  · go_enter Try.func8, Try.ntmps8
    go_wp2_with (first
      | (go_at_call 13; refine (head10_any w).mono ?_; rintro _ x1 ⟨rfl, hb1⟩; have HB1 : Hid (Below w.heap.size w x1) := hb1; clear hb1)
      | (go_at_call 14; clear T0; refine (new_A room x1 HRI.out.1 HRI.out.2).mono ?_; rintro _ x2 ⟨q, b, rfl, hd2, hb2⟩; have HD2 : Hid (DA x2 x1.heap.size q b (newD room).ab) := hd2; have HB2 : Hid (Below w.heap.size w x2) := HB1.out.trans (hb2.mono HB1.out.size); clear hd2 hb2)
      | (go_at_call 14; refine (new_A room x2 HRI.out.1 HRI.out.2).mono ?_; rintro _ x3 ⟨p, c, rfl, hd3, hb3⟩; have HD3 : Hid (DD x3 x1.heap.size q b x2.heap.size p c (newD room).ab (newD room).ab fF ∧ Below w.heap.size w x3) := ⟨DD.mk2 HD2.out hb3 hd3, HB2.out.trans (hb3.mono HB2.out.size)⟩; clear hd3 hb3)
      | go_in)
    go_ret
    exact ⟨rfl, (HD3.out.2)⟩
  · go_enter Try.func8, Try.ntmps8
    go_wp2_with (first
      | (go_at_call 13; refine (head10_any w).mono ?_; rintro _ x1 ⟨rfl, hb1⟩; have HB1 : Hid (Below w.heap.size w x1) := hb1; clear hb1)
      | (go_at_call 14; clear T0; refine (new_A room x1 HRI.out.1 HRI.out.2).mono ?_; rintro _ x2 ⟨q, b, rfl, hd2, hb2⟩; have HD2 : Hid (DA x2 x1.heap.size q b (newD room).ab) := hd2; have HB2 : Hid (Below w.heap.size w x2) := HB1.out.trans (hb2.mono HB1.out.size); clear hd2 hb2)
      | (go_at_call 14; refine (new_A room x2 HRI.out.1 HRI.out.2).mono ?_; rintro _ x3 ⟨p, c, rfl, hd3, hb3⟩; have HD3 : Hid (DD x3 x1.heap.size q b x2.heap.size p c (newD room).ab (newD room).ab fF ∧ Below w.heap.size w x3) := ⟨DD.mk2 HD2.out hb3 hd3, HB2.out.trans (hb3.mono HB2.out.size)⟩; clear hd3 hb3)
      | (go_at_call 36; refine (fuse_D HD3.out.1 n).mono ?_; rintro _ x4 ⟨rfl, hd4, hb4⟩; have HD4 : Hid (DD x4 x1.heap.size q b x2.heap.size p c (fuseA (newD room).ab n) (newD room).ab fF ∧ AkOk (fuseA (newD room).ab n) ∧ AkOk (newD room).ab ∧ ((fuseA (newD room).ab n).off = true ∨ Rz n (fuseA (newD room).ab n) (newD room).ab) ∧ Below w.heap.size w x4) := ⟨hd4, fuseA_ok (newA_ok room) hm2, newA_ok room, .inr (Rz.start (by omega) room), HD3.out.2.trans (hb4.mono HB1.out.size)⟩; clear hd4 hb4)
      | go_in)
    have HNN : Hid (1 ≤ n ∧ n ≤ 9223372036854775807) := ⟨by omega, hm2⟩
    go_loopw [34] (fun v34 wr => ∃ (k : Nat) (A B : Ak), v34 = .int .i64 (k : Int) ∧ k ≤ N ∧ Hid (DD wr x1.heap.size q b x2.heap.size p c A B fF ∧ AkOk A ∧ AkOk B ∧ (A.off = true ∨ Rz n A B) ∧ Below w.heap.size w wr)) (fun v34 _ => N - (intOf v34).toNat)
    case atStart => exact ⟨0, _, _, rfl, Nat.zero_le _, HD4.out⟩
    case round =>
      obtain ⟨k, A, B, rfl, hk, HRR⟩ := hrel
      rename World => wo
      by_cases hkn : k < N
      · obtain ⟨o, ho⟩ : ∃ o, L[k]? = some o := ⟨_, List.getElem?_eq_getElem (by rw [HN.out]; exact hkn)⟩
        have hops := HL.out.keep HRR.out.2.2.2.2
        obtain ⟨b0, off, rfl, hb0, hrg⟩ : ∃ b0 off, a = some ⟨b0, off, none⟩ ∧ b0 < wo.heap.size ∧ wo.rangeAt b0 (off + k * 7) (opL o) := by
          rcases hops.1 with h1 | ⟨b0, off, h1, h2, h3⟩
          · rw [h1] at ho; simp at ho
          · exact ⟨b0, off, h1, h2, h3 k o ho⟩
        have HRNG : Hid (wo.rangeAt b0 (off + k * 7) (opL o)) := hrg
        have HOI : Hid (OpIn wo o) := hops.2 o (List.mem_of_getElem? ho)
        have HOZ : Hid (OpAt (wo.alloc (.cells #[.int .i64 0, .string ⟨#[]⟩, .string ⟨#[]⟩, .slice none 0 0, .int .i64 0, .int .i64 0, .slice none 0 0] 34)) wo.heap.size opZ) := OpAt.newZ wo
        have HIN : Hid (∀ y : World, Below w.heap.size w y → OpIn y o) := fun y hy => (HL.out.keep hy).2 o (List.mem_of_getElem? ho)
        obtain ⟨K, hK⟩ : ∃ K, o.k = K := ⟨_, rfl⟩
        have HK : Hid (o.k = K) := hK
        have hKi := HOI.out.k
        rw [hK] at hKi
        have hKa := hKi.1
        have hKb := hKi.2
        have hkI : (k : Int) < (N : Int) := by omega
        have hk0 : (0 : Int) ≤ (k : Int) := by omega
        have T1 : Hid True := trivial
        have T2 : Hid True := trivial
        have T3 : Hid True := trivial
        have T4 : Hid True := trivial
        have T5 : Hid True := trivial
        clear hops hrg ho hK hKi
        by_cases h7 : 7 < K
        · go_wp2_with (first
            | ((with_reducible refine guard_load 34 ?_); refine wpList_load_opr rfl _ rfl HRNG.out rfl ?_)
            | ((with_reducible refine guard_store 34 ?_); refine wpList_store_op rfl _ _ rfl rfl HOZ.out rfl rfl (p2 := o) ?_; intro x3r ho3 hb3 hs3; have HB3 : Hid (Below wo.heap.size wo x3r) := hb3 _ _ ((Below.refl _ _).alloc (Nat.le_refl _) _) (Nat.le_refl _); have HO3 : Hid (OpAt x3r wo.heap.size o) := ho3; have HD3r : Hid (DD x3r x1.heap.size q b x2.heap.size p c A B fF) := HRR.out.1.keep HB3.out; have cc3 := op_k HO3.out; rw [HK.out] at cc3; clear ho3 hb3 hs3)
            | go_in)
          go_roundw
          case rel => exact ⟨k + 1, A, B, by go_num, by omega, HD3r.out, HRR.out.2.1, HRR.out.2.2.1, HRR.out.2.2.2.1, HRR.out.2.2.2.2.trans (HB3.out.mono HRR.out.2.2.2.2.size)⟩
          case measure => simp [intOf]; omega
        · by_cases hK0 : K < 0
          · go_wp2_with (first
              | ((with_reducible refine guard_load 34 ?_); refine wpList_load_opr rfl _ rfl HRNG.out rfl ?_)
              | ((with_reducible refine guard_store 34 ?_); refine wpList_store_op rfl _ _ rfl rfl HOZ.out rfl rfl (p2 := o) ?_; intro x3r ho3 hb3 hs3; have HB3 : Hid (Below wo.heap.size wo x3r) := hb3 _ _ ((Below.refl _ _).alloc (Nat.le_refl _) _) (Nat.le_refl _); have HO3 : Hid (OpAt x3r wo.heap.size o) := ho3; have HD3r : Hid (DD x3r x1.heap.size q b x2.heap.size p c A B fF) := HRR.out.1.keep HB3.out; have cc3 := op_k HO3.out; rw [HK.out] at cc3; clear ho3 hb3 hs3)
              | go_in)
            go_roundw
            case rel => exact ⟨k + 1, A, B, by go_num, by omega, HD3r.out, HRR.out.2.1, HRR.out.2.2.1, HRR.out.2.2.2.1, HRR.out.2.2.2.2.trans (HB3.out.mono HRR.out.2.2.2.2.size)⟩
            case measure => simp [intOf]; omega
          · have HKR : Hid (0 ≤ o.k ∧ o.k ≤ 7) := by rw [HK.out]; exact ⟨by omega, by omega⟩
            have HOKA : Hid (AkOk (doA A o).1 ∧ AkOk (doA B o).1) := ⟨doA_ok HRR.out.2.1 HOI.out.n, doA_ok HRR.out.2.2.1 HOI.out.n⟩
            by_cases hoff : A.off = true
            · have HOFF : Hid (A.off = true) := hoff
              have HDO := do_d hoff o HKR.out.1 HKR.out.2
              obtain ⟨R, hR⟩ : ∃ R, doA A o = R := ⟨_, rfl⟩
              rw [hR] at HDO
              obtain ⟨A2, by2, nn, E⟩ := R
              obtain ⟨hA2, rfl⟩ : A2 = A ∧ E = 3 := HDO
              have hA3 := hA2.symm
              clear hA2
              subst hA3
              have HR : Hid (doA A o = (A, by2, nn, 3)) := hR
              clear hR hoff
              go_wp2_with (first
                | ((with_reducible refine guard_load 34 ?_); refine wpList_load_opr rfl _ rfl HRNG.out rfl ?_)
                | ((with_reducible refine guard_store 34 ?_); refine wpList_store_op rfl _ _ rfl rfl HOZ.out rfl rfl (p2 := o) ?_; intro x3r ho3 hb3 hs3; have HB3 : Hid (Below wo.heap.size wo x3r) := hb3 _ _ ((Below.refl _ _).alloc (Nat.le_refl _) _) (Nat.le_refl _); have HO3 : Hid (OpAt x3r wo.heap.size o) := ho3; have HD3r : Hid (DD x3r x1.heap.size q b x2.heap.size p c A B fF) := HRR.out.1.keep HB3.out; have cc3 := op_k HO3.out; rw [HK.out] at cc3; clear ho3 hb3 hs3)
                | ((with_reducible refine guard_load 34 ?_); refine wpList_load_opb rfl _ rfl HO3.out rfl ?_)
                | (go_at_call 34; refine (down_A HD3r.out.one).mono ?_; rw [HOFF.out]; rintro _ y4 ⟨rfl, rfl⟩)
                | (go_at_call 18; refine (call_D1 HD3r.out HRR.out.2.1 o (HOI.out.keep HB3.out)).mono ?_; rw [HR.out]; rintro _ x5 ⟨v5, rfl, hd5, hk5, hb5⟩; have HD5 : Hid (DD x5 x1.heap.size q b x2.heap.size p c A B fF ∧ Below w.heap.size w x5) := ⟨hd5, (HRR.out.2.2.2.2.trans (HB3.out.mono HRR.out.2.2.2.2.size)).trans (hb5.mono HB1.out.size)⟩; clear hd5 hk5 hb5)
                | go_in)
              go_roundw
              case rel => exact ⟨k + 1, A, B, by go_num, by omega, HD5.out.1, HRR.out.2.1, HRR.out.2.2.1, .inl HOFF.out, HD5.out.2⟩
              case measure => simp [intOf]; omega
            · have HRZ : Hid (Rz n A B) := HRR.out.2.2.2.1.resolve_left hoff
              have HOFF : Hid (A.off = false) := HRZ.out.a
              have HDO := do_z HRZ.out HNN.out.2 o HKR.out.1 HKR.out.2
              obtain ⟨R, hR⟩ : ∃ R, doA A o = R := ⟨_, rfl⟩
              obtain ⟨S, hS⟩ : ∃ S, doA B o = S := ⟨_, rfl⟩
              rw [hR, hS] at HDO HOKA
              obtain ⟨A2, by2, nn, E⟩ := R
              obtain ⟨B2, by3, nn3, E3⟩ := S
              have HR : Hid (doA A o = (A2, by2, nn, E)) := hR
              have HS : Hid (doA B o = (B2, by3, nn3, E3)) := hS
              obtain ⟨m, hm⟩ : ∃ m, A.fs.length = m := ⟨_, rfl⟩
              have HM : Hid (A.fs.length = m ∧ m ≤ 700) := ⟨hm, by rw [← hm]; exact HRR.out.2.1.few⟩
              have hmI : (m : Int) ≤ 700 := by have := HM.out.2; omega
              have hm0 : (0 : Int) ≤ (m : Int) := by omega
              rcases (show Oz n A o.k A2 E B2 E3 from HDO) with ⟨hz, he⟩ | ⟨g1, g2, g3, g4, g5, g6⟩
              · subst he
                have HZ : Hid (Rz n A2 B2) := hz
                obtain ⟨Z, hZ⟩ : ∃ Z, A2.steps = Z := ⟨_, rfl⟩
                have HSA : Hid (A2.steps = Z) := hZ
                have HSB : Hid (B2.steps = Z) := by rw [← hZ]; exact hz.st.symm
                have hZn : Z < n := by have h1 := hz.sum; have h2 := hz.f1; rw [hZ] at h1; omega
                have hZn2 : ¬ n ≤ Z := by omega
                have HOF2 : Hid (A2.off = false) := hz.a
                clear hz hZ hm hR hS HDO hoff
                go_wp2_with (first
                  | ((with_reducible refine guard_load 34 ?_); refine wpList_load_opr rfl _ rfl HRNG.out rfl ?_)
                  | ((with_reducible refine guard_store 34 ?_); refine wpList_store_op rfl _ _ rfl rfl HOZ.out rfl rfl (p2 := o) ?_; intro x3r ho3 hb3 hs3; have HB3 : Hid (Below wo.heap.size wo x3r) := hb3 _ _ ((Below.refl _ _).alloc (Nat.le_refl _) _) (Nat.le_refl _); have HO3 : Hid (OpAt x3r wo.heap.size o) := ho3; have HD3r : Hid (DD x3r x1.heap.size q b x2.heap.size p c A B fF) := HRR.out.1.keep HB3.out; have cc3 := op_k HO3.out; rw [HK.out] at cc3; clear ho3 hb3 hs3)
                  | ((with_reducible refine guard_load 34 ?_); first | (refine wpList_load_opb rfl _ rfl HO5.out rfl ?_) | (refine wpList_load_opb rfl _ rfl HO4.out rfl ?_))
                  | (go_at_call 34; clear T3; refine (down_A HD3r.out.one).mono ?_; rw [HOFF.out]; rintro _ y4 ⟨rfl, rfl⟩)
                  | (go_at_call 24; clear T1; refine (image_n HD3r.out.one HRR.out.2.1 m HM.out.1).mono ?_; rintro _ x4 ⟨a4, c4, X4, rfl, hi4, he4, hl4, hf4, hb4⟩; have HI4 : Hid (OwnIm x4 x3r.heap.size (.slice a4 m c4) X4 ∧ X4.map Prod.fst = A.fs ∧ X4.length = m) := ⟨hi4, he4, hl4⟩; have HB4 : Hid (Below wo.heap.size wo x4) := HB3.out.trans (hb4.mono HB3.out.size); have HO4 : Hid (OpAt x4 wo.heap.size o) := HO3.out.keep hb4; have HD4r : Hid (DD x4 x1.heap.size q b x2.heap.size p c A B (fun k => fF k ∨ (wo.heap.size ≤ k ∧ k < x4.heap.size))) := HRR.out.1.more HB4.out; clear hi4 he4 hl4 hf4 hb4)
                  | (go_at_call 18; clear T2; refine (call_D1 HD4r.out HRR.out.2.1 o (HOI.out.keep HB4.out)).mono ?_; rw [HR.out]; rintro _ x5 ⟨v5, rfl, hd5, hk5, hb5⟩; have HD5 : Hid (DD x5 x1.heap.size q b x2.heap.size p c A2 B (fun k => fF k ∨ (wo.heap.size ≤ k ∧ k < x4.heap.size))) := hd5; have HK5 : Hid (∀ k, wo.heap.size ≤ k → k < x4.heap.size → x5.heap[k]? = x4.heap[k]?) := (fun k h1 h2 => hk5 k (.inr ⟨h1, h2⟩)); have HO5 : Hid (OpAt x5 wo.heap.size o) := (hk5 wo.heap.size (.inr ⟨Nat.le_refl _, lt_of_heap HO4.out⟩)).trans HO4.out; have HS5 : Hid (x4.heap.size ≤ x5.heap.size) := hb5.size; have HB5 : Hid (Below w.heap.size w x5) := (HRR.out.2.2.2.2.trans (HB4.out.mono HRR.out.2.2.2.2.size)).trans (hb5.mono HB1.out.size); clear hd5 hk5 hb5)
                  | (go_at_call 18; refine (call_D2 HD5.out HRR.out.2.2.1 o (HIN.out x5 HB5.out)).mono ?_; rw [HS.out]; rintro _ x6 ⟨v6, rfl, hd6, hk6, hb6⟩; have HD6 : Hid (DD x6 x1.heap.size q b x2.heap.size p c A2 B2 (fun k => fF k ∨ (wo.heap.size ≤ k ∧ k < x4.heap.size))) := hd6; have HI6 : Hid (OwnIm x6 x3r.heap.size (.slice a4 m c4) X4 ∧ X4.map Prod.fst = A.fs ∧ X4.length = m) := ⟨imk HI4.out.1 (fun k h1 h2 => (hk6 k (.inr ⟨Nat.le_trans HB3.out.size h1, h2⟩)).trans (HK5.out k (Nat.le_trans HB3.out.size h1) h2)), HI4.out.2.1, HI4.out.2.2⟩; have HO6 : Hid (OpAt x6 wo.heap.size o) := (hk6 wo.heap.size (.inr ⟨Nat.le_refl _, lt_of_heap HO4.out⟩)).trans HO5.out; have HB6 : Hid (Below w.heap.size w x6) := HB5.out.trans (hb6.mono HB2.out.size); have cc6 := op_k HO6.out; rw [HK.out] at cc6; clear hd6 hk6 hb6)
                  | (go_at_call 34; refine (down_A HD6.out.one).mono ?_; rw [HOF2.out]; rintro _ y6 ⟨rfl, rfl⟩)
                  | (go_at_call 37; clear T4; refine (steps_A HD6.out.one).mono ?_; rw [HSA.out]; rintro _ y7 ⟨rfl, rfl⟩)
                  | (go_at_call 37; clear T5; refine (steps_A HD6.out.two).mono ?_; rw [HSB.out]; rintro _ y8 ⟨rfl, rfl⟩)
                  | (go_at_call 37; refine (steps_A HD6.out.one).mono ?_; rw [HSA.out]; rintro _ y9 ⟨rfl, rfl⟩)
                  | go_in)
                go_roundw
                case rel => exact ⟨k + 1, A2, B2, by go_num, by omega, HD6.out.sub (fun k h => .inl h), HOKA.out.1, HOKA.out.2, .inr HZ.out, HB6.out⟩
                case measure => simp [intOf]; omega
              · subst g2 g3
                have HG1 : Hid (A2.off = true) := g1
                have HG4 : Hid (A2.steps = n - 1) := g4
                have hnn1 : -9223372036854775808 ≤ n - 1 := by omega
                have hnn2 : n - 1 ≤ 9223372036854775807 := by omega
                by_cases hK1 : K = 1
                · subst hK1
                  have HFS : Hid (A2.fs = B2.fs) := g6 HK.out
                  obtain ⟨m2, hm2'⟩ : ∃ m, A2.fs.length = m := ⟨_, rfl⟩
                  have HM2 : Hid (A2.fs.length = m2 ∧ B2.fs.length = m2 ∧ m2 ≤ 700) := ⟨hm2', by rw [← HFS.out]; exact hm2', by rw [← hm2']; exact HOKA.out.1.few⟩
                  have hm2I : (m2 : Int) ≤ 700 := by have := HM2.out.2.2; omega
                  have hm20 : (0 : Int) ≤ (m2 : Int) := by omega
                  clear g1 g4 g5 g6 hm hR hS HDO hoff hm2'
                  go_wp2_with (first
                    | ((with_reducible refine guard_load 34 ?_); refine wpList_load_opr rfl _ rfl HRNG.out rfl ?_)
                    | ((with_reducible refine guard_store 34 ?_); refine wpList_store_op rfl _ _ rfl rfl HOZ.out rfl rfl (p2 := o) ?_; intro x3r ho3 hb3 hs3; have HB3 : Hid (Below wo.heap.size wo x3r) := hb3 _ _ ((Below.refl _ _).alloc (Nat.le_refl _) _) (Nat.le_refl _); have HO3 : Hid (OpAt x3r wo.heap.size o) := ho3; have HD3r : Hid (DD x3r x1.heap.size q b x2.heap.size p c A B fF) := HRR.out.1.keep HB3.out; have cc3 := op_k HO3.out; rw [HK.out] at cc3; clear ho3 hb3 hs3)
                    | ((with_reducible refine guard_load 34 ?_); first | (refine wpList_load_opb rfl _ rfl HO5.out rfl ?_) | (refine wpList_load_opb rfl _ rfl HO4.out rfl ?_))
                    | (go_at_call 34; clear T3; refine (down_A HD3r.out.one).mono ?_; rw [HOFF.out]; rintro _ y4 ⟨rfl, rfl⟩)
                    | (go_at_call 24; clear T1; refine (image_n HD3r.out.one HRR.out.2.1 m HM.out.1).mono ?_; rintro _ x4 ⟨a4, c4, X4, rfl, hi4, he4, hl4, hf4, hb4⟩; have HI4 : Hid (OwnIm x4 x3r.heap.size (.slice a4 m c4) X4 ∧ X4.map Prod.fst = A.fs ∧ X4.length = m) := ⟨hi4, he4, hl4⟩; have HB4 : Hid (Below wo.heap.size wo x4) := HB3.out.trans (hb4.mono HB3.out.size); have HO4 : Hid (OpAt x4 wo.heap.size o) := HO3.out.keep hb4; have HD4r : Hid (DD x4 x1.heap.size q b x2.heap.size p c A B (fun k => fF k ∨ (wo.heap.size ≤ k ∧ k < x4.heap.size))) := HRR.out.1.more HB4.out; clear hi4 he4 hl4 hf4 hb4)
                    | (go_at_call 18; clear T2; refine (call_D1 HD4r.out HRR.out.2.1 o (HOI.out.keep HB4.out)).mono ?_; rw [HR.out]; rintro _ x5 ⟨v5, rfl, hd5, hk5, hb5⟩; have HD5 : Hid (DD x5 x1.heap.size q b x2.heap.size p c A2 B (fun k => fF k ∨ (wo.heap.size ≤ k ∧ k < x4.heap.size))) := hd5; have HK5 : Hid (∀ k, wo.heap.size ≤ k → k < x4.heap.size → x5.heap[k]? = x4.heap[k]?) := (fun k h1 h2 => hk5 k (.inr ⟨h1, h2⟩)); have HO5 : Hid (OpAt x5 wo.heap.size o) := (hk5 wo.heap.size (.inr ⟨Nat.le_refl _, lt_of_heap HO4.out⟩)).trans HO4.out; have HS5 : Hid (x4.heap.size ≤ x5.heap.size) := hb5.size; have HB5 : Hid (Below w.heap.size w x5) := (HRR.out.2.2.2.2.trans (HB4.out.mono HRR.out.2.2.2.2.size)).trans (hb5.mono HB1.out.size); clear hd5 hk5 hb5)
                    | (go_at_call 18; refine (call_D2 HD5.out HRR.out.2.2.1 o (HIN.out x5 HB5.out)).mono ?_; rw [HS.out]; rintro _ x6 ⟨v6, rfl, hd6, hk6, hb6⟩; have HD6 : Hid (DD x6 x1.heap.size q b x2.heap.size p c A2 B2 (fun k => fF k ∨ (wo.heap.size ≤ k ∧ k < x4.heap.size))) := hd6; have HI6 : Hid (OwnIm x6 x3r.heap.size (.slice a4 m c4) X4 ∧ X4.map Prod.fst = A.fs ∧ X4.length = m) := ⟨imk HI4.out.1 (fun k h1 h2 => (hk6 k (.inr ⟨Nat.le_trans HB3.out.size h1, h2⟩)).trans (HK5.out k (Nat.le_trans HB3.out.size h1) h2)), HI4.out.2.1, HI4.out.2.2⟩; have HO6 : Hid (OpAt x6 wo.heap.size o) := (hk6 wo.heap.size (.inr ⟨Nat.le_refl _, lt_of_heap HO4.out⟩)).trans HO5.out; have HB6 : Hid (Below w.heap.size w x6) := HB5.out.trans (hb6.mono HB2.out.size); have cc6 := op_k HO6.out; rw [HK.out] at cc6; clear hd6 hk6 hb6)
                    | (go_at_call 34; refine (down_A HD6.out.one).mono ?_; rw [HG1.out]; rintro _ y6 ⟨rfl, rfl⟩)
                    | (go_at_call 37; refine (steps_A HD6.out.one).mono ?_; rw [HG4.out]; rintro _ y7 ⟨rfl, rfl⟩)
                    | (go_at_call 24; clear T4; refine (image_n HD6.out.one HOKA.out.1 m2 HM2.out.1).mono ?_; rintro _ x7 ⟨a7, c7, X7, rfl, hi7, he7, hl7, hf7, hb7⟩; have HI7 : Hid (FlsA x7 a7 X7 ∧ X7.map Prod.fst = A2.fs ∧ X7.length = m2) := ⟨hf7, he7, hl7⟩; have HD7 : Hid (DD x7 x1.heap.size q b x2.heap.size p c A2 B2 _) := HD6.out.keep hb7; have HB7 : Hid (Below w.heap.size w x7) := HB6.out.trans (hb7.mono HB6.out.size); clear hi7 he7 hl7 hf7 hb7)
                    | (go_at_call 24; refine (image_n HD7.out.two HOKA.out.2 m2 HM2.out.2.1).mono ?_; rintro _ x8 ⟨a8, c8, X8, rfl, hi8, he8, hl8, hf8, hb8⟩; have HI8 : Hid (FlsA x8 a8 X8 ∧ X8.map Prod.fst = B2.fs ∧ X8.length = m2) := ⟨hf8, he8, hl8⟩; have HI78 : Hid (FlsA x8 a7 X7) := HI7.out.1.keep hb8; have HD8 : Hid (DD x8 x1.heap.size q b x2.heap.size p c A2 B2 _) := HD7.out.keep hb8; have HB8 : Hid (Below w.heap.size w x8) := HB7.out.trans (hb8.mono HB7.out.size); clear hi8 he8 hl8 hf8 hb8)
                    | (go_at_call 23; refine (fls_same X7 X8 m2 a7 a8 c7 c8 x8 (by rw [HI7.out.2.1, HI8.out.2.1, HFS.out]) HI7.out.2.2 HI78.out HI8.out.1 (by have := HM2.out.2.2; omega)).mono ?_; rintro _ x9 ⟨rfl, hb9⟩; have HD9 : Hid (DD x9 x1.heap.size q b x2.heap.size p c A2 B2 _ ∧ Below w.heap.size w x9) := ⟨HD8.out.keep hb9, HB8.out.trans (hb9.mono HB8.out.size)⟩; clear hb9)
                    | go_in)
                  go_roundw
                  case rel => exact ⟨k + 1, A2, B2, by go_num, by omega, HD9.out.1.sub (fun k h => .inl h), HOKA.out.1, HOKA.out.2, .inl HG1.out, HD9.out.2⟩
                  case measure => simp [intOf]; omega
                · have HFS : Hid (A2.fs = A.fs) := g5 (by rw [HK.out]; exact hK1)
                  have HM2 : Hid (A2.fs.length = m) := by rw [HFS.out]; exact hm
                  clear g1 g4 g5 g6 hm hR hS HDO hoff
                  go_wp2_with (first
                    | ((with_reducible refine guard_load 34 ?_); refine wpList_load_opr rfl _ rfl HRNG.out rfl ?_)
                    | ((with_reducible refine guard_store 34 ?_); refine wpList_store_op rfl _ _ rfl rfl HOZ.out rfl rfl (p2 := o) ?_; intro x3r ho3 hb3 hs3; have HB3 : Hid (Below wo.heap.size wo x3r) := hb3 _ _ ((Below.refl _ _).alloc (Nat.le_refl _) _) (Nat.le_refl _); have HO3 : Hid (OpAt x3r wo.heap.size o) := ho3; have HD3r : Hid (DD x3r x1.heap.size q b x2.heap.size p c A B fF) := HRR.out.1.keep HB3.out; have cc3 := op_k HO3.out; rw [HK.out] at cc3; clear ho3 hb3 hs3)
                    | ((with_reducible refine guard_load 34 ?_); first | (refine wpList_load_opb rfl _ rfl HO5.out rfl ?_) | (refine wpList_load_opb rfl _ rfl HO4.out rfl ?_))
                    | (go_at_call 34; clear T3; refine (down_A HD3r.out.one).mono ?_; rw [HOFF.out]; rintro _ y4 ⟨rfl, rfl⟩)
                    | (go_at_call 24; clear T1; refine (image_n HD3r.out.one HRR.out.2.1 m HM.out.1).mono ?_; rintro _ x4 ⟨a4, c4, X4, rfl, hi4, he4, hl4, hf4, hb4⟩; have HI4 : Hid (OwnIm x4 x3r.heap.size (.slice a4 m c4) X4 ∧ X4.map Prod.fst = A.fs ∧ X4.length = m) := ⟨hi4, he4, hl4⟩; have HB4 : Hid (Below wo.heap.size wo x4) := HB3.out.trans (hb4.mono HB3.out.size); have HO4 : Hid (OpAt x4 wo.heap.size o) := HO3.out.keep hb4; have HD4r : Hid (DD x4 x1.heap.size q b x2.heap.size p c A B (fun k => fF k ∨ (wo.heap.size ≤ k ∧ k < x4.heap.size))) := HRR.out.1.more HB4.out; clear hi4 he4 hl4 hf4 hb4)
                    | (go_at_call 18; clear T2; refine (call_D1 HD4r.out HRR.out.2.1 o (HOI.out.keep HB4.out)).mono ?_; rw [HR.out]; rintro _ x5 ⟨v5, rfl, hd5, hk5, hb5⟩; have HD5 : Hid (DD x5 x1.heap.size q b x2.heap.size p c A2 B (fun k => fF k ∨ (wo.heap.size ≤ k ∧ k < x4.heap.size))) := hd5; have HK5 : Hid (∀ k, wo.heap.size ≤ k → k < x4.heap.size → x5.heap[k]? = x4.heap[k]?) := (fun k h1 h2 => hk5 k (.inr ⟨h1, h2⟩)); have HO5 : Hid (OpAt x5 wo.heap.size o) := (hk5 wo.heap.size (.inr ⟨Nat.le_refl _, lt_of_heap HO4.out⟩)).trans HO4.out; have HS5 : Hid (x4.heap.size ≤ x5.heap.size) := hb5.size; have HB5 : Hid (Below w.heap.size w x5) := (HRR.out.2.2.2.2.trans (HB4.out.mono HRR.out.2.2.2.2.size)).trans (hb5.mono HB1.out.size); clear hd5 hk5 hb5)
                    | (go_at_call 18; refine (call_D2 HD5.out HRR.out.2.2.1 o (HIN.out x5 HB5.out)).mono ?_; rw [HS.out]; rintro _ x6 ⟨v6, rfl, hd6, hk6, hb6⟩; have HD6 : Hid (DD x6 x1.heap.size q b x2.heap.size p c A2 B2 (fun k => fF k ∨ (wo.heap.size ≤ k ∧ k < x4.heap.size))) := hd6; have HI6 : Hid (OwnIm x6 x3r.heap.size (.slice a4 m c4) X4 ∧ X4.map Prod.fst = A.fs ∧ X4.length = m) := ⟨imk HI4.out.1 (fun k h1 h2 => (hk6 k (.inr ⟨Nat.le_trans HB3.out.size h1, h2⟩)).trans (HK5.out k (Nat.le_trans HB3.out.size h1) h2)), HI4.out.2.1, HI4.out.2.2⟩; have HO6 : Hid (OpAt x6 wo.heap.size o) := (hk6 wo.heap.size (.inr ⟨Nat.le_refl _, lt_of_heap HO4.out⟩)).trans HO5.out; have HB6 : Hid (Below w.heap.size w x6) := HB5.out.trans (hb6.mono HB2.out.size); have cc6 := op_k HO6.out; rw [HK.out] at cc6; clear hd6 hk6 hb6)
                    | (go_at_call 34; refine (down_A HD6.out.one).mono ?_; rw [HG1.out]; rintro _ y6 ⟨rfl, rfl⟩)
                    | (go_at_call 37; refine (steps_A HD6.out.one).mono ?_; rw [HG4.out]; rintro _ y7 ⟨rfl, rfl⟩)
                    | (go_at_call 24; refine (image_n HD6.out.one HOKA.out.1 m HM2.out).mono ?_; rintro _ x7 ⟨a7, c7, X7, rfl, hi7, he7, hl7, hf7, hb7⟩; have HI7 : Hid (FlsA x7 a7 X7 ∧ X7.map Prod.fst = A2.fs ∧ X7.length = m) := ⟨hf7, he7, hl7⟩; have HI67 : Hid (FlsA x7 a4 X4) := (imf HI6.out.1).keep hb7; have HD7 : Hid (DD x7 x1.heap.size q b x2.heap.size p c A2 B2 _) := HD6.out.keep hb7; have HB7 : Hid (Below w.heap.size w x7) := HB6.out.trans (hb7.mono HB6.out.size); have HO7 : Hid (OpAt x7 wo.heap.size o) := HO6.out.keep hb7; clear hi7 he7 hl7 hf7 hb7)
                    | (go_at_call 23; refine (fls_same X7 X4 m a7 a4 c7 c4 x7 (by rw [HI7.out.2.1, HI6.out.2.1, HFS.out]) HI7.out.2.2 HI7.out.1 HI67.out (by have := HM.out.2; omega)).mono ?_; rintro _ x9 ⟨rfl, hb9⟩; have HD9 : Hid (DD x9 x1.heap.size q b x2.heap.size p c A2 B2 _ ∧ Below w.heap.size w x9) := ⟨HD7.out.keep hb9, HB7.out.trans (hb9.mono HB7.out.size)⟩; have cc9 := op_k (HO7.out.keep hb9); rw [HK.out] at cc9; clear hb9)
                    | go_in)
                  go_roundw
                  case rel => exact ⟨k + 1, A2, B2, by go_num, by omega, HD9.out.1.sub (fun k h => .inl h), HOKA.out.1, HOKA.out.2, .inl HG1.out, HD9.out.2⟩
                  case measure => simp [intOf]; omega
      · obtain rfl : k = N := by omega
        clear hkn hk
        go_wp2
        go_ret
        exact ⟨rfl, HRR.out.2.2.2.2⟩
theorem own : ownKnob Try.prog.godebug = none := by kernel_rfl
theorem laidOut : laidOutB Try.prog = true := by kernel_rfl
set_option maxRecDepth 100000 in
theorem contract (H : Type) (enc : TypeId × Value → H) (W : World) (base : Nat) (args : Array Value) (ds gs : List (DataW H)) (before : List MemPlace)
    (hval : ∀ (j : Nat) t v, Try.f8.params[j]? = some t → args[j]? = some v → Value.okWide Try.prog W .any base t v)
    (hW : DataW.Whole enc Try.prog Try.f8.params.toList Rows.simfsFuseSpec.vars false W args.toList ds gs before)
    (hsz : (DataW.weightsEach Try.prog (Try.f8.params.toList ++ Rows.simfsFuseSpec.plain.varTypes Try.prog) (ds ++ gs)).all (· ≤ reachBytes) = true) :
    Calls Try.prog 8 args W fun e W' => ∃ v, e = .returned v ∧ Rows.simfsFuseSpec.post enc Try.prog Try.f8 false true false false W args v W' := by
  have hW' := hW
  obtain ⟨p, q, hA0, hV, rfl, hfz, hnd⟩ := hW
  have hA : DataW.TrodAll enc Try.prog W 0 (fun _ => true) true Try.f8.params.toList args.toList ds p := hA0
  rw [Try.params8] at hA hval hsz
  obtain ⟨v0, vs0, d0, ds0, p0, q0, hargs, rfl, rfl, h0, r0⟩ := trodAll_cons hA
  obtain ⟨v1, vs1, d1, ds1, p1, q1, rfl, rfl, rfl, h1, r1⟩ := trodAll_cons r0
  obtain ⟨v2, vs2, d2, ds2, p2, q2, rfl, rfl, rfl, h2, r2⟩ := trodAll_cons r1
  obtain ⟨rfl, rfl, rfl⟩ := trodAll_nil r2
  obtain rfl : args = #[v0, v1, v2] := by cases args; simp_all
  obtain ⟨rfl, rfl⟩ := trodVars_none hV
  obtain ⟨a0, rfl, rfl, rfl, w0⟩ := open_int Try.underlying3 (hval 0 3 v0 rfl rfl) h0
  obtain ⟨a1, rfl, rfl, rfl, w1⟩ := open_int Try.underlying3 (hval 1 3 v1 rfl rfl) h1
  obtain ⟨a2, len2, cap2, rfl⟩ := okWide_slice Try.underlying22 (hval 2 22 v2 rfl rfl)
  have k2 := h2
  have lt2 : ∀ x ∈ p2, x.block < W.heap.size := by obtain ⟨m, hm⟩ := k2; exact DataW.trod_lt m _ _ _ hm
  obtain ⟨l2, hlen2, w2, c2⟩ : ∃ L : List Oa, L.length = len2 ∧ OpsAt W a2 L ∧ (len2 ≤ cap2 ∧ cap2 * 104 ≤ 140737488351232) := by
    obtain ⟨fuel, hf⟩ := h2
    rcases open_ops hf with ⟨hcs, hx⟩ | ⟨x, l, c, L, D, hcs, hl, hm, hLl, hfs, hrw, hx, hD⟩
    · simp [Value.cells] at hcs
      obtain ⟨rfl, rfl, rfl⟩ := hcs
      exact ⟨[], rfl, ⟨.inl rfl, fun p hp => by cases hp⟩, Nat.le_refl _, by simp⟩
    · simp [Value.cells] at hcs
      obtain ⟨rfl, rfl, rfl⟩ := hcs
      have hd : d2 = _ := hx
      obtain ⟨s1, s2⟩ := sized_ops hsz (j := 2) rfl (by rw [hd]; rfl) hl hLl hrw hD
      refine ⟨L, hLl, ⟨?_, s2⟩, hl, s1⟩
      rcases hfs with h1 | ⟨b, off, h1, h2, h3⟩
      · exact .inl h1
      · exact .inr ⟨b, off, by rw [h1], h2, h3⟩
  subst hlen2
  clear hA0
  refine (walk a0 a1 l2 a2 cap2 W w0 w1 w2 c2).mono fun e W' ⟨he, bel⟩ => ?_
  subst he
  exact ⟨_, rfl, _, _, _, [], _, [], hW', trodAll_mk1 (shut_bool Try.underlying4 _), (trodAll_cons_mk (shut_int Try.underlying3 w0) (trodAll_cons_mk (shut_int Try.underlying3 w1) (trodAll_cons_mk (Below.trod laidOut (by kernel_rfl) (of_decide_eq_true (by kernel_rfl)) k2 bel lt2) trodAll_mk0))), rfl, bel.frame _, fun h => by cases h⟩
set_option maxRecDepth 100000 in
theorem lifted (os : Os) (started : os.Started) (H : Type) (enc : TypeId × Value → H) :
    ReturnsInHanded {} Try.checked os 8 .any (Rows.simfsFuseSpec.pre6 enc Try.prog Try.f8 Rows.simfsFuseRow.domain false) (Rows.simfsFuseSpec.post enc Try.prog Try.f8 false true false false) := by
  refine returnsInHanded_of_change_sized (C := Try.checked) own started (by kernel_rfl) Try.func8
    (ChangeSpec.witness6 (enc := enc) (C := Try.checked) false ⟨#[], #[.int .i64 0, .int .i64 0, .slice none 0 0], []⟩ 8 (by kernel_rfl) (by kernel_rfl) (by kernel_rfl) (by kernel_rfl)) ?_
  intro W base args ds gs before hval hW _ hsz _
  exact contract H enc W base args ds gs before hval hW hsz
theorem over : Rows.simfsFuseRow.holds Try.pinned (OpenSpec.ofChange Rows.simfsFuseSpec) :=
  OpenClaim.holds_of_wide 8 Try.f8 rfl rfl rfl rfl rfl rfl rfl ⟨rfl, rfl, rfl, rfl, rfl⟩ rfl rfl rfl rfl rfl (by kernel_rfl) Try.func8 (by kernel_rfl)
    (of_decide_eq_true (by kernel_rfl)) (by unfold Func.isWrapper; first | (rw [if_pos (by decide +kernel)]; kernel_rfl) | (rw [if_neg (by decide +kernel)]; exact ⟨rfl, rfl⟩))
    (fun os started H enc _ => lifted os started H enc)
theorem proved : Rows.SimfsFuseSaid := over
end Go.Proofs.Ytlnhhgmdajbepaa.simfsFuse
