/- For every script: a writer told it, call by call, answers as the reference does. No condition. -/
import Derived.Test.YtbdgiecnhgiogaaK33
import Derived.Test.YtbdgiecnhgiogaaK25
import Derived.Test.YtbdgiecnhgiogaaK31
import Derived.Test.YtbdgiecnhgiogaaK19
import Derived.Test.YtbdgiecnhgiogaaK18
import Derived.SizedLaws
import Derived.ChangeOld
namespace Go.Proofs.Ytbdgiecnhgiogaa.tlvWrites
open Go.ChangeShapes Go.WideShapes Go.ChangeAt Go.RowKit
set_option linter.unusedVariables false
set_option maxRecDepth 20000 in
set_option maxHeartbeats 4000000 in
theorem walk (P : List (Pt × Value)) (a : Option Addr) (cap : Nat) (w : World) (hps : PsAt w a P) (hc : P.length ≤ cap ∧ cap * 48 ≤ 140737488351232 ∧ (∀ p ∈ P, p.1.bytes.length ≤ 140737488351232) ∧ (a = none → P.length = 0 ∧ cap = 0)) :
    Calls Try.prog 3 #[.slice a P.length cap] w fun r w' => r = .returned (.bool true) ∧ Below w.heap.size w w' := by
  obtain ⟨hc1, hc2, hc3, hc4⟩ := hc
  obtain ⟨i0, hi, hz0, hz1, hz2⟩ := info_parts Try.infoPt
  obtain ⟨i1, hi1, hy0, hy1, hy2⟩ := info_parts Try.infoFd
  have HP : Hid (PsAt w a P) := hps
  have HBL : Hid (∀ p ∈ P, p.1.bytes.length ≤ 140737488351232) := hc3
  have HNL : Hid (a = none → P.length = 0 ∧ cap = 0) := hc4
  obtain ⟨n, hn⟩ : ∃ n, P.length = n := ⟨_, rfl⟩
  have HN : Hid (P.length = n) := hn
  rw [hn] at hc1 ⊢
  have hn48 : n * 48 ≤ 140737488351232 := by omega
  clear hps hc3 hc4 hn
  go_enter Try.func3, Try.ntmps3
  go_wp2_with (first
    | (go_at_call 6; refine (neww_any w).mono ?_; rintro r w1 ⟨rfl, hw1, hb1⟩; have HW1 : Hid (WrAt w1 (w.heap.size + 1) w.heap.size (.slice none 0 0) [] 0 0) := hw1; have HB1 : Hid (Below w.heap.size w w1) := hb1; clear hw1 hb1)
    | (go_at_call 7; refine (head05_any w1).mono ?_; rintro r w2 ⟨rfl, hb2⟩; have HW2 : Hid (WrAt w2 (w.heap.size + 1) w.heap.size (.slice none 0 0) [] 0 0) := HW1.out.keep hb2; have HB2 : Hid (Below w.heap.size w w2) := HB1.out.trans (hb2.mono HB1.out.size); obtain ⟨W, hW, hpre⟩ := pre_of HW2.out HB2.out; have HW : Hid (_ = W) := hW; have HPRE : Hid (Pre w w2 W) := hpre; have hWs : W.heap.size = w2.heap.size + 2 := hpre.siz; clear hb2 hW hpre)
    | (at_builtin; rw [HW.out]; refine wpList_append_puts rfl _ _ rfl (w2.heap.size + 1) _ rfl HPRE.out.row P a n cap rfl HN.out (HP.out.keep HPRE.out.bel) (fun h => by have h5 := HNL.out h; rw [HN.out] at h5; exact h5) hn48 (by rw [hWs]; omega) ?_; intro v3 w3 ho3 hg3; obtain ⟨HO3, HG3⟩ : Hid (w3.ownsRow (w2.heap.size + 1) 29 4 v3 n (flatP P)) ∧ Hid (Below (w2.heap.size + 1) W w3) := ⟨ho3, grown_row (Below.refl _ _) HPRE.out.row (by rw [hWs]; omega) hg3⟩; have hs3 : w2.heap.size + 2 ≤ w3.heap.size := (by have h5 := HG3.out.size; rw [hWs] at h5; exact h5); clear ho3 hg3)
    | (at_builtin; refine wpList_append_lies _ rfl _ _ 22 rfl (w2.heap.size + 1) 29 i0 _ 4 48 Try.underlying22 hi hz0 hz1 hz2 rfl (by decide) v3 n (flatP P) rfl (HO3.out.alloc _) ⟨w3.heap.size, 0, none⟩ 1 1 [.int .i64 3, .int .i64 0, .int .i64 0, .slice none 0 0] rfl rfl (newsP w3) onesP (by omega) (by unfold maxLen; omega) (by omega) (by simp; omega) (w3.heap.size + 1) (by simp) ?_; intro g cap4 w4 ho4 hg4 _ hlt4; have HI : Hid (WI w w4 (w.heap.size + 1) w.heap.size g cap4 (P ++ [(⟨3, 0, 0, []⟩, .slice none 0 0)]) (.slice (some ⟨w2.heap.size, 0, none⟩) 0 0) [] 0 0) := wi_start HPRE.out HO3.out HG3.out HN.out ho4 hg4; clear ho4 hg4))
  obtain ⟨N, hN⟩ : ∃ N, n + 1 = N := ⟨_, rfl⟩
  have HP2 : Hid (PsAt w a P ∧ n + 1 = N ∧ (P ++ [((⟨3, 0, 0, []⟩ : Pt), Value.slice none 0 0)]).length = N) := ⟨HP.out, hN, by simp [HN.out, hN]⟩
  have hNI : (n : Int) + 1 = (N : Int) := by omega
  have hNm : N ≤ 140737488355328 := by omega
  have HPOK : Hid (∀ p ∈ P ++ [((⟨3, 0, 0, []⟩ : Pt), Value.slice none 0 0)], (-9223372036854775808 ≤ p.1.v ∧ p.1.v ≤ 9223372036854775807) ∧ p.1.bytes.length ≤ 140737488351232 ∧ ∀ w', Below w.heap.size w w' → ∃ ad cap, p.2 = .slice ad p.1.bytes.length cap ∧ Bytes w' ad p.1.bytes) := by
    intro p hp
    rcases List.mem_append.1 hp with h5 | h5
    · refine ⟨(HP.out.fok p h5).num, HBL.out p h5, fun w' hb' => ?_⟩
      obtain ⟨ad, c5, h6, _, h7⟩ := ((HP.out.fok p h5).keep hb').byt
      exact ⟨ad, c5, h6, h7⟩
    · obtain rfl := List.mem_singleton.1 h5
      exact ⟨⟨by simp, by simp⟩, by simp, fun w' _ => ⟨none, 0, rfl, Bytes.none _ _⟩⟩
  obtain ⟨P', hP'⟩ : ∃ P', P ++ [((⟨3, 0, 0, []⟩ : Pt), Value.slice none 0 0)] = P' := ⟨_, rfl⟩
  rw [hP'] at HI HP2 HPOK
  have HB0 : Hid (w.heap.size < w2.heap.size) := HPRE.out.gt
  rw [hNI, hN]
  clear hP' hN hNI HPRE HO3 HG3 HW2 HW1 HB1 HB2 HW hWs hs3 hlt4 HNL HBL HP HN hz0 hz1 hz2 hi hn48
  go_loopw [4, 5, 6, 34] (fun vk vA vB vi wr => ∃ (k e : Nat) (A : Int) (Lk : List (Fld × Value)), k ≤ N ∧ vi = .int .i64 k ∧ vA = .int .i64 A ∧ vB = .int .i64 e ∧ Hid (WI w wr (w.heap.size + 1) w.heap.size g cap4 P' vk Lk A e)) (fun _ _ _ vi _ => N - (intOf vi).toNat)
  case atStart => exact ⟨0, 0, 0, [], Nat.zero_le _, rfl, rfl, rfl, HI.out⟩
  case round =>
    obtain ⟨k, e, A, Lk, hk, rfl, rfl, rfl, HR⟩ := hrel
    rename World => wo
    by_cases hkl : k < N
    · obtain ⟨p, hp⟩ : ∃ p, P'[k]? = some p := ⟨_, List.getElem?_eq_getElem (by rw [HP2.out.2.2]; exact hkl)⟩
      have hpm : p ∈ P' := List.mem_of_getElem? hp
      obtain ⟨c0, c1, c2, c3⟩ := HR.out.cells k p hp
      obtain ⟨HV, HLN, HBY⟩ := HPOK.out p hpm
      obtain ⟨ad, pc, hpv, _⟩ := HBY w (Below.refl _ _)
      rw [hpv] at c3
      obtain ⟨m, hm⟩ : ∃ m, p.1.bytes.length = m := ⟨_, rfl⟩
      rw [hm] at c3 hpv HLN
      obtain ⟨u, hu, hub⟩ : ∃ u : Nat, IntKind.u64.wrap p.1.v = (u : Int) ∧ u ≤ 18446744073709551615 := by
        rw [IntKind.wrap_u64]
        exact ⟨(p.1.v % 18446744073709551616).toNat, by omega, by omega⟩
      have hLk : Lk.length ≤ 31 := by have := HR.out.len; omega
      obtain ⟨v, L, hwr, hm0, hll, hdj⟩ := HR.out.wri
      have HWD : Hid (WrAt wo (w.heap.size + 1) w.heap.size v L A e ∧ (e = 0 → L.map Prod.fst = Lk.map Prod.fst) ∧ L.length ≤ Lk.length ∧ ∀ k, v.ownBlock = some k → u4.ownBlock ≠ some k) := ⟨hwr, hm0, hll, hdj⟩
      have HBY2 : Hid (∀ w', Below w.heap.size w w' → Bytes w' ad p.1.bytes) := by
        intro w' hb'
        obtain ⟨ad2, cap2, h1, h3⟩ := HBY w' hb'
        rw [hm, hpv] at h1
        cases h1
        exact h3
      have HM : Hid (p.1.bytes.length = m) := hm
      obtain ⟨tag, htag⟩ : ∃ t, p.1.tag = t := ⟨_, rfl⟩
      obtain ⟨kk, hkk⟩ : ∃ t, p.1.k = t := ⟨_, rfl⟩
      obtain ⟨vv, hvv⟩ : ∃ t, p.1.v = t := ⟨_, rfl⟩
      obtain ⟨l, hl⟩ : ∃ t, p.1.bytes = t := ⟨_, rfl⟩
      rw [htag] at c1
      rw [hkk] at c0
      rw [hvv] at c2 hu HV
      rw [hl] at HBY2 HM
      obtain ⟨W5, hW5, hb5, hp5, hf5, hs5⟩ := box2 wo kk tag vv (.slice ad m pc) u
      have HW5 : Hid (_ = W5) := hW5
      have H5 : Hid (Below wo.heap.size wo W5 ∧ FldAt W5 (wo.heap.size + 1) tag false u (.slice none 0 0) ∧ W5.heap.size = wo.heap.size + 2 ∧ W5.heap[wo.heap.size]? = some (.cells #[.int .i64 kk, .int .i64 tag, .int .i64 vv, .slice ad m pc] 29)) := ⟨hb5, hf5, hs5, hp5⟩
      clear hwr hm0 hll hdj hm hpv HBY hpm hp hW5 hb5 hp5 hf5 hs5 htag hkk hvv hl
      have hpn : ∀ w' : World, (binOp .neq 23 (.pointer (some ⟨w.heap.size, 0, none⟩)) (.pointer (some ⟨w.heap.size, 0, none⟩))).run Try.prog w' = .ok (.bool false) w' := ptr_neq _
      have hL1 : L.length ≤ 1000 := by have := HWD.out.2.2.1; omega
      by_cases hk0 : kk = 0
      · subst hk0
        obtain ⟨z, hz⟩ : ∃ z, flt (⟨tag, false, u, []⟩ : Fld) A = z := ⟨_, rfl⟩
        have HZ : Hid (flt (⟨tag, false, u, []⟩ : Fld) A = z) := hz
        clear hz
        by_cases he : e = 0
        · subst he
          by_cases hz0 : z = 0
          · subst hz0
            go_wp2_with (first
              | (go_at_call 8; skip; rw [HW5.out]; refine (copy_at l ad m pc W5 HM.out (HBY2.out W5 (HR.out.bel.trans (H5.out.1.mono HR.out.bel.size))) (by omega)).mono ?_; rintro r w6 ⟨v6, rfl, ho6, hb6⟩; have HB6 : Hid (Below W5.heap.size W5 w6) := hb6; have HO6 : Hid (Own w6 W5.heap.size v6 l) := ho6; have hp6 := (hb6.block wo.heap.size (by rw [H5.out.2.2.1]; omega)).trans H5.out.2.2.2; have d0 : w6.cell? ⟨wo.heap.size, 0, none⟩ = some (.int .i64 0) := (by rw [cell_of_row _ _ 0 _ _ _ hp6]; rfl); have d1 : w6.cell? ⟨wo.heap.size, 1, none⟩ = some (.int .i64 tag) := (by rw [cell_of_row _ _ 1 _ _ _ hp6]; rfl); have d2 : w6.cell? ⟨wo.heap.size, 2, none⟩ = some (.int .i64 vv) := (by rw [cell_of_row _ _ 2 _ _ _ hp6]; rfl); have d3 : w6.cell? ⟨wo.heap.size, 3, none⟩ = some (.slice ad m pc) := (by rw [cell_of_row _ _ 3 _ _ _ hp6]; rfl); have hs6 : wo.heap.size + 2 ≤ w6.heap.size := (by have h9 := HB6.out.size; rw [H5.out.2.2.1] at h9; exact h9); have HBW : Hid (Below wo.heap.size wo w6) := H5.out.1.trans (HB6.out.mono (by rw [H5.out.2.2.1]; omega)); have HP6 : Hid (w6.heap[wo.heap.size]? = some (.cells #[.int .i64 0, .int .i64 tag, .int .i64 vv, .slice ad m pc] 29)) := hp6; skip; clear ho6 hb6 hp6)
              | (go_at_call 9; refine (wnum_any tag u w6 (w.heap.size + 1) w.heap.size v L A 0 (HWD.out.1.keep HBW.out) hub hL1).mono ?_; rintro r w7 hp7; have hb8 := HBW.out; have hf8 := H5.out.2.1.keep HB6.out; obtain ⟨hr7, hbk7, hs7, hcase⟩ := WI.put HR.out HWD.out.1 (fun h => HWD.out.2.1 (by first | exact h | trivial)) HWD.out.2.2.1 HWD.out.2.2.2 hb8 hp7 (Betw.refl _ _ _); subst hr7; have hf7 : FldAt w7 (wo.heap.size + 1) tag false u (.slice none 0 0) := (hbk7 (wo.heap.size + 1) (by omega) (by omega)).trans hf8; obtain ⟨f0, f1, f2, f3⟩ := hf7.cells; rw [if_neg (by simp), if_pos HZ.out] at hcase; have HF7 : Hid (FldAt w7 (wo.heap.size + 1) tag false u (.slice none 0 0)) := hf7; have HC : Hid (_) := hcase; clear hp7 hbk7 hcase hf7 hb8 hf8)
              | (go_at_call 16; refine (rfault_at ⟨tag, false, u, []⟩ A none 0 0 w7 rfl hub).mono ?_; rw [HZ.out]; rintro r w8 ⟨rfl, hb8⟩; have HC8 : Hid (_) := HC.out.keep hb8; have HF8 : Hid (FldAt w8 (wo.heap.size + 1) tag false u (.slice none 0 0)) := HF7.out.keep hb8; obtain ⟨y0, y1, y2, y3⟩ := HF8.out.cells; clear hb8)
              | (at_builtin; refine wpList_append_lies _ rfl _ _ 26 rfl (w.heap.size + 1) 32 i1 _ 4 48 Try.underlying26 hi1 hy0 hy1 hy2 rfl (by decide) u4 Lk.length (flat Lk) rfl (HC8.out.kep.alloc _).own ⟨w8.heap.size, 0, none⟩ 1 1 [.int .i64 tag, .bool false, .int .u64 (u : Int), .slice none 0 0] rfl rfl (news4 w8 ⟨tag, false, u, []⟩ (.slice none 0 0) 32) (one4 ⟨tag, false, u, []⟩ (.slice none 0 0) rfl) (by omega) (by unfold maxLen; omega) (by omega) (wh_size HC8.out) (w8.heap.size + 1) (by simp) ?_; intro g9 cap9 w9 ho9 hg9 hat9 hlt9; have HI9 : Hid (_) := HC8.out.app (own_nil _ _) hub (by simp) ho9 hg9 hat9; have hf9 := box_far HR.out.kep HF8.out hg9; obtain ⟨z0, _, _, _⟩ := hf9.cells; clear ho9 hg9 hat9 hf9))
            go_roundw
            case rel => exact ⟨k + 1, 0, tag, _, by omega, by go_num, rfl, rfl, HI9.out⟩
            case measure => simp [intOf]; omega
          · by_cases hz2 : z = 22
            · subst hz2
              go_wp2_with (first
                | (go_at_call 8; skip; rw [HW5.out]; refine (copy_at l ad m pc W5 HM.out (HBY2.out W5 (HR.out.bel.trans (H5.out.1.mono HR.out.bel.size))) (by omega)).mono ?_; rintro r w6 ⟨v6, rfl, ho6, hb6⟩; have HB6 : Hid (Below W5.heap.size W5 w6) := hb6; have HO6 : Hid (Own w6 W5.heap.size v6 l) := ho6; have hp6 := (hb6.block wo.heap.size (by rw [H5.out.2.2.1]; omega)).trans H5.out.2.2.2; have d0 : w6.cell? ⟨wo.heap.size, 0, none⟩ = some (.int .i64 0) := (by rw [cell_of_row _ _ 0 _ _ _ hp6]; rfl); have d1 : w6.cell? ⟨wo.heap.size, 1, none⟩ = some (.int .i64 tag) := (by rw [cell_of_row _ _ 1 _ _ _ hp6]; rfl); have d2 : w6.cell? ⟨wo.heap.size, 2, none⟩ = some (.int .i64 vv) := (by rw [cell_of_row _ _ 2 _ _ _ hp6]; rfl); have d3 : w6.cell? ⟨wo.heap.size, 3, none⟩ = some (.slice ad m pc) := (by rw [cell_of_row _ _ 3 _ _ _ hp6]; rfl); have hs6 : wo.heap.size + 2 ≤ w6.heap.size := (by have h9 := HB6.out.size; rw [H5.out.2.2.1] at h9; exact h9); have HBW : Hid (Below wo.heap.size wo w6) := H5.out.1.trans (HB6.out.mono (by rw [H5.out.2.2.1]; omega)); have HP6 : Hid (w6.heap[wo.heap.size]? = some (.cells #[.int .i64 0, .int .i64 tag, .int .i64 vv, .slice ad m pc] 29)) := hp6; skip; clear ho6 hb6 hp6)
                | (go_at_call 9; refine (wnum_any tag u w6 (w.heap.size + 1) w.heap.size v L A 0 (HWD.out.1.keep HBW.out) hub hL1).mono ?_; rintro r w7 hp7; have hb8 := HBW.out; have hf8 := H5.out.2.1.keep HB6.out; obtain ⟨hr7, hbk7, hs7, hcase⟩ := WI.put HR.out HWD.out.1 (fun h => HWD.out.2.1 (by first | exact h | trivial)) HWD.out.2.2.1 HWD.out.2.2.2 hb8 hp7 (Betw.refl _ _ _); subst hr7; have hf7 : FldAt w7 (wo.heap.size + 1) tag false u (.slice none 0 0) := (hbk7 (wo.heap.size + 1) (by omega) (by omega)).trans hf8; obtain ⟨f0, f1, f2, f3⟩ := hf7.cells; rw [if_neg (by simp), if_neg (by rw [HZ.out]; decide), if_pos HZ.out] at hcase; have HF7 : Hid (FldAt w7 (wo.heap.size + 1) tag false u (.slice none 0 0)) := hf7; have HC : Hid (_) := hcase; clear hp7 hbk7 hcase hf7 hb8 hf8)
                | (go_at_call 16; refine (rfault_at ⟨tag, false, u, []⟩ A none 0 0 w7 rfl hub).mono ?_; rw [HZ.out]; rintro r w8 ⟨rfl, hb8⟩; have HC8 : Hid (_) := HC.out.keep hb8; have HF8 : Hid (FldAt w8 (wo.heap.size + 1) tag false u (.slice none 0 0)) := HF7.out.keep hb8; obtain ⟨y0, y1, y2, y3⟩ := HF8.out.cells; clear hb8))
              go_roundw
              case rel => exact ⟨k + 1, 0, A, Lk, by omega, by go_num, rfl, rfl, HC8.out⟩
              case measure => simp [intOf]; omega
            · have hzb : ¬ (z : Int) = 0 := by omega
              have hzc : ¬ (z : Int) = 22 := by omega
              go_wp2_with (first
                | (go_at_call 8; skip; rw [HW5.out]; refine (copy_at l ad m pc W5 HM.out (HBY2.out W5 (HR.out.bel.trans (H5.out.1.mono HR.out.bel.size))) (by omega)).mono ?_; rintro r w6 ⟨v6, rfl, ho6, hb6⟩; have HB6 : Hid (Below W5.heap.size W5 w6) := hb6; have HO6 : Hid (Own w6 W5.heap.size v6 l) := ho6; have hp6 := (hb6.block wo.heap.size (by rw [H5.out.2.2.1]; omega)).trans H5.out.2.2.2; have d0 : w6.cell? ⟨wo.heap.size, 0, none⟩ = some (.int .i64 0) := (by rw [cell_of_row _ _ 0 _ _ _ hp6]; rfl); have d1 : w6.cell? ⟨wo.heap.size, 1, none⟩ = some (.int .i64 tag) := (by rw [cell_of_row _ _ 1 _ _ _ hp6]; rfl); have d2 : w6.cell? ⟨wo.heap.size, 2, none⟩ = some (.int .i64 vv) := (by rw [cell_of_row _ _ 2 _ _ _ hp6]; rfl); have d3 : w6.cell? ⟨wo.heap.size, 3, none⟩ = some (.slice ad m pc) := (by rw [cell_of_row _ _ 3 _ _ _ hp6]; rfl); have hs6 : wo.heap.size + 2 ≤ w6.heap.size := (by have h9 := HB6.out.size; rw [H5.out.2.2.1] at h9; exact h9); have HBW : Hid (Below wo.heap.size wo w6) := H5.out.1.trans (HB6.out.mono (by rw [H5.out.2.2.1]; omega)); have HP6 : Hid (w6.heap[wo.heap.size]? = some (.cells #[.int .i64 0, .int .i64 tag, .int .i64 vv, .slice ad m pc] 29)) := hp6; skip; clear ho6 hb6 hp6)
                | (go_at_call 9; refine (wnum_any tag u w6 (w.heap.size + 1) w.heap.size v L A 0 (HWD.out.1.keep HBW.out) hub hL1).mono ?_; rintro r w7 hp7; have hb8 := HBW.out; have hf8 := H5.out.2.1.keep HB6.out; obtain ⟨hr7, hbk7, hs7, hcase⟩ := WI.put HR.out HWD.out.1 (fun h => HWD.out.2.1 (by first | exact h | trivial)) HWD.out.2.2.1 HWD.out.2.2.2 hb8 hp7 (Betw.refl _ _ _); subst hr7; have hf7 : FldAt w7 (wo.heap.size + 1) tag false u (.slice none 0 0) := (hbk7 (wo.heap.size + 1) (by omega) (by omega)).trans hf8; obtain ⟨f0, f1, f2, f3⟩ := hf7.cells; rw [if_neg (by simp), if_neg (by rw [HZ.out]; exact hz0), if_neg (by rw [HZ.out]; exact hz2), HZ.out] at hcase; have HF7 : Hid (FldAt w7 (wo.heap.size + 1) tag false u (.slice none 0 0)) := hf7; have HC : Hid (_) := hcase; clear hp7 hbk7 hcase hf7 hb8 hf8)
                | (go_at_call 16; refine (rfault_at ⟨tag, false, u, []⟩ A none 0 0 w7 rfl hub).mono ?_; rw [HZ.out]; rintro r w8 ⟨rfl, hb8⟩; have HC8 : Hid (_) := HC.out.keep hb8; have HF8 : Hid (FldAt w8 (wo.heap.size + 1) tag false u (.slice none 0 0)) := HF7.out.keep hb8; obtain ⟨y0, y1, y2, y3⟩ := HF8.out.cells; clear hb8))
              go_roundw
              case rel => exact ⟨k + 1, z, A, Lk, by omega, by go_num, rfl, rfl, HC8.out⟩
              case measure => simp [intOf]; omega
        · have heb : ¬ (e : Int) = 0 := by omega
          go_wp2_with (first
            | (go_at_call 8; skip; rw [HW5.out]; refine (copy_at l ad m pc W5 HM.out (HBY2.out W5 (HR.out.bel.trans (H5.out.1.mono HR.out.bel.size))) (by omega)).mono ?_; rintro r w6 ⟨v6, rfl, ho6, hb6⟩; have HB6 : Hid (Below W5.heap.size W5 w6) := hb6; have HO6 : Hid (Own w6 W5.heap.size v6 l) := ho6; have hp6 := (hb6.block wo.heap.size (by rw [H5.out.2.2.1]; omega)).trans H5.out.2.2.2; have d0 : w6.cell? ⟨wo.heap.size, 0, none⟩ = some (.int .i64 0) := (by rw [cell_of_row _ _ 0 _ _ _ hp6]; rfl); have d1 : w6.cell? ⟨wo.heap.size, 1, none⟩ = some (.int .i64 tag) := (by rw [cell_of_row _ _ 1 _ _ _ hp6]; rfl); have d2 : w6.cell? ⟨wo.heap.size, 2, none⟩ = some (.int .i64 vv) := (by rw [cell_of_row _ _ 2 _ _ _ hp6]; rfl); have d3 : w6.cell? ⟨wo.heap.size, 3, none⟩ = some (.slice ad m pc) := (by rw [cell_of_row _ _ 3 _ _ _ hp6]; rfl); have hs6 : wo.heap.size + 2 ≤ w6.heap.size := (by have h9 := HB6.out.size; rw [H5.out.2.2.1] at h9; exact h9); have HBW : Hid (Below wo.heap.size wo w6) := H5.out.1.trans (HB6.out.mono (by rw [H5.out.2.2.1]; omega)); have HP6 : Hid (w6.heap[wo.heap.size]? = some (.cells #[.int .i64 0, .int .i64 tag, .int .i64 vv, .slice ad m pc] 29)) := hp6; skip; clear ho6 hb6 hp6)
            | (go_at_call 9; refine (wnum_any tag u w6 (w.heap.size + 1) w.heap.size v L A e (HWD.out.1.keep HBW.out) hub hL1).mono ?_; rintro r w7 hp7; have hb8 := HBW.out; have hf8 := H5.out.2.1.keep HB6.out; obtain ⟨hr7, hbk7, hs7, hcase⟩ := WI.put HR.out HWD.out.1 (fun h => HWD.out.2.1 (by first | exact h | trivial)) HWD.out.2.2.1 HWD.out.2.2.2 hb8 hp7 (Betw.refl _ _ _); subst hr7; have hf7 : FldAt w7 (wo.heap.size + 1) tag false u (.slice none 0 0) := (hbk7 (wo.heap.size + 1) (by omega) (by omega)).trans hf8; obtain ⟨f0, f1, f2, f3⟩ := hf7.cells; rw [if_pos he] at hcase; have HF7 : Hid (FldAt w7 (wo.heap.size + 1) tag false u (.slice none 0 0)) := hf7; have HC : Hid (_) := hcase; clear hp7 hbk7 hcase hf7 hb8 hf8)
            | (go_at_call 16; refine (rfault_at ⟨tag, false, u, []⟩ A none 0 0 w7 rfl hub).mono ?_; rw [HZ.out]; rintro r w8 ⟨rfl, hb8⟩; have HC8 : Hid (_) := HC.out.keep hb8; have HF8 : Hid (FldAt w8 (wo.heap.size + 1) tag false u (.slice none 0 0)) := HF7.out.keep hb8; obtain ⟨y0, y1, y2, y3⟩ := HF8.out.cells; clear hb8))
          go_roundw
          case rel => exact ⟨k + 1, e, A, Lk, by omega, by go_num, rfl, rfl, HC8.out⟩
          case measure => simp [intOf]; omega
      · by_cases hk1 : kk = 1
        · subst hk1
          obtain ⟨y, hy, hyb⟩ := zig_nat vv HV.1 HV.2
          have HZG : Hid (zig vv = (y : Int)) := hy
          clear hy
          obtain ⟨z, hz⟩ : ∃ z, flt (⟨tag, false, y, []⟩ : Fld) A = z := ⟨_, rfl⟩
          have HZ : Hid (flt (⟨tag, false, y, []⟩ : Fld) A = z) := hz
          clear hz
          by_cases he : e = 0
          · subst he
            by_cases hz0 : z = 0
            · subst hz0
              go_wp2_with (first
                | (go_at_call 8; skip; rw [HW5.out]; refine (copy_at l ad m pc W5 HM.out (HBY2.out W5 (HR.out.bel.trans (H5.out.1.mono HR.out.bel.size))) (by omega)).mono ?_; rintro r w6 ⟨v6, rfl, ho6, hb6⟩; have HB6 : Hid (Below W5.heap.size W5 w6) := hb6; have HO6 : Hid (Own w6 W5.heap.size v6 l) := ho6; have hp6 := (hb6.block wo.heap.size (by rw [H5.out.2.2.1]; omega)).trans H5.out.2.2.2; have d0 : w6.cell? ⟨wo.heap.size, 0, none⟩ = some (.int .i64 1) := (by rw [cell_of_row _ _ 0 _ _ _ hp6]; rfl); have d1 : w6.cell? ⟨wo.heap.size, 1, none⟩ = some (.int .i64 tag) := (by rw [cell_of_row _ _ 1 _ _ _ hp6]; rfl); have d2 : w6.cell? ⟨wo.heap.size, 2, none⟩ = some (.int .i64 vv) := (by rw [cell_of_row _ _ 2 _ _ _ hp6]; rfl); have d3 : w6.cell? ⟨wo.heap.size, 3, none⟩ = some (.slice ad m pc) := (by rw [cell_of_row _ _ 3 _ _ _ hp6]; rfl); have hs6 : wo.heap.size + 2 ≤ w6.heap.size := (by have h9 := HB6.out.size; rw [H5.out.2.2.1] at h9; exact h9); have HBW : Hid (Below wo.heap.size wo w6) := H5.out.1.trans (HB6.out.mono (by rw [H5.out.2.2.1]; omega)); have HP6 : Hid (w6.heap[wo.heap.size]? = some (.cells #[.int .i64 1, .int .i64 tag, .int .i64 vv, .slice ad m pc] 29)) := hp6; have hf6 : FldAt w6 (wo.heap.size + 1) tag false u (.slice none 0 0) := H5.out.2.1.keep HB6.out; have HF6 : Hid (FldAt w6 (wo.heap.size + 1) tag false u (.slice none 0 0)) := hf6; obtain ⟨fa, fb, fc, fd⟩ := hf6.cells; have fz2 := hf6.froz 2; clear hf6; clear ho6 hb6 hp6)
                | (go_at_call 10; refine (rzig_any vv w6 HV.1 HV.2).mono ?_; rw [HZG.out]; rintro r w9 ⟨rfl, rfl⟩)
                | (go_at_call 11; obtain ⟨W6, hW6, hb8, hf8, hs8⟩ := set6 HBW.out HF6.out y; rw [hW6]; refine (wint_any tag vv y W6 (w.heap.size + 1) w.heap.size v L A 0 (HWD.out.1.keep hb8) HV.1 HV.2 HZG.out hyb hL1).mono ?_; clear hW6; rintro r w7 hp7; obtain ⟨hr7, hbk7, hs7, hcase⟩ := WI.put HR.out HWD.out.1 (fun h => HWD.out.2.1 (by first | exact h | trivial)) HWD.out.2.2.1 HWD.out.2.2.2 hb8 hp7 (Betw.refl _ _ _); subst hr7; have hf7 : FldAt w7 (wo.heap.size + 1) tag false y (.slice none 0 0) := (hbk7 (wo.heap.size + 1) (by omega) (by omega)).trans hf8; obtain ⟨f0, f1, f2, f3⟩ := hf7.cells; rw [if_neg (by simp), if_pos HZ.out] at hcase; have HF7 : Hid (FldAt w7 (wo.heap.size + 1) tag false y (.slice none 0 0)) := hf7; have HC : Hid (_) := hcase; clear hp7 hbk7 hcase hf7 hb8 hf8)
                | (go_at_call 16; refine (rfault_at ⟨tag, false, y, []⟩ A none 0 0 w7 rfl hyb).mono ?_; rw [HZ.out]; rintro r w8 ⟨rfl, hb8⟩; have HC8 : Hid (_) := HC.out.keep hb8; have HF8 : Hid (FldAt w8 (wo.heap.size + 1) tag false y (.slice none 0 0)) := HF7.out.keep hb8; obtain ⟨y0, y1, y2, y3⟩ := HF8.out.cells; clear hb8)
                | (at_builtin; refine wpList_append_lies _ rfl _ _ 26 rfl (w.heap.size + 1) 32 i1 _ 4 48 Try.underlying26 hi1 hy0 hy1 hy2 rfl (by decide) u4 Lk.length (flat Lk) rfl (HC8.out.kep.alloc _).own ⟨w8.heap.size, 0, none⟩ 1 1 [.int .i64 tag, .bool false, .int .u64 (y : Int), .slice none 0 0] rfl rfl (news4 w8 ⟨tag, false, y, []⟩ (.slice none 0 0) 32) (one4 ⟨tag, false, y, []⟩ (.slice none 0 0) rfl) (by omega) (by unfold maxLen; omega) (by omega) (wh_size HC8.out) (w8.heap.size + 1) (by simp) ?_; intro g9 cap9 w9 ho9 hg9 hat9 hlt9; have HI9 : Hid (_) := HC8.out.app (own_nil _ _) hyb (by simp) ho9 hg9 hat9; have hf9 := box_far HR.out.kep HF8.out hg9; obtain ⟨z0, _, _, _⟩ := hf9.cells; clear ho9 hg9 hat9 hf9))
              go_roundw
              case rel => exact ⟨k + 1, 0, tag, _, by omega, by go_num, rfl, rfl, HI9.out⟩
              case measure => simp [intOf]; omega
            · by_cases hz2 : z = 22
              · subst hz2
                go_wp2_with (first
                  | (go_at_call 8; skip; rw [HW5.out]; refine (copy_at l ad m pc W5 HM.out (HBY2.out W5 (HR.out.bel.trans (H5.out.1.mono HR.out.bel.size))) (by omega)).mono ?_; rintro r w6 ⟨v6, rfl, ho6, hb6⟩; have HB6 : Hid (Below W5.heap.size W5 w6) := hb6; have HO6 : Hid (Own w6 W5.heap.size v6 l) := ho6; have hp6 := (hb6.block wo.heap.size (by rw [H5.out.2.2.1]; omega)).trans H5.out.2.2.2; have d0 : w6.cell? ⟨wo.heap.size, 0, none⟩ = some (.int .i64 1) := (by rw [cell_of_row _ _ 0 _ _ _ hp6]; rfl); have d1 : w6.cell? ⟨wo.heap.size, 1, none⟩ = some (.int .i64 tag) := (by rw [cell_of_row _ _ 1 _ _ _ hp6]; rfl); have d2 : w6.cell? ⟨wo.heap.size, 2, none⟩ = some (.int .i64 vv) := (by rw [cell_of_row _ _ 2 _ _ _ hp6]; rfl); have d3 : w6.cell? ⟨wo.heap.size, 3, none⟩ = some (.slice ad m pc) := (by rw [cell_of_row _ _ 3 _ _ _ hp6]; rfl); have hs6 : wo.heap.size + 2 ≤ w6.heap.size := (by have h9 := HB6.out.size; rw [H5.out.2.2.1] at h9; exact h9); have HBW : Hid (Below wo.heap.size wo w6) := H5.out.1.trans (HB6.out.mono (by rw [H5.out.2.2.1]; omega)); have HP6 : Hid (w6.heap[wo.heap.size]? = some (.cells #[.int .i64 1, .int .i64 tag, .int .i64 vv, .slice ad m pc] 29)) := hp6; have hf6 : FldAt w6 (wo.heap.size + 1) tag false u (.slice none 0 0) := H5.out.2.1.keep HB6.out; have HF6 : Hid (FldAt w6 (wo.heap.size + 1) tag false u (.slice none 0 0)) := hf6; obtain ⟨fa, fb, fc, fd⟩ := hf6.cells; have fz2 := hf6.froz 2; clear hf6; clear ho6 hb6 hp6)
                  | (go_at_call 10; refine (rzig_any vv w6 HV.1 HV.2).mono ?_; rw [HZG.out]; rintro r w9 ⟨rfl, rfl⟩)
                  | (go_at_call 11; obtain ⟨W6, hW6, hb8, hf8, hs8⟩ := set6 HBW.out HF6.out y; rw [hW6]; refine (wint_any tag vv y W6 (w.heap.size + 1) w.heap.size v L A 0 (HWD.out.1.keep hb8) HV.1 HV.2 HZG.out hyb hL1).mono ?_; clear hW6; rintro r w7 hp7; obtain ⟨hr7, hbk7, hs7, hcase⟩ := WI.put HR.out HWD.out.1 (fun h => HWD.out.2.1 (by first | exact h | trivial)) HWD.out.2.2.1 HWD.out.2.2.2 hb8 hp7 (Betw.refl _ _ _); subst hr7; have hf7 : FldAt w7 (wo.heap.size + 1) tag false y (.slice none 0 0) := (hbk7 (wo.heap.size + 1) (by omega) (by omega)).trans hf8; obtain ⟨f0, f1, f2, f3⟩ := hf7.cells; rw [if_neg (by simp), if_neg (by rw [HZ.out]; decide), if_pos HZ.out] at hcase; have HF7 : Hid (FldAt w7 (wo.heap.size + 1) tag false y (.slice none 0 0)) := hf7; have HC : Hid (_) := hcase; clear hp7 hbk7 hcase hf7 hb8 hf8)
                  | (go_at_call 16; refine (rfault_at ⟨tag, false, y, []⟩ A none 0 0 w7 rfl hyb).mono ?_; rw [HZ.out]; rintro r w8 ⟨rfl, hb8⟩; have HC8 : Hid (_) := HC.out.keep hb8; have HF8 : Hid (FldAt w8 (wo.heap.size + 1) tag false y (.slice none 0 0)) := HF7.out.keep hb8; obtain ⟨y0, y1, y2, y3⟩ := HF8.out.cells; clear hb8))
                go_roundw
                case rel => exact ⟨k + 1, 0, A, Lk, by omega, by go_num, rfl, rfl, HC8.out⟩
                case measure => simp [intOf]; omega
              · have hzb : ¬ (z : Int) = 0 := by omega
                have hzc : ¬ (z : Int) = 22 := by omega
                go_wp2_with (first
                  | (go_at_call 8; skip; rw [HW5.out]; refine (copy_at l ad m pc W5 HM.out (HBY2.out W5 (HR.out.bel.trans (H5.out.1.mono HR.out.bel.size))) (by omega)).mono ?_; rintro r w6 ⟨v6, rfl, ho6, hb6⟩; have HB6 : Hid (Below W5.heap.size W5 w6) := hb6; have HO6 : Hid (Own w6 W5.heap.size v6 l) := ho6; have hp6 := (hb6.block wo.heap.size (by rw [H5.out.2.2.1]; omega)).trans H5.out.2.2.2; have d0 : w6.cell? ⟨wo.heap.size, 0, none⟩ = some (.int .i64 1) := (by rw [cell_of_row _ _ 0 _ _ _ hp6]; rfl); have d1 : w6.cell? ⟨wo.heap.size, 1, none⟩ = some (.int .i64 tag) := (by rw [cell_of_row _ _ 1 _ _ _ hp6]; rfl); have d2 : w6.cell? ⟨wo.heap.size, 2, none⟩ = some (.int .i64 vv) := (by rw [cell_of_row _ _ 2 _ _ _ hp6]; rfl); have d3 : w6.cell? ⟨wo.heap.size, 3, none⟩ = some (.slice ad m pc) := (by rw [cell_of_row _ _ 3 _ _ _ hp6]; rfl); have hs6 : wo.heap.size + 2 ≤ w6.heap.size := (by have h9 := HB6.out.size; rw [H5.out.2.2.1] at h9; exact h9); have HBW : Hid (Below wo.heap.size wo w6) := H5.out.1.trans (HB6.out.mono (by rw [H5.out.2.2.1]; omega)); have HP6 : Hid (w6.heap[wo.heap.size]? = some (.cells #[.int .i64 1, .int .i64 tag, .int .i64 vv, .slice ad m pc] 29)) := hp6; have hf6 : FldAt w6 (wo.heap.size + 1) tag false u (.slice none 0 0) := H5.out.2.1.keep HB6.out; have HF6 : Hid (FldAt w6 (wo.heap.size + 1) tag false u (.slice none 0 0)) := hf6; obtain ⟨fa, fb, fc, fd⟩ := hf6.cells; have fz2 := hf6.froz 2; clear hf6; clear ho6 hb6 hp6)
                  | (go_at_call 10; refine (rzig_any vv w6 HV.1 HV.2).mono ?_; rw [HZG.out]; rintro r w9 ⟨rfl, rfl⟩)
                  | (go_at_call 11; obtain ⟨W6, hW6, hb8, hf8, hs8⟩ := set6 HBW.out HF6.out y; rw [hW6]; refine (wint_any tag vv y W6 (w.heap.size + 1) w.heap.size v L A 0 (HWD.out.1.keep hb8) HV.1 HV.2 HZG.out hyb hL1).mono ?_; clear hW6; rintro r w7 hp7; obtain ⟨hr7, hbk7, hs7, hcase⟩ := WI.put HR.out HWD.out.1 (fun h => HWD.out.2.1 (by first | exact h | trivial)) HWD.out.2.2.1 HWD.out.2.2.2 hb8 hp7 (Betw.refl _ _ _); subst hr7; have hf7 : FldAt w7 (wo.heap.size + 1) tag false y (.slice none 0 0) := (hbk7 (wo.heap.size + 1) (by omega) (by omega)).trans hf8; obtain ⟨f0, f1, f2, f3⟩ := hf7.cells; rw [if_neg (by simp), if_neg (by rw [HZ.out]; exact hz0), if_neg (by rw [HZ.out]; exact hz2), HZ.out] at hcase; have HF7 : Hid (FldAt w7 (wo.heap.size + 1) tag false y (.slice none 0 0)) := hf7; have HC : Hid (_) := hcase; clear hp7 hbk7 hcase hf7 hb8 hf8)
                  | (go_at_call 16; refine (rfault_at ⟨tag, false, y, []⟩ A none 0 0 w7 rfl hyb).mono ?_; rw [HZ.out]; rintro r w8 ⟨rfl, hb8⟩; have HC8 : Hid (_) := HC.out.keep hb8; have HF8 : Hid (FldAt w8 (wo.heap.size + 1) tag false y (.slice none 0 0)) := HF7.out.keep hb8; obtain ⟨y0, y1, y2, y3⟩ := HF8.out.cells; clear hb8))
                go_roundw
                case rel => exact ⟨k + 1, z, A, Lk, by omega, by go_num, rfl, rfl, HC8.out⟩
                case measure => simp [intOf]; omega
          · have heb : ¬ (e : Int) = 0 := by omega
            go_wp2_with (first
              | (go_at_call 8; skip; rw [HW5.out]; refine (copy_at l ad m pc W5 HM.out (HBY2.out W5 (HR.out.bel.trans (H5.out.1.mono HR.out.bel.size))) (by omega)).mono ?_; rintro r w6 ⟨v6, rfl, ho6, hb6⟩; have HB6 : Hid (Below W5.heap.size W5 w6) := hb6; have HO6 : Hid (Own w6 W5.heap.size v6 l) := ho6; have hp6 := (hb6.block wo.heap.size (by rw [H5.out.2.2.1]; omega)).trans H5.out.2.2.2; have d0 : w6.cell? ⟨wo.heap.size, 0, none⟩ = some (.int .i64 1) := (by rw [cell_of_row _ _ 0 _ _ _ hp6]; rfl); have d1 : w6.cell? ⟨wo.heap.size, 1, none⟩ = some (.int .i64 tag) := (by rw [cell_of_row _ _ 1 _ _ _ hp6]; rfl); have d2 : w6.cell? ⟨wo.heap.size, 2, none⟩ = some (.int .i64 vv) := (by rw [cell_of_row _ _ 2 _ _ _ hp6]; rfl); have d3 : w6.cell? ⟨wo.heap.size, 3, none⟩ = some (.slice ad m pc) := (by rw [cell_of_row _ _ 3 _ _ _ hp6]; rfl); have hs6 : wo.heap.size + 2 ≤ w6.heap.size := (by have h9 := HB6.out.size; rw [H5.out.2.2.1] at h9; exact h9); have HBW : Hid (Below wo.heap.size wo w6) := H5.out.1.trans (HB6.out.mono (by rw [H5.out.2.2.1]; omega)); have HP6 : Hid (w6.heap[wo.heap.size]? = some (.cells #[.int .i64 1, .int .i64 tag, .int .i64 vv, .slice ad m pc] 29)) := hp6; have hf6 : FldAt w6 (wo.heap.size + 1) tag false u (.slice none 0 0) := H5.out.2.1.keep HB6.out; have HF6 : Hid (FldAt w6 (wo.heap.size + 1) tag false u (.slice none 0 0)) := hf6; obtain ⟨fa, fb, fc, fd⟩ := hf6.cells; have fz2 := hf6.froz 2; clear hf6; clear ho6 hb6 hp6)
              | (go_at_call 10; refine (rzig_any vv w6 HV.1 HV.2).mono ?_; rw [HZG.out]; rintro r w9 ⟨rfl, rfl⟩)
              | (go_at_call 11; obtain ⟨W6, hW6, hb8, hf8, hs8⟩ := set6 HBW.out HF6.out y; rw [hW6]; refine (wint_any tag vv y W6 (w.heap.size + 1) w.heap.size v L A e (HWD.out.1.keep hb8) HV.1 HV.2 HZG.out hyb hL1).mono ?_; clear hW6; rintro r w7 hp7; obtain ⟨hr7, hbk7, hs7, hcase⟩ := WI.put HR.out HWD.out.1 (fun h => HWD.out.2.1 (by first | exact h | trivial)) HWD.out.2.2.1 HWD.out.2.2.2 hb8 hp7 (Betw.refl _ _ _); subst hr7; have hf7 : FldAt w7 (wo.heap.size + 1) tag false y (.slice none 0 0) := (hbk7 (wo.heap.size + 1) (by omega) (by omega)).trans hf8; obtain ⟨f0, f1, f2, f3⟩ := hf7.cells; rw [if_pos he] at hcase; have HF7 : Hid (FldAt w7 (wo.heap.size + 1) tag false y (.slice none 0 0)) := hf7; have HC : Hid (_) := hcase; clear hp7 hbk7 hcase hf7 hb8 hf8)
              | (go_at_call 16; refine (rfault_at ⟨tag, false, y, []⟩ A none 0 0 w7 rfl hyb).mono ?_; rw [HZ.out]; rintro r w8 ⟨rfl, hb8⟩; have HC8 : Hid (_) := HC.out.keep hb8; have HF8 : Hid (FldAt w8 (wo.heap.size + 1) tag false y (.slice none 0 0)) := HF7.out.keep hb8; obtain ⟨y0, y1, y2, y3⟩ := HF8.out.cells; clear hb8))
            go_roundw
            case rel => exact ⟨k + 1, e, A, Lk, by omega, by go_num, rfl, rfl, HC8.out⟩
            case measure => simp [intOf]; omega
        · by_cases hk2 : kk = 2
          · subst hk2
            have T1 : Hid True := trivial
            go_wp2_with (first
              | (go_at_call 8; clear T1; rw [HW5.out]; refine (copy_at l ad m pc W5 HM.out (HBY2.out W5 (HR.out.bel.trans (H5.out.1.mono HR.out.bel.size))) (by omega)).mono ?_; rintro r w6 ⟨v6, rfl, ho6, hb6⟩; have HB6 : Hid (Below W5.heap.size W5 w6) := hb6; have HO6 : Hid (Own w6 W5.heap.size v6 l) := ho6; have hp6 := (hb6.block wo.heap.size (by rw [H5.out.2.2.1]; omega)).trans H5.out.2.2.2; have d0 : w6.cell? ⟨wo.heap.size, 0, none⟩ = some (.int .i64 2) := (by rw [cell_of_row _ _ 0 _ _ _ hp6]; rfl); have d1 : w6.cell? ⟨wo.heap.size, 1, none⟩ = some (.int .i64 tag) := (by rw [cell_of_row _ _ 1 _ _ _ hp6]; rfl); have d2 : w6.cell? ⟨wo.heap.size, 2, none⟩ = some (.int .i64 vv) := (by rw [cell_of_row _ _ 2 _ _ _ hp6]; rfl); have d3 : w6.cell? ⟨wo.heap.size, 3, none⟩ = some (.slice ad m pc) := (by rw [cell_of_row _ _ 3 _ _ _ hp6]; rfl); have hs6 : wo.heap.size + 2 ≤ w6.heap.size := (by have h9 := HB6.out.size; rw [H5.out.2.2.1] at h9; exact h9); have HBW : Hid (Below wo.heap.size wo w6) := H5.out.1.trans (HB6.out.mono (by rw [H5.out.2.2.1]; omega)); have HP6 : Hid (w6.heap[wo.heap.size]? = some (.cells #[.int .i64 2, .int .i64 tag, .int .i64 vv, .slice ad m pc] 29)) := hp6; have hf6 : FldAt w6 (wo.heap.size + 1) tag false u (.slice none 0 0) := H5.out.2.1.keep HB6.out; have HF6 : Hid (FldAt w6 (wo.heap.size + 1) tag false u (.slice none 0 0)) := hf6; obtain ⟨fa, fb, fc, fd⟩ := hf6.cells; have fz2 := hf6.froz 2; clear hf6; obtain ⟨a6, c6, hv6, hc6, _, _, hsh6⟩ := ho6.shape; simp only [HM.out] at hv6; subst hv6; have HSH : Hid (∀ g, a6 = some ⟨g, 0, none⟩ → W5.heap.size ≤ g ∧ g < w6.heap.size) := (fun g hg => by rcases hsh6 with ⟨h1, _⟩ | ⟨g2, h1, h3, h2⟩; rw [h1] at hg; cases hg; rw [h1] at hg; cases hg; exact ⟨h3, h2⟩); clear hsh6; clear ho6 hb6 hp6))
            have HBD : Hid (Below w.heap.size w w6.drew) := (HR.out.bel.trans (HBW.out.mono HR.out.bel.size)).drew
            go_region_held3 (fun w' => w'.cell? ⟨wo.heap.size, 1, none⟩ = some (.int .i64 tag) ∧ w'.cell? ⟨wo.heap.size, 3, none⟩ = some (.slice ad m pc)) (go_keep) ((go_at_call 8; refine (copy_at l ad m pc w6.drew HM.out (HBY2.out w6.drew HBD.out) (by omega)).mono ?_; rintro r w7 ⟨v7, rfl, ho7, hb7⟩; obtain ⟨a7, c7, hv7, hc7, _, hy7, hsh7⟩ := ho7.shape; simp only [HM.out] at hv7; subst hv7; have HO7 : Hid (Own w7 w6.heap.size (.slice a7 m c7) l) := ho7; have HB7 : Hid (Below w6.heap.size w6 w7) := ((Below.refl w6.heap.size w6).drew).trans hb7; have hf7 : FldAt w7 (wo.heap.size + 1) tag false u (.slice none 0 0) := HF6.out.keep HB7.out; have HF7 : Hid (FldAt w7 (wo.heap.size + 1) tag false u (.slice none 0 0)) := hf7; obtain ⟨ga, gb, gc, gd⟩ := hf7.cells; have gz0 := hf7.froz 0; have gz1 := hf7.froz 1; have gz2 := hf7.froz 2; have gz3 := hf7.froz 3; have hp7 := (HB7.out.block wo.heap.size (by omega)).trans HP6.out; have e1 : w7.cell? ⟨wo.heap.size, 1, none⟩ = some (.int .i64 tag) := (by rw [cell_of_row _ _ 1 _ _ _ hp7]; rfl); have e3 : w7.cell? ⟨wo.heap.size, 3, none⟩ = some (.slice ad m pc) := (by rw [cell_of_row _ _ 3 _ _ _ hp7]; rfl); clear hp7 ho7 hb7 hf7 hy7 hsh7))
            rename_i hS
            obtain ⟨X, hX, hbX, hfX, hsX, hoX⟩ := set7 (bv := .slice a7 m c7) (HBW.out.trans (HB7.out.mono HBW.out.size)) HF7.out
            rw [hX] at hS ⊢
            obtain ⟨s1, s3⟩ := hS
            have hW5s : W5.heap.size = wo.heap.size + 2 := H5.out.2.2.1
            have hX7 : w6.heap.size ≤ X.heap.size := by have h9 := HB7.out.size; omega
            have HX : Hid (Below wo.heap.size wo X) := hbX
            have HFX : Hid (FldAt X (wo.heap.size + 1) tag true 0 (.slice a7 m c7)) := hfX
            have HOX : Hid (Own X W5.heap.size (.slice a6 m c6) l) := own_mv HO6.out (Nat.le_refl _) (fun j h1 h2 h3 => (hoX j (by omega)).trans (HB7.out.block j h2))
            have HPX : Hid (Own X w6.heap.size (.slice a7 m c7) l) := own_mv HO7.out (Nat.le_refl _) (fun j h1 h2 h3 => hoX j (by omega))
            have HYX : Hid (Bytes X a6 l) := own_bytesW HOX.out
            clear hX hbX hfX hoX HF7 ga gb gc gd gz0 gz1 gz2 gz3 e1 e3 fa fb fc fd fz2 HF6 HP6 d0 d1 d2 d3
            go_wp2_with (first
              | (go_at_call 12; refine (wtext_any tag l a6 m c6 X (w.heap.size + 1) w.heap.size v L A e (HWD.out.1.keep HX.out) HM.out HYX.out (by omega) hL1).mono ?_; rintro r w8 hp8; obtain ⟨hr8, hbk8, hs8, _⟩ := WI.put HR.out HWD.out.1 (fun h => HWD.out.2.1 h) HWD.out.2.2.1 HWD.out.2.2.2 HX.out hp8 (Betw.refl _ _ _); subst hr8; have HP8 : Hid (WPost X (w.heap.size + 1) w.heap.size v L A e ⟨tag, true, 0, l⟩ (.returned (.pointer (some ⟨w.heap.size, 0, none⟩))) w8) := hp8; have HBK : Hid (∀ k, wo.heap.size ≤ k → k < X.heap.size → w8.heap[k]? = X.heap[k]?) := hbk8; clear hp8 hbk8))
            have HF8 : Hid (FldAt w8 (wo.heap.size + 1) tag true 0 (.slice a7 m c7)) := (HBK.out (wo.heap.size + 1) (by omega) (by omega)).trans HFX.out
            have HTU : Hid (Tu w8 w8 W5.heap.size a6 m c6) := Tu.start (own_mv HOX.out (Nat.le_refl _) (fun j h1 h2 h3 => HBK.out j (by omega) h2)) HM.out
            have HPO : Hid (Own w8 w6.heap.size (.slice a7 m c7) l) := own_mv HPX.out (Nat.le_refl _) (fun j h1 h2 h3 => HBK.out j (by omega) h2)
            clear s1 s3 HBD
            go_loopw [116] (fun vi wr => ∃ j : Nat, j ≤ m ∧ vi = .int .i64 (j : Int) ∧ Hid (Tu w8 wr W5.heap.size a6 m c6)) (fun vi _ => m - (intOf vi).toNat)
            case atStart => exact ⟨0, by omega, rfl, HTU.out⟩
            case round =>
              obtain ⟨j, hj, rfl, HI⟩ := hrel
              by_cases hjl : j < m
              · obtain ⟨g6, z6, ha6, c60, f60, hnew⟩ := HI.out.step j hjl
                have HNEW : Hid (_) := hnew
                subst ha6
                clear hnew
                go_wp2
                go_roundw
                case rel => exact ⟨j + 1, by omega, by go_num, HNEW.out _⟩
                case measure => simp [intOf]; omega
              · rename World => wx
                obtain rfl : m = j := by omega
                have hcase := (WI.put HR.out HWD.out.1 (fun h => HWD.out.2.1 h) HWD.out.2.2.1 HWD.out.2.2.2 HX.out HP8.out (HI.out.betw (by omega) (fun g hg => by have h9 := (HSH.out g hg).2; omega))).2.2.2
                have HF7 : Hid (FldAt wx (wo.heap.size + 1) tag true 0 (.slice a7 m c7)) := (HI.out.block (wo.heap.size + 1) (fun hh => by have h9 := (HSH.out _ hh).1; omega)).trans HF8.out
                obtain ⟨f0, f1, f2, f3⟩ := HF7.out.cells
                have HO9 : Hid (Own wx (w.heap.size + 1) (.slice a7 m c7) l) := own_mv HPO.out (by have h9 := HR.out.bel.size; omega) (fun j h1 h2 h3 => HI.out.block j (fun hh => by have h9 := (HSH.out j hh).2; omega))
                have HCA : Hid (if e ≠ 0 then WI w wx (w.heap.size + 1) w.heap.size g cap4 P' u4 Lk A e else if flt (⟨tag, true, 0, l⟩ : Fld) A = 0 then WH w wx (w.heap.size + 1) w.heap.size g cap4 P' u4 Lk ⟨tag, true, 0, l⟩ else if flt (⟨tag, true, 0, l⟩ : Fld) A = 22 then WI w wx (w.heap.size + 1) w.heap.size g cap4 P' u4 Lk A e else WI w wx (w.heap.size + 1) w.heap.size g cap4 P' u4 Lk A (flt (⟨tag, true, 0, l⟩ : Fld) A)) := hcase
                clear hcase
                obtain ⟨z, hz⟩ : ∃ z, flt (⟨tag, true, 0, l⟩ : Fld) A = z := ⟨_, rfl⟩
                have HZ : Hid (flt (⟨tag, true, 0, l⟩ : Fld) A = z) := hz
                clear hz
                by_cases he : e = 0
                · subst he
                  by_cases hz0 : z = 0
                  · subst hz0
                    have hc9 := HCA.out
                    rw [if_neg (by simp), if_pos HZ.out] at hc9
                    have HC : Hid (_) := hc9
                    clear hc9 HCA
                    go_wp2_with (first
                      | (go_at_call 16; refine (rfault_at ⟨tag, true, 0, l⟩ A a7 m c7 wx HM.out (by show 0 ≤ _; omega)).mono ?_; rw [HZ.out]; rintro r w18 ⟨rfl, hb8⟩; have HC8 : Hid (_) := HC.out.keep hb8; have HF8 : Hid (FldAt w18 (wo.heap.size + 1) tag true 0 (.slice a7 m c7)) := HF7.out.keep hb8; obtain ⟨y0, y1, y2, y3⟩ := HF8.out.cells; have HO8 : Hid (Own w18 (w.heap.size + 1) (.slice a7 m c7) l) := ⟨HO9.out.1, own_below2 HO9.out.2 hb8⟩; clear hb8)
                      | (at_builtin; refine wpList_append_lies _ rfl _ _ 26 rfl (w.heap.size + 1) 32 i1 _ 4 48 Try.underlying26 hi1 hy0 hy1 hy2 rfl (by decide) u4 Lk.length (flat Lk) rfl (HC8.out.kep.alloc _).own ⟨w18.heap.size, 0, none⟩ 1 1 [.int .i64 tag, .bool true, .int .u64 (((0 : Nat) : Int) : Int), .slice a7 m c7] rfl rfl (news4 w18 ⟨tag, true, 0, l⟩ (.slice a7 m c7) 32) (one4 ⟨tag, true, 0, l⟩ (.slice a7 m c7) rfl) (by omega) (by unfold maxLen; omega) (by omega) (wh_size HC8.out) (w18.heap.size + 1) (by simp) ?_; intro g9 cap9 w9 ho9 hg9 hat9 hlt9; have HI9 : Hid (_) := HC8.out.app HO8.out (by show 0 ≤ _; omega) (by rw [HM.out]; unfold maxLen; omega) ho9 hg9 hat9; have hf9 := box_far HR.out.kep HF8.out hg9; obtain ⟨z0, _, _, _⟩ := hf9.cells; clear ho9 hg9 hat9 hf9))
                    go_roundw
                    case rel => exact ⟨k + 1, 0, tag, _, by omega, by go_num, rfl, rfl, HI9.out⟩
                    case measure => simp [intOf]; omega
                  · by_cases hz2 : z = 22
                    · subst hz2
                      have hc9 := HCA.out
                      rw [if_neg (by simp), if_neg (by rw [HZ.out]; decide), if_pos HZ.out] at hc9
                      have HC : Hid (_) := hc9
                      clear hc9 HCA
                      go_wp2_with (first
                        | (go_at_call 16; refine (rfault_at ⟨tag, true, 0, l⟩ A a7 m c7 wx HM.out (by show 0 ≤ _; omega)).mono ?_; rw [HZ.out]; rintro r w18 ⟨rfl, hb8⟩; have HC8 : Hid (_) := HC.out.keep hb8; have HF8 : Hid (FldAt w18 (wo.heap.size + 1) tag true 0 (.slice a7 m c7)) := HF7.out.keep hb8; obtain ⟨y0, y1, y2, y3⟩ := HF8.out.cells; have HO8 : Hid (Own w18 (w.heap.size + 1) (.slice a7 m c7) l) := ⟨HO9.out.1, own_below2 HO9.out.2 hb8⟩; clear hb8))
                      go_roundw
                      case rel => exact ⟨k + 1, 0, A, Lk, by omega, by go_num, rfl, rfl, HC8.out⟩
                      case measure => simp [intOf]; omega
                    · have hzb : ¬ (z : Int) = 0 := by omega
                      have hzc : ¬ (z : Int) = 22 := by omega
                      have hc9 := HCA.out
                      rw [if_neg (by simp), if_neg (by rw [HZ.out]; exact hz0), if_neg (by rw [HZ.out]; exact hz2), HZ.out] at hc9
                      have HC : Hid (_) := hc9
                      clear hc9 HCA
                      go_wp2_with (first
                        | (go_at_call 16; refine (rfault_at ⟨tag, true, 0, l⟩ A a7 m c7 wx HM.out (by show 0 ≤ _; omega)).mono ?_; rw [HZ.out]; rintro r w18 ⟨rfl, hb8⟩; have HC8 : Hid (_) := HC.out.keep hb8; have HF8 : Hid (FldAt w18 (wo.heap.size + 1) tag true 0 (.slice a7 m c7)) := HF7.out.keep hb8; obtain ⟨y0, y1, y2, y3⟩ := HF8.out.cells; have HO8 : Hid (Own w18 (w.heap.size + 1) (.slice a7 m c7) l) := ⟨HO9.out.1, own_below2 HO9.out.2 hb8⟩; clear hb8))
                      go_roundw
                      case rel => exact ⟨k + 1, z, A, Lk, by omega, by go_num, rfl, rfl, HC8.out⟩
                      case measure => simp [intOf]; omega
                · have heb : ¬ (e : Int) = 0 := by omega
                  have hc9 := HCA.out
                  rw [if_pos he] at hc9
                  have HC : Hid (_) := hc9
                  clear hc9 HCA
                  go_wp2_with (first
                    | (go_at_call 16; refine (rfault_at ⟨tag, true, 0, l⟩ A a7 m c7 wx HM.out (by show 0 ≤ _; omega)).mono ?_; rw [HZ.out]; rintro r w18 ⟨rfl, hb8⟩; have HC8 : Hid (_) := HC.out.keep hb8; have HF8 : Hid (FldAt w18 (wo.heap.size + 1) tag true 0 (.slice a7 m c7)) := HF7.out.keep hb8; obtain ⟨y0, y1, y2, y3⟩ := HF8.out.cells; have HO8 : Hid (Own w18 (w.heap.size + 1) (.slice a7 m c7) l) := ⟨HO9.out.1, own_below2 HO9.out.2 hb8⟩; clear hb8))
                  go_roundw
                  case rel => exact ⟨k + 1, e, A, Lk, by omega, by go_num, rfl, rfl, HC8.out⟩
                  case measure => simp [intOf]; omega
          · have hq0 : (kk == 0) = false := by simpa using hk0
            have hq1 : (kk == 1) = false := by simpa using hk1
            have hq2 : (kk == 2) = false := by simpa using hk2
            obtain ⟨ka, kc, hu4, hfs⟩ := rws_fs HR.out.kep HR.out.oks
            obtain ⟨nk, hnk⟩ : ∃ nk, Lk.length = nk := ⟨_, rfl⟩
            rw [hnk] at hu4 hLk
            subst hu4
            have HNK : Hid (Lk.length = nk) := hnk
            have HFS : Hid (FsAt wo ka Lk) := hfs
            obtain ⟨R, ec, hen⟩ : ∃ R ec, encs (Lk.map Prod.fst) 0 [] = (R, ec) := ⟨_, _, rfl⟩
            have HEN : Hid (encs (Lk.map Prod.fst) 0 [] = (R, ec)) := hen
            obtain ⟨rl, hrl⟩ : ∃ rl, R.length = rl := ⟨_, rfl⟩
            have HRL : Hid (R.length = rl) := hrl
            have hrs : rl ≤ 1024 := by have h9 := encs_small (Lk.map Prod.fst); rw [hen] at h9; rw [← hrl]; exact h9
            have hW5s : W5.heap.size = wo.heap.size + 2 := H5.out.2.2.1
            clear hnk hfs hen hrl
            by_cases he : e = 0
            · subst he
              have HLL : Hid (L.map Prod.fst = Lk.map Prod.fst) := HWD.out.2.1 rfl
              have HOK : Hid (∀ p ∈ L, p.1.num ≤ 18446744073709551615 ∧ p.1.bytes.length ≤ maxLen) := oks_of (P := fun f => f.num ≤ 18446744073709551615 ∧ f.bytes.length ≤ maxLen) HLL.out HR.out.oks
              go_wp2_with (first
                | (go_at_call 8; skip; rw [HW5.out]; refine (copy_at l ad m pc W5 HM.out (HBY2.out W5 (HR.out.bel.trans (H5.out.1.mono HR.out.bel.size))) (by omega)).mono ?_; rintro r w6 ⟨v6, rfl, ho6, hb6⟩; have HB6 : Hid (Below W5.heap.size W5 w6) := hb6; have HO6 : Hid (Own w6 W5.heap.size v6 l) := ho6; have hp6 := (hb6.block wo.heap.size (by rw [H5.out.2.2.1]; omega)).trans H5.out.2.2.2; have d0 : w6.cell? ⟨wo.heap.size, 0, none⟩ = some (.int .i64 kk) := (by rw [cell_of_row _ _ 0 _ _ _ hp6]; rfl); have d1 : w6.cell? ⟨wo.heap.size, 1, none⟩ = some (.int .i64 tag) := (by rw [cell_of_row _ _ 1 _ _ _ hp6]; rfl); have d2 : w6.cell? ⟨wo.heap.size, 2, none⟩ = some (.int .i64 vv) := (by rw [cell_of_row _ _ 2 _ _ _ hp6]; rfl); have d3 : w6.cell? ⟨wo.heap.size, 3, none⟩ = some (.slice ad m pc) := (by rw [cell_of_row _ _ 3 _ _ _ hp6]; rfl); have hs6 : wo.heap.size + 2 ≤ w6.heap.size := (by have h9 := HB6.out.size; rw [H5.out.2.2.1] at h9; exact h9); have HBW : Hid (Below wo.heap.size wo w6) := H5.out.1.trans (HB6.out.mono (by rw [H5.out.2.2.1]; omega)); have HP6 : Hid (w6.heap[wo.heap.size]? = some (.cells #[.int .i64 kk, .int .i64 tag, .int .i64 vv, .slice ad m pc] 29)) := hp6; skip; clear ho6 hb6 hp6)
                | (go_at_call 13; refine (wdone_ok w6 (w.heap.size + 1) w.heap.size v L A (HWD.out.1.keep HBW.out) HOK.out hL1).mono ?_; rw [HLL.out, HEN.out]; (try dsimp only); rintro r y1 ⟨v1, rfl, ho1, hb1⟩; obtain ⟨a1, c1, hv1, hcc1, _, hy1, hsh1⟩ := ho1.shape; simp only [HRL.out] at hv1; subst hv1; have HO1 : Hid (Own y1 w6.heap.size (.slice a1 rl c1) R) := ho1; have HB1 : Hid (Below wo.heap.size wo y1) := HBW.out.trans (hb1.mono HBW.out.size); clear hb1 ho1 hy1 hsh1)
                | (go_at_call 14; refine (rtenc Lk ka nk kc y1 HNK.out (HFS.out.keep HB1.out) (by omega)).mono ?_; rw [HEN.out]; (try dsimp only); rintro r y2 ⟨v2, rfl, ho2, hb2⟩; obtain ⟨a2, c2, hv2, hcc2, _, hy2, hsh2⟩ := ho2.shape; simp only [HRL.out] at hv2; subst hv2; have HY2 : Hid (Bytes y2 a2 R) := hy2; have HB2 : Hid (Below wo.heap.size wo y2) := HB1.out.trans (hb2.mono HB1.out.size); have HO2 : Hid (Own y2 w6.heap.size (.slice a1 rl c1) R) := ⟨HO1.out.1, own_below2 HO1.out.2 hb2⟩; clear hb2 ho2 hy2 hsh2)
                | (go_at_call 15; refine (same_yes R rl rl a1 a2 c1 c2 y2 HRL.out HRL.out (own_bytesW HO2.out) HY2.out (by unfold maxLen; omega)).mono ?_; rintro r y3 ⟨rfl, hb3⟩; have HO3 : Hid (Own y3 w6.heap.size (.slice a1 rl c1) R) := ⟨HO2.out.1, own_below2 HO2.out.2 hb3⟩; have HB3 : Hid (Below wo.heap.size wo y3) := HB2.out.trans (hb3.mono HB2.out.size); clear hb3))
              have HTU : Hid (Tu y3 y3 w6.heap.size a1 rl c1) := Tu.start HO3.out HRL.out
              go_loopw [73] (fun vi wr => ∃ j : Nat, j ≤ rl ∧ vi = .int .i64 (j : Int) ∧ Hid (Tu y3 wr w6.heap.size a1 rl c1)) (fun vi _ => rl - (intOf vi).toNat)
              case atStart => exact ⟨0, by omega, rfl, HTU.out⟩
              case round =>
                obtain ⟨j, hj, rfl, HI⟩ := hrel
                by_cases hjl : j < rl
                · obtain ⟨g6, z6, ha6, c60, f60, hnew⟩ := HI.out.step j hjl
                  have HNEW : Hid (_) := hnew
                  clear hnew
                  subst ha6
                  go_wp2
                  go_roundw
                  case rel => exact ⟨j + 1, by omega, by go_num, HNEW.out _⟩
                  case measure => simp [intOf]; omega
                · rename World => wx
                  obtain rfl : rl = j := by omega
                  go_wp2
                  go_roundw
                  case rel => exact ⟨k + 1, 0, A, Lk, by omega, by go_num, rfl, rfl, HR.out.keep (HB3.out.trans (HI.out.below (by omega)))⟩
                  case measure => simp [intOf]; omega
            · have heb : ¬ (e : Int) = 0 := by omega
              go_wp2_with (first
                | (go_at_call 8; skip; rw [HW5.out]; refine (copy_at l ad m pc W5 HM.out (HBY2.out W5 (HR.out.bel.trans (H5.out.1.mono HR.out.bel.size))) (by omega)).mono ?_; rintro r w6 ⟨v6, rfl, ho6, hb6⟩; have HB6 : Hid (Below W5.heap.size W5 w6) := hb6; have HO6 : Hid (Own w6 W5.heap.size v6 l) := ho6; have hp6 := (hb6.block wo.heap.size (by rw [H5.out.2.2.1]; omega)).trans H5.out.2.2.2; have d0 : w6.cell? ⟨wo.heap.size, 0, none⟩ = some (.int .i64 kk) := (by rw [cell_of_row _ _ 0 _ _ _ hp6]; rfl); have d1 : w6.cell? ⟨wo.heap.size, 1, none⟩ = some (.int .i64 tag) := (by rw [cell_of_row _ _ 1 _ _ _ hp6]; rfl); have d2 : w6.cell? ⟨wo.heap.size, 2, none⟩ = some (.int .i64 vv) := (by rw [cell_of_row _ _ 2 _ _ _ hp6]; rfl); have d3 : w6.cell? ⟨wo.heap.size, 3, none⟩ = some (.slice ad m pc) := (by rw [cell_of_row _ _ 3 _ _ _ hp6]; rfl); have hs6 : wo.heap.size + 2 ≤ w6.heap.size := (by have h9 := HB6.out.size; rw [H5.out.2.2.1] at h9; exact h9); have HBW : Hid (Below wo.heap.size wo w6) := H5.out.1.trans (HB6.out.mono (by rw [H5.out.2.2.1]; omega)); have HP6 : Hid (w6.heap[wo.heap.size]? = some (.cells #[.int .i64 kk, .int .i64 tag, .int .i64 vv, .slice ad m pc] 29)) := hp6; skip; clear ho6 hb6 hp6)
                | (go_at_call 13; refine (wdone_bad w6 (w.heap.size + 1) w.heap.size v L A e (HWD.out.1.keep HBW.out) he).mono ?_; rintro r y1 ⟨rfl, hb1⟩; have HB1 : Hid (Below wo.heap.size wo y1) := HBW.out.trans (hb1.mono HBW.out.size); clear hb1)
                | (go_at_call 14; refine (rtenc Lk ka nk kc y1 HNK.out (HFS.out.keep HB1.out) (by omega)).mono ?_; rw [HEN.out]; (try dsimp only); rintro r y2 ⟨v2, rfl, ho2, hb2⟩; obtain ⟨a2, c2, hv2, hcc2, _, hy2, hsh2⟩ := ho2.shape; simp only [HRL.out] at hv2; subst hv2; have HY2 : Hid (Bytes y2 a2 R) := hy2; have HB2 : Hid (Below wo.heap.size wo y2) := HB1.out.trans (hb2.mono HB1.out.size); skip; clear hb2 ho2 hy2 hsh2)
                | (go_at_call 15; refine (same_yes [] 0 0 none none 0 0 y2 rfl rfl (Bytes.none _ _) (Bytes.none _ _) (by unfold maxLen; omega)).mono ?_; rintro r y3 ⟨rfl, hb3⟩; have HB3 : Hid (Below wo.heap.size wo y3) := HB2.out.trans (hb3.mono HB2.out.size); clear hb3))
              have HTU : Hid (Tu y3 y3 w6.heap.size none 0 0) := Tu.start (own_nil _ _) rfl
              go_loopw [73] (fun vi wr => ∃ j : Nat, j ≤ 0 ∧ vi = .int .i64 (j : Int) ∧ Hid (Tu y3 wr w6.heap.size none 0 0)) (fun vi _ => 0 - (intOf vi).toNat)
              case atStart => exact ⟨0, by omega, rfl, HTU.out⟩
              case round =>
                obtain ⟨j, hj, rfl, HI⟩ := hrel
                by_cases hjl : j < 0
                · obtain ⟨g6, z6, ha6, c60, f60, hnew⟩ := HI.out.step j hjl
                  have HNEW : Hid (_) := hnew
                  clear hnew
                  exact absurd hjl (by omega)
                · rename World => wx
                  obtain rfl : j = 0 := by omega
                  go_wp2
                  go_roundw
                  case rel => exact ⟨k + 1, e, A, Lk, by omega, by go_num, rfl, rfl, HR.out.keep (HB3.out.trans (HI.out.below (by omega)))⟩
                  case measure => simp [intOf]; omega
    · obtain rfl : k = N := by omega
      go_wp2
      go_ret
      exact ⟨rfl, HR.out.bel⟩
theorem own : ownKnob Try.prog.godebug = none := by kernel_rfl
theorem laidOut : laidOutB Try.prog = true := by kernel_rfl
set_option maxRecDepth 100000 in
theorem contract (H : Type) (enc : TypeId × Value → H) (W : World) (base : Nat) (args : Array Value) (ds gs : List (DataW H)) (before : List MemPlace)
    (hval : ∀ (j : Nat) t v, Try.f3.params[j]? = some t → args[j]? = some v → Value.okWide Try.prog W .any base t v)
    (hW : DataW.Whole enc Try.prog Try.f3.params.toList Rows.tlvWritesSpec.vars false W args.toList ds gs before)
    (hsz : (DataW.weightsEach Try.prog (Try.f3.params.toList ++ Rows.tlvWritesSpec.plain.varTypes Try.prog) (ds ++ gs)).all (· ≤ reachBytes) = true) :
    Calls Try.prog 3 args W fun e W' => ∃ v, e = .returned v ∧ Rows.tlvWritesSpec.post enc Try.prog Try.f3 false true false false W args v W' := by
  have hW' := hW
  obtain ⟨p, q, hA0, hV, rfl, hfz, hnd⟩ := hW
  have hA : DataW.TrodAll enc Try.prog W 0 (fun _ => true) true Try.f3.params.toList args.toList ds p := hA0
  rw [Try.params3] at hA hval hsz
  obtain ⟨v0, vs0, d0, ds0, p0, q0, hargs, rfl, rfl, h0, r0⟩ := trodAll_cons hA
  obtain ⟨rfl, rfl, rfl⟩ := trodAll_nil r0
  obtain rfl : args = #[v0] := by cases args; simp_all
  obtain ⟨rfl, rfl⟩ := trodVars_none hV
  obtain ⟨a0, len0, cap0, rfl⟩ := okWide_slice Try.underlying22 (hval 0 22 v0 rfl rfl)
  have k0 := h0
  have lt0 : ∀ x ∈ p0, x.block < W.heap.size := by obtain ⟨m, hm⟩ := k0; exact DataW.trod_lt m _ _ _ hm
  obtain ⟨l0, hlen0, w0, c0⟩ : ∃ L : List (Pt × Value), L.length = len0 ∧ PsAt W a0 L ∧ (len0 ≤ cap0 ∧ cap0 * 48 ≤ 140737488351232 ∧ (∀ p ∈ L, p.1.bytes.length ≤ 140737488351232) ∧ (a0 = none → len0 = 0 ∧ cap0 = 0)) := by
    obtain ⟨fuel, hf⟩ := h0
    rcases open_puts hf with ⟨hcs, hx⟩ | ⟨x, l, c, L, D, hcs, hl, hm, hLl, hfs, hx, hD⟩
    · simp [Value.cells] at hcs
      obtain ⟨rfl, rfl, rfl⟩ := hcs
      exact ⟨[], rfl, ⟨.inl rfl, fun p hp => by cases hp⟩, Nat.le_refl _, by simp, fun p hp => (by cases hp), fun _ => ⟨rfl, rfl⟩⟩
    · simp [Value.cells] at hcs
      obtain ⟨rfl, rfl, rfl⟩ := hcs
      have hd : d0 = _ := hx
      obtain ⟨s1, s2⟩ := sized_puts hsz (j := 0) rfl (by rw [hd]; rfl) hl hLl hD
      exact ⟨L, hLl, hfs, hl, s1, s2, fun h => by cases h⟩
  subst hlen0
  clear hA0
  refine (walk l0 a0 cap0 W w0 c0).mono fun e W' ⟨he, bel⟩ => ?_
  subst he
  exact ⟨_, rfl, _, _, _, [], _, [], hW', trodAll_mk1 (shut_bool Try.underlying4 _), (trodAll_cons_mk (Below.trod laidOut (by kernel_rfl) (of_decide_eq_true (by kernel_rfl)) k0 bel lt0) trodAll_mk0), rfl, bel.frame _, fun h => by cases h⟩
set_option maxRecDepth 100000 in
theorem lifted (os : Os) (started : os.Started) (H : Type) (enc : TypeId × Value → H) :
    ReturnsInHanded {} Try.checked os 3 .any (Rows.tlvWritesSpec.pre6 enc Try.prog Try.f3 Rows.tlvWritesRow.domain false) (Rows.tlvWritesSpec.post enc Try.prog Try.f3 false true false false) := by
  refine returnsInHanded_of_change_sized (C := Try.checked) own started (by kernel_rfl) Try.func3
    (ChangeSpec.witness6 (enc := enc) (C := Try.checked) false ⟨#[], #[.slice none 0 0], []⟩ 8 (by kernel_rfl) (by kernel_rfl) (by kernel_rfl) (by kernel_rfl)) ?_
  intro W base args ds gs before hval hW _ hsz _
  exact contract H enc W base args ds gs before hval hW hsz
theorem over : Rows.tlvWritesRow.holds Try.pinned (OpenSpec.ofChange Rows.tlvWritesSpec) :=
  OpenClaim.holds_of_wide 3 Try.f3 rfl rfl rfl rfl rfl rfl rfl ⟨rfl, rfl, rfl, rfl, rfl⟩ rfl rfl rfl rfl rfl (by kernel_rfl) Try.func3 (by kernel_rfl)
    (of_decide_eq_true (by kernel_rfl)) (by unfold Func.isWrapper; first | (rw [if_pos (by decide +kernel)]; kernel_rfl) | (rw [if_neg (by decide +kernel)]; exact ⟨rfl, rfl⟩))
    (fun os started H enc _ => lifted os started H enc)
theorem proved : Rows.TlvWritesSaid := over
end Go.Proofs.Ytbdgiecnhgiogaa.tlvWrites
