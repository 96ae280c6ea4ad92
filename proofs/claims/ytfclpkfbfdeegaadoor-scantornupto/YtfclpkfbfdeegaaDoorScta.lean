/- Torn frames, the place below 0. -/
import Derived.Test.YtfclpkfbfdeegaaDoorSct
namespace Go.Proofs.YtfclpkfbfdeegaaDoor.scanTorn
open Go.ChangeShapes Go.WideShapes Go.ChangeAt Go.RowKit
set_option linter.unusedVariables false
set_option maxRecDepth 20000 in
set_option maxHeartbeats 4000000 in
theorem torn_lo (L : List Fi) (K : Nat) (a : Option Addr) (cap : Nat) (cut : Int) (w : World) (HL : Hid (FrsA w a L ∧ L.length = K ∧ fbulk L ≤ 1048576)) (HT : Hid (Tab w)) (hok : ∀ f ∈ L, fOk f) (hlo : cut < 0) :
    Calls Tryd.prog 4 #[.slice a K cap, .int .i64 cut] w fun e w' => e = .returned (.bool true) ∧ Below w.heap.size w w' := by
  have HLD : Hid (∀ w1, Below w.heap.size w w1 → Calls Tryd.prog 11 #[.slice a K cap] w1 fun e w' => ∃ vb ve, e = .returned (.tuple #[vb, ve, .bool true]) ∧ Own w' w1.heap.size vb (layF L) ∧ w'.ownsRow w1.heap.size 3 1 ve K (endV L K) ∧ Below w1.heap.size w1 w') := fun w1 hb1 =>
    (laidF_any L K a cap w1 HL.out.2.1 (HL.out.1.keep hb1) HL.out.2.2 (HT.out.keep hb1)).mono (by
      rintro e w' ⟨⟨_, vb, ve, h1, h2, h3⟩ | ⟨h1, _⟩, hb⟩
      · exact ⟨vb, ve, h1, h2, h3, hb⟩
      · exact absurd hok h1)
  obtain ⟨D, hD⟩ : ∃ D, (layF L).length = D := ⟨_, rfl⟩
  have hD2 : D ≤ 5242880 := by
    have h1 := layF_len L (fun f hf => (HL.out.1.oks f hf).len)
    have h2 := HL.out.2.2
    omega
  have HD : Hid ((layF L).length = D ∧ (∀ f ∈ L, Fok f.k.toNat f.s.toNat f.body) ∧ ∀ f ∈ L, (f.k.toNat : Int) = f.k ∧ (f.s.toNat : Int) = f.s) := ⟨hD, fun f hf => fok_of (hok f hf) (HL.out.1.oks f hf), fun f hf => by
    obtain ⟨k, s, h1, h2, _⟩ := encE_ok (hok f hf)
    rw [h1, h2]
    exact ⟨by simp, by simp⟩⟩
  have hKb : 4 * K ≤ 1048576 := by have := fbulk_len L; have := HL.out.2.1; have := HL.out.2.2; omega
  have hKI : (K : Int) ≤ 262144 := by omega
  have hDI : (D : Int) ≤ 5242880 := by omega
  have hCD : D ≤ D := Nat.le_refl _
  clear hok hD
  go_enter Tryd.func4, Tryd.ntmps4
  go_wp2_with (first
    | (go_at_call 6; refine (head12_any w HT.out).mono ?_; rintro e w1 ⟨rfl, hb1⟩; have HB1 : Hid (Below w.heap.size w w1) := hb1; clear hb1)
    | (go_at_call 11; refine (HLD.out _ HB1.out).mono ?_; rintro e w2 ⟨vb, ve, rfl, ho2, hoe, hb2⟩; obtain ⟨a2, c2, hv2, hc2, _, hy2, _⟩ := ho2.shape; rw [HD.out.1] at hv2 hc2; subst hv2; obtain ⟨ae, ce, rfl⟩ := row_shape hoe; have HB2 : Hid (Below w.heap.size w w2) := below_next HB1.out hb2; have HY2 : Hid (Bytes w2 a2 (layF L) ∧ D ≤ c2 ∧ w2.ownsRow w1.heap.size 3 1 (.slice ae K ce) K (endV L K)) := ⟨hy2, hc2, hoe⟩; clear ho2 hoe hb2 hy2 hc2))
  go_loopw [8, 9] (fun vk vg wr => ∃ k G : Nat, k ≤ K ∧ vk = .int .i64 k ∧ vg = .int .i64 G ∧ G = (layF (L.take k)).length ∧ G ≤ D ∧ w2 = wr) (fun vk _ _ => K - (intOf vk).toNat)
  case atStart => exact ⟨0, 0, Nat.zero_le _, rfl, rfl, by simp [layF], Nat.zero_le _, rfl⟩
  case round =>
    obtain ⟨k, G, hk, rfl, rfl, hG, hGC, hwr⟩ := hrel
    subst hwr
    have HG : Hid (G = (layF (L.take k)).length) := hG
    have hGCI : (G : Int) ≤ (D : Int) := by omega
    clear hG
    by_cases hkK : k < K
    · obtain ⟨f, hf⟩ := lt_get (L := L) (k := k) (by rw [HL.out.2.1]; exact hkK)
      obtain ⟨E1, hE1⟩ : ∃ E1, (layF (L.take (k + 1))).length = E1 := ⟨_, rfl⟩
      obtain ⟨ge, ce', hv, _, hlt⟩ := HY2.out.2.2.form (by omega)
      cases hv
      have ce0 := HY2.out.2.2.cellAt k (by omega)
      rw [show (endV L K)[k]? = some (.int .i64 (E1 : Int)) from by unfold endV; rw [List.getElem?_map, List.getElem?_range hkK, ← hE1]; rfl] at ce0
      have hE1D : E1 ≤ D := by rw [← hE1, ← HD.out.1]; exact take_le L (k + 1)
      have HE1 : Hid ((layF (L.take (k + 1))).length = E1 ∧ L[k]? = some f) := ⟨hE1, hf⟩
      have hkI : (k : Int) < (K : Int) := by omega
      clear hE1 hf
      by_cases hle : E1 ≤ D
      · have hleI : (E1 : Int) ≤ (D : Int) := by omega
        have d1 : decide ((E1 : Int) ≤ (D : Int)) = true := by simp; omega
        go_wp2
        go_roundw
        case rel => exact ⟨k + 1, E1, by omega, by go_num, by go_num, HE1.out.1.symm, hle, by first | rfl | trivial⟩
        case measure => simp [intOf]; omega
      · omega
    · obtain rfl : k = K := by omega
      have hDG : D = G := by have h := HG.out; rw [List.take_of_length_le (Nat.le_of_eq HL.out.2.1), HD.out.1] at h; exact h.symm
      subst hDG
      clear hGCI
      obtain ⟨s1, s2, s3⟩ := scan_cut L HD.out.2.1 k D (by have := HG.out; omega) (.inl ⟨HL.out.2.1.symm, HD.out.1.symm⟩)
      have HSC : Hid (scanL ((layF L).take D) = plF 0 (L.take k) ∧ endZ 0 (scanL ((layF L).take D)) = D ∧ allE ((layF L).take D) = 0) := ⟨s1, by rw [s2]; exact HG.out.symm, by rw [s3, ← HG.out]; rw [if_pos rfl]⟩
      have HLT : Hid ((L.take k).length = k) := by show _ = _; rw [List.length_take, HL.out.2.1]; omega
      have HYC : Hid (Bytes w2 a2 ((layF L).take D) ∧ ((layF L).take D).length = D) := ⟨HY2.out.1.take D, by rw [List.length_take, HD.out.1]; omega⟩
      have hc2I : (D : Int) ≤ (c2 : Int) := by have := HY2.out.2.1; omega
      clear s1 s2 s3
      go_wp2_with (go_at_call 12; refine (all_any ((layF L).take D) D a2 c2 w2 HYC.out.2 HYC.out.1 (by have := HY2.out.2.1; omega) (by omega) (HT.out.keep HB2.out)).mono ?_; rw [HSC.out.2.1, HSC.out.2.2, HSC.out.1]; rintro e w3 ⟨xs, v, rfl, hx, hr, hy, hb⟩; obtain ⟨a3, c3, rfl⟩ := row_shape hr; have hl : xs.length = k := (by have h := congrArg List.length hx; rw [List.length_map, plF_len, HLT.out] at h; exact h); rw [hl] at hr ⊢; have HX3 : Hid (xs.map It.fm = plF 0 (L.take k) ∧ OwnP w3 w2.heap.size (.slice a3 k c3) xs ∧ xs.length = k ∧ Below w2.heap.size w2 w3) := ⟨hx, OwnP.of (by rw [hl]; exact hr) hy, hl, hb⟩; have HB3 : Hid (Below w.heap.size w w3) := below_next HB2.out hb; clear hx hr hy hb hl)
      have HPX : Hid (PlcA w3 a3 xs) := plc_of2 HX3.out.2.1
      have HFX : Hid (FrsA w3 a L) := HL.out.1.keep HB3.out
      go_loopw [87] (fun vi wq => ∃ i : Nat, i ≤ k ∧ vi = .int .i64 i ∧ Below w3.heap.size w3 wq) (fun vi _ => k - (intOf vi).toNat)
      case atStart => exact ⟨0, Nat.zero_le _, rfl, Below.refl _ _⟩
      case round =>
        rename World => wq
        obtain ⟨i, hik, rfl, hbq⟩ := hrel
        have hsq := hbq.size
        by_cases hlt0 : i < k
        · obtain ⟨⟨fk, fs, body, ad, cp⟩, hf⟩ := lt_get (L := L) (k := i) (by rw [HL.out.2.1]; omega)
          obtain ⟨x, hx⟩ := lt_get (L := xs) (k := i) (by rw [HX3.out.2.2.1]; exact hlt0)
          obtain ⟨q, hq⟩ := plF_get (L.take k) 0 i _ (by rw [List.getElem?_take_of_lt hlt0]; exact hf)
          have hfm : x.fm = ⟨q, fk.toNat, fs.toNat, body⟩ := by
            have h := congrArg (fun M => M[i]?) HX3.out.1
            simp only [List.getElem?_map, hx, hq, Option.map_some, Option.some.injEq] at h
            exact h
          have hfm2 := List.mem_of_getElem? hf
          obtain ⟨kk, ks⟩ := HD.out.2.2 _ hfm2
          have hfo := (HFX.out.keep hbq).oks _ hfm2
          obtain ⟨b, off, rfl, hlt, _, _, c2, c3, c4⟩ := (HPX.out.keep hbq).at i x hx
          obtain ⟨a5, s5, e5, hy5, hm5⟩ := (HPX.out.keep hbq).byt x (List.mem_of_getElem? hx)
          rcases (HFX.out.keep hbq).lie with h0 | ⟨b', off', ha', hlt', hcs⟩
          · rw [h0] at hf; simp at hf
          subst ha'
          obtain ⟨d0, d1, d2⟩ := hcs i _ hf
          rw [hfm] at c2 c3 e5 hy5 hm5
          simp only at c2 c3 e5 hy5 hm5 kk ks d0 d1 d2
          rw [kk] at c2
          rw [ks] at c3
          have hyf := hfo.byt
          simp only at hyf
          rw [e5] at c4
          obtain ⟨m, hm⟩ : ∃ m, body.length = m := ⟨_, rfl⟩
          rw [hm] at c4 d2 hm5
          have HSM : Hid (∀ w', Below wq.heap.size wq w' → Calls Tryd.prog 10 #[FrV fk fs (.slice a5 m s5), FrV fk fs (.slice ad m cp)] w' fun e w'' => e = .returned (.bool true) ∧ Below w'.heap.size w' w'') := fun w' hw' => (fsame_any _ _ _ _ body body m m a5 ad s5 cp w' hm hm (hy5.keep hw') (hyf.keep hw') hm5 hm5 rfl rfl).mono (by rintro e w'' ⟨rfl, h⟩; exact ⟨by simp, h⟩)
          have hlI : (i : Int) < (k : Int) := by omega
          have hiK : (i : Int) < (k : Int) := by omega
          clear hf hx hq hfm hfm2 kk ks hfo hyf hy5 hm5 hcs hm e5
          go_wp2
          go_region_held3 (fun w' => w'.cell? ⟨b, off + i * 5 + 2, none⟩ = some (.int .i64 fk) ∧ w'.cell? ⟨b, off + i * 5 + 3, none⟩ = some (.int .i64 fs) ∧ w'.cell? ⟨b, off + i * 5 + 4, none⟩ = some (.slice a5 m s5) ∧ w'.cell? ⟨b', off' + i * 3, none⟩ = some (.int .i64 fk) ∧ w'.cell? ⟨b', off' + i * 3 + 1, none⟩ = some (.int .i64 fs) ∧ w'.cell? ⟨b', off' + i * 3 + 2, none⟩ = some (.slice ad m cp)) (go_keep) (first
            | (go_at_call 10; refine (HSM.out _ (below_drewN (Below.refl _ _) 1)).mono ?_; rintro e w4 ⟨rfl, hb4⟩; have zc2 : w4.cell? ⟨b, off + i * 5 + 2, none⟩ = some (.int .i64 fk) := (hb4.cell (p := ⟨b, off + i * 5 + 2, none⟩) hlt).trans c2; have zc3 : w4.cell? ⟨b, off + i * 5 + 3, none⟩ = some (.int .i64 fs) := (hb4.cell (p := ⟨b, off + i * 5 + 3, none⟩) hlt).trans c3; have zc4 : w4.cell? ⟨b, off + i * 5 + 4, none⟩ = some (.slice a5 m s5) := (hb4.cell (p := ⟨b, off + i * 5 + 4, none⟩) hlt).trans c4; have zd0 : w4.cell? ⟨b', off' + i * 3, none⟩ = some (.int .i64 fk) := (hb4.cell (p := ⟨b', off' + i * 3, none⟩) hlt').trans d0; have zd1 : w4.cell? ⟨b', off' + i * 3 + 1, none⟩ = some (.int .i64 fs) := (hb4.cell (p := ⟨b', off' + i * 3 + 1, none⟩) hlt').trans d1; have zd2 : w4.cell? ⟨b', off' + i * 3 + 2, none⟩ = some (.slice ad m cp) := (hb4.cell (p := ⟨b', off' + i * 3 + 2, none⟩) hlt').trans d2; have HB4 : Hid (Below wq.heap.size wq w4) := (below_drewN (Below.refl wq.heap.size wq) _).trans hb4; clear hb4)
            | fail)
          all_goals go_wp2
          all_goals exact ⟨⟨i + 1, by omega, by go_num, hbq.trans (HB4.out.mono hsq)⟩, by simp [intOf]; omega⟩
        · go_wp2
          go_ret
          exact ⟨rfl, below_next HB3.out hbq⟩
end Go.Proofs.YtfclpkfbfdeegaaDoor.scanTorn
