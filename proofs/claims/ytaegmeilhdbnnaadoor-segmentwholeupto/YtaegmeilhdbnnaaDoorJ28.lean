/- Own texts, joined: Sg28, Sgw. -/
import Derived.Test.YtaegmeilhdbnnaaDoorJ27
import Derived.Test.YtaegmeilhdbnnaaDoorJ23
import Derived.Test.YtaegmeilhdbnnaaDoorJ15
import Derived.Test.YtaegmeilhdbnnaaDoorJ19
import Derived.Test.YtaegmeilhdbnnaaDoorJ09
import Derived.BigQuiet
namespace Go.Proofs.YtaegmeilhdbnnaaDoor
open Go.ChangeShapes Go.WideShapes Go.ChangeAt Go.RowKit
set_option linter.unusedVariables false
theorem plF_pos : ∀ (M : List Fi) (p i : Nat) (f : Fi), M[i]? = some f → (plF p M)[i]? = some ⟨p + (layF (M.take i)).length, f.k.toNat, f.s.toNat, f.body⟩
  | [], p, i, f, h => by simp at h
  | g :: M, p, 0, f, h => by simp at h; subst h; simp [plF, layF]
  | g :: M, p, i + 1, f, h => by
    have h2 := plF_pos M (p + (g.body.length + 20)) i f (by simpa using h)
    have hl : (layF ((g :: M).take (i + 1))).length = (g.body.length + 20) + (layF (M.take i)).length := by
      rw [List.take_succ_cons]
      show (frameL g.k.toNat g.s.toNat g.body ++ layF (M.take i)).length = _
      rw [List.length_append, frameL_length]
    show (plF (p + (g.body.length + 20)) M)[i]? = _
    rw [h2, hl, Nat.add_assoc p]
theorem ev_at (y n : Nat) (A : Nat → Option Addr) (L : Nat → List Nat) (C : Nat → Nat) (h j : Nat) (hj : j < n) : (plF h (evF y n A L C))[j]? = some ⟨h + (layF (evF y j A L C)).length, 1, y + j, L j⟩ := by
  have h2 := plF_pos (evF y n A L C) h j _ (evF_get y n A L C j hj)
  rw [evF_take y n A L C j (by omega)] at h2
  exact h2
theorem ev_end (y : Nat) (A : Nat → Option Addr) (L : Nat → List Nat) (C : Nat → Nat) (j : Nat) : (layF (evF y (j + 1) A L C)).length = (layF (evF y j A L C)).length + ((L j).length + 20) := by
  rw [layF_evF, layF_evF, tot]
  omega
theorem endW_at (h y : Nat) (A : Nat → Option Addr) (L : Nat → List Nat) (C : Nat → Nat) (n j : Nat) (hj : j < n) : (endW h y A L C n)[j]? = some (.int .i64 ((h : Int) + ((layF (evF y (j + 1) A L C)).length : Int))) := by
  unfold endW
  rw [List.getElem?_map, List.getElem?_range hj]
  rfl
theorem own_bts4 {w : World} {base n c : Nat} {a : Option Addr} {l : List Nat} (h : Own w base (.slice a n c) l) : Bytes w a l := by
  obtain ⟨a2, c2, h1, _, _, h2, _⟩ := h.shape
  simp only [Value.slice.injEq] at h1
  rw [h1.1]
  exact h2
theorem bts_of4 {w : World} {base n c : Nat} {a : Option Addr} {l : List Nat} (h : w.ownsRow base 5 1 (.slice a n c) n (B8 l)) (hn : l.length = n) (hl : ∀ x ∈ l, x < 256) : Bytes w a l := own_bts4 (base := base) (n := n) (c := c) ⟨fun i => getD_lt hl i, by rw [hn]; exact h⟩
theorem row_cap4 {w : World} {base n c size : Nat} {e : TypeId} {a : Option Addr} {xs : List Value} (h : w.ownsRow base e size (.slice a n c) n xs) : n ≤ c := by
  rcases h.2 with ⟨h1, h2⟩ | ⟨g, cap, cur, h1, _, _, h2, _⟩
  · omega
  · cases h1; exact h2
end Go.Proofs.YtaegmeilhdbnnaaDoor
namespace Go.Proofs.YtaegmeilhdbnnaaDoor.segmentWhole
open Go.ChangeShapes Go.WideShapes Go.ChangeAt Go.RowKit
set_option linter.unusedVariables false
theorem lay_lt4 : ∀ M : List Fi, (∀ f ∈ M, Fok f.k.toNat f.s.toNat f.body) → ∀ z ∈ layF M, z < 256 := by
  intro M
  induction M with
  | nil => intro _ z hz; cases hz
  | cons f r ih =>
    intro hM z hz
    rcases List.mem_append.1 hz with h | h
    · have hfo := hM f (List.mem_cons_self ..)
      exact frameL_lt _ _ _ (by have := hfo.k7; omega) hfo.byt z h
    · exact ih (fun g hg => hM g (List.mem_cons_of_mem _ hg)) z h
set_option maxRecDepth 20000 in
set_option maxHeartbeats 8000000 in
theorem whole_any (x y n : Nat) (a : Option Addr) (cap : Nat) (A : Nat → Option Addr) (L : Nat → List Nat) (Cp : Nat → Nat) (st : Nat) (wh : Int) (w : World) (HP : Hid (Pieces w a n A L Cp ∧ EvB n L ∧ Tab w ∧ FewP (x : Int) (y : Int) n L)) (hx1 : 1 ≤ x) (hx : x ≤ 999999) (hy1 : 1 ≤ y) (hy : y ≤ 549755813888) (hn1 : 1 ≤ n) (hn : n ≤ 512) (hst1 : 1 ≤ st) (hst : st ≤ 64) :
    Calls Tryd.prog 7 #[.int .i64 (x : Int), .int .i64 (y : Int), .slice a n cap, .int .i64 (st : Int), .int .i64 wh] w fun e w' => e = .returned (.bool true) ∧ Below w.heap.size w w' := by
  obtain ⟨i0, hi, hz0, hz1, hz2⟩ := info_parts Tryd.info5
  obtain ⟨h, hh⟩ : ∃ h, (hdrL x y).length = h := ⟨_, rfl⟩
  have hh42 : h ≤ 42 := by rw [← hh, hdrL_len]; have := (hdr_body x y hx (by omega)).2; omega
  have hTj : ∀ j, j ≤ n → (layF (evF y j A L Cp)).length ≤ 16404 * j := by
    intro j hj
    rw [layF_evF]
    have : ∀ j, j ≤ n → tot L j ≤ 16384 * j := by
      intro j
      induction j with
      | zero => intro _; simp [tot]
      | succ j ih => intro hj; have h1 := ih (by omega); have h2 := (HP.out.2.1 j (by omega)).2; rw [tot]; omega
    have := this j hj
    omega
  have hTn := hTj n (Nat.le_refl _)
  obtain ⟨D, hD⟩ : ∃ D, (hdrL x y ++ layF (evF y n A L Cp)).length = D := ⟨_, rfl⟩
  have hD2 : D ≤ 8400000 := by rw [← hD, List.length_append, hh]; omega
  obtain ⟨E, hE, hEok, hE0, hFV, hSS⟩ := seg_sealed x y n A L Cp st hx1 hx hy1 hy hn1 hn HP.out.2.1 hst1 hst (by rw [hD]; omega)
  rw [hh] at hE
  have hEn : E.length = n := by rw [hE, plF_len, evF_len]
  have hne : E ≠ [] := by intro h; rw [h] at hEn; simp at hEn; omega
  have hfo := evF_ok (y := y) (A := A) (C := Cp) HP.out.2.1 hn hy
  have hpb : ∀ f ∈ E, (f.pos : Int) < (D : Int) := fun f hf => by
    rw [hE] at hf
    have h1 := plF_below h _ hfo f hf
    have h2 : D = h + (layF (evF y n A L Cp)).length := by rw [← hD, List.length_append, hh]
    omega
  obtain ⟨ff1, ff2, _⟩ := foot_facts y E st hEok (by omega) hst
  have hcl := closing_seal x y E st (D : Int) hx (by omega) hst1 hst hEok hne hpb
  rw [hEn] at hcl
  obtain ⟨cl1, cl2, cl3⟩ := cl_some hcl
  have hMv := hEok.marks (st : Int)
  obtain ⟨sl, hsl⟩ : ∃ sl, sealL x y E st = sl := ⟨_, rfl⟩
  have hslm : ∀ z ∈ sl, z < 256 := by rw [← hsl]; exact frameL_lt 3 x _ (by omega) ff1
  rw [hsl] at hFV hSS cl1 cl2 cl3
  obtain ⟨Z, hZ⟩ : ∃ Z, sl.length = Z := ⟨_, rfl⟩
  have hZb : 20 ≤ Z ∧ Z ≤ 10300 := by rw [← hZ, ← hsl]; unfold sealL; rw [frameL_length]; omega
  obtain ⟨t1, t2, t3, t4, t5, t6, t7, t8⟩ := hSS _ rfl
  rw [hD] at t5
  rw [hZ] at t7
  obtain ⟨kk, hkk, hkc⟩ : ∃ kk : Nat, kk < n ∧ ((wh < 0 ∧ kk = n - 1) ∨ (¬ wh < 0 ∧ (n : Int) ≤ wh ∧ kk = n - 1) ∨ (¬ wh < 0 ∧ ¬ (n : Int) ≤ wh ∧ wh = (kk : Int))) := by
    by_cases h1 : wh < 0
    · exact ⟨n - 1, by omega, .inl ⟨h1, rfl⟩⟩
    · by_cases h2 : (n : Int) ≤ wh
      · exact ⟨n - 1, by omega, .inr (.inl ⟨h1, h2, rfl⟩)⟩
      · exact ⟨wh.toNat, by omega, .inr (.inr ⟨h1, h2, by omega⟩)⟩
  obtain ⟨jm, fm, hfm, hj1, hj2, hsk⟩ := seek_near y E st hst1 hEok kk (by rw [hEn]; exact hkk)
  obtain ⟨M, hM⟩ : ∃ M, bldL (st : Int) (E.map evP) = M := ⟨_, rfl⟩
  rw [hM] at t8 hsk cl3 hMv
  obtain ⟨m, hm⟩ : ∃ m, M.length = m := ⟨_, rfl⟩
  have hm5 : m ≤ 512 := by have h1 := bldL_len (st : Int) (E.map evP); rw [hM, List.length_map] at h1; omega
  obtain ⟨pm, hpm⟩ : ∃ pm, fm.pos = pm := ⟨_, rfl⟩
  rw [hpm] at hsk
  have hpmD : pm < D := by have := hpb fm (List.mem_of_getElem? hfm); omega
  obtain ⟨ym, hym⟩ : ∃ ym, y + jm = ym := ⟨_, rfl⟩
  rw [hym] at hsk
  have hlm : ∀ z ∈ (hdrL x y ++ layF (evF y n A L Cp)), z < 256 := by
    intro z hz
    rcases List.mem_append.1 hz with h | h
    · exact frameL_lt 2 x _ (by omega) (hdr_body x y hx (by omega)).1 z h
    · exact lay_lt4 _ hfo z h
  have hD20 : 20 ≤ D := by have h2 := hdrL_len x y; rw [← hD, List.length_append]; omega
  have hl0n : (hdrL x y ++ layF (evF y n A L Cp)) ≠ [] := by intro he; rw [he] at hD; simp at hD; omega
  have HL0 : Hid ((hdrL x y ++ layF (evF y n A L Cp)).length = D ∧ (hdrL x y ++ layF (evF y n A L Cp)) ≠ [] ∧ sl.length = Z ∧ sl ≠ [] ∧ (∀ z ∈ (hdrL x y ++ layF (evF y n A L Cp)) ++ sl, z < 256) ∧ ((hdrL x y ++ layF (evF y n A L Cp)) ++ sl).length = D + Z) := ⟨hD, hl0n, hZ, fun he => by rw [he] at hZ; simp at hZ; omega, fun z hz => by rcases List.mem_append.1 hz with h | h; exact hlm z h; exact hslm z h, by rw [List.length_append, hD, hZ]⟩
  have HFT : Hid (ftE (hdrL x y ++ layF (evF y n A L Cp)) (st : Int) = 0 ∧ ftV (hdrL x y ++ layF (evF y n A L Cp)) (st : Int) = sl) := ⟨hE0, hFV⟩
  have HCL : Hid (clE sl (x : Int) (y : Int) (n : Int) (D : Int) = 0 ∧ clS sl (x : Int) (y : Int) (n : Int) (D : Int) = st ∧ clM sl (x : Int) (y : Int) (n : Int) (D : Int) = M) := ⟨cl1, cl2, cl3⟩
  have HMM : Hid (M.length = m ∧ Rise M) := ⟨hm, rise_valid hMv⟩
  have HSK : Hid (∀ s : Int, s = (y : Int) + (kk : Int) → seekR s M = (((ym : Int), (pm : Int)), true)) := fun s hs => by rw [hs]; exact hsk
  have HEE : Hid (E = plF h (evF y n A L Cp) ∧ E[jm]? = some fm ∧ fm.pos = pm) := ⟨hE, hfm, hpm⟩
  have HTJ : Hid (∀ j, j ≤ n → (layF (evF y j A L Cp)).length ≤ 16404 * j) := hTj
  have HNN : Hid (∀ base e w', ScanP ((hdrL x y ++ layF (evF y n A L Cp)) ++ sl) base e w' → ∃ (xs : List It) (a1 a2 : Option Addr) (c1 c2 : Nat), e = .returned (.tuple #[SgV (x : Int) (y : Int) (n : Int) true (st : Int) (.slice a2 m c2) ((D : Int) + (Z : Int)), .slice a1 n c1, .int .i64 0]) ∧ xs.map It.fm = E ∧ xs.length = n ∧ PlcA w' a1 xs ∧ Marks w' a2 M) := by
    rintro base e w' (⟨hn, _⟩ | ⟨_, xs, v, mv, z1, z2, z3, z4⟩)
    · rw [t1] at hn; cases hn
    · obtain ⟨a1, c1, hv, hpl⟩ := z3.plc
      rw [t8] at z4
      obtain ⟨a2, c2, hv2, _, _, hmk, _⟩ := z4.shape
      have hxk : xs.length = n := by have h2 := congrArg List.length z1; rw [List.length_map, t4, hEn] at h2; exact h2
      rw [hxk] at hv
      rw [hm] at hv2
      subst hv hv2
      refine ⟨xs, a1, a2, c1, c2, ?_, by rw [z1, t4], hxk, hpl, hmk⟩
      rw [z2, t2, t3, t4, t5, t6, t7, hEn, decide_eq_true (show 0 < st by omega)]
  have HFW : Hid (∀ w1, Below w.heap.size w w1 → Calls Tryd.prog 26 #[.int .i64 (x : Int), .int .i64 (y : Int), .slice a n cap] w1 fun e w' => e = .returned (.bool true) ∧ w1 = w') := fun w1 hb1 =>
    (few_any (x : Int) (y : Int) n a cap A L Cp w1 (HP.out.1.keep hb1) (by omega) (fun i hi => by have := (HP.out.2.1 i hi).2; omega)).mono (by
      rintro e w' ⟨⟨_, h1⟩ | ⟨h1, _⟩, h2⟩
      · exact ⟨h1, h2⟩
      · exact absurd HP.out.2.2.2 h1)
  have HLD : Hid (∀ w1, Below w.heap.size w w1 → Calls Tryd.prog 27 #[.int .i64 (x : Int), .int .i64 (y : Int), .slice a n cap] w1 fun e w' => ∃ g2 c2 ge ce, e = .returned (.tuple #[.slice (some ⟨g2, 0, none⟩) D c2, .slice (some ⟨ge, 0, none⟩) n ce, .bool true]) ∧ Bytes w' (some ⟨g2, 0, none⟩) (hdrL x y ++ layF (evF y n A L Cp)) ∧ w'.ownsRow w1.heap.size 3 1 (.slice (some ⟨ge, 0, none⟩) n ce) n (endW h y A L Cp n) ∧ D ≤ c2 ∧ ge < w'.heap.size ∧ Below w1.heap.size w1 w') := fun w1 hb1 =>
    (laid14_any x y n a cap A L Cp w1 (HP.out.1.keep hb1) hx1 hx hy1 hy hn1 hn HP.out.2.1 (HP.out.2.2.1.keep hb1)).mono (by
      rintro e w' ⟨vb, ve, rfl, h2, h3, hb⟩
      obtain ⟨g2, c2, hv2, hc2, hy2⟩ := h2.row HL0.out.2.1
      rw [HL0.out.1] at hv2 hc2
      obtain ⟨ge, ce, hv, _, hlt⟩ := World.ownsRow.form h3 (by omega)
      subst hv hv2
      rw [hh] at h3
      exact ⟨g2, c2, ge, ce, rfl, own_bts4 h2, h3, hc2, hlt, hb⟩)
  have hxI : (x : Int) ≤ 999999 := by omega
  have hyI : (y : Int) ≤ 549755813888 := by omega
  have hnI : (n : Int) ≤ 512 := by omega
  have hhI : (h : Int) ≤ 42 := by omega
  have hDI : (D : Int) ≤ 8400000 := by omega
  have hZI : (Z : Int) ≤ 10300 := by omega
  have hst1I : ¬ (st : Int) < 1 := by omega
  have hst64I : ¬ (64 : Int) < (st : Int) := by omega
  obtain ⟨B, hB⟩ : ∃ B, D + Z = B := ⟨_, rfl⟩
  have hDZ : (D : Int) + (Z : Int) = (B : Int) := by omega
  have hBI : (B : Int) ≤ 8410300 := by omega
  have HB0 : Hid (D + Z = B) := hB
  rw [hDZ] at HNN
  have hymI : (ym : Int) - (y : Int) = (jm : Int) := by omega
  have hymb : (ym : Int) ≤ 549755814400 := by omega
  have hjmI : (jm : Int) < (n : Int) := by omega
  have hpmI : (pm : Int) ≤ 8400000 := by omega
  have HCP : Hid (∀ w' {g2 c2 : Nat}, Bytes w' (some ⟨g2, 0, none⟩) (hdrL x y ++ layF (evF y n A L Cp)) → Calls Tryd.prog 15 #[.slice (some ⟨g2, 0, none⟩) D c2] w' fun e w'' => ∃ g5 c5, e = .returned (.slice (some ⟨g5, 0, none⟩) D c5) ∧ w''.ownsRow w'.heap.size 5 1 (.slice (some ⟨g5, 0, none⟩) D c5) D (B8 (hdrL x y ++ layF (evF y n A L Cp))) ∧ Below w'.heap.size w' w'') := fun w' g2 c2 hw' => by
    have h1 := copy_any (hdrL x y ++ layF (evF y n A L Cp)) (some ⟨g2, 0, none⟩) c2 w' hw' (by rw [HL0.out.1]; omega)
    rw [HL0.out.1] at h1
    refine h1.mono ?_
    rintro e w'' ⟨v, rfl, ho, hb⟩
    obtain ⟨g5, c5, hv, _, _⟩ := ho.row HL0.out.2.1
    rw [HL0.out.1] at hv
    subst hv
    exact ⟨g5, c5, rfl, by have h2 := ho.2; rw [HL0.out.1] at h2; exact h2, hb⟩
  clear hh hTn hTj hD hE hEok hE0 hFV hSS hEn hne hfo hpb ff1 ff2 hcl cl1 cl2 cl3 hMv hsl hslm hZ t1 t2 t3 t4 t5 t6 t7 t8 hM hm hlm hl0n hsk hfm hpm hB
  go_enter Tryd.func7, Tryd.ntmps7
  go_wp2_with (first
    | (go_at_call 9; refine (head14_any w HP.out.2.2.1).mono ?_; rintro e w1 ⟨rfl, hb1⟩; have HB1 : Hid (Below w.heap.size w w1) := hb1; clear hb1)
    | (go_at_call 26; refine (HFW.out w1 HB1.out).mono ?_; rintro e w9 ⟨rfl, rfl⟩)
    | (go_at_call 27; refine (HLD.out w1 HB1.out).mono ?_; rintro e w2 ⟨g2, c2, ge, ce, rfl, hy2, he2, hc2, hge2, hb2⟩; have HB2 : Hid (Below w.heap.size w w2 ∧ Bytes w2 (some ⟨g2, 0, none⟩) (hdrL x y ++ layF (evF y n A L Cp)) ∧ w2.ownsRow w1.heap.size 3 1 (.slice (some ⟨ge, 0, none⟩) n ce) n (endW h y A L Cp n)) := ⟨below_next HB1.out hb2, hy2, he2⟩; clear hb2 hy2 he2)
    | (go_at_call 21; refine (footer14_any (hdrL x y ++ layF (evF y n A L Cp)) D (some ⟨g2, 0, none⟩) c2 (st : Int) w2 HL0.out.1 HB2.out.2.1 hc2 (by omega) (HP.out.2.2.1.keep HB2.out.1)).mono ?_; rw [HFT.out.1, HFT.out.2]; rintro r w4 ⟨v4, rfl, ho4, hb4⟩; obtain ⟨g4, c4, hv4, hc4, hy4⟩ := ho4.row HL0.out.2.2.2.1; rw [HL0.out.2.2.1] at hv4 hc4; subst hv4; have HB4 : Hid (Below w.heap.size w w4 ∧ Bytes w4 (some ⟨g2, 0, none⟩) (hdrL x y ++ layF (evF y n A L Cp)) ∧ w4.ownsRow w1.heap.size 3 1 (.slice (some ⟨ge, 0, none⟩) n ce) n (endW h y A L Cp n) ∧ Bytes w4 (some ⟨g4, 0, none⟩) sl) := ⟨below_next HB2.out.1 hb4, HB2.out.2.1.keep hb4, own_below HB2.out.2.2 hb4, hy4⟩; have hge4 : ge < w4.heap.size := Nat.lt_of_lt_of_le hge2 hb4.size; clear ho4 hb4 hy4)
    | (go_at_call 15; refine (HCP.out w4 HB4.out.2.1).mono ?_; rintro e w5 ⟨g5, c5, rfl, ho5, hb5⟩; have HB5 : Hid (Below w4.heap.size w4 w5 ∧ w5.ownsRow w4.heap.size 5 1 (.slice (some ⟨g5, 0, none⟩) D c5) D (B8 (hdrL x y ++ layF (evF y n A L Cp)))) := ⟨hb5, ho5⟩; have hs45 : w4.heap.size ≤ w5.heap.size := hb5.size; clear ho5 hb5)
    | (at_builtin; refine wpList_append_own _ rfl _ _ 22 rfl w4.heap.size 5 i0 (.int .u8 0) 1 1 Tryd.underlying22 hi hz0 hz1 hz2 rfl (by decide) _ _ _ rfl HB5.out.2 ⟨g4, 0, none⟩ Z c4 (B8 sl) rfl (by rw [B8_length, HL0.out.2.2.1, Nat.mul_one]) (bytes_cells (HB4.out.2.2.2.keep HB5.out.1)) (B8_one _) (by unfold maxLen; omega) (by omega) hs45 ?_; intro v6 w6 ho6 hg6 _; have HB6 : Hid (Below w4.heap.size w4 w6 ∧ w6.ownsRow w4.heap.size 5 1 v6 B (B8 ((hdrL x y ++ layF (evF y n A L Cp)) ++ sl))) := ⟨grown_row HB5.out.1 HB5.out.2 hs45 hg6, (by rw [B8_append, ← HB0.out]; exact ho6)⟩; obtain ⟨g6, c6, hv6, _, _⟩ := World.ownsRow.form HB6.out.2 (by omega); subst hv6; have hc6 : B ≤ c6 := row_cap4 HB6.out.2; clear ho6 hg6)
    | (go_at_call 17; refine (scan14_any ((hdrL x y ++ layF (evF y n A L Cp)) ++ sl) B (some ⟨g6, 0, none⟩) c6 w6 (HL0.out.2.2.2.2.2.trans HB0.out) (bts_of4 HB6.out.2 (HL0.out.2.2.2.2.2.trans HB0.out) HL0.out.2.2.2.2.1) hc6 (by omega) (HP.out.2.2.1.keep (below_next HB4.out.1 HB6.out.1))).mono ?_; rintro r wd ⟨hsd, hbd⟩; obtain ⟨xs, a1, a2, c1, c2', rfl, hx1', hx2', hx3', hx4'⟩ := HNN.out _ _ _ hsd; have HWD : Hid (Below w.heap.size w wd ∧ Below w4.heap.size w4 wd) := ⟨below_next (below_next HB4.out.1 HB6.out.1) hbd, below_next HB6.out.1 hbd⟩; have HXD : Hid (xs.map It.fm = E ∧ xs.length = n ∧ PlcA wd a1 xs ∧ Marks wd a2 M) := ⟨hx1', hx2', hx3', hx4'⟩; clear hsd hbd hx1' hx2' hx3' hx4')
    | fail)
  obtain ⟨W0, hW0⟩ : ∃ W0, wd.alloc (.cells #[.int .i64 (x : Int), .int .i64 (y : Int), .int .i64 (n : Int), .bool true, .int .i64 (st : Int), .slice a2 m c2', .int .i64 (B : Int)] 38) = W0 := ⟨_, rfl⟩
  have HW0 : Hid (Below wd.heap.size wd W0 ∧ W0.heap[wd.heap.size]? = some (.cells #[.int .i64 (x : Int), .int .i64 (y : Int), .int .i64 (n : Int), .bool true, .int .i64 (st : Int), .slice a2 m c2', .int .i64 (B : Int)] 38) ∧ wd.heap.size < W0.heap.size) := by rw [← hW0]; exact ⟨(Below.refl _ _).alloc (Nat.le_refl _) _, heap_alloc_new wd _, by simp⟩
  rw [hW0]
  clear hW0
  go_loopw [107] (fun vj wq => ∃ j : Nat, j ≤ n ∧ vj = .int .i64 j ∧ Below W0.heap.size W0 wq) (fun vj _ => n - (intOf vj).toNat)
  case atStart => exact ⟨0, Nat.zero_le _, rfl, Below.refl _ _⟩
  case round =>
    rename World => wq
    obtain ⟨j, hjk, rfl, hbq⟩ := hrel
    have hsq := hbq.size
    have HQD : Hid (Below wd.heap.size wd wq) := HW0.out.1.trans (hbq.mono (Nat.le_of_lt HW0.out.2.2))
    by_cases hjl : j < n
    · obtain ⟨z, hz⟩ := lt_get (L := xs) (k := j) (by rw [HXD.out.2.1]; exact hjl)
      have hev := ev_at y n A L Cp h j hjl
      have hee := ev_end y A L Cp j
      have hew := endW_at h y A L Cp n j hjl
      have htj := HTJ.out (j + 1) hjl
      rw [← HEE.out.1] at hev
      obtain ⟨q0, hq0⟩ : ∃ q0, (layF (evF y j A L Cp)).length = q0 := ⟨_, rfl⟩
      rw [hq0] at hev hee
      obtain ⟨q, hq⟩ : ∃ q, h + q0 = q := ⟨_, rfl⟩
      obtain ⟨sq, hsq2⟩ : ∃ sq, y + j = sq := ⟨_, rfl⟩
      rw [hq, hsq2] at hev
      have hfm : z.fm = ⟨q, 1, sq, L j⟩ := by
        have h := congrArg (fun M => M[j]?) HXD.out.1
        simp only [List.getElem?_map, hz, hev, Option.map_some, Option.some.injEq] at h
        exact h
      obtain ⟨bx, ox, hax, hltx, d0, d1, _, d3, d4⟩ := (HXD.out.2.2.1.keep HQD.out).at j z hz
      subst hax
      obtain ⟨a5, s5, e5, hy5, hm5⟩ := (HXD.out.2.2.1.keep HQD.out).byt z (List.mem_of_getElem? hz)
      rw [hfm] at e5 hy5 hm5 d0 d1 d3
      simp only at e5 hy5 hm5 d0 d1 d3
      rw [e5] at d4
      have hpc := (HP.out.1.keep HWD.out.1).keep HQD.out
      rcases hpc.1 with h0 | ⟨bp, op, hap, hltp, hcp⟩
      · omega
      subst hap
      have p0 := hcp j hjl
      have hyp := (hpc.2 j hjl).1
      obtain ⟨ml, hml⟩ : ∃ m, (L j).length = m := ⟨_, rfl⟩
      rw [hml] at d4 p0 hm5 d1 hee
      rw [hee] at hew htj
      obtain ⟨en, hen⟩ : ∃ en : Nat, (h : Int) + ((q0 + (ml + 20) : Nat) : Int) = (en : Int) := ⟨h + (q0 + (ml + 20)), by omega⟩
      rw [hen] at hew
      have e0 : wq.cell? ⟨ge, j, none⟩ = some (.int .i64 (en : Int)) := by
        rw [World.ownsRow.cellAt (own_below HB4.out.2.2.1 (below_next HWD.out.2 HQD.out)) j (by omega)]
        exact hew
      have hgq : ge < wq.heap.size := Nat.lt_of_lt_of_le hge4 (below_next HWD.out.2 HQD.out).size
      have hen2 : (q : Int) + ((ml : Int) + 20) = (en : Int) := by omega
      have henb : (en : Int) ≤ 8400000 := by omega
      have hsqI : (y : Int) + (j : Int) = (sq : Int) := by omega
      have hsqb : (sq : Int) ≤ 549755814400 := by omega
      have HSM : Hid (∀ nn, Calls Tryd.prog 12 #[.slice a5 ml s5, .slice (A j) ml (Cp j)] (wq.drewN nn) fun e w'' => e = .returned (.bool true) ∧ ∃ k, w'' = (wq.drewN nn).drewN k) := fun nn => by
        have h1 := same_at (L j) (L j) ml ml a5 (A j) s5 (Cp j) (wq.drewN nn) hml hml (hy5.drewN _) (hyp.drewN _) (by rw [hml]; exact hm5) (by rw [hml]; exact hm5)
        rw [decide_eq_true (rfl : L j = L j)] at h1
        exact h1
      have hjI : (j : Int) < (n : Int) := by omega
      clear hz hfm hy5 hm5 hpc hcp hyp hml e5 hev hee hew htj hq0 hq hsq2 hen
      go_wp2
      go_quiet ((go_at_call 12; with_reducible exact Calls.quiet_of (HSM.out _)))
      go_wp2
      go_roundw
      case rel => exact ⟨j + 1, by omega, by go_num, below_drewN hbq _⟩
      case measure => simp [intOf]; omega
    · obtain rfl : n = j := by omega
      obtain ⟨z, hz⟩ := lt_get (L := xs) (k := jm) (by rw [HXD.out.2.1]; omega)
      have hfm : z.fm = fm := by
        have h := congrArg (fun M => M[jm]?) HXD.out.1
        simp only [List.getElem?_map, hz, HEE.out.2.1, Option.map_some, Option.some.injEq] at h
        exact h
      obtain ⟨bx, ox, hax, hltd, mm0, _, _, _, _⟩ := HXD.out.2.2.1.at jm z hz
      subst hax
      rw [hfm, HEE.out.2.2] at mm0
      have b5 : wq.cell? ⟨wd.heap.size, 5, none⟩ = some (.slice a2 m c2') := by rw [cell_of_row _ _ 5 _ _ _ ((hbq.block _ HW0.out.2.2).trans HW0.out.2.1)]; rfl
      have hdq : wd.heap.size < wq.heap.size := Nat.lt_of_lt_of_le HW0.out.2.2 hsq
      clear hz hfm
      rcases hkc with ⟨hc1, hc2⟩ | ⟨hc1, hc2, hc3⟩ | ⟨hc1, hc2, hc3⟩
      · have hk1 : (n : Int) - 1 = (kk : Int) := by omega
        have hk2 : (y : Int) + (kk : Int) ≤ 549755814400 := by omega
        have hk3 : (jm : Int) ≤ (kk : Int) := by omega
        have hk4 : (kk : Int) - (jm : Int) < (st : Int) := by omega
        clear hc2
        go_wp2_with (first
          | (go_at_call 23; refine (closing_any sl (x : Int) (y : Int) (n : Int) (D : Int) Z (some ⟨g4, 0, none⟩) c4 wq HL0.out.2.2.1 ((HB4.out.2.2.2.keep HWD.out.2).keep HQD.out) hc4 (by omega) (HP.out.2.2.1.keep (below_next HWD.out.1 HQD.out))).mono ?_; rw [HCL.out.1, HCL.out.2.1, HCL.out.2.2]; rintro r we ⟨ve, rfl, hoe, hbe⟩; obtain ⟨ae, ce', hve, _, _, hme, _⟩ := hoe.shape; rw [HMM.out.1] at hve; subst hve; have HME : Hid (Marks we ae M ∧ Below wq.heap.size wq we) := ⟨hme, hbe⟩; have k5 : we.cell? ⟨wd.heap.size, 5, none⟩ = some (.slice a2 m c2') := (hbe.cell (p := ⟨wd.heap.size, 5, none⟩) hdq).trans b5; clear hoe hbe hme)
          | (go_at_call 25; refine (msame_any M M m m ae a2 ce' c2' we HMM.out.1 HMM.out.1 HME.out.1 ((HXD.out.2.2.2.keep HQD.out).keep HME.out.2) (by unfold maxLen; omega) (by unfold maxLen; omega)).mono ?_; rw [decide_eq_true (rfl : M = M)]; rintro r wf ⟨rfl, hbf⟩; have HBF : Hid (Below we.heap.size we wf) := hbf; clear hbf)
          | (go_at_call 28; refine (seek_any M m ae ce' _ wf HMM.out.1 (HME.out.1.keep HBF.out) HMM.out.2 (by omega)).mono ?_; rw [HSK.out _ (by omega)]; rintro r wg ⟨rfl, hbg⟩; have HBG : Hid (Below wf.heap.size wf wg) := hbg; have HQG : Hid (Below wd.heap.size wd wg) := HQD.out.trans (((HME.out.2.trans (HBF.out.mono HME.out.2.size)).trans (HBG.out.mono (Nat.le_trans HME.out.2.size HBF.out.size))).mono HQD.out.size); have m0 : wg.cell? ⟨bx, ox + jm * 5, none⟩ = some (.int .i64 (pm : Int)) := (HQG.out.cell (p := ⟨bx, ox + jm * 5, none⟩) hltd).trans mm0; have hlg : bx < wg.heap.size := Nat.lt_of_lt_of_le hltd HQG.out.size; clear hbg)
          | fail)
        go_quiet (fail)
        go_wp2
        go_ret
        exact ⟨rfl, below_drewN ((below_next HWD.out.1 HQG.out).alloc (below_next HWD.out.1 HQG.out).size _) _⟩
      · have hk1 : (n : Int) - 1 = (kk : Int) := by omega
        have hk2 : (y : Int) + (kk : Int) ≤ 549755814400 := by omega
        have hk3 : (jm : Int) ≤ (kk : Int) := by omega
        have hk4 : (kk : Int) - (jm : Int) < (st : Int) := by omega
        clear hc3
        go_wp2_with (first
          | (go_at_call 23; refine (closing_any sl (x : Int) (y : Int) (n : Int) (D : Int) Z (some ⟨g4, 0, none⟩) c4 wq HL0.out.2.2.1 ((HB4.out.2.2.2.keep HWD.out.2).keep HQD.out) hc4 (by omega) (HP.out.2.2.1.keep (below_next HWD.out.1 HQD.out))).mono ?_; rw [HCL.out.1, HCL.out.2.1, HCL.out.2.2]; rintro r we ⟨ve, rfl, hoe, hbe⟩; obtain ⟨ae, ce', hve, _, _, hme, _⟩ := hoe.shape; rw [HMM.out.1] at hve; subst hve; have HME : Hid (Marks we ae M ∧ Below wq.heap.size wq we) := ⟨hme, hbe⟩; have k5 : we.cell? ⟨wd.heap.size, 5, none⟩ = some (.slice a2 m c2') := (hbe.cell (p := ⟨wd.heap.size, 5, none⟩) hdq).trans b5; clear hoe hbe hme)
          | (go_at_call 25; refine (msame_any M M m m ae a2 ce' c2' we HMM.out.1 HMM.out.1 HME.out.1 ((HXD.out.2.2.2.keep HQD.out).keep HME.out.2) (by unfold maxLen; omega) (by unfold maxLen; omega)).mono ?_; rw [decide_eq_true (rfl : M = M)]; rintro r wf ⟨rfl, hbf⟩; have HBF : Hid (Below we.heap.size we wf) := hbf; clear hbf)
          | (go_at_call 28; refine (seek_any M m ae ce' _ wf HMM.out.1 (HME.out.1.keep HBF.out) HMM.out.2 (by omega)).mono ?_; rw [HSK.out _ (by omega)]; rintro r wg ⟨rfl, hbg⟩; have HBG : Hid (Below wf.heap.size wf wg) := hbg; have HQG : Hid (Below wd.heap.size wd wg) := HQD.out.trans (((HME.out.2.trans (HBF.out.mono HME.out.2.size)).trans (HBG.out.mono (Nat.le_trans HME.out.2.size HBF.out.size))).mono HQD.out.size); have m0 : wg.cell? ⟨bx, ox + jm * 5, none⟩ = some (.int .i64 (pm : Int)) := (HQG.out.cell (p := ⟨bx, ox + jm * 5, none⟩) hltd).trans mm0; have hlg : bx < wg.heap.size := Nat.lt_of_lt_of_le hltd HQG.out.size; clear hbg)
          | fail)
        go_quiet (fail)
        go_wp2
        go_ret
        exact ⟨rfl, below_drewN ((below_next HWD.out.1 HQG.out).alloc (below_next HWD.out.1 HQG.out).size _) _⟩
      · subst hc3
        have hk2 : (y : Int) + (kk : Int) ≤ 549755814400 := by omega
        have hk3 : (jm : Int) ≤ (kk : Int) := by omega
        have hk4 : (kk : Int) - (jm : Int) < (st : Int) := by omega
        go_wp2_with (first
          | (go_at_call 23; refine (closing_any sl (x : Int) (y : Int) (n : Int) (D : Int) Z (some ⟨g4, 0, none⟩) c4 wq HL0.out.2.2.1 ((HB4.out.2.2.2.keep HWD.out.2).keep HQD.out) hc4 (by omega) (HP.out.2.2.1.keep (below_next HWD.out.1 HQD.out))).mono ?_; rw [HCL.out.1, HCL.out.2.1, HCL.out.2.2]; rintro r we ⟨ve, rfl, hoe, hbe⟩; obtain ⟨ae, ce', hve, _, _, hme, _⟩ := hoe.shape; rw [HMM.out.1] at hve; subst hve; have HME : Hid (Marks we ae M ∧ Below wq.heap.size wq we) := ⟨hme, hbe⟩; have k5 : we.cell? ⟨wd.heap.size, 5, none⟩ = some (.slice a2 m c2') := (hbe.cell (p := ⟨wd.heap.size, 5, none⟩) hdq).trans b5; clear hoe hbe hme)
          | (go_at_call 25; refine (msame_any M M m m ae a2 ce' c2' we HMM.out.1 HMM.out.1 HME.out.1 ((HXD.out.2.2.2.keep HQD.out).keep HME.out.2) (by unfold maxLen; omega) (by unfold maxLen; omega)).mono ?_; rw [decide_eq_true (rfl : M = M)]; rintro r wf ⟨rfl, hbf⟩; have HBF : Hid (Below we.heap.size we wf) := hbf; clear hbf)
          | (go_at_call 28; refine (seek_any M m ae ce' _ wf HMM.out.1 (HME.out.1.keep HBF.out) HMM.out.2 (by omega)).mono ?_; rw [HSK.out _ (by omega)]; rintro r wg ⟨rfl, hbg⟩; have HBG : Hid (Below wf.heap.size wf wg) := hbg; have HQG : Hid (Below wd.heap.size wd wg) := HQD.out.trans (((HME.out.2.trans (HBF.out.mono HME.out.2.size)).trans (HBG.out.mono (Nat.le_trans HME.out.2.size HBF.out.size))).mono HQD.out.size); have m0 : wg.cell? ⟨bx, ox + jm * 5, none⟩ = some (.int .i64 (pm : Int)) := (HQG.out.cell (p := ⟨bx, ox + jm * 5, none⟩) hltd).trans mm0; have hlg : bx < wg.heap.size := Nat.lt_of_lt_of_le hltd HQG.out.size; clear hbg)
          | fail)
        go_quiet (fail)
        go_wp2
        go_ret
        exact ⟨rfl, below_drewN ((below_next HWD.out.1 HQG.out).alloc (below_next HWD.out.1 HQG.out).size _) _⟩
end Go.Proofs.YtaegmeilhdbnnaaDoor.segmentWhole
