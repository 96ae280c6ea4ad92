/- For every list of marks and every text: index.Encode and index.Decode answer as the reference, in new memory; what was handed in stays as it was. No condition. -/
import Derived.Test.YtifackbilmkjlaaMkH
import Derived.Test.YtifackbilmkjlaaMkF
import Derived.Test.YtifackbilmkjlaaMkG
import Derived.Test.YtifackbilmkjlaaMky
import Derived.Test.YtifackbilmkjlaaTwo
import Derived.Test.YtifackbilmkjlaaCopy
import Derived.SizedLaws
import Derived.ChangeOld
namespace Go.Proofs.Ytifackbilmkjlaa.indexCodes
open Go.ChangeShapes Go.WideShapes Go.ChangeAt Go.RowKit
set_option linter.unusedVariables false
theorem kept_marks {g : Nat} {w wr : World} {a : Option Addr} {L : List Mk} (h : Kept g g w wr) (hb : Marks w a L) (hne : ∀ b off, a = some ⟨b, off, none⟩ → L ≠ [] → b ≠ g) : Marks wr a L := by
  rcases hb with h1 | ⟨b, off, rfl, hlt, hc⟩
  · exact .inl h1
  · by_cases hL : L = []
    · exact .inl hL
    · have hg := hne b off rfl hL
      exact .inr ⟨b, off, rfl, Nat.lt_of_lt_of_le hlt h.size, fun j hj => (World.cell?_of_block (w := w) (a := ⟨b, off + j, none⟩) (h.block b hlt hg hg)).trans (hc j hj)⟩
/-- a row of marks of a call's own: where it lies -/
theorem marks_lie {w : World} {base : Nat} {v : Value} {L : List Mk} (h : OwnM w base v L) (n : Nat) (hn : L.length = n) : ∃ a c, v = .slice a n c ∧ Marks w a L ∧ n ≤ maxLen ∧ (∀ b off, a = some ⟨b, off, none⟩ → base ≤ b ∧ b < w.heap.size) ∧ ((a = none ∧ n = 0) ∨ ∃ g, a = some ⟨g, 0, none⟩ ∧ w.ownsRow base 34 2 (.slice (some ⟨g, 0, none⟩) n c) n (mfl L)) := by
  have h' := h
  obtain ⟨a, c, h1, h2, h3, h4, h5⟩ := h.shape
  refine ⟨a, c, by rw [h1, hn], h4, by omega, fun b off hb => ?_, ?_⟩
  · rcases h5 with ⟨rfl, _⟩ | ⟨g, rfl, q1, q2⟩
    · cases hb
    · cases hb; exact ⟨q1, q2⟩
  · rcases h5 with ⟨rfl, h6, _⟩ | ⟨g, rfl, q1, q2⟩
    · exact .inl ⟨rfl, by rw [← hn, h6]; rfl⟩
    · refine .inr ⟨g, rfl, ?_⟩
      subst h1
      unfold OwnM at h'
      rw [hn] at h'
      exact h'
set_option maxRecDepth 20000 in
set_option maxHeartbeats 4000000 in
theorem walk (l : List Mk) (a : Option Addr) (cap : Nat) (t : List Nat) (at0 : Option Addr) (capt : Nat) (w : World) (hm : Marks w a l) (hc : l.length ≤ cap ∧ cap * 16 ≤ 140737488351232 ∧ (a = none → l = [])) (hb : Bytes w at0 t) (hct : Came w at0 t.length capt 1) :
    Calls Try.prog 6 #[.slice a l.length cap, .slice at0 t.length capt] w fun e w' => e = .returned (.bool true) ∧ Below w.heap.size w w' := by
  obtain ⟨n, hn⟩ : ∃ n, l.length = n := ⟨_, rfl⟩
  rw [hn] at hc ⊢
  obtain ⟨hc1, hc2, hc3⟩ := hc
  obtain ⟨hf, hr, hnt⟩ := hct
  obtain ⟨m, htm⟩ : ∃ m, t.length = m := ⟨_, rfl⟩
  have hco : ∀ (w' : World), Bytes w' at0 t → Calls Try.prog 24 #[.slice at0 m capt] w' fun e w2 => ∃ v, e = .returned v ∧ Own w2 w'.heap.size v t ∧ Below w'.heap.size w' w2 := fun w' h => by
    have h2 := copy_any t at0 capt w' h (by omega)
    rw [htm] at h2
    exact h2
  have HCO : Hid (∀ (w' : World), Bytes w' at0 t → Calls Try.prog 24 #[.slice at0 m capt] w' fun e w2 => ∃ v, e = .returned v ∧ Own w2 w'.heap.size v t ∧ Below w'.heap.size w' w2) := hco
  rw [htm] at hf ⊢
  have HN : Hid (l.length = n) := hn
  have HM : Hid (Marks w a l) := hm
  have HB : Hid (Bytes w at0 t) := hb
  have HT : Hid (t.length = m ∧ m ≤ capt ∧ m ≤ 140737488351232 ∧ t.length ≤ maxLen) := ⟨htm, hf, by omega, by rw [htm]; unfold maxLen; omega⟩
  have H3 : Hid (a = none → l = []) := hc3
  have hl16 : n * 16 ≤ 140737488351232 := by omega
  have hlm : n ≤ maxLen := by unfold maxLen; omega
  have HL : Hid (n * 16 ≤ 140737488351232 ∧ n ≤ maxLen) := ⟨hl16, hlm⟩
  have hEl : (if validB l = true then mEnc l else []).length ≤ maxLen := by
    by_cases h : validB l = true
    · rw [if_pos h]
      have h1 := flat_length (dls 0 0 l) (mEnc_le l h)
      have h2 := valid_len h
      have h3 := enc_length_le (2 * l.length) (by omega)
      unfold mEnc encAll
      rw [List.length_append, dls_length]
      rw [dls_length] at h1
      unfold maxLen
      omega
    · rw [if_neg h]; simp
  obtain ⟨E, hE⟩ : ∃ E, (if validB l = true then mEnc l else []) = E := ⟨_, rfl⟩
  obtain ⟨ev, hev⟩ : ∃ ev : Int, (if validB l = true then (0 : Int) else 70) = ev := ⟨_, rfl⟩
  rw [hE] at hEl
  obtain ⟨en, hen⟩ : ∃ en, E.length = en := ⟨_, rfl⟩
  have HE : Hid ((if validB l = true then mEnc l else []) = E ∧ (if validB l = true then (0 : Int) else 70) = ev ∧ E.length = en ∧ E.length ≤ maxLen) := ⟨hE, hev, hen, hEl⟩
  obtain ⟨D, d, hd⟩ : ∃ D d, mDec t = (D, d) := ⟨_, _, rfl⟩
  obtain ⟨k, hk⟩ : ∃ k, D.length = k := ⟨_, rfl⟩
  have HD : Hid (mDec t = (D, d) ∧ D.length = k) := ⟨hd, hk⟩
  have T1 : Hid True := trivial
  have T2 : Hid True := trivial
  have T3 : Hid True := trivial
  clear hn hm hc1 hc2 hc3 hl16 hlm hco htm hf hr hnt hb hE hev hen hEl hd hk
  go_enter Try.func6, Try.ntmps6
  go_wp2_with (first
    | (go_at_call 12; refine (head13_any w).mono ?_; rintro e w1 ⟨rfl, hb1⟩)
    | (go_at_call 17; refine (copyOf_any l _ _ _ _ HN.out (HM.out.keep hb1) H3.out HL.out.1).mono ?_; rintro e w3 ⟨v3, rfl, ho3, hb3⟩; obtain ⟨a3, c3, rfl, hm3⟩ := marks_len ho3 n HN.out; clear ho3; have hb3w := below_next hb1 hb3)
    | (go_at_call 21; refine (renc2_any l _ _ _ _ HN.out (HM.out.keep hb3w) HL.out.2).mono ?_; rw [HE.out.1, HE.out.2.1]; rintro e w4 ⟨v4, rfl, ho4, hb4⟩; obtain ⟨a4, c4, rfl, hc4, hby4⟩ := own_len ho4 en HE.out.2.2.1; clear ho4; have hb4w := below_next hb3w hb4)
    | (go_at_call 22; refine (ienc_any l _ _ _ _ HN.out (hm3.keep hb4) HL.out.2).mono ?_; rw [HE.out.1, HE.out.2.1]; rintro e w5 ⟨v5, rfl, ho5, hb5⟩; obtain ⟨a5, c5, rfl, hc5, hby5⟩ := own_len ho5 en HE.out.2.2.1; clear ho5; have hb5w := below_next hb4w hb5)
    | (go_at_call 23; clear T1; refine (same_at E E _ _ _ _ _ _ _ HE.out.2.2.1 HE.out.2.2.1 hby5 (hby4.keep hb5) HE.out.2.2.2 HE.out.2.2.2).mono ?_; rw [decide_eq_true (rfl : E = E)]; rintro e w6 ⟨rfl, n6, h6⟩; have hb6 : Below w5.heap.size w5 w6 := (by rw [h6]; exact below_drewN (Below.refl _ _) _); clear h6; have hb6w := below_next hb5w hb6; have HM6 : Hid (Marks w6 a3 l) := ((hm3.keep hb4).keep hb5).keep hb6)
    | (go_at_call 15; clear T2; refine (msame_any l l _ _ _ _ _ _ _ HN.out HN.out HM6.out (HM.out.keep hb6w) HL.out.2 HL.out.2).mono ?_; rw [decide_eq_true (rfl : l = l)]; rintro e w7 ⟨rfl, hb7⟩; have hb7w := below_next hb6w hb7)
    | (go_at_call 24; refine (HCO.out _ (HB.out.keep hb7w)).mono ?_; rintro e w8 ⟨v8, rfl, ho8, hb8⟩; obtain ⟨a8, c8, rfl, hc8, hby8⟩ := own_len ho8 m HT.out.1; clear ho8; have hb8w := below_next hb7w hb8)
    | (go_at_call 25; refine (rdec2_any t _ _ _ _ HT.out.1 (HB.out.keep hb8w) HT.out.2.1 HT.out.2.2.1).mono ?_; rw [HD.out.1]; rintro e w9 ⟨v9, rfl, ho9, hb9⟩; obtain ⟨a9, c9, rfl, hm9, hl9, hp9', _⟩ := marks_lie ho9 k HD.out.2; have hp9 : Hid (∀ b off, a9 = some ⟨b, off, none⟩ → w8.heap.size ≤ b ∧ b < w9.heap.size) := hp9'; clear ho9 hp9'; have hb9w := below_next hb8w hb9)
    | (go_at_call 26; clear T3; refine (idec_any t _ _ _ _ HT.out.1 (hby8.keep hb9) hc8 HT.out.2.2.1).mono ?_; rw [HD.out.1]; rintro e wa ⟨va, rfl, hoa, hba⟩; obtain ⟨aa, ca, rfl, hma, hla, hpa', hra'⟩ := marks_lie hoa k HD.out.2; have hra : Hid ((aa = none ∧ k = 0) ∨ ∃ g, aa = some ⟨g, 0, none⟩ ∧ w9.heap.size ≤ g ∧ g < wa.heap.size ∧ wa.ownsRow w9.heap.size 34 2 (.slice (some ⟨g, 0, none⟩) k ca) k (mfl D)) := (by rcases hra' with h | ⟨g, h1, h2⟩; exact .inl h; exact .inr ⟨g, h1, (hpa' g 0 h1).1, (hpa' g 0 h1).2, h2⟩); clear hpa' hra'; clear hoa; have hbaw := below_next hb9w hba)
    | (go_at_call 26; refine (idec_any t _ _ _ _ HT.out.1 ((hby8.keep hb9).keep hba) hc8 HT.out.2.2.1).mono ?_; rw [HD.out.1]; rintro e wb ⟨vb, rfl, hob, hbb⟩; obtain ⟨ab, cb, rfl, hmb, hlb, hpb', _⟩ := marks_lie hob k HD.out.2; have hpb : Hid (∀ b off, ab = some ⟨b, off, none⟩ → wa.heap.size ≤ b ∧ b < wb.heap.size) := hpb'; clear hob hpb'; have hbbw := below_next hbaw hbb; have HMA : Hid (Marks wb aa D) := hma.keep hbb; have HM9 : Hid (Marks wb a9 D) := (hm9.keep hba).keep hbb; have HBT : Hid (Bytes wb a8 t) := ((hby8.keep hb9).keep hba).keep hbb)
    | (go_at_call_of 15 (ca); refine (msame_any D D _ _ _ _ _ _ _ HD.out.2 HD.out.2 HM9.out HMA.out hl9 hla).mono ?_; rw [decide_eq_true (rfl : D = D)]; rintro e wc ⟨rfl, hbc⟩; have hbcw := below_next hbbw hbc)
    | (go_at_call 23; refine (same_at t t _ _ _ _ _ _ _ HT.out.1 HT.out.1 (HBT.out.keep hbc) (HB.out.keep hbcw) HT.out.2.2.2 HT.out.2.2.2).mono ?_; rw [decide_eq_true (rfl : t = t)]; rintro e wd ⟨rfl, nd, hd⟩; have hbd : Below wc.heap.size wc wd := (by rw [hd]; exact below_drewN (Below.refl _ _) _); clear hd; have hbdw := below_next hbcw hbd))
  have HLK : Hid (k ≤ maxLen) := hla
  have hkI : (k : Int) ≤ 9223372036854775807 := by have := hla; unfold maxLen at this; omega
  have HMB : Hid (Marks wd ab D) := (hmb.keep hbc).keep hbd
  have HMX : Hid (Marks wd a9 D) := (HM9.out.keep hbc).keep hbd
  have HBD : Hid (Below w.heap.size w wd) := hbdw
  have HSZ : Hid (w.heap.size ≤ w9.heap.size) := hb9w.size
  rcases hra.out with ⟨rfl, rfl⟩ | ⟨g, rfl, hg1, hg2, hog⟩
  · clear hl9 hla hlb
    refine wp_loop_rounds 1 ?_
    rw [rounds_succ]
    go_wp2_with (go_at_call 15; refine (msame_any D D _ _ _ _ _ _ _ HD.out.2 HD.out.2 HMB.out HMX.out HLK.out HLK.out).mono ?_; rw [decide_eq_true (rfl : D = D)]; rintro e we ⟨rfl, hbe⟩)
    go_ret
    exact ⟨rfl, below_next HBD.out hbe⟩
  · have HOG : Hid (wd.ownsRow w9.heap.size 34 2 (.slice (some ⟨g, 0, none⟩) k ca) k (mfl D)) := own_below (own_below (own_below hog hbb) hbc) hbd
    have HP : Hid ((∀ b off, a9 = some ⟨b, off, none⟩ → D ≠ [] → b ≠ g) ∧ (∀ b off, ab = some ⟨b, off, none⟩ → D ≠ [] → b ≠ g)) := ⟨fun b off h _ => by have := hp9.out b off h; omega, fun b off h _ => by have := hpb.out b off h; omega⟩
    have HG : Hid (w9.heap.size ≤ g) := hg1
    clear hog hl9 hla hlb hm9 hma hmb hg1 hg2 hra hb1 hb3 hb4 hb5 hb6 hb7 hb8 hb9 hba hbb hbc hbd hb3w hb4w hb5w hb6w hb7w hb8w hb9w hbaw hbbw hbcw hbdw hm3 hby4 hby5 hby8
    go_loopw [81] (fun vi wr => ∃ (i : Nat) (xs : List Value), i ≤ k ∧ vi = .int .i64 i ∧ wr.ownsRow w9.heap.size 34 2 (.slice (some ⟨g, 0, none⟩) k ca) k xs ∧ Kept g g wd wr) (fun vi _ => k - (intOf vi).toNat)
    case atStart => exact ⟨0, _, Nat.zero_le _, rfl, HOG.out, Kept.refl _ _ _⟩
    case round =>
      obtain ⟨i, xs, hik, rfl, ho, hkp⟩ := hrel
      by_cases hlt : i < k
      · have hst := ho.stored (i * 2 + 1) (.int .i64 (-3))
        have e2 := ho.cellAt (i * 2 + 1) (by omega)
        have e3 := ho.frozenAt (i * 2 + 1)
        obtain ⟨z, hz⟩ : ∃ z, wr.cell? ⟨g, i * 2 + 1, none⟩ = some z := by
          rw [e2]
          exact ⟨_, List.getElem?_eq_getElem (by have := ho.1; omega)⟩
        have HS : Hid (_ ∧ Kept g g wd _) := ⟨hst.1, hkp.grown hst.2 (fun j hj => by cases hj; exact .inl rfl)⟩
        clear e2 hst ho hkp
        go_wp2
        go_roundw
        case rel => exact ⟨i + 1, _, by omega, by go_num, HS.out.1, HS.out.2⟩
        case measure => simp [intOf]; omega
      · have HMBr : Hid (Marks wr ab D) := kept_marks hkp HMB.out HP.out.2
        have HMXr : Hid (Marks wr a9 D) := kept_marks hkp HMX.out HP.out.1
        have HBR : Hid (Below w.heap.size w wr) := hkp.below HBD.out (Nat.le_trans HSZ.out HG.out) (Nat.le_trans HSZ.out HG.out)
        clear ho hkp
        go_wp2_with (go_at_call 15; refine (msame_any D D _ _ _ _ _ _ _ HD.out.2 HD.out.2 HMBr.out HMXr.out HLK.out HLK.out).mono ?_; rw [decide_eq_true (rfl : D = D)]; rintro e we ⟨rfl, hbe⟩)
        go_ret
        exact ⟨rfl, below_next HBR.out hbe⟩
theorem own : ownKnob Try.prog.godebug = none := by kernel_rfl
theorem laidOut : laidOutB Try.prog = true := by kernel_rfl
set_option maxRecDepth 100000 in
theorem contract (H : Type) (enc : TypeId × Value → H) (W : World) (base : Nat) (args : Array Value) (ds gs : List (DataW H)) (before : List MemPlace)
    (hval : ∀ (j : Nat) t v, Try.f6.params[j]? = some t → args[j]? = some v → Value.okWide Try.prog W .any base t v)
    (hW : DataW.Whole enc Try.prog Try.f6.params.toList Rows.indexCodesSpec.vars false W args.toList ds gs before)
    (hsz : (DataW.weightsEach Try.prog (Try.f6.params.toList ++ Rows.indexCodesSpec.plain.varTypes Try.prog) (ds ++ gs)).all (· ≤ reachBytes) = true) :
    Calls Try.prog 6 args W fun e W' => ∃ v, e = .returned v ∧ Rows.indexCodesSpec.post enc Try.prog Try.f6 false true false false W args v W' := by
  have hW' := hW
  obtain ⟨p, q, hA0, hV, rfl, hfz, hnd⟩ := hW
  have hA : DataW.TrodAll enc Try.prog W 0 (fun _ => true) true Try.f6.params.toList args.toList ds p := hA0
  rw [Try.params6] at hA hval hsz
  obtain ⟨v0, vs0, d0, ds0, p0, q0, hargs, rfl, rfl, h0, r0⟩ := trodAll_cons hA
  obtain ⟨v1, vs1, d1, ds1, p1, q1, rfl, rfl, rfl, h1, r1⟩ := trodAll_cons r0
  obtain ⟨rfl, rfl, rfl⟩ := trodAll_nil r1
  obtain rfl : args = #[v0, v1] := by cases args; simp_all
  obtain ⟨rfl, rfl⟩ := trodVars_none hV
  obtain ⟨a0, len0, cap0, rfl⟩ := okWide_slice Try.underlying27 (hval 0 27 v0 rfl rfl)
  have k0 := h0
  have lt0 : ∀ x ∈ p0, x.block < W.heap.size := by obtain ⟨m, hm⟩ := k0; exact DataW.trod_lt m _ _ _ hm
  obtain ⟨l0, hlen0, w0, c0⟩ : ∃ L : List Mk, L.length = len0 ∧ Marks W a0 L ∧ (len0 ≤ cap0 ∧ cap0 * 16 ≤ 140737488351232 ∧ (a0 = none → L = [])) := by
    obtain ⟨fuel, hf⟩ := h0
    rcases open_marks hf with ⟨hcs, hx⟩ | ⟨x, l, c, L, D, hcs, hl, hm, hLl, hfs, hx⟩
    · simp [Value.cells] at hcs
      obtain ⟨rfl, rfl, rfl⟩ := hcs
      exact ⟨[], rfl, .inl rfl, Nat.le_refl _, by simp, fun _ => rfl⟩
    · simp [Value.cells] at hcs
      obtain ⟨rfl, rfl, rfl⟩ := hcs
      have hd : d0 = _ := hx
      exact ⟨L, hLl, hfs, hl, sized_marks hsz (j := 0) rfl (by rw [hd]; rfl) hl, fun h => by cases h⟩
  subst hlen0
  obtain ⟨a1, len1, cap1, rfl⟩ := okWide_slice Try.underlying39 (hval 1 39 v1 rfl rfl)
  have k1 := h1
  have lt1 : ∀ x ∈ p1, x.block < W.heap.size := by obtain ⟨m, hm⟩ := k1; exact DataW.trod_lt m _ _ _ hm
  obtain ⟨l1, hlen1, w1, c1⟩ : ∃ l : List Nat, l.length = len1 ∧ Bytes W a1 l ∧ Came W a1 len1 cap1 1 := by
    obtain ⟨fuel, hf⟩ := h1
    rcases open_ints Try.underlying39 Try.underlying5 (by kernel_rfl) hf with ⟨hcs, hx⟩ | ⟨x, l, c, zs, hcs, _, hl, hm, hz, hx, hcell, hwz⟩
    · simp [Value.cells] at hcs
      obtain ⟨rfl, rfl, rfl⟩ := hcs
      exact ⟨[], rfl, ⟨by simp, .inl rfl⟩, ⟨Nat.le_refl _, by simp, fun _ => rfl⟩⟩
    · simp [Value.cells] at hcs
      obtain ⟨rfl, rfl, rfl⟩ := hcs
      have hz2 : zs.length = cap1 := by simpa using hz
      obtain ⟨ll, e1, e2, e3⟩ := row_nats .u8 256 (by decide) wf_u8 W x zs len1 (by omega) hcell hwz
      have hd : d1 = .slice (lits .u8 (zs.take len1)) (lits .u8 (zs.drop len1)) := (Prod.mk.inj hx).1
      have hreach : cap1 * 1 ≤ 140737488351232 := by
        have := sized_slice hsz (j := 1) (t := 39) (e := 5) rfl (by rw [hd]; rfl) Try.underlying39
        rw [show Try.prog.bytesOf 5 = 1 from by kernel_rfl] at this
        simp only [lits, List.length_map, List.length_take, List.length_drop, reachBytes] at this
        have hmin : min len1 zs.length = len1 := Nat.min_eq_left (by omega)
        rw [hmin] at this
        have hcap : len1 + (zs.length - len1) = cap1 := by omega
        rw [hcap] at this
        exact this
      exact ⟨ll, e1, ⟨e2, e3⟩, ⟨hl, hreach, fun h => by cases h⟩⟩
  subst hlen1
  clear hA0
  refine (walk l0 a0 cap0 l1 a1 cap1 W w0 c0 w1 c1).mono fun e W' ⟨he, bel⟩ => ?_
  subst he
  exact ⟨_, rfl, _, _, _, [], _, [], hW', trodAll_mk1 (shut_bool Try.underlying4 _), (trodAll_cons_mk (Below.trod laidOut (by kernel_rfl) (of_decide_eq_true (by kernel_rfl)) k0 bel lt0) (trodAll_cons_mk (Below.trod laidOut (by kernel_rfl) (of_decide_eq_true (by kernel_rfl)) k1 bel lt1) trodAll_mk0)), rfl, bel.frame _, fun h => by cases h⟩
set_option maxRecDepth 100000 in
theorem lifted (os : Os) (started : os.Started) (H : Type) (enc : TypeId × Value → H) :
    ReturnsInHanded {} Try.checked os 6 .any (Rows.indexCodesSpec.pre6 enc Try.prog Try.f6 Rows.indexCodesRow.domain false) (Rows.indexCodesSpec.post enc Try.prog Try.f6 false true false false) := by
  refine returnsInHanded_of_change_sized (C := Try.checked) own started (by kernel_rfl) Try.func6
    (ChangeSpec.witness6 (enc := enc) (C := Try.checked) false ⟨#[], #[.slice none 0 0, .slice none 0 0], []⟩ 8 (by kernel_rfl) (by kernel_rfl) (by kernel_rfl) (by kernel_rfl)) ?_
  intro W base args ds gs before hval hW _ hsz _
  exact contract H enc W base args ds gs before hval hW hsz
theorem over : Rows.indexCodesRow.holds Try.pinned (OpenSpec.ofChange Rows.indexCodesSpec) :=
  OpenClaim.holds_of_wide 6 Try.f6 rfl rfl rfl rfl rfl rfl rfl ⟨rfl, rfl, rfl, rfl, rfl⟩ rfl rfl rfl rfl rfl (by kernel_rfl) Try.func6 (by kernel_rfl)
    (of_decide_eq_true (by kernel_rfl)) (by unfold Func.isWrapper; first | (rw [if_pos (by decide +kernel)]; kernel_rfl) | (rw [if_neg (by decide +kernel)]; exact ⟨rfl, rfl⟩))
    (fun os started H enc _ => lifted os started H enc)
theorem proved : Rows.IndexCodesSaid := over
end Go.Proofs.Ytifackbilmkjlaa.indexCodes
