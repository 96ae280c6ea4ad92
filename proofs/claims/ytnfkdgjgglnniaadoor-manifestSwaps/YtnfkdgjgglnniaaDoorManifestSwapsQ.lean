/- For every two manifests, every fuse and whatever the loss of power keeps: behind a Save under that fuse and a Restart, Load finds the young manifest where Save went well, else the one that was there. No condition. -/
import Derived.Test.YtnfkdgjgglnniaaDoorK59
import Derived.Test.YtnfkdgjgglnniaaDoorK57
import Derived.ChangeOld
import Derived.SizedLaws
namespace Go.Proofs.YtnfkdgjgglnniaaDoor.manifestSwaps
open Go.ChangeShapes Go.WideShapes Go.ChangeAt Go.RowKit
set_option linter.unusedVariables false
set_option maxRecDepth 100000 in
set_option maxHeartbeats 8000000 in
theorem way_01 (s : Mf) (a : Option Addr) (n cap : Nat) (t : Mf) (a2 : Option Addr) (n2 cap2 : Nat) (fz : Int) (ks : List Int) (a3 : Option Addr) (cap3 : Nat) (w : World) (hn : s.segs.length = n) (hS : Sms w a s.segs) (hm : n * 32 ≤ 140737488351232) (hn2 : t.segs.length = n2) (hS2 : Sms w a2 t.segs) (hm2 : n2 * 32 ≤ 140737488351232) (hk : Ints w a3 ks) (hc3 : Came w a3 ks.length cap3 8) (ht : Tab w) (u : Mf) (hu : m1 = u) (hun : u.segs.length = 1) (hV : mvB s = false) (S3 : Ak) (h3 : msaveA (newD 1048576).ab u = (S3, 0)) (ok3 : AkOk S3) (S11 : Ak) (h11 : fuseA S3 fz = S11) (ok11 : AkOk S11) (S13 : Ak) (h13 : msaveA S11 t = (S13, 0)) (ok13 : AkOk S13) (S15 : Ak) (h15 : restartA S13 ks = S15) (ok15 : AkOk S15) (N : Nat) (hN : (mfL t).length = N) (hNb : N ≤ 1048576) (S16 : Ak) (hs : sizeA S15 nM = (N, 0)) (hr : readA S15 nM 0 (N : Int) = (S16, mfL t, 0)) (hmd : mdM (mfL t) = t ∧ mdE (mfL t) = 0) :
    Calls Tryd.prog 3 #[MfV s (.slice a n cap), MfV t (.slice a2 n2 cap2), .int .i64 fz, .slice a3 ks.length cap3] w fun e w' => e = .returned (.bool true) ∧ Below w.heap.size w w' := by
  have h5 := hc3.fits
  have h6 := hc3.room
  have HS : Hid (s.segs.length = n ∧ n * 32 ≤ 140737488351232 ∧ n ≤ maxLen) := ⟨hn, hm, by unfold maxLen; omega⟩
  have HT2 : Hid (t.segs.length = n2 ∧ n2 * 32 ≤ 140737488351232 ∧ n2 ≤ maxLen) := ⟨hn2, hm2, by unfold maxLen; omega⟩
  have HW : Hid (Sms w a s.segs ∧ Sms w a2 t.segs ∧ Ints w a3 ks ∧ Tab w) := ⟨hS, hS2, hk, ht⟩
  have HKS : Hid ((a3 = none → cap3 = 0) ∧ ks.length ≤ cap3 ∧ ks.length * 8 ≤ 140737488355328) := ⟨hc3.none, hc3.fits, by omega⟩
  have HU : Hid (m1 = u ∧ u.segs.length = 1 ∧ 1 ≤ maxLen) := ⟨hu, hun, by unfold maxLen; omega⟩
  have HV : Hid (mvB s = false) := hV
  have H3 : Hid (msaveA (newD 1048576).ab u = (S3, 0)) := h3
  have HK1 : Hid (AkOk (newD 1048576).ab) := newA_ok _
  have HK3 : Hid (AkOk S3) := ok3
  have H11 : Hid (fuseA S3 fz = S11) := h11
  have HK11 : Hid (AkOk S11) := ok11
  have H13 : Hid (msaveA S11 t = (S13, 0)) := h13
  have HK13 : Hid (AkOk S13) := ok13
  have H15 : Hid (restartA S13 ks = S15) := h15
  have HK15 : Hid (AkOk S15) := ok15
  have HLD : Hid ((mfL t).length = N ∧ N ≤ 1048576 ∧ sizeA S15 nM = (N, 0) ∧ readA S15 nM 0 (N : Int) = (S16, mfL t, 0) ∧ mdM (mfL t) = t ∧ mdE (mfL t) = 0) := ⟨hN, hNb, hs, hr, hmd⟩
  have HB0 : Hid (Below w.heap.size w ((w.alloc (.cells (mfA s (.slice a n cap)) 24)).alloc (.cells (mfA t (.slice a2 n2 cap2)) 24))) := ((Below.refl _ _).alloc (Nat.le_refl _) _).alloc (by simp) _
  have HM0 : Hid (MfAt ((w.alloc (.cells (mfA s (.slice a n cap)) 24)).alloc (.cells (mfA t (.slice a2 n2 cap2)) 24)) w.heap.size s (.slice a n cap) ∧ MfAt ((w.alloc (.cells (mfA s (.slice a n cap)) 24)).alloc (.cells (mfA t (.slice a2 n2 cap2)) 24)) (w.heap.size + 1) t (.slice a2 n2 cap2)) := by
    have h := MfAt.new (w.alloc (.cells (mfA s (.slice a n cap)) 24)) t (.slice a2 n2 cap2)
    rw [World.size_alloc] at h
    exact ⟨(MfAt.new w s _).after ((Below.refl _ _).alloc (Nat.le_refl _) _), h⟩
  have TF1 : Hid True := trivial
  have TV1 : Hid True := trivial
  have TS1 : Hid True := trivial
  have TL1 : Hid True := trivial
  have TC1 : Hid True := trivial
  have TL4 : Hid True := trivial
  have TC3 : Hid True := trivial
  have TV3 : Hid True := trivial
  have TS3 : Hid True := trivial
  have TL5 : Hid True := trivial
  clear h5 h6 hn hS hm hn2 hS2 hm2 hk hc3 ht hu hun hV h3 ok3 h11 ok11 h13 ok13 h15 ok15 hN hNb hs hr hmd
  go_enter Tryd.func3, Tryd.ntmps3
  go_wp2_with (first
    | (go_at_call 4; refine (head16_any _ (HW.out.2.2.2.keep HB0.out)).mono ?_; rintro _ w1 ⟨rfl, hb1⟩; have HW1 : Hid (Below w.heap.size w w1 ∧ MfAt w1 w.heap.size s (.slice a n cap) ∧ MfAt w1 (w.heap.size + 1) t (.slice a2 n2 cap2) ∧ Tab w1 ∧ Sms w1 a s.segs ∧ Sms w1 a2 t.segs ∧ Ints w1 a3 ks) := ⟨below_next HB0.out hb1, HM0.out.1.after hb1, HM0.out.2.after hb1, HW.out.2.2.2.keep (below_next HB0.out hb1), HW.out.1.keep (below_next HB0.out hb1), HW.out.2.1.keep (below_next HB0.out hb1), HW.out.2.2.1.keep (below_next HB0.out hb1)⟩; clear hb1)
    | (go_at_call 5; refine (new_S w1).mono ?_; rintro _ x1 ⟨q, b, rfl, hd1, hb1⟩; have HD1 : Hid (SvR x1 x1 w1.heap.size q b (newD 1048576).ab noF) := hd1; have HB1 : Hid (Below w1.heap.size w1 x1) := hb1; clear hd1 hb1)
    | (go_at_call 7; clear TF1; refine (first_u u HU.out.1 _).mono ?_; rintro _ x2 ⟨g2, rfl, hs2, _, _, hb2⟩; have HD2 : Hid (SvR x1 x2 w1.heap.size q b (newD 1048576).ab noF) := HD1.out.next hb2; have HB2 : Hid (Below w1.heap.size w1 x2) := HB1.out.trans HD2.out.b; have HS2 : Hid (Sms x2 (some ⟨g2, 0, none⟩) u.segs) := hs2; clear hs2 hb2)
    | (go_at_call 6; clear TV1; refine (msave_M HD2.out.d HK1.out w1 HB2.out (Nat.le_refl _) HW1.out.2.2.2.1 u 1 (some ⟨g2, 0, none⟩) 1 HU.out.2.1 HS2.out HU.out.2.2).mono ?_; rw [H3.out]; rintro _ x3 ⟨rfl, hr3⟩; have HD3 : Hid (SvR x1 x3 w1.heap.size q b S3 noF) := HD2.out.comp hr3; have HB3 : Hid (Below w1.heap.size w1 x3) := HB1.out.trans HD3.out.b; clear hr3)
    | (go_at_call 7; refine (first_u u HU.out.1 _).mono ?_; rintro _ x4 ⟨g4, rfl, hs4, hlo4, hlt4, hb4⟩; have HF4 : Hid (Sms x4 (some ⟨g4, 0, none⟩) u.segs ∧ x3.heap.size ≤ g4 ∧ g4 < x4.heap.size ∧ Below x3.heap.size x3 x4) := ⟨hs4, hlo4, hlt4, hb4⟩; clear hs4 hlo4 hlt4 hb4)
    | ((with_reducible refine frm_store 24 ?_); clear TS1; refine wpList_store_mf rfl _ _ rfl rfl (MfAt.new x4 zeroM (.slice none 0 0)) rfl (m2 := u) (a2 := some ⟨g4, 0, none⟩) (n2 := 1) (c2 := 1) rfl ?_; intro x5 hf5 ho5 hh5 hs5; obtain ⟨F5, hd5, hb5, hx5, hF5, hm5, hg5⟩ := before_start HD3.out HF4.out.2.2.2 (ho5 _ _ ((Below.refl _ _).alloc (Nat.le_refl _) _) (Nat.le_refl _)) hf5 HF4.out.1 HF4.out.2.1 HF4.out.2.2.1; have HD5 : Hid (SvR x5 x5 w1.heap.size q b S3 F5) := hd5; have HB5 : Hid (Below w1.heap.size w1 x5) := HB3.out.trans hb5; have HX5 : Hid (w1.heap.size ≤ x4.heap.size ∧ (F5 g4 ∧ F5 x4.heap.size) ∧ MfAt x5 x4.heap.size u (.slice (some ⟨g4, 0, none⟩) 1 1) ∧ Sms x5 (some ⟨g4, 0, none⟩) u.segs) := ⟨hx5, hF5, hm5, hg5⟩; clear hf5 ho5 hh5 hs5 hd5 hb5 hx5 hF5 hm5 hg5)
    | ((with_reducible refine frm_load 24 ?_); clear TL1; refine wpList_load_mf rfl _ rfl (HW1.out.2.1.after HB5.out) rfl ?_)
    | (go_at_call 9; clear TC1; refine (mcopy_any s a n cap _ HS.out.1 (HW1.out.2.2.2.2.1.keep HB5.out) HS.out.2.1).mono ?_; rintro _ x6 ⟨v6, rfl, ho6, hb6⟩; obtain ⟨a6, c6, hv6, _, _, hs6, _⟩ := ho6.shape; rw [HS.out.1] at hv6; subst hv6; have HS6 : Hid (Sms x6 a6 s.segs) := hs6; have HD6 : Hid (SvR x5 x6 w1.heap.size q b S3 F5) := HD5.out.next hb6; have HB6 : Hid (Below w1.heap.size w1 x6) := HB5.out.trans HD6.out.b; clear ho6 hb6 hs6)
    | (go_at_call 8; refine (mvalid_any s n a6 c6 _ HS.out.1 HS6.out HS.out.2.2).mono ?_; rw [HV.out]; rintro _ x7 ⟨rfl, hb7⟩; have HD7 : Hid (SvR x5 x7 w1.heap.size q b S3 F5) := HD6.out.next hb7; have HB7 : Hid (Below w1.heap.size w1 x7) := HB5.out.trans HD7.out.b; clear hb7)
    | (go_at_call 10; refine (fuse_M HD7.out.d HK3.out fz).mono ?_; rw [H11.out]; rintro _ x11 ⟨rfl, hr11⟩; have HD11 : Hid (SvR x5 x11 w1.heap.size q b S11 F5) := HD7.out.call hr11; have HB11 : Hid (Below w1.heap.size w1 x11) := HB5.out.trans HD11.out.b; clear hr11)
    | ((with_reducible refine frm_load 24 ?_); clear TL4; refine wpList_load_mf rfl _ rfl (HW1.out.2.2.1.after HB11.out) rfl ?_)
    | (go_at_call 9; clear TC3; refine (mcopy_any t a2 n2 cap2 _ HT2.out.1 (HW1.out.2.2.2.2.2.1.keep HB11.out) HT2.out.2.1).mono ?_; rintro _ x12 ⟨v12, rfl, ho12, hb12⟩; obtain ⟨a12, c12, hv12, _, _, hs12, _⟩ := ho12.shape; rw [HT2.out.1] at hv12; subst hv12; have HS12 : Hid (Sms x12 a12 t.segs) := hs12; have HD12 : Hid (SvR x5 x12 w1.heap.size q b S11 F5) := HD11.out.next hb12; have HB12 : Hid (Below w1.heap.size w1 x12) := HB5.out.trans HD12.out.b; clear ho12 hb12 hs12)
    | (go_at_call 6; clear TV3; refine (msave_M HD12.out.d HK11.out w1 HB12.out (Nat.le_refl _) HW1.out.2.2.2.1 t n2 a12 c12 HT2.out.1 HS12.out HT2.out.2.2).mono ?_; rw [H13.out]; rintro _ x13 ⟨rfl, hr13⟩; have HD13 : Hid (SvR x5 x13 w1.heap.size q b S13 F5) := HD12.out.comp hr13; have HB13 : Hid (Below w1.heap.size w1 x13) := HB5.out.trans HD13.out.b; clear hr13)
    | (at_builtin; refine wpList_append_ks x13 rfl _ _ rfl ks a3 ks.length cap3 rfl rfl rfl (HW1.out.2.2.2.2.2.2.keep HB13.out) HKS.out.1 HKS.out.2.1 HKS.out.2.2 ?_; intro K14 C14 x14 hi14 ht14 hb14; have HI14 : Hid (Ints x14 K14 ks ∧ (∀ g off, K14 = some ⟨g, off, none⟩ → ks ≠ [] → ∃ c m, x14.heap[g]? = some (.cells c 3 m))) := ⟨hi14, ht14⟩; have HD14 : Hid (SvR x5 x14 w1.heap.size q b S13 F5) := HD13.out.next hb14; have HB14 : Hid (Below w1.heap.size w1 x14) := HB5.out.trans HD14.out.b; clear hi14 ht14 hb14)
    | (go_at_call 11; refine (restart_M HD14.out.d HK13.out K14 ks.length C14 ks rfl HI14.out.1 HI14.out.2 (by have := HKS.out.2.2; omega)).mono ?_; rw [H15.out]; rintro _ x15 ⟨rfl, hr15⟩; have HD15 : Hid (SvR x5 x15 w1.heap.size q b S15 F5) := HD14.out.call hr15; have HB15 : Hid (Below w1.heap.size w1 x15) := HB5.out.trans HD15.out.b; clear hr15)
    | (go_at_call 12; refine (mload_M HD15.out.d HK15.out w1 HB15.out (Nat.le_refl _) HW1.out.2.2.2.1 (mfL t) N HLD.out.1 HLD.out.2.1 t n2 HT2.out.1 S16 HLD.out.2.2.1 HLD.out.2.2.2.1 HLD.out.2.2.2.2).mono ?_; rintro _ x16 ⟨a16, c16, rfl, ho16, hr16⟩; obtain ⟨a17, c17, hv16, _, _, hs16, _⟩ := ho16.shape; injection hv16 with ea16 en16 ec16; subst ea16; have HS16 : Hid (Sms x16 a16 t.segs) := hs16; have HD16 : Hid (SvR x5 x16 w1.heap.size q b S16 F5) := HD15.out.comp hr16; clear ho16 hr16 hs16 en16 ec16)
    | ((with_reducible refine frm_store 24 ?_); clear TS3; refine wpList_store_mf rfl _ _ rfl rfl (MfAt.new x16 zeroM (.slice none 0 0)) rfl (m2 := t) (a2 := a16) (n2 := n2) (c2 := c16) rfl ?_; intro x17 hf17 ho17 hh17 hs17; have hb17 : Below x16.heap.size x16 x17 := ho17 _ _ ((Below.refl _ _).alloc (Nat.le_refl _) _) (Nat.le_refl _); have HN17 : Hid (MfAt x17 x16.heap.size t (.slice a16 n2 c16) ∧ Sms x17 a16 t.segs) := ⟨hf17, HS16.out.keep hb17⟩; have HD17 : Hid (SvR x5 x17 w1.heap.size q b S16 F5) := HD16.out.next hb17; have HB17 : Hid (Below w1.heap.size w1 x17) := HB5.out.trans HD17.out.b; clear hf17 ho17 hh17 hs17 hb17)
    | ((with_reducible refine frm_load 24 ?_); clear TL5; refine wpList_load_mf rfl _ rfl (HN17.out.1) rfl ?_)
    | ((with_reducible refine frm_load 24 ?_); refine wpList_load_mf rfl _ rfl (HW1.out.2.2.1.after HB17.out) rfl ?_)
    | (go_at_call 13; refine (msame_yes t n2 a16 a2 c16 cap2 _ HT2.out.1 HN17.out.2 (HW1.out.2.2.2.2.2.1.keep HB17.out) HT2.out.2.2).mono ?_; rintro _ x18 ⟨rfl, hb18⟩; have HB18 : Hid (Below w1.heap.size w1 x18) := HB17.out.trans (hb18.mono HB17.out.size); clear hb18))
  go_ret
  exact ⟨rfl, HW1.out.1.trans (HB18.out.mono HW1.out.1.size)⟩
set_option maxRecDepth 100000 in
set_option maxHeartbeats 8000000 in
theorem way_00 (s : Mf) (a : Option Addr) (n cap : Nat) (t : Mf) (a2 : Option Addr) (n2 cap2 : Nat) (fz : Int) (ks : List Int) (a3 : Option Addr) (cap3 : Nat) (w : World) (hn : s.segs.length = n) (hS : Sms w a s.segs) (hm : n * 32 ≤ 140737488351232) (hn2 : t.segs.length = n2) (hS2 : Sms w a2 t.segs) (hm2 : n2 * 32 ≤ 140737488351232) (hk : Ints w a3 ks) (hc3 : Came w a3 ks.length cap3 8) (ht : Tab w) (u : Mf) (hu : m1 = u) (hun : u.segs.length = 1) (hV : mvB s = false) (S3 : Ak) (h3 : msaveA (newD 1048576).ab u = (S3, 0)) (ok3 : AkOk S3) (S11 : Ak) (h11 : fuseA S3 fz = S11) (ok11 : AkOk S11) (S13 : Ak) (e13 : Nat) (h13 : msaveA S11 t = (S13, e13)) (ok13 : AkOk S13) (he : e13 ≠ 0) (S15 : Ak) (h15 : restartA S13 ks = S15) (ok15 : AkOk S15) (N : Nat) (hN : (mfL u).length = N) (hNb : N ≤ 1048576) (S16 : Ak) (hs : sizeA S15 nM = (N, 0)) (hr : readA S15 nM 0 (N : Int) = (S16, mfL u, 0)) (hmd : mdM (mfL u) = u ∧ mdE (mfL u) = 0) :
    Calls Tryd.prog 3 #[MfV s (.slice a n cap), MfV t (.slice a2 n2 cap2), .int .i64 fz, .slice a3 ks.length cap3] w fun e w' => e = .returned (.bool true) ∧ Below w.heap.size w w' := by
  have h5 := hc3.fits
  have h6 := hc3.room
  have HS : Hid (s.segs.length = n ∧ n * 32 ≤ 140737488351232 ∧ n ≤ maxLen) := ⟨hn, hm, by unfold maxLen; omega⟩
  have HT2 : Hid (t.segs.length = n2 ∧ n2 * 32 ≤ 140737488351232 ∧ n2 ≤ maxLen) := ⟨hn2, hm2, by unfold maxLen; omega⟩
  have HW : Hid (Sms w a s.segs ∧ Sms w a2 t.segs ∧ Ints w a3 ks ∧ Tab w) := ⟨hS, hS2, hk, ht⟩
  have HKS : Hid ((a3 = none → cap3 = 0) ∧ ks.length ≤ cap3 ∧ ks.length * 8 ≤ 140737488355328) := ⟨hc3.none, hc3.fits, by omega⟩
  have HU : Hid (m1 = u ∧ u.segs.length = 1 ∧ 1 ≤ maxLen) := ⟨hu, hun, by unfold maxLen; omega⟩
  have HV : Hid (mvB s = false) := hV
  have H3 : Hid (msaveA (newD 1048576).ab u = (S3, 0)) := h3
  have HK1 : Hid (AkOk (newD 1048576).ab) := newA_ok _
  have HK3 : Hid (AkOk S3) := ok3
  have H11 : Hid (fuseA S3 fz = S11) := h11
  have HK11 : Hid (AkOk S11) := ok11
  have H13 : Hid (msaveA S11 t = (S13, e13)) := h13
  have HK13 : Hid (AkOk S13) := ok13
  have H15 : Hid (restartA S13 ks = S15) := h15
  have HK15 : Hid (AkOk S15) := ok15
  have HLD : Hid ((mfL u).length = N ∧ N ≤ 1048576 ∧ sizeA S15 nM = (N, 0) ∧ readA S15 nM 0 (N : Int) = (S16, mfL u, 0) ∧ mdM (mfL u) = u ∧ mdE (mfL u) = 0) := ⟨hN, hNb, hs, hr, hmd⟩
  have HB0 : Hid (Below w.heap.size w ((w.alloc (.cells (mfA s (.slice a n cap)) 24)).alloc (.cells (mfA t (.slice a2 n2 cap2)) 24))) := ((Below.refl _ _).alloc (Nat.le_refl _) _).alloc (by simp) _
  have HM0 : Hid (MfAt ((w.alloc (.cells (mfA s (.slice a n cap)) 24)).alloc (.cells (mfA t (.slice a2 n2 cap2)) 24)) w.heap.size s (.slice a n cap) ∧ MfAt ((w.alloc (.cells (mfA s (.slice a n cap)) 24)).alloc (.cells (mfA t (.slice a2 n2 cap2)) 24)) (w.heap.size + 1) t (.slice a2 n2 cap2)) := by
    have h := MfAt.new (w.alloc (.cells (mfA s (.slice a n cap)) 24)) t (.slice a2 n2 cap2)
    rw [World.size_alloc] at h
    exact ⟨(MfAt.new w s _).after ((Below.refl _ _).alloc (Nat.le_refl _) _), h⟩
  have hne : ((e13 : Int) == 0) = false := by simp; exact he
  have TF1 : Hid True := trivial
  have TV1 : Hid True := trivial
  have TS1 : Hid True := trivial
  have TL1 : Hid True := trivial
  have TC1 : Hid True := trivial
  have TL4 : Hid True := trivial
  have TC3 : Hid True := trivial
  have TV3 : Hid True := trivial
  have TS3 : Hid True := trivial
  have TL5 : Hid True := trivial
  clear h5 h6 hn hS hm hn2 hS2 hm2 hk hc3 ht hu hun hV h3 ok3 h11 ok11 h13 ok13 h15 ok15 hN hNb hs hr hmd he
  go_enter Tryd.func3, Tryd.ntmps3
  go_wp2_with (first
    | (go_at_call 4; refine (head16_any _ (HW.out.2.2.2.keep HB0.out)).mono ?_; rintro _ w1 ⟨rfl, hb1⟩; have HW1 : Hid (Below w.heap.size w w1 ∧ MfAt w1 w.heap.size s (.slice a n cap) ∧ MfAt w1 (w.heap.size + 1) t (.slice a2 n2 cap2) ∧ Tab w1 ∧ Sms w1 a s.segs ∧ Sms w1 a2 t.segs ∧ Ints w1 a3 ks) := ⟨below_next HB0.out hb1, HM0.out.1.after hb1, HM0.out.2.after hb1, HW.out.2.2.2.keep (below_next HB0.out hb1), HW.out.1.keep (below_next HB0.out hb1), HW.out.2.1.keep (below_next HB0.out hb1), HW.out.2.2.1.keep (below_next HB0.out hb1)⟩; clear hb1)
    | (go_at_call 5; refine (new_S w1).mono ?_; rintro _ x1 ⟨q, b, rfl, hd1, hb1⟩; have HD1 : Hid (SvR x1 x1 w1.heap.size q b (newD 1048576).ab noF) := hd1; have HB1 : Hid (Below w1.heap.size w1 x1) := hb1; clear hd1 hb1)
    | (go_at_call 7; clear TF1; refine (first_u u HU.out.1 _).mono ?_; rintro _ x2 ⟨g2, rfl, hs2, _, _, hb2⟩; have HD2 : Hid (SvR x1 x2 w1.heap.size q b (newD 1048576).ab noF) := HD1.out.next hb2; have HB2 : Hid (Below w1.heap.size w1 x2) := HB1.out.trans HD2.out.b; have HS2 : Hid (Sms x2 (some ⟨g2, 0, none⟩) u.segs) := hs2; clear hs2 hb2)
    | (go_at_call 6; clear TV1; refine (msave_M HD2.out.d HK1.out w1 HB2.out (Nat.le_refl _) HW1.out.2.2.2.1 u 1 (some ⟨g2, 0, none⟩) 1 HU.out.2.1 HS2.out HU.out.2.2).mono ?_; rw [H3.out]; rintro _ x3 ⟨rfl, hr3⟩; have HD3 : Hid (SvR x1 x3 w1.heap.size q b S3 noF) := HD2.out.comp hr3; have HB3 : Hid (Below w1.heap.size w1 x3) := HB1.out.trans HD3.out.b; clear hr3)
    | (go_at_call 7; refine (first_u u HU.out.1 _).mono ?_; rintro _ x4 ⟨g4, rfl, hs4, hlo4, hlt4, hb4⟩; have HF4 : Hid (Sms x4 (some ⟨g4, 0, none⟩) u.segs ∧ x3.heap.size ≤ g4 ∧ g4 < x4.heap.size ∧ Below x3.heap.size x3 x4) := ⟨hs4, hlo4, hlt4, hb4⟩; clear hs4 hlo4 hlt4 hb4)
    | ((with_reducible refine frm_store 24 ?_); clear TS1; refine wpList_store_mf rfl _ _ rfl rfl (MfAt.new x4 zeroM (.slice none 0 0)) rfl (m2 := u) (a2 := some ⟨g4, 0, none⟩) (n2 := 1) (c2 := 1) rfl ?_; intro x5 hf5 ho5 hh5 hs5; obtain ⟨F5, hd5, hb5, hx5, hF5, hm5, hg5⟩ := before_start HD3.out HF4.out.2.2.2 (ho5 _ _ ((Below.refl _ _).alloc (Nat.le_refl _) _) (Nat.le_refl _)) hf5 HF4.out.1 HF4.out.2.1 HF4.out.2.2.1; have HD5 : Hid (SvR x5 x5 w1.heap.size q b S3 F5) := hd5; have HB5 : Hid (Below w1.heap.size w1 x5) := HB3.out.trans hb5; have HX5 : Hid (w1.heap.size ≤ x4.heap.size ∧ (F5 g4 ∧ F5 x4.heap.size) ∧ MfAt x5 x4.heap.size u (.slice (some ⟨g4, 0, none⟩) 1 1) ∧ Sms x5 (some ⟨g4, 0, none⟩) u.segs) := ⟨hx5, hF5, hm5, hg5⟩; clear hf5 ho5 hh5 hs5 hd5 hb5 hx5 hF5 hm5 hg5)
    | ((with_reducible refine frm_load 24 ?_); clear TL1; refine wpList_load_mf rfl _ rfl (HW1.out.2.1.after HB5.out) rfl ?_)
    | (go_at_call 9; clear TC1; refine (mcopy_any s a n cap _ HS.out.1 (HW1.out.2.2.2.2.1.keep HB5.out) HS.out.2.1).mono ?_; rintro _ x6 ⟨v6, rfl, ho6, hb6⟩; obtain ⟨a6, c6, hv6, _, _, hs6, _⟩ := ho6.shape; rw [HS.out.1] at hv6; subst hv6; have HS6 : Hid (Sms x6 a6 s.segs) := hs6; have HD6 : Hid (SvR x5 x6 w1.heap.size q b S3 F5) := HD5.out.next hb6; have HB6 : Hid (Below w1.heap.size w1 x6) := HB5.out.trans HD6.out.b; clear ho6 hb6 hs6)
    | (go_at_call 8; refine (mvalid_any s n a6 c6 _ HS.out.1 HS6.out HS.out.2.2).mono ?_; rw [HV.out]; rintro _ x7 ⟨rfl, hb7⟩; have HD7 : Hid (SvR x5 x7 w1.heap.size q b S3 F5) := HD6.out.next hb7; have HB7 : Hid (Below w1.heap.size w1 x7) := HB5.out.trans HD7.out.b; clear hb7)
    | (go_at_call 10; refine (fuse_M HD7.out.d HK3.out fz).mono ?_; rw [H11.out]; rintro _ x11 ⟨rfl, hr11⟩; have HD11 : Hid (SvR x5 x11 w1.heap.size q b S11 F5) := HD7.out.call hr11; have HB11 : Hid (Below w1.heap.size w1 x11) := HB5.out.trans HD11.out.b; clear hr11)
    | ((with_reducible refine frm_load 24 ?_); clear TL4; refine wpList_load_mf rfl _ rfl (HW1.out.2.2.1.after HB11.out) rfl ?_)
    | (go_at_call 9; clear TC3; refine (mcopy_any t a2 n2 cap2 _ HT2.out.1 (HW1.out.2.2.2.2.2.1.keep HB11.out) HT2.out.2.1).mono ?_; rintro _ x12 ⟨v12, rfl, ho12, hb12⟩; obtain ⟨a12, c12, hv12, _, _, hs12, _⟩ := ho12.shape; rw [HT2.out.1] at hv12; subst hv12; have HS12 : Hid (Sms x12 a12 t.segs) := hs12; have HD12 : Hid (SvR x5 x12 w1.heap.size q b S11 F5) := HD11.out.next hb12; have HB12 : Hid (Below w1.heap.size w1 x12) := HB5.out.trans HD12.out.b; clear ho12 hb12 hs12)
    | (go_at_call 6; clear TV3; refine (msave_M HD12.out.d HK11.out w1 HB12.out (Nat.le_refl _) HW1.out.2.2.2.1 t n2 a12 c12 HT2.out.1 HS12.out HT2.out.2.2).mono ?_; rw [H13.out]; rintro _ x13 ⟨rfl, hr13⟩; have HD13 : Hid (SvR x5 x13 w1.heap.size q b S13 F5) := HD12.out.comp hr13; have HB13 : Hid (Below w1.heap.size w1 x13) := HB5.out.trans HD13.out.b; clear hr13)
    | (at_builtin; refine wpList_append_ks x13 rfl _ _ rfl ks a3 ks.length cap3 rfl rfl rfl (HW1.out.2.2.2.2.2.2.keep HB13.out) HKS.out.1 HKS.out.2.1 HKS.out.2.2 ?_; intro K14 C14 x14 hi14 ht14 hb14; have HI14 : Hid (Ints x14 K14 ks ∧ (∀ g off, K14 = some ⟨g, off, none⟩ → ks ≠ [] → ∃ c m, x14.heap[g]? = some (.cells c 3 m))) := ⟨hi14, ht14⟩; have HD14 : Hid (SvR x5 x14 w1.heap.size q b S13 F5) := HD13.out.next hb14; have HB14 : Hid (Below w1.heap.size w1 x14) := HB5.out.trans HD14.out.b; clear hi14 ht14 hb14)
    | (go_at_call 11; refine (restart_M HD14.out.d HK13.out K14 ks.length C14 ks rfl HI14.out.1 HI14.out.2 (by have := HKS.out.2.2; omega)).mono ?_; rw [H15.out]; rintro _ x15 ⟨rfl, hr15⟩; have HD15 : Hid (SvR x5 x15 w1.heap.size q b S15 F5) := HD14.out.call hr15; have HB15 : Hid (Below w1.heap.size w1 x15) := HB5.out.trans HD15.out.b; clear hr15)
    | (go_at_call 12; refine (mload_M HD15.out.d HK15.out w1 HB15.out (Nat.le_refl _) HW1.out.2.2.2.1 (mfL u) N HLD.out.1 HLD.out.2.1 u 1 HU.out.2.1 S16 HLD.out.2.2.1 HLD.out.2.2.2.1 HLD.out.2.2.2.2).mono ?_; rintro _ x16 ⟨a16, c16, rfl, ho16, hr16⟩; obtain ⟨a17, c17, hv16, _, _, hs16, _⟩ := ho16.shape; injection hv16 with ea16 en16 ec16; subst ea16; have HS16 : Hid (Sms x16 a16 u.segs) := hs16; have HD16 : Hid (SvR x5 x16 w1.heap.size q b S16 F5) := HD15.out.comp hr16; clear ho16 hr16 hs16 en16 ec16)
    | ((with_reducible refine frm_store 24 ?_); clear TS3; refine wpList_store_mf rfl _ _ rfl rfl (MfAt.new x16 zeroM (.slice none 0 0)) rfl (m2 := u) (a2 := a16) (n2 := 1) (c2 := c16) rfl ?_; intro x17 hf17 ho17 hh17 hs17; have hb17 : Below x16.heap.size x16 x17 := ho17 _ _ ((Below.refl _ _).alloc (Nat.le_refl _) _) (Nat.le_refl _); have HN17 : Hid (MfAt x17 x16.heap.size u (.slice a16 1 c16) ∧ Sms x17 a16 u.segs) := ⟨hf17, HS16.out.keep hb17⟩; have HD17 : Hid (SvR x5 x17 w1.heap.size q b S16 F5) := HD16.out.next hb17; have HB17 : Hid (Below w1.heap.size w1 x17) := HB5.out.trans HD17.out.b; clear hf17 ho17 hh17 hs17 hb17)
    | ((with_reducible refine frm_load 24 ?_); clear TL5; refine wpList_load_mf rfl _ rfl (HN17.out.1) rfl ?_)
    | ((with_reducible refine frm_load 24 ?_); refine wpList_load_mf rfl _ rfl (show MfAt x17 x4.heap.size u (.slice (some ⟨g4, 0, none⟩) 1 1) from (HD17.out.k _ HX5.out.2.1.2).trans HX5.out.2.2.1) rfl ?_)
    | (go_at_call 13; refine (msame_yes u 1 a16 (some ⟨g4, 0, none⟩) c16 1 _ HU.out.2.1 HN17.out.2 (sms_kept HD17.out HX5.out.2.1.1 HX5.out.2.2.2) HU.out.2.2).mono ?_; rintro _ x18 ⟨rfl, hb18⟩; have HB18 : Hid (Below w1.heap.size w1 x18) := HB17.out.trans (hb18.mono HB17.out.size); clear hb18))
  go_ret
  exact ⟨rfl, HW1.out.1.trans (HB18.out.mono HW1.out.1.size)⟩
set_option maxRecDepth 100000 in
set_option maxHeartbeats 8000000 in
theorem way_11 (s : Mf) (a : Option Addr) (n cap : Nat) (t : Mf) (a2 : Option Addr) (n2 cap2 : Nat) (fz : Int) (ks : List Int) (a3 : Option Addr) (cap3 : Nat) (w : World) (hn : s.segs.length = n) (hS : Sms w a s.segs) (hm : n * 32 ≤ 140737488351232) (hn2 : t.segs.length = n2) (hS2 : Sms w a2 t.segs) (hm2 : n2 * 32 ≤ 140737488351232) (hk : Ints w a3 ks) (hc3 : Came w a3 ks.length cap3 8) (ht : Tab w) (u : Mf) (hu : m1 = u) (hun : u.segs.length = 1) (hV : mvB s = true) (S3 : Ak) (h3 : msaveA (newD 1048576).ab u = (S3, 0)) (ok3 : AkOk S3) (S9 : Ak) (h9 : msaveA S3 s = (S9, 0)) (ok9 : AkOk S9) (S11 : Ak) (h11 : fuseA S9 fz = S11) (ok11 : AkOk S11) (S13 : Ak) (h13 : msaveA S11 t = (S13, 0)) (ok13 : AkOk S13) (S15 : Ak) (h15 : restartA S13 ks = S15) (ok15 : AkOk S15) (N : Nat) (hN : (mfL t).length = N) (hNb : N ≤ 1048576) (S16 : Ak) (hs : sizeA S15 nM = (N, 0)) (hr : readA S15 nM 0 (N : Int) = (S16, mfL t, 0)) (hmd : mdM (mfL t) = t ∧ mdE (mfL t) = 0) :
    Calls Tryd.prog 3 #[MfV s (.slice a n cap), MfV t (.slice a2 n2 cap2), .int .i64 fz, .slice a3 ks.length cap3] w fun e w' => e = .returned (.bool true) ∧ Below w.heap.size w w' := by
  have h5 := hc3.fits
  have h6 := hc3.room
  have HS : Hid (s.segs.length = n ∧ n * 32 ≤ 140737488351232 ∧ n ≤ maxLen) := ⟨hn, hm, by unfold maxLen; omega⟩
  have HT2 : Hid (t.segs.length = n2 ∧ n2 * 32 ≤ 140737488351232 ∧ n2 ≤ maxLen) := ⟨hn2, hm2, by unfold maxLen; omega⟩
  have HW : Hid (Sms w a s.segs ∧ Sms w a2 t.segs ∧ Ints w a3 ks ∧ Tab w) := ⟨hS, hS2, hk, ht⟩
  have HKS : Hid ((a3 = none → cap3 = 0) ∧ ks.length ≤ cap3 ∧ ks.length * 8 ≤ 140737488355328) := ⟨hc3.none, hc3.fits, by omega⟩
  have HU : Hid (m1 = u ∧ u.segs.length = 1 ∧ 1 ≤ maxLen) := ⟨hu, hun, by unfold maxLen; omega⟩
  have HV : Hid (mvB s = true) := hV
  have H3 : Hid (msaveA (newD 1048576).ab u = (S3, 0)) := h3
  have HK1 : Hid (AkOk (newD 1048576).ab) := newA_ok _
  have HK3 : Hid (AkOk S3) := ok3
  have H9 : Hid (msaveA S3 s = (S9, 0)) := h9
  have HK9 : Hid (AkOk S9) := ok9
  have H11 : Hid (fuseA S9 fz = S11) := h11
  have HK11 : Hid (AkOk S11) := ok11
  have H13 : Hid (msaveA S11 t = (S13, 0)) := h13
  have HK13 : Hid (AkOk S13) := ok13
  have H15 : Hid (restartA S13 ks = S15) := h15
  have HK15 : Hid (AkOk S15) := ok15
  have HLD : Hid ((mfL t).length = N ∧ N ≤ 1048576 ∧ sizeA S15 nM = (N, 0) ∧ readA S15 nM 0 (N : Int) = (S16, mfL t, 0) ∧ mdM (mfL t) = t ∧ mdE (mfL t) = 0) := ⟨hN, hNb, hs, hr, hmd⟩
  have HB0 : Hid (Below w.heap.size w ((w.alloc (.cells (mfA s (.slice a n cap)) 24)).alloc (.cells (mfA t (.slice a2 n2 cap2)) 24))) := ((Below.refl _ _).alloc (Nat.le_refl _) _).alloc (by simp) _
  have HM0 : Hid (MfAt ((w.alloc (.cells (mfA s (.slice a n cap)) 24)).alloc (.cells (mfA t (.slice a2 n2 cap2)) 24)) w.heap.size s (.slice a n cap) ∧ MfAt ((w.alloc (.cells (mfA s (.slice a n cap)) 24)).alloc (.cells (mfA t (.slice a2 n2 cap2)) 24)) (w.heap.size + 1) t (.slice a2 n2 cap2)) := by
    have h := MfAt.new (w.alloc (.cells (mfA s (.slice a n cap)) 24)) t (.slice a2 n2 cap2)
    rw [World.size_alloc] at h
    exact ⟨(MfAt.new w s _).after ((Below.refl _ _).alloc (Nat.le_refl _) _), h⟩
  have TF1 : Hid True := trivial
  have TV1 : Hid True := trivial
  have TS1 : Hid True := trivial
  have TL1 : Hid True := trivial
  have TC1 : Hid True := trivial
  have TL2 : Hid True := trivial
  have TC2 : Hid True := trivial
  have TV2 : Hid True := trivial
  have TL3 : Hid True := trivial
  have TS2 : Hid True := trivial
  have TL4 : Hid True := trivial
  have TC3 : Hid True := trivial
  have TV3 : Hid True := trivial
  have TS3 : Hid True := trivial
  have TL5 : Hid True := trivial
  clear h5 h6 hn hS hm hn2 hS2 hm2 hk hc3 ht hu hun hV h3 ok3 h11 ok11 h13 ok13 h15 ok15 hN hNb hs hr hmd h9 ok9
  go_enter Tryd.func3, Tryd.ntmps3
  go_wp2_with (first
    | (go_at_call 4; refine (head16_any _ (HW.out.2.2.2.keep HB0.out)).mono ?_; rintro _ w1 ⟨rfl, hb1⟩; have HW1 : Hid (Below w.heap.size w w1 ∧ MfAt w1 w.heap.size s (.slice a n cap) ∧ MfAt w1 (w.heap.size + 1) t (.slice a2 n2 cap2) ∧ Tab w1 ∧ Sms w1 a s.segs ∧ Sms w1 a2 t.segs ∧ Ints w1 a3 ks) := ⟨below_next HB0.out hb1, HM0.out.1.after hb1, HM0.out.2.after hb1, HW.out.2.2.2.keep (below_next HB0.out hb1), HW.out.1.keep (below_next HB0.out hb1), HW.out.2.1.keep (below_next HB0.out hb1), HW.out.2.2.1.keep (below_next HB0.out hb1)⟩; clear hb1)
    | (go_at_call 5; refine (new_S w1).mono ?_; rintro _ x1 ⟨q, b, rfl, hd1, hb1⟩; have HD1 : Hid (SvR x1 x1 w1.heap.size q b (newD 1048576).ab noF) := hd1; have HB1 : Hid (Below w1.heap.size w1 x1) := hb1; clear hd1 hb1)
    | (go_at_call 7; clear TF1; refine (first_u u HU.out.1 _).mono ?_; rintro _ x2 ⟨g2, rfl, hs2, _, _, hb2⟩; have HD2 : Hid (SvR x1 x2 w1.heap.size q b (newD 1048576).ab noF) := HD1.out.next hb2; have HB2 : Hid (Below w1.heap.size w1 x2) := HB1.out.trans HD2.out.b; have HS2 : Hid (Sms x2 (some ⟨g2, 0, none⟩) u.segs) := hs2; clear hs2 hb2)
    | (go_at_call 6; clear TV1; refine (msave_M HD2.out.d HK1.out w1 HB2.out (Nat.le_refl _) HW1.out.2.2.2.1 u 1 (some ⟨g2, 0, none⟩) 1 HU.out.2.1 HS2.out HU.out.2.2).mono ?_; rw [H3.out]; rintro _ x3 ⟨rfl, hr3⟩; have HD3 : Hid (SvR x1 x3 w1.heap.size q b S3 noF) := HD2.out.comp hr3; have HB3 : Hid (Below w1.heap.size w1 x3) := HB1.out.trans HD3.out.b; clear hr3)
    | (go_at_call 7; refine (first_u u HU.out.1 _).mono ?_; rintro _ x4 ⟨g4, rfl, hs4, hlo4, hlt4, hb4⟩; have HF4 : Hid (Sms x4 (some ⟨g4, 0, none⟩) u.segs ∧ x3.heap.size ≤ g4 ∧ g4 < x4.heap.size ∧ Below x3.heap.size x3 x4) := ⟨hs4, hlo4, hlt4, hb4⟩; clear hs4 hlo4 hlt4 hb4)
    | ((with_reducible refine frm_store 24 ?_); clear TS1; refine wpList_store_mf rfl _ _ rfl rfl (MfAt.new x4 zeroM (.slice none 0 0)) rfl (m2 := u) (a2 := some ⟨g4, 0, none⟩) (n2 := 1) (c2 := 1) rfl ?_; intro x5 hf5 ho5 hh5 hs5; obtain ⟨F5, hd5, hb5, hx5, hF5, hm5, hg5⟩ := before_start HD3.out HF4.out.2.2.2 (ho5 _ _ ((Below.refl _ _).alloc (Nat.le_refl _) _) (Nat.le_refl _)) hf5 HF4.out.1 HF4.out.2.1 HF4.out.2.2.1; have HD5 : Hid (SvR x5 x5 w1.heap.size q b S3 F5) := hd5; have HB5 : Hid (Below w1.heap.size w1 x5) := HB3.out.trans hb5; have HX5 : Hid (w1.heap.size ≤ x4.heap.size ∧ (F5 g4 ∧ F5 x4.heap.size) ∧ MfAt x5 x4.heap.size u (.slice (some ⟨g4, 0, none⟩) 1 1) ∧ Sms x5 (some ⟨g4, 0, none⟩) u.segs) := ⟨hx5, hF5, hm5, hg5⟩; clear hf5 ho5 hh5 hs5 hd5 hb5 hx5 hF5 hm5 hg5)
    | ((with_reducible refine frm_load 24 ?_); clear TL1; refine wpList_load_mf rfl _ rfl (HW1.out.2.1.after HB5.out) rfl ?_)
    | (go_at_call 9; clear TC1; refine (mcopy_any s a n cap _ HS.out.1 (HW1.out.2.2.2.2.1.keep HB5.out) HS.out.2.1).mono ?_; rintro _ x6 ⟨v6, rfl, ho6, hb6⟩; obtain ⟨a6, c6, hv6, _, _, hs6, _⟩ := ho6.shape; rw [HS.out.1] at hv6; subst hv6; have HS6 : Hid (Sms x6 a6 s.segs) := hs6; have HD6 : Hid (SvR x5 x6 w1.heap.size q b S3 F5) := HD5.out.next hb6; have HB6 : Hid (Below w1.heap.size w1 x6) := HB5.out.trans HD6.out.b; clear ho6 hb6 hs6)
    | (go_at_call 8; refine (mvalid_any s n a6 c6 _ HS.out.1 HS6.out HS.out.2.2).mono ?_; rw [HV.out]; rintro _ x7 ⟨rfl, hb7⟩; have HD7 : Hid (SvR x5 x7 w1.heap.size q b S3 F5) := HD6.out.next hb7; have HB7 : Hid (Below w1.heap.size w1 x7) := HB5.out.trans HD7.out.b; clear hb7)
    | ((with_reducible refine frm_load 24 ?_); clear TL2; refine wpList_load_mf rfl _ rfl (HW1.out.2.1.after HB7.out) rfl ?_)
    | (go_at_call 9; clear TC2; refine (mcopy_any s a n cap _ HS.out.1 (HW1.out.2.2.2.2.1.keep HB7.out) HS.out.2.1).mono ?_; rintro _ x8 ⟨v8, rfl, ho8, hb8⟩; obtain ⟨a8, c8, hv8, _, _, hs8, _⟩ := ho8.shape; rw [HS.out.1] at hv8; subst hv8; have HS8 : Hid (Sms x8 a8 s.segs) := hs8; have HD8 : Hid (SvR x5 x8 w1.heap.size q b S3 F5) := HD7.out.next hb8; have HB8 : Hid (Below w1.heap.size w1 x8) := HB5.out.trans HD8.out.b; clear ho8 hb8 hs8)
    | (go_at_call 6; clear TV2; refine (msave_M HD8.out.d HK3.out w1 HB8.out (Nat.le_refl _) HW1.out.2.2.2.1 s n a8 c8 HS.out.1 HS8.out HS.out.2.2).mono ?_; rw [H9.out]; rintro _ x9 ⟨rfl, hr9⟩; have HD9 : Hid (SvR x5 x9 w1.heap.size q b S9 F5) := HD8.out.comp hr9; have HB9 : Hid (Below w1.heap.size w1 x9) := HB5.out.trans HD9.out.b; clear hr9)
    | ((with_reducible refine frm_load 24 ?_); clear TL3; refine wpList_load_mf rfl _ rfl (HW1.out.2.1.after HB9.out) rfl ?_)
    | ((with_reducible refine frm_store 24 ?_); clear TS2; refine wpList_store_mf rfl _ _ rfl rfl (show MfAt x9 x4.heap.size u (.slice (some ⟨g4, 0, none⟩) 1 1) from (HD9.out.k _ HX5.out.2.1.2).trans HX5.out.2.2.1) rfl (m2 := s) (a2 := a) (n2 := n) (c2 := cap) rfl ?_; intro x10 hf10 ho10 hh10 hs10; have HD10 : Hid (SvR x10 x10 w1.heap.size q b S9 F5) := before_turn HD9.out HX5.out.2.1.2 hs10 hh10; have HB10 : Hid (Below w1.heap.size w1 x10) := ho10 _ _ HB9.out HX5.out.1; have HX10 : Hid (MfAt x10 x4.heap.size s (.slice a n cap)) := hf10; clear hf10 ho10 hh10 hs10)
    | (go_at_call 10; refine (fuse_M HD10.out.d HK9.out fz).mono ?_; rw [H11.out]; rintro _ x11 ⟨rfl, hr11⟩; have HD11 : Hid (SvR x10 x11 w1.heap.size q b S11 F5) := HD10.out.call hr11; have HB11 : Hid (Below w1.heap.size w1 x11) := HB10.out.trans HD11.out.b; clear hr11)
    | ((with_reducible refine frm_load 24 ?_); clear TL4; refine wpList_load_mf rfl _ rfl (HW1.out.2.2.1.after HB11.out) rfl ?_)
    | (go_at_call 9; clear TC3; refine (mcopy_any t a2 n2 cap2 _ HT2.out.1 (HW1.out.2.2.2.2.2.1.keep HB11.out) HT2.out.2.1).mono ?_; rintro _ x12 ⟨v12, rfl, ho12, hb12⟩; obtain ⟨a12, c12, hv12, _, _, hs12, _⟩ := ho12.shape; rw [HT2.out.1] at hv12; subst hv12; have HS12 : Hid (Sms x12 a12 t.segs) := hs12; have HD12 : Hid (SvR x10 x12 w1.heap.size q b S11 F5) := HD11.out.next hb12; have HB12 : Hid (Below w1.heap.size w1 x12) := HB10.out.trans HD12.out.b; clear ho12 hb12 hs12)
    | (go_at_call 6; clear TV3; refine (msave_M HD12.out.d HK11.out w1 HB12.out (Nat.le_refl _) HW1.out.2.2.2.1 t n2 a12 c12 HT2.out.1 HS12.out HT2.out.2.2).mono ?_; rw [H13.out]; rintro _ x13 ⟨rfl, hr13⟩; have HD13 : Hid (SvR x10 x13 w1.heap.size q b S13 F5) := HD12.out.comp hr13; have HB13 : Hid (Below w1.heap.size w1 x13) := HB10.out.trans HD13.out.b; clear hr13)
    | (at_builtin; refine wpList_append_ks x13 rfl _ _ rfl ks a3 ks.length cap3 rfl rfl rfl (HW1.out.2.2.2.2.2.2.keep HB13.out) HKS.out.1 HKS.out.2.1 HKS.out.2.2 ?_; intro K14 C14 x14 hi14 ht14 hb14; have HI14 : Hid (Ints x14 K14 ks ∧ (∀ g off, K14 = some ⟨g, off, none⟩ → ks ≠ [] → ∃ c m, x14.heap[g]? = some (.cells c 3 m))) := ⟨hi14, ht14⟩; have HD14 : Hid (SvR x10 x14 w1.heap.size q b S13 F5) := HD13.out.next hb14; have HB14 : Hid (Below w1.heap.size w1 x14) := HB10.out.trans HD14.out.b; clear hi14 ht14 hb14)
    | (go_at_call 11; refine (restart_M HD14.out.d HK13.out K14 ks.length C14 ks rfl HI14.out.1 HI14.out.2 (by have := HKS.out.2.2; omega)).mono ?_; rw [H15.out]; rintro _ x15 ⟨rfl, hr15⟩; have HD15 : Hid (SvR x10 x15 w1.heap.size q b S15 F5) := HD14.out.call hr15; have HB15 : Hid (Below w1.heap.size w1 x15) := HB10.out.trans HD15.out.b; clear hr15)
    | (go_at_call 12; refine (mload_M HD15.out.d HK15.out w1 HB15.out (Nat.le_refl _) HW1.out.2.2.2.1 (mfL t) N HLD.out.1 HLD.out.2.1 t n2 HT2.out.1 S16 HLD.out.2.2.1 HLD.out.2.2.2.1 HLD.out.2.2.2.2).mono ?_; rintro _ x16 ⟨a16, c16, rfl, ho16, hr16⟩; obtain ⟨a17, c17, hv16, _, _, hs16, _⟩ := ho16.shape; injection hv16 with ea16 en16 ec16; subst ea16; have HS16 : Hid (Sms x16 a16 t.segs) := hs16; have HD16 : Hid (SvR x10 x16 w1.heap.size q b S16 F5) := HD15.out.comp hr16; clear ho16 hr16 hs16 en16 ec16)
    | ((with_reducible refine frm_store 24 ?_); clear TS3; refine wpList_store_mf rfl _ _ rfl rfl (MfAt.new x16 zeroM (.slice none 0 0)) rfl (m2 := t) (a2 := a16) (n2 := n2) (c2 := c16) rfl ?_; intro x17 hf17 ho17 hh17 hs17; have hb17 : Below x16.heap.size x16 x17 := ho17 _ _ ((Below.refl _ _).alloc (Nat.le_refl _) _) (Nat.le_refl _); have HN17 : Hid (MfAt x17 x16.heap.size t (.slice a16 n2 c16) ∧ Sms x17 a16 t.segs) := ⟨hf17, HS16.out.keep hb17⟩; have HD17 : Hid (SvR x10 x17 w1.heap.size q b S16 F5) := HD16.out.next hb17; have HB17 : Hid (Below w1.heap.size w1 x17) := HB10.out.trans HD17.out.b; clear hf17 ho17 hh17 hs17 hb17)
    | ((with_reducible refine frm_load 24 ?_); clear TL5; refine wpList_load_mf rfl _ rfl (HN17.out.1) rfl ?_)
    | ((with_reducible refine frm_load 24 ?_); refine wpList_load_mf rfl _ rfl (HW1.out.2.2.1.after HB17.out) rfl ?_)
    | (go_at_call 13; refine (msame_yes t n2 a16 a2 c16 cap2 _ HT2.out.1 HN17.out.2 (HW1.out.2.2.2.2.2.1.keep HB17.out) HT2.out.2.2).mono ?_; rintro _ x18 ⟨rfl, hb18⟩; have HB18 : Hid (Below w1.heap.size w1 x18) := HB17.out.trans (hb18.mono HB17.out.size); clear hb18))
  go_ret
  exact ⟨rfl, HW1.out.1.trans (HB18.out.mono HW1.out.1.size)⟩
set_option maxRecDepth 100000 in
set_option maxHeartbeats 8000000 in
theorem way_10 (s : Mf) (a : Option Addr) (n cap : Nat) (t : Mf) (a2 : Option Addr) (n2 cap2 : Nat) (fz : Int) (ks : List Int) (a3 : Option Addr) (cap3 : Nat) (w : World) (hn : s.segs.length = n) (hS : Sms w a s.segs) (hm : n * 32 ≤ 140737488351232) (hn2 : t.segs.length = n2) (hS2 : Sms w a2 t.segs) (hm2 : n2 * 32 ≤ 140737488351232) (hk : Ints w a3 ks) (hc3 : Came w a3 ks.length cap3 8) (ht : Tab w) (u : Mf) (hu : m1 = u) (hun : u.segs.length = 1) (hV : mvB s = true) (S3 : Ak) (h3 : msaveA (newD 1048576).ab u = (S3, 0)) (ok3 : AkOk S3) (S9 : Ak) (h9 : msaveA S3 s = (S9, 0)) (ok9 : AkOk S9) (S11 : Ak) (h11 : fuseA S9 fz = S11) (ok11 : AkOk S11) (S13 : Ak) (e13 : Nat) (h13 : msaveA S11 t = (S13, e13)) (ok13 : AkOk S13) (he : e13 ≠ 0) (S15 : Ak) (h15 : restartA S13 ks = S15) (ok15 : AkOk S15) (N : Nat) (hN : (mfL s).length = N) (hNb : N ≤ 1048576) (S16 : Ak) (hs : sizeA S15 nM = (N, 0)) (hr : readA S15 nM 0 (N : Int) = (S16, mfL s, 0)) (hmd : mdM (mfL s) = s ∧ mdE (mfL s) = 0) :
    Calls Tryd.prog 3 #[MfV s (.slice a n cap), MfV t (.slice a2 n2 cap2), .int .i64 fz, .slice a3 ks.length cap3] w fun e w' => e = .returned (.bool true) ∧ Below w.heap.size w w' := by
  have h5 := hc3.fits
  have h6 := hc3.room
  have HS : Hid (s.segs.length = n ∧ n * 32 ≤ 140737488351232 ∧ n ≤ maxLen) := ⟨hn, hm, by unfold maxLen; omega⟩
  have HT2 : Hid (t.segs.length = n2 ∧ n2 * 32 ≤ 140737488351232 ∧ n2 ≤ maxLen) := ⟨hn2, hm2, by unfold maxLen; omega⟩
  have HW : Hid (Sms w a s.segs ∧ Sms w a2 t.segs ∧ Ints w a3 ks ∧ Tab w) := ⟨hS, hS2, hk, ht⟩
  have HKS : Hid ((a3 = none → cap3 = 0) ∧ ks.length ≤ cap3 ∧ ks.length * 8 ≤ 140737488355328) := ⟨hc3.none, hc3.fits, by omega⟩
  have HU : Hid (m1 = u ∧ u.segs.length = 1 ∧ 1 ≤ maxLen) := ⟨hu, hun, by unfold maxLen; omega⟩
  have HV : Hid (mvB s = true) := hV
  have H3 : Hid (msaveA (newD 1048576).ab u = (S3, 0)) := h3
  have HK1 : Hid (AkOk (newD 1048576).ab) := newA_ok _
  have HK3 : Hid (AkOk S3) := ok3
  have H9 : Hid (msaveA S3 s = (S9, 0)) := h9
  have HK9 : Hid (AkOk S9) := ok9
  have H11 : Hid (fuseA S9 fz = S11) := h11
  have HK11 : Hid (AkOk S11) := ok11
  have H13 : Hid (msaveA S11 t = (S13, e13)) := h13
  have HK13 : Hid (AkOk S13) := ok13
  have H15 : Hid (restartA S13 ks = S15) := h15
  have HK15 : Hid (AkOk S15) := ok15
  have HLD : Hid ((mfL s).length = N ∧ N ≤ 1048576 ∧ sizeA S15 nM = (N, 0) ∧ readA S15 nM 0 (N : Int) = (S16, mfL s, 0) ∧ mdM (mfL s) = s ∧ mdE (mfL s) = 0) := ⟨hN, hNb, hs, hr, hmd⟩
  have HB0 : Hid (Below w.heap.size w ((w.alloc (.cells (mfA s (.slice a n cap)) 24)).alloc (.cells (mfA t (.slice a2 n2 cap2)) 24))) := ((Below.refl _ _).alloc (Nat.le_refl _) _).alloc (by simp) _
  have HM0 : Hid (MfAt ((w.alloc (.cells (mfA s (.slice a n cap)) 24)).alloc (.cells (mfA t (.slice a2 n2 cap2)) 24)) w.heap.size s (.slice a n cap) ∧ MfAt ((w.alloc (.cells (mfA s (.slice a n cap)) 24)).alloc (.cells (mfA t (.slice a2 n2 cap2)) 24)) (w.heap.size + 1) t (.slice a2 n2 cap2)) := by
    have h := MfAt.new (w.alloc (.cells (mfA s (.slice a n cap)) 24)) t (.slice a2 n2 cap2)
    rw [World.size_alloc] at h
    exact ⟨(MfAt.new w s _).after ((Below.refl _ _).alloc (Nat.le_refl _) _), h⟩
  have hne : ((e13 : Int) == 0) = false := by simp; exact he
  have TF1 : Hid True := trivial
  have TV1 : Hid True := trivial
  have TS1 : Hid True := trivial
  have TL1 : Hid True := trivial
  have TC1 : Hid True := trivial
  have TL2 : Hid True := trivial
  have TC2 : Hid True := trivial
  have TV2 : Hid True := trivial
  have TL3 : Hid True := trivial
  have TS2 : Hid True := trivial
  have TL4 : Hid True := trivial
  have TC3 : Hid True := trivial
  have TV3 : Hid True := trivial
  have TS3 : Hid True := trivial
  have TL5 : Hid True := trivial
  clear h5 h6 hn hS hm hn2 hS2 hm2 hk hc3 ht hu hun hV h3 ok3 h11 ok11 h13 ok13 h15 ok15 hN hNb hs hr hmd h9 ok9 he
  go_enter Tryd.func3, Tryd.ntmps3
  go_wp2_with (first
    | (go_at_call 4; refine (head16_any _ (HW.out.2.2.2.keep HB0.out)).mono ?_; rintro _ w1 ⟨rfl, hb1⟩; have HW1 : Hid (Below w.heap.size w w1 ∧ MfAt w1 w.heap.size s (.slice a n cap) ∧ MfAt w1 (w.heap.size + 1) t (.slice a2 n2 cap2) ∧ Tab w1 ∧ Sms w1 a s.segs ∧ Sms w1 a2 t.segs ∧ Ints w1 a3 ks) := ⟨below_next HB0.out hb1, HM0.out.1.after hb1, HM0.out.2.after hb1, HW.out.2.2.2.keep (below_next HB0.out hb1), HW.out.1.keep (below_next HB0.out hb1), HW.out.2.1.keep (below_next HB0.out hb1), HW.out.2.2.1.keep (below_next HB0.out hb1)⟩; clear hb1)
    | (go_at_call 5; refine (new_S w1).mono ?_; rintro _ x1 ⟨q, b, rfl, hd1, hb1⟩; have HD1 : Hid (SvR x1 x1 w1.heap.size q b (newD 1048576).ab noF) := hd1; have HB1 : Hid (Below w1.heap.size w1 x1) := hb1; clear hd1 hb1)
    | (go_at_call 7; clear TF1; refine (first_u u HU.out.1 _).mono ?_; rintro _ x2 ⟨g2, rfl, hs2, _, _, hb2⟩; have HD2 : Hid (SvR x1 x2 w1.heap.size q b (newD 1048576).ab noF) := HD1.out.next hb2; have HB2 : Hid (Below w1.heap.size w1 x2) := HB1.out.trans HD2.out.b; have HS2 : Hid (Sms x2 (some ⟨g2, 0, none⟩) u.segs) := hs2; clear hs2 hb2)
    | (go_at_call 6; clear TV1; refine (msave_M HD2.out.d HK1.out w1 HB2.out (Nat.le_refl _) HW1.out.2.2.2.1 u 1 (some ⟨g2, 0, none⟩) 1 HU.out.2.1 HS2.out HU.out.2.2).mono ?_; rw [H3.out]; rintro _ x3 ⟨rfl, hr3⟩; have HD3 : Hid (SvR x1 x3 w1.heap.size q b S3 noF) := HD2.out.comp hr3; have HB3 : Hid (Below w1.heap.size w1 x3) := HB1.out.trans HD3.out.b; clear hr3)
    | (go_at_call 7; refine (first_u u HU.out.1 _).mono ?_; rintro _ x4 ⟨g4, rfl, hs4, hlo4, hlt4, hb4⟩; have HF4 : Hid (Sms x4 (some ⟨g4, 0, none⟩) u.segs ∧ x3.heap.size ≤ g4 ∧ g4 < x4.heap.size ∧ Below x3.heap.size x3 x4) := ⟨hs4, hlo4, hlt4, hb4⟩; clear hs4 hlo4 hlt4 hb4)
    | ((with_reducible refine frm_store 24 ?_); clear TS1; refine wpList_store_mf rfl _ _ rfl rfl (MfAt.new x4 zeroM (.slice none 0 0)) rfl (m2 := u) (a2 := some ⟨g4, 0, none⟩) (n2 := 1) (c2 := 1) rfl ?_; intro x5 hf5 ho5 hh5 hs5; obtain ⟨F5, hd5, hb5, hx5, hF5, hm5, hg5⟩ := before_start HD3.out HF4.out.2.2.2 (ho5 _ _ ((Below.refl _ _).alloc (Nat.le_refl _) _) (Nat.le_refl _)) hf5 HF4.out.1 HF4.out.2.1 HF4.out.2.2.1; have HD5 : Hid (SvR x5 x5 w1.heap.size q b S3 F5) := hd5; have HB5 : Hid (Below w1.heap.size w1 x5) := HB3.out.trans hb5; have HX5 : Hid (w1.heap.size ≤ x4.heap.size ∧ (F5 g4 ∧ F5 x4.heap.size) ∧ MfAt x5 x4.heap.size u (.slice (some ⟨g4, 0, none⟩) 1 1) ∧ Sms x5 (some ⟨g4, 0, none⟩) u.segs) := ⟨hx5, hF5, hm5, hg5⟩; clear hf5 ho5 hh5 hs5 hd5 hb5 hx5 hF5 hm5 hg5)
    | ((with_reducible refine frm_load 24 ?_); clear TL1; refine wpList_load_mf rfl _ rfl (HW1.out.2.1.after HB5.out) rfl ?_)
    | (go_at_call 9; clear TC1; refine (mcopy_any s a n cap _ HS.out.1 (HW1.out.2.2.2.2.1.keep HB5.out) HS.out.2.1).mono ?_; rintro _ x6 ⟨v6, rfl, ho6, hb6⟩; obtain ⟨a6, c6, hv6, _, _, hs6, _⟩ := ho6.shape; rw [HS.out.1] at hv6; subst hv6; have HS6 : Hid (Sms x6 a6 s.segs) := hs6; have HD6 : Hid (SvR x5 x6 w1.heap.size q b S3 F5) := HD5.out.next hb6; have HB6 : Hid (Below w1.heap.size w1 x6) := HB5.out.trans HD6.out.b; clear ho6 hb6 hs6)
    | (go_at_call 8; refine (mvalid_any s n a6 c6 _ HS.out.1 HS6.out HS.out.2.2).mono ?_; rw [HV.out]; rintro _ x7 ⟨rfl, hb7⟩; have HD7 : Hid (SvR x5 x7 w1.heap.size q b S3 F5) := HD6.out.next hb7; have HB7 : Hid (Below w1.heap.size w1 x7) := HB5.out.trans HD7.out.b; clear hb7)
    | ((with_reducible refine frm_load 24 ?_); clear TL2; refine wpList_load_mf rfl _ rfl (HW1.out.2.1.after HB7.out) rfl ?_)
    | (go_at_call 9; clear TC2; refine (mcopy_any s a n cap _ HS.out.1 (HW1.out.2.2.2.2.1.keep HB7.out) HS.out.2.1).mono ?_; rintro _ x8 ⟨v8, rfl, ho8, hb8⟩; obtain ⟨a8, c8, hv8, _, _, hs8, _⟩ := ho8.shape; rw [HS.out.1] at hv8; subst hv8; have HS8 : Hid (Sms x8 a8 s.segs) := hs8; have HD8 : Hid (SvR x5 x8 w1.heap.size q b S3 F5) := HD7.out.next hb8; have HB8 : Hid (Below w1.heap.size w1 x8) := HB5.out.trans HD8.out.b; clear ho8 hb8 hs8)
    | (go_at_call 6; clear TV2; refine (msave_M HD8.out.d HK3.out w1 HB8.out (Nat.le_refl _) HW1.out.2.2.2.1 s n a8 c8 HS.out.1 HS8.out HS.out.2.2).mono ?_; rw [H9.out]; rintro _ x9 ⟨rfl, hr9⟩; have HD9 : Hid (SvR x5 x9 w1.heap.size q b S9 F5) := HD8.out.comp hr9; have HB9 : Hid (Below w1.heap.size w1 x9) := HB5.out.trans HD9.out.b; clear hr9)
    | ((with_reducible refine frm_load 24 ?_); clear TL3; refine wpList_load_mf rfl _ rfl (HW1.out.2.1.after HB9.out) rfl ?_)
    | ((with_reducible refine frm_store 24 ?_); clear TS2; refine wpList_store_mf rfl _ _ rfl rfl (show MfAt x9 x4.heap.size u (.slice (some ⟨g4, 0, none⟩) 1 1) from (HD9.out.k _ HX5.out.2.1.2).trans HX5.out.2.2.1) rfl (m2 := s) (a2 := a) (n2 := n) (c2 := cap) rfl ?_; intro x10 hf10 ho10 hh10 hs10; have HD10 : Hid (SvR x10 x10 w1.heap.size q b S9 F5) := before_turn HD9.out HX5.out.2.1.2 hs10 hh10; have HB10 : Hid (Below w1.heap.size w1 x10) := ho10 _ _ HB9.out HX5.out.1; have HX10 : Hid (MfAt x10 x4.heap.size s (.slice a n cap)) := hf10; clear hf10 ho10 hh10 hs10)
    | (go_at_call 10; refine (fuse_M HD10.out.d HK9.out fz).mono ?_; rw [H11.out]; rintro _ x11 ⟨rfl, hr11⟩; have HD11 : Hid (SvR x10 x11 w1.heap.size q b S11 F5) := HD10.out.call hr11; have HB11 : Hid (Below w1.heap.size w1 x11) := HB10.out.trans HD11.out.b; clear hr11)
    | ((with_reducible refine frm_load 24 ?_); clear TL4; refine wpList_load_mf rfl _ rfl (HW1.out.2.2.1.after HB11.out) rfl ?_)
    | (go_at_call 9; clear TC3; refine (mcopy_any t a2 n2 cap2 _ HT2.out.1 (HW1.out.2.2.2.2.2.1.keep HB11.out) HT2.out.2.1).mono ?_; rintro _ x12 ⟨v12, rfl, ho12, hb12⟩; obtain ⟨a12, c12, hv12, _, _, hs12, _⟩ := ho12.shape; rw [HT2.out.1] at hv12; subst hv12; have HS12 : Hid (Sms x12 a12 t.segs) := hs12; have HD12 : Hid (SvR x10 x12 w1.heap.size q b S11 F5) := HD11.out.next hb12; have HB12 : Hid (Below w1.heap.size w1 x12) := HB10.out.trans HD12.out.b; clear ho12 hb12 hs12)
    | (go_at_call 6; clear TV3; refine (msave_M HD12.out.d HK11.out w1 HB12.out (Nat.le_refl _) HW1.out.2.2.2.1 t n2 a12 c12 HT2.out.1 HS12.out HT2.out.2.2).mono ?_; rw [H13.out]; rintro _ x13 ⟨rfl, hr13⟩; have HD13 : Hid (SvR x10 x13 w1.heap.size q b S13 F5) := HD12.out.comp hr13; have HB13 : Hid (Below w1.heap.size w1 x13) := HB10.out.trans HD13.out.b; clear hr13)
    | (at_builtin; refine wpList_append_ks x13 rfl _ _ rfl ks a3 ks.length cap3 rfl rfl rfl (HW1.out.2.2.2.2.2.2.keep HB13.out) HKS.out.1 HKS.out.2.1 HKS.out.2.2 ?_; intro K14 C14 x14 hi14 ht14 hb14; have HI14 : Hid (Ints x14 K14 ks ∧ (∀ g off, K14 = some ⟨g, off, none⟩ → ks ≠ [] → ∃ c m, x14.heap[g]? = some (.cells c 3 m))) := ⟨hi14, ht14⟩; have HD14 : Hid (SvR x10 x14 w1.heap.size q b S13 F5) := HD13.out.next hb14; have HB14 : Hid (Below w1.heap.size w1 x14) := HB10.out.trans HD14.out.b; clear hi14 ht14 hb14)
    | (go_at_call 11; refine (restart_M HD14.out.d HK13.out K14 ks.length C14 ks rfl HI14.out.1 HI14.out.2 (by have := HKS.out.2.2; omega)).mono ?_; rw [H15.out]; rintro _ x15 ⟨rfl, hr15⟩; have HD15 : Hid (SvR x10 x15 w1.heap.size q b S15 F5) := HD14.out.call hr15; have HB15 : Hid (Below w1.heap.size w1 x15) := HB10.out.trans HD15.out.b; clear hr15)
    | (go_at_call 12; refine (mload_M HD15.out.d HK15.out w1 HB15.out (Nat.le_refl _) HW1.out.2.2.2.1 (mfL s) N HLD.out.1 HLD.out.2.1 s n HS.out.1 S16 HLD.out.2.2.1 HLD.out.2.2.2.1 HLD.out.2.2.2.2).mono ?_; rintro _ x16 ⟨a16, c16, rfl, ho16, hr16⟩; obtain ⟨a17, c17, hv16, _, _, hs16, _⟩ := ho16.shape; injection hv16 with ea16 en16 ec16; subst ea16; have HS16 : Hid (Sms x16 a16 s.segs) := hs16; have HD16 : Hid (SvR x10 x16 w1.heap.size q b S16 F5) := HD15.out.comp hr16; clear ho16 hr16 hs16 en16 ec16)
    | ((with_reducible refine frm_store 24 ?_); clear TS3; refine wpList_store_mf rfl _ _ rfl rfl (MfAt.new x16 zeroM (.slice none 0 0)) rfl (m2 := s) (a2 := a16) (n2 := n) (c2 := c16) rfl ?_; intro x17 hf17 ho17 hh17 hs17; have hb17 : Below x16.heap.size x16 x17 := ho17 _ _ ((Below.refl _ _).alloc (Nat.le_refl _) _) (Nat.le_refl _); have HN17 : Hid (MfAt x17 x16.heap.size s (.slice a16 n c16) ∧ Sms x17 a16 s.segs) := ⟨hf17, HS16.out.keep hb17⟩; have HD17 : Hid (SvR x10 x17 w1.heap.size q b S16 F5) := HD16.out.next hb17; have HB17 : Hid (Below w1.heap.size w1 x17) := HB10.out.trans HD17.out.b; clear hf17 ho17 hh17 hs17 hb17)
    | ((with_reducible refine frm_load 24 ?_); clear TL5; refine wpList_load_mf rfl _ rfl (HN17.out.1) rfl ?_)
    | ((with_reducible refine frm_load 24 ?_); refine wpList_load_mf rfl _ rfl (show MfAt x17 x4.heap.size s (.slice a n cap) from (HD17.out.k _ HX5.out.2.1.2).trans HX10.out) rfl ?_)
    | (go_at_call 13; refine (msame_yes s n a16 a c16 cap _ HS.out.1 HN17.out.2 (HW1.out.2.2.2.2.1.keep HB17.out) HS.out.2.2).mono ?_; rintro _ x18 ⟨rfl, hb18⟩; have HB18 : Hid (Below w1.heap.size w1 x18) := HB17.out.trans (hb18.mono HB17.out.size); clear hb18))
  go_ret
  exact ⟨rfl, HW1.out.1.trans (HB18.out.mono HW1.out.1.size)⟩
theorem walk (s : Mf) (a : Option Addr) (n cap : Nat) (t : Mf) (a2 : Option Addr) (n2 cap2 : Nat) (fz : Int) (ks : List Int) (a3 : Option Addr) (cap3 : Nat) (w : World) (hn : s.segs.length = n) (hS : Sms w a s.segs) (hc : n ≤ cap) (hm : n * 32 ≤ 140737488351232) (hn2 : t.segs.length = n2) (hS2 : Sms w a2 t.segs) (hc2 : n2 ≤ cap2) (hm2 : n2 * 32 ≤ 140737488351232) (hfz : (Lit.int .i64 fz).wf = true) (hk : Ints w a3 ks) (hc3 : Came w a3 ks.length cap3 8) (ht : Tab w) :
    Calls Tryd.prog 3 #[MfV s (.slice a n cap), MfV t (.slice a2 n2 cap2), .int .i64 fz, .slice a3 ks.length cap3] w fun e w' => e = .returned (.bool true) ∧ Below w.heap.size w w' := by
  have hni := wf_i64 fz hfz
  have l1 := mfL_len m1_valid
  have h3 : msaveA (newD 1048576).ab m1 = (Sv 4 (mfL m1), 0) := by
    rw [show msaveA (newD 1048576).ab m1 = saveA (newD 1048576).ab (mfL m1) from if_pos m1_valid]
    exact sv_first _ (by omega)
  have ok3 : AkOk (Sv 4 (mfL m1)) := by have h := msaveA_ok (newA_ok 1048576) m1; rw [h3] at h; exact h
  cases hV : mvB s with
  | false =>
    have ok11 : AkOk (fuseA (Sv 4 (mfL m1)) fz) := fuseA_ok ok3 hni.2
    have ok13 := msaveA_ok ok11 t
    have ok15 := restartA_ok ok13 ks
    rcases sw_end fz 4 (mfL m1) t ks l1 (by omega) with ⟨e1, e2, e3, T, e4⟩ | ⟨e1, e3, T, e4⟩
    · have l2 := mfL_len e2
      obtain ⟨k1, k2⟩ := size_man e3 e4
      exact way_01 s a n cap t a2 n2 cap2 fz ks a3 cap3 w hn hS hm hn2 hS2 hm2 hk hc3 ht m1 rfl rfl hV _ h3 ok3 _ rfl ok11 _ (Prod.ext rfl e1) ok13 _ rfl ok15 _ rfl (by omega) _ k1 k2 (md_of e2)
    · obtain ⟨k1, k2⟩ := size_man e3 e4
      exact way_00 s a n cap t a2 n2 cap2 fz ks a3 cap3 w hn hS hm hn2 hS2 hm2 hk hc3 ht m1 rfl rfl hV _ h3 ok3 _ rfl ok11 _ _ rfl ok13 e1 _ rfl ok15 _ rfl (by omega) _ k1 k2 (md_of m1_valid)
  | true =>
    have ls := mfL_len hV
    have h9 : msaveA (Sv 4 (mfL m1)) s = (Sv 8 (mfL s), 0) := by
      rw [show msaveA (Sv 4 (mfL m1)) s = saveA (Sv 4 (mfL m1)) (mfL s) from if_pos hV]
      exact sv_second 4 _ _ (by omega) (by omega)
    have ok9 : AkOk (Sv 8 (mfL s)) := by have h := msaveA_ok ok3 s; rw [h9] at h; exact h
    have ok11 : AkOk (fuseA (Sv 8 (mfL s)) fz) := fuseA_ok ok9 hni.2
    have ok13 := msaveA_ok ok11 t
    have ok15 := restartA_ok ok13 ks
    rcases sw_end fz 8 (mfL s) t ks ls (by omega) with ⟨e1, e2, e3, T, e4⟩ | ⟨e1, e3, T, e4⟩
    · have l2 := mfL_len e2
      obtain ⟨k1, k2⟩ := size_man e3 e4
      exact way_11 s a n cap t a2 n2 cap2 fz ks a3 cap3 w hn hS hm hn2 hS2 hm2 hk hc3 ht m1 rfl rfl hV _ h3 ok3 _ h9 ok9 _ rfl ok11 _ (Prod.ext rfl e1) ok13 _ rfl ok15 _ rfl (by omega) _ k1 k2 (md_of e2)
    · obtain ⟨k1, k2⟩ := size_man e3 e4
      exact way_10 s a n cap t a2 n2 cap2 fz ks a3 cap3 w hn hS hm hn2 hS2 hm2 hk hc3 ht m1 rfl rfl hV _ h3 ok3 _ h9 ok9 _ rfl ok11 _ _ rfl ok13 e1 _ rfl ok15 _ rfl (by omega) _ k1 k2 (md_of hV)
theorem own : ownKnob Tryd.prog.godebug = none := by kernel_rfl
theorem laidOut : laidOutB Tryd.prog = true := by kernel_rfl
set_option maxRecDepth 100000 in
theorem contract (H : Type) (enc : TypeId × Value → H) (W : World) (base : Nat) (args : Array Value) (ds gs : List (DataW H)) (before : List MemPlace)
    (hval : ∀ (j : Nat) t v, Tryd.f3.params[j]? = some t → args[j]? = some v → Value.okWide Tryd.prog W .any base t v)
    (hW : DataW.Whole enc Tryd.prog Tryd.f3.params.toList Rows.manifestSwapsSpec.vars false W args.toList ds gs before)
    (hsz : (DataW.weightsEach Tryd.prog (Tryd.f3.params.toList ++ Rows.manifestSwapsSpec.plain.varTypes Tryd.prog) (ds ++ gs)).all (· ≤ reachBytes) = true) (hL : laidMetH Tryd.prog ([("daybook/crc.halves", Rows.laid_daybook_crc_halves)]) W) :
    Calls Tryd.prog 3 args W fun e W' => ∃ v, e = .returned v ∧ Rows.manifestSwapsSpec.post enc Tryd.prog Tryd.f3 false true false false W args v W' := by
  have hW' := hW
  obtain ⟨p, q, hA0, hV, rfl, hfz, hnd⟩ := hW
  have hA : DataW.TrodAll enc Tryd.prog W 0 (fun _ => true) true Tryd.f3.params.toList args.toList ds p := hA0
  rw [Tryd.params3] at hA hval hsz
  obtain ⟨v0, vs0, d0, ds0, p0, q0, hargs, rfl, rfl, h0, r0⟩ := trodAll_cons hA
  obtain ⟨v1, vs1, d1, ds1, p1, q1, rfl, rfl, rfl, h1, r1⟩ := trodAll_cons r0
  obtain ⟨v2, vs2, d2, ds2, p2, q2, rfl, rfl, rfl, h2, r2⟩ := trodAll_cons r1
  obtain ⟨v3, vs3, d3, ds3, p3, q3, rfl, rfl, rfl, h3, r3⟩ := trodAll_cons r2
  obtain ⟨rfl, rfl, rfl⟩ := trodAll_nil r3
  obtain rfl : args = #[v0, v1, v2, v3] := by cases args; simp_all
  obtain ⟨rfl, rfl⟩ := trodVars_none hV
  have k0 := h0
  have lt0 : ∀ x ∈ p0, x.block < W.heap.size := by obtain ⟨m, hm⟩ := k0; exact DataW.trod_lt m _ _ _ hm
  obtain ⟨st0, a0, n0, cap0, rfl, hlen0, w0, c0, m0⟩ := open_manifest (hval 0 24 v0 rfl rfl) h0 hsz (j := 0) rfl rfl
  have k1 := h1
  have lt1 : ∀ x ∈ p1, x.block < W.heap.size := by obtain ⟨m, hm⟩ := k1; exact DataW.trod_lt m _ _ _ hm
  obtain ⟨st1, a1, n1, cap1, rfl, hlen1, w1, c1, m1⟩ := open_manifest (hval 1 24 v1 rfl rfl) h1 hsz (j := 1) rfl rfl
  obtain ⟨a2, rfl, rfl, rfl, w2⟩ := open_int Tryd.underlying3 (hval 2 3 v2 rfl rfl) h2
  obtain ⟨a3, len3, cap3, rfl⟩ := okWide_slice Tryd.underlying25 (hval 3 25 v3 rfl rfl)
  have k3 := h3
  have lt3 : ∀ x ∈ p3, x.block < W.heap.size := by obtain ⟨m, hm⟩ := k3; exact DataW.trod_lt m _ _ _ hm
  obtain ⟨l3, hlen3, w3, c3⟩ : ∃ l : List Int, l.length = len3 ∧ Ints W a3 l ∧ Came W a3 len3 cap3 8 := by
    obtain ⟨fuel, hf⟩ := h3
    rcases open_ints Tryd.underlying25 Tryd.underlying3 (by kernel_rfl) hf with ⟨hcs, hx⟩ | ⟨x, l, c, zs, hcs, _, hl, hm, hz, hx, hcell, hwz⟩
    · simp [Value.cells] at hcs
      obtain ⟨rfl, rfl, rfl⟩ := hcs
      exact ⟨[], rfl, ⟨by simp, .inl rfl⟩, ⟨Nat.le_refl _, by simp, fun _ => rfl⟩⟩
    · simp [Value.cells] at hcs
      obtain ⟨rfl, rfl, rfl⟩ := hcs
      have hz2 : zs.length = cap3 := by simpa using hz
      obtain ⟨ll, e1, e2, e3⟩ := row_ints W x zs len3 (by omega) hcell hwz
      have hd : d3 = .slice (lits .i64 (zs.take len3)) (lits .i64 (zs.drop len3)) := (Prod.mk.inj hx).1
      have hreach : cap3 * 8 ≤ 140737488351232 := by
        have := sized_slice hsz (j := 3) (t := 25) (e := 3) rfl (by rw [hd]; rfl) Tryd.underlying25
        rw [show Tryd.prog.bytesOf 3 = 8 from by kernel_rfl] at this
        simp only [lits, List.length_map, List.length_take, List.length_drop, reachBytes] at this
        have hmin : min len3 zs.length = len3 := Nat.min_eq_left (by omega)
        rw [hmin] at this
        have hcap : len3 + (zs.length - len3) = cap3 := by omega
        rw [hcap] at this
        exact this
      exact ⟨ll, e1, ⟨e2, e3⟩, ⟨hl, hreach, fun h => by cases h⟩⟩
  subst hlen3
  clear hA0
  refine (walk st0 a0 n0 cap0 st1 a1 n1 cap1 a2 l3 a3 cap3 W hlen0 w0 c0 m0 hlen1 w1 c1 m1 w2 w3 c3 (tab_of hL)).mono fun e W' ⟨he, bel⟩ => ?_
  subst he
  exact ⟨_, rfl, _, _, _, [], _, [], hW', trodAll_mk1 (shut_bool Tryd.underlying4 _), (trodAll_cons_mk (Below.trod laidOut (by kernel_rfl) (of_decide_eq_true (by kernel_rfl)) k0 bel lt0) (trodAll_cons_mk (Below.trod laidOut (by kernel_rfl) (of_decide_eq_true (by kernel_rfl)) k1 bel lt1) (trodAll_cons_mk (shut_int Tryd.underlying3 w2) (trodAll_cons_mk (Below.trod laidOut (by kernel_rfl) (of_decide_eq_true (by kernel_rfl)) k3 bel lt3) trodAll_mk0)))), rfl, bel.frame _, fun h => by cases h⟩
set_option maxRecDepth 100000 in
theorem start (os : Os) : ∃ w0 : World, w0.os = os ∧ (w0.forCall (fun _ _ => 0) ⟨#[], #[.agg #[.int .i64 0, .int .i64 0, .int .i64 0, .int .i64 0, .int .i64 0, .slice none 0 0], .agg #[.int .i64 0, .int .i64 0, .int .i64 0, .int .i64 0, .int .i64 0, .slice none 0 0], .int .i64 0, .slice none 0 0], []⟩).variablesB Tryd.prog = true ∧
    ((w0.forCall (fun _ _ => 0) ⟨#[], #[.agg #[.int .i64 0, .int .i64 0, .int .i64 0, .int .i64 0, .int .i64 0, .slice none 0 0], .agg #[.int .i64 0, .int .i64 0, .int .i64 0, .int .i64 0, .int .i64 0, .slice none 0 0], .int .i64 0, .slice none 0 0], []⟩).heap.toList.drop Tryd.prog.globals.size).take ((begin Tryd.prog (fun _ _ => 0) default).world.heap.size - Tryd.prog.globals.size) = (begin Tryd.prog (fun _ _ => 0) default).world.heap.toList.drop Tryd.prog.globals.size ∧
    Input.okWideB Tryd.prog (w0.forCall (fun _ _ => 0) ⟨#[], #[.agg #[.int .i64 0, .int .i64 0, .int .i64 0, .int .i64 0, .int .i64 0, .slice none 0 0], .agg #[.int .i64 0, .int .i64 0, .int .i64 0, .int .i64 0, .int .i64 0, .slice none 0 0], .int .i64 0, .slice none 0 0], []⟩) 3 ⟨#[], #[.agg #[.int .i64 0, .int .i64 0, .int .i64 0, .int .i64 0, .int .i64 0, .slice none 0 0], .agg #[.int .i64 0, .int .i64 0, .int .i64 0, .int .i64 0, .int .i64 0, .slice none 0 0], .int .i64 0, .slice none 0 0], []⟩ = true ∧
    laidMet Tryd.prog Rows.manifestSwapsRow.laid (w0.forCall (fun _ _ => 0) ⟨#[], #[.agg #[.int .i64 0, .int .i64 0, .int .i64 0, .int .i64 0, .int .i64 0, .slice none 0 0], .agg #[.int .i64 0, .int .i64 0, .int .i64 0, .int .i64 0, .int .i64 0, .slice none 0 0], .int .i64 0, .slice none 0 0], []⟩).memory ∧
    ∀ (H : Type) (enc : TypeId × Value → H), DataW.whole enc Tryd.prog (w0.forCall (fun _ _ => 0) ⟨#[], #[.agg #[.int .i64 0, .int .i64 0, .int .i64 0, .int .i64 0, .int .i64 0, .slice none 0 0], .agg #[.int .i64 0, .int .i64 0, .int .i64 0, .int .i64 0, .int .i64 0, .slice none 0 0], .int .i64 0, .slice none 0 0], []⟩).memory Tryd.f3.params.toList Rows.manifestSwapsSpec.vars false (#[.agg #[.int .i64 0, .int .i64 0, .int .i64 0, .int .i64 0, .int .i64 0, .slice none 0 0], .agg #[.int .i64 0, .int .i64 0, .int .i64 0, .int .i64 0, .int .i64 0, .slice none 0 0], .int .i64 0, .slice none 0 0] : Array Value).toList 8 = some ([.agg [.lit (.int .i64 0), .lit (.int .i64 0), .lit (.int .i64 0), .lit (.int .i64 0), .lit (.int .i64 0), .nil], .agg [.lit (.int .i64 0), .lit (.int .i64 0), .lit (.int .i64 0), .lit (.int .i64 0), .lit (.int .i64 0), .nil], .lit (.int .i64 0), .nil], [], []) :=
  ⟨{ World.holding Tryd.prog os ⟨#[], #[], []⟩ with heap := (World.holding Tryd.prog os ⟨#[], #[], []⟩).heap.modify 0 fun
      | .cells _ t frozen => .cells #[.int .u32 0, .int .u32 498536548, .int .u32 997073096, .int .u32 651767980, .int .u32 1994146192, .int .u32 1802195444, .int .u32 1303535960, .int .u32 1342533948, .int .u32 3988292384, .int .u32 4027552580, .int .u32 3604390888, .int .u32 3412177804, .int .u32 2607071920, .int .u32 2262029012, .int .u32 2685067896, .int .u32 3183342108] t frozen
      | o => o }, rfl, by kernel_rfl, by kernel_rfl, by kernel_rfl, laidMet_of_run' 8 (by kernel_rfl) (by kernel_rfl), fun _ _ => by kernel_rfl⟩
set_option maxRecDepth 100000 in
theorem lifted (os : Os) (started : os.Started) (H : Type) (enc : TypeId × Value → H) (F : Stop.Interp) :
    ReturnsInHanded {} Tryd.checked os 3 .any ((OpenSpec.ofChange Rows.manifestSwapsSpec).preRow enc Tryd.prog Tryd.f3 Rows.manifestSwapsRow.domain false Rows.manifestSwapsRow.laid) (((OpenSpec.ofChange Rows.manifestSwapsSpec).at F).post enc Tryd.prog Tryd.f3 false true false false) := by
  obtain ⟨w0, h1, h2, h3, h4, h5, h6⟩ := start os
  refine returnsInHanded_of_row (C := Tryd.checked) (s := OpenSpec.ofChange Rows.manifestSwapsSpec) own started (by kernel_rfl) Tryd.func3
    (witness_row_at (enc := enc) (C := Tryd.checked) false w0 #[.agg #[.int .i64 0, .int .i64 0, .int .i64 0, .int .i64 0, .int .i64 0, .slice none 0 0], .agg #[.int .i64 0, .int .i64 0, .int .i64 0, .int .i64 0, .int .i64 0, .slice none 0 0], .int .i64 0, .slice none 0 0] h1 h2 h3 h4
      (OpenSpec.preRow_of_cond 8 (h6 H enc) (by kernel_rfl) (fun k hk => by cases hk) (by kernel_rfl) h5)) ?_
  intro W base args ds gs before hval hW _ hcond hsz hL _ _
  exact contract H enc W base args ds gs before hval hW hsz hL
theorem said : Rows.ManifestSwapsSaid :=
  OpenClaim.holds_of_cond 3 Tryd.f3 rfl rfl rfl rfl rfl rfl rfl ⟨rfl, rfl, rfl, rfl, rfl⟩ rfl rfl rfl rfl rfl (by kernel_rfl) Tryd.func3 (by kernel_rfl)
    (of_decide_eq_true (by kernel_rfl)) (by unfold Func.isWrapper; first | (rw [if_pos (by decide +kernel)]; kernel_rfl) | (rw [if_neg (by decide +kernel)]; exact ⟨rfl, rfl⟩))
    (fun os started H enc _ F => by rw [OpenClaim.pre_eq_preRow]; exact lifted os started H enc F)
theorem plain (f : FuncId) (fn : Func) (hf : Tryd.pinned.checked.prog.funcNamed "daybook/daybooklaw16.ManifestSwaps" = some f) (hfn : Tryd.pinned.checked.prog.funcs[f]? = some fn) :
    false = Tryd.pinned.checked.prog.looks [] ∧ ∀ (j : Nat) t, fn.params[j]? = some t → Tryd.pinned.checked.prog.wantsStandIn t = false := by
  obtain rfl : f = 3 := Option.some.inj ((show Tryd.prog.funcNamed "daybook/daybooklaw16.ManifestSwaps" = some 3 by kernel_rfl).symm.trans hf) |>.symm
  obtain rfl : fn = Tryd.f3 := (Option.some.inj (Tryd.func3.symm.trans hfn)).symm
  refine ⟨by kernel_rfl, fun j t ht => ?_⟩
  rw [Tryd.params3] at ht
  have hm := Array.mem_of_getElem? ht
  have hall : ∀ t ∈ (#[24, 24, 3, 25] : Array TypeId), Tryd.prog.wantsStandIn t = false := by
    intro t ht
    simp only [List.mem_toArray, List.mem_cons, List.not_mem_nil, or_false] at ht
    rcases ht with rfl | rfl | rfl | rfl <;> kernel_rfl
  exact hall t hm
theorem card : Rows.ManifestSwapsCardSaid :=
  Claim7.holds_tied_plain_at .later [] _ _ _ _ said (fun _ h => by cases h) (by kernel_rfl) (fun _ h => by cases h) manifestSwaps_row_tie rfl ⟨rfl, rfl⟩ (by kernel_rfl) rfl plain (by kernel_rfl)
end Go.Proofs.YtnfkdgjgglnniaaDoor.manifestSwaps
