/- For every manifest and every text: what is written is read, what is read is what would be written, and a manifest that is not valid or a text that is none is told so. No condition. -/
import Derived.Test.YtoneaannbmkeiaaDoorMfh
import Derived.Test.YtoneaannbmkeiaaDoorMfc
import Derived.Test.YtoneaannbmkeiaaDoorMfo
import Derived.Test.YtoneaannbmkeiaaDoorCrcTie
namespace Go.Proofs.YtoneaannbmkeiaaDoor.manifestBack
open Go.ChangeShapes Go.WideShapes Go.ChangeAt Go.RowKit
set_option linter.unusedVariables false
set_option maxRecDepth 20000 in
set_option maxHeartbeats 8000000 in
theorem way_11 (s : Mf) (a : Option Addr) (n cap : Nat) (l : List Nat) (b : Option Addr) (bc ln : Nat) (M : Mf) (nz : Nat) (w : World) (hn : s.segs.length = n) (hS : Sms w a s.segs) (hm : n * 32 ≤ 140737488351232) (hN : l.length = ln) (hb : Bytes w b l) (hln : ln ≤ 140737488351232) (ht : Tab w) (hV : mvB s = true) (hMD : mdM l = M ∧ mdE l = 0) (hz : M.segs.length = nz) (hzn : nz ≤ 256) (hEM : mfE M = 0 ∧ mfL M = l) :
    Calls Tryd.prog 5 #[MfV s (.slice a n cap), .slice b ln bc] w fun e w' => e = .returned (.bool true) ∧ Below w.heap.size w w' := by
  have HS : Hid (s.segs.length = n ∧ Sms w a s.segs ∧ n * 32 ≤ 140737488351232 ∧ n ≤ maxLen) := ⟨hn, hS, hm, by unfold maxLen; omega⟩
  have HT : Hid (Tab w) := ht
  have HN : Hid (l.length = ln) := hN
  have HBY : Hid (Bytes w b l) := hb
  have HV : Hid (mvB s = true) := hV
  have HE : Hid (mfE s = 0) := by show _ = _; unfold mfE; rw [hV]; rfl
  have HD : Hid (mdM l = M ∧ mdE l = 0) := hMD
  have HZL : Hid (M.segs.length = nz) := hz
  obtain ⟨N3, hN3⟩ : ∃ N3, (mfL s).length = N3 := ⟨_, rfl⟩
  have HFL : Hid ((mfL s).length = N3) := hN3
  have hN3b : N3 ≤ 4394 := by rw [← hN3, show mfL s = frameL 4 s.gen.toNat (encAll (mfN s)) from if_pos hV, frameL_length]; have := mf_body hV; omega
  have HMD : Hid (mdM (mfL s) = s ∧ mdE (mfL s) = 0) := by unfold mdM mdE; rw [md_back s hV]; exact ⟨rfl, rfl⟩
  have HEM : Hid (mfE M = 0 ∧ mfL M = l) := hEM
  have HM0 : Hid (MfAt (w.alloc (.cells (mfA s (.slice a n cap)) 24)) w.heap.size s (.slice a n cap)) := MfAt.new w s _
  have HB0 : Hid (Below w.heap.size w (w.alloc (.cells (mfA s (.slice a n cap)) 24))) := (Below.refl _ _).alloc (Nat.le_refl _) _
  have TL1 : Hid True := trivial
  have TC1 : Hid True := trivial
  have TE1 : Hid True := trivial
  have TL2 : Hid True := trivial
  have TD1 : Hid True := trivial
  have TS1 : Hid True := trivial
  have TG1 : Hid True := trivial
  clear hn hS hm hN hb ht hV hMD hz hN3 hEM
  go_enter Tryd.func5, Tryd.ntmps5
  go_wp2_with (first
    | (go_at_call 6; refine (head16_any _ (HT.out.keep HB0.out)).mono ?_; rintro _ w1 ⟨rfl, hb1⟩; have HB1 : Hid (Below w.heap.size w w1) := below_next HB0.out hb1; have HM1 : Hid (MfAt w1 w.heap.size s (.slice a n cap)) := HM0.out.after hb1; clear hb1)
    | ((with_reducible refine frm_load 24 ?_); clear TL1; refine wpList_load_mf rfl _ rfl HM1.out rfl ?_)
    | (go_at_call 7; clear TC1; refine (mcopy_any s a n cap _ HS.out.1 (HS.out.2.1.keep HB1.out) HS.out.2.2.1).mono ?_; rintro _ w2 ⟨v2, rfl, ho2, hb2⟩; obtain ⟨a2, c2, hv2, _, _, hs2, _⟩ := ho2.shape; rw [HS.out.1] at hv2; subst hv2; have HS2 : Hid (Sms w2 a2 s.segs) := hs2; have HB2 : Hid (Below w.heap.size w w2) := below_next HB1.out hb2; have HM2 : Hid (MfAt w2 w.heap.size s (.slice a n cap)) := HM1.out.after hb2; clear ho2 hb2 hs2)
    | (go_at_call 9; clear TE1; refine (menc_any s n a2 c2 _ HS.out.1 HS2.out HS.out.2.2.2 (HT.out.keep HB2.out)).mono ?_; rw [HE.out]; rintro _ w3 ⟨v3, rfl, ho3, hb3⟩; obtain ⟨a3, c3, hv3, hc3, _, hy3, _⟩ := ho3.shape; rw [HFL.out] at hv3 hc3; subst hv3; have HY3 : Hid (Bytes w3 a3 (mfL s) ∧ N3 ≤ c3) := ⟨hy3, hc3⟩; have HB3 : Hid (Below w.heap.size w w3) := below_next HB2.out hb3; have HM3 : Hid (MfAt w3 w.heap.size s (.slice a n cap)) := HM2.out.after hb3; clear ho3 hb3 hy3 hc3)
    | ((with_reducible refine frm_load 24 ?_); clear TL2; refine wpList_load_mf rfl _ rfl HM3.out rfl ?_)
    | (go_at_call 7; refine (mcopy_any s a n cap _ HS.out.1 (HS.out.2.1.keep HB3.out) HS.out.2.2.1).mono ?_; rintro _ w4 ⟨v4, rfl, ho4, hb4⟩; obtain ⟨a4, c4, hv4, _, _, hs4, _⟩ := ho4.shape; rw [HS.out.1] at hv4; subst hv4; have HS4 : Hid (Sms w4 a4 s.segs) := hs4; have HB4 : Hid (Below w.heap.size w w4) := below_next HB3.out hb4; have HM4 : Hid (MfAt w4 w.heap.size s (.slice a n cap)) := HM3.out.after hb4; have HY4 : Hid (Bytes w4 a3 (mfL s)) := HY3.out.1.keep hb4; clear ho4 hb4 hs4)
    | (go_at_call 12; refine (mvalid_any s n a4 c4 _ HS.out.1 HS4.out HS.out.2.2.2).mono ?_; rw [HV.out]; rintro _ w5 ⟨rfl, hb5⟩; have HB5 : Hid (Below w.heap.size w w5) := below_next HB4.out hb5; have HM5 : Hid (MfAt w5 w.heap.size s (.slice a n cap)) := HM4.out.after hb5; have HY5 : Hid (Bytes w5 a3 (mfL s)) := HY4.out.keep hb5; clear hb5)
    | (go_at_call 16; clear TD1; refine (mdec_any (mfL s) N3 a3 c3 _ HFL.out HY5.out HY3.out.2 (by omega) (HT.out.keep HB5.out)).mono ?_; rw [HMD.out.1, HMD.out.2]; rintro _ w6 ⟨v6, rfl, ho6, hb6⟩; obtain ⟨a6, c6, hv6, _, _, hs6, _⟩ := ho6.shape; rw [HS.out.1] at hv6; subst hv6; have HS6 : Hid (Sms w6 a6 s.segs) := hs6; have HB6 : Hid (Below w.heap.size w w6) := below_next HB5.out hb6; have HM6 : Hid (MfAt w6 w.heap.size s (.slice a n cap)) := HM5.out.after hb6; clear ho6 hb6 hs6)
    | ((with_reducible refine frm_store 24 ?_); clear TS1; refine wpList_store_mf rfl _ _ rfl rfl (MfAt.new w6 zeroM (.slice none 0 0)) rfl (m2 := s) (a2 := a6) (n2 := n) (c2 := c6) rfl ?_; intro w7 hf7 ho7 hh7 hs7; have HN7 : Hid (MfAt w7 w6.heap.size s (.slice a6 n c6)) := hf7; have HM7 : Hid (MfAt w7 w.heap.size s (.slice a n cap)) := (hh7 _ (by have := HM6.out.lt; omega)).trans (HM6.out.after ((Below.refl _ _).alloc (Nat.le_refl _) _)); have HB7 : Hid (Below w.heap.size w w7) := ho7 _ _ (HB6.out.alloc HB6.out.size _) HB6.out.size; have HS7 : Hid (Sms w7 a6 s.segs) := HS6.out.keep (ho7 _ _ ((Below.refl _ _).alloc (Nat.le_refl _) _) (Nat.le_refl _)); clear hf7 ho7 hh7 hs7)
    | ((with_reducible refine mf_loadg 24 ?_); clear TG1; refine wpList_load_mfg rfl _ rfl HN7.out rfl ?_)
    | ((with_reducible refine mf_loadg 24 ?_); refine wpList_load_mfg rfl _ rfl HM7.out rfl ?_)
    | (go_at_call 13; refine (msame_yes s n a6 a c6 cap _ HS.out.1 HS7.out (HS.out.2.1.keep HB7.out) HS.out.2.2.2).mono ?_; rintro _ w8 ⟨rfl, hb8⟩; have HB8 : Hid (Below w.heap.size w w8) := below_next HB7.out hb8; clear hb8)
    | (go_at_call 14; refine (copy_nn l b ln bc _ HN.out (HBY.out.keep HB8.out) (by omega)).mono ?_; rintro _ y1 ⟨ay, cy, rfl, hcy, hyy, _, hby⟩; have HYY : Hid (Bytes y1 ay l ∧ ln ≤ cy) := ⟨hyy, hcy⟩; have HY1 : Hid (Below w.heap.size w y1) := below_next HB8.out hby; clear hyy hcy hby)
    | (go_at_call 16; refine (mdec_any l ln ay cy _ HN.out HYY.out.1 HYY.out.2 (by omega) (HT.out.keep HY1.out)).mono ?_; rw [HD.out.1, HD.out.2]; rintro _ y2 ⟨vz, rfl, hoz, hbz⟩; obtain ⟨az, cz, hvz, _, _, hsz, _⟩ := hoz.shape; rw [HZL.out] at hvz; subst hvz; have HSZ : Hid (Sms y2 az M.segs) := hsz; have HY2 : Hid (Below w.heap.size w y2) := below_next HY1.out hbz; clear hoz hbz hsz)
    | ((with_reducible refine frm_store 24 ?_); refine wpList_store_mf rfl _ _ rfl rfl (MfAt.new y2 zeroM (.slice none 0 0)) rfl (m2 := M) (a2 := az) (n2 := nz) (c2 := cz) rfl ?_; intro y3 hf3 ho3 hh3 hs3; have HMZ : Hid (MfAt y3 y2.heap.size M (.slice az nz cz)) := hf3; have HY3' : Hid (Below w.heap.size w y3) := ho3 _ _ (HY2.out.alloc HY2.out.size _) HY2.out.size; have HSZ3 : Hid (Sms y3 az M.segs) := HSZ.out.keep (ho3 _ _ ((Below.refl _ _).alloc (Nat.le_refl _) _) (Nat.le_refl _)); clear hf3 ho3 hh3 hs3)
    | ((with_reducible refine frm_load 24 ?_); refine wpList_load_mf rfl _ rfl HMZ.out rfl ?_)
    | (go_at_call 9; refine (menc_any M nz az cz _ HZL.out HSZ3.out (by unfold maxLen; omega) (HT.out.keep HY3'.out)).mono ?_; rw [HEM.out.1, HEM.out.2]; rintro _ y4 ⟨ve, rfl, hoe, hbe⟩; obtain ⟨ae, ce, hve, _, _, hye, _⟩ := hoe.shape; rw [HN.out] at hve; subst hve; have HYE : Hid (Bytes y4 ae l) := hye; have HY4' : Hid (Below w.heap.size w y4) := below_next HY3'.out hbe; clear hoe hbe hye)
    | (go_at_call 10; refine (same_yes l ln ln ae b ce bc _ HN.out HN.out HYE.out (HBY.out.keep HY4'.out) (by unfold maxLen; omega)).mono ?_; rintro _ y5 ⟨rfl, hb5⟩; have HY5' : Hid (Below w.heap.size w y5) := below_next HY4'.out hb5; clear hb5))
  go_ret
  exact ⟨rfl, HY5'.out⟩
set_option maxRecDepth 20000 in
set_option maxHeartbeats 8000000 in
theorem way_10 (s : Mf) (a : Option Addr) (n cap : Nat) (l : List Nat) (b : Option Addr) (bc ln : Nat) (M : Mf) (nz : Nat) (w : World) (hn : s.segs.length = n) (hS : Sms w a s.segs) (hm : n * 32 ≤ 140737488351232) (hN : l.length = ln) (hb : Bytes w b l) (hln : ln ≤ 140737488351232) (ht : Tab w) (hV : mvB s = true) (hMD : mdM l = M ∧ mdE l = 80) (hz : M.segs.length = nz) :
    Calls Tryd.prog 5 #[MfV s (.slice a n cap), .slice b ln bc] w fun e w' => e = .returned (.bool true) ∧ Below w.heap.size w w' := by
  have HS : Hid (s.segs.length = n ∧ Sms w a s.segs ∧ n * 32 ≤ 140737488351232 ∧ n ≤ maxLen) := ⟨hn, hS, hm, by unfold maxLen; omega⟩
  have HT : Hid (Tab w) := ht
  have HN : Hid (l.length = ln) := hN
  have HBY : Hid (Bytes w b l) := hb
  have HV : Hid (mvB s = true) := hV
  have HE : Hid (mfE s = 0) := by show _ = _; unfold mfE; rw [hV]; rfl
  have HD : Hid (mdM l = M ∧ mdE l = 80) := hMD
  have HZL : Hid (M.segs.length = nz) := hz
  obtain ⟨N3, hN3⟩ : ∃ N3, (mfL s).length = N3 := ⟨_, rfl⟩
  have HFL : Hid ((mfL s).length = N3) := hN3
  have hN3b : N3 ≤ 4394 := by rw [← hN3, show mfL s = frameL 4 s.gen.toNat (encAll (mfN s)) from if_pos hV, frameL_length]; have := mf_body hV; omega
  have HMD : Hid (mdM (mfL s) = s ∧ mdE (mfL s) = 0) := by unfold mdM mdE; rw [md_back s hV]; exact ⟨rfl, rfl⟩
  have HM0 : Hid (MfAt (w.alloc (.cells (mfA s (.slice a n cap)) 24)) w.heap.size s (.slice a n cap)) := MfAt.new w s _
  have HB0 : Hid (Below w.heap.size w (w.alloc (.cells (mfA s (.slice a n cap)) 24))) := (Below.refl _ _).alloc (Nat.le_refl _) _
  have TL1 : Hid True := trivial
  have TC1 : Hid True := trivial
  have TE1 : Hid True := trivial
  have TL2 : Hid True := trivial
  have TD1 : Hid True := trivial
  have TS1 : Hid True := trivial
  have TG1 : Hid True := trivial
  clear hn hS hm hN hb ht hV hMD hz hN3
  go_enter Tryd.func5, Tryd.ntmps5
  go_wp2_with (first
    | (go_at_call 6; refine (head16_any _ (HT.out.keep HB0.out)).mono ?_; rintro _ w1 ⟨rfl, hb1⟩; have HB1 : Hid (Below w.heap.size w w1) := below_next HB0.out hb1; have HM1 : Hid (MfAt w1 w.heap.size s (.slice a n cap)) := HM0.out.after hb1; clear hb1)
    | ((with_reducible refine frm_load 24 ?_); clear TL1; refine wpList_load_mf rfl _ rfl HM1.out rfl ?_)
    | (go_at_call 7; clear TC1; refine (mcopy_any s a n cap _ HS.out.1 (HS.out.2.1.keep HB1.out) HS.out.2.2.1).mono ?_; rintro _ w2 ⟨v2, rfl, ho2, hb2⟩; obtain ⟨a2, c2, hv2, _, _, hs2, _⟩ := ho2.shape; rw [HS.out.1] at hv2; subst hv2; have HS2 : Hid (Sms w2 a2 s.segs) := hs2; have HB2 : Hid (Below w.heap.size w w2) := below_next HB1.out hb2; have HM2 : Hid (MfAt w2 w.heap.size s (.slice a n cap)) := HM1.out.after hb2; clear ho2 hb2 hs2)
    | (go_at_call 9; clear TE1; refine (menc_any s n a2 c2 _ HS.out.1 HS2.out HS.out.2.2.2 (HT.out.keep HB2.out)).mono ?_; rw [HE.out]; rintro _ w3 ⟨v3, rfl, ho3, hb3⟩; obtain ⟨a3, c3, hv3, hc3, _, hy3, _⟩ := ho3.shape; rw [HFL.out] at hv3 hc3; subst hv3; have HY3 : Hid (Bytes w3 a3 (mfL s) ∧ N3 ≤ c3) := ⟨hy3, hc3⟩; have HB3 : Hid (Below w.heap.size w w3) := below_next HB2.out hb3; have HM3 : Hid (MfAt w3 w.heap.size s (.slice a n cap)) := HM2.out.after hb3; clear ho3 hb3 hy3 hc3)
    | ((with_reducible refine frm_load 24 ?_); clear TL2; refine wpList_load_mf rfl _ rfl HM3.out rfl ?_)
    | (go_at_call 7; refine (mcopy_any s a n cap _ HS.out.1 (HS.out.2.1.keep HB3.out) HS.out.2.2.1).mono ?_; rintro _ w4 ⟨v4, rfl, ho4, hb4⟩; obtain ⟨a4, c4, hv4, _, _, hs4, _⟩ := ho4.shape; rw [HS.out.1] at hv4; subst hv4; have HS4 : Hid (Sms w4 a4 s.segs) := hs4; have HB4 : Hid (Below w.heap.size w w4) := below_next HB3.out hb4; have HM4 : Hid (MfAt w4 w.heap.size s (.slice a n cap)) := HM3.out.after hb4; have HY4 : Hid (Bytes w4 a3 (mfL s)) := HY3.out.1.keep hb4; clear ho4 hb4 hs4)
    | (go_at_call 12; refine (mvalid_any s n a4 c4 _ HS.out.1 HS4.out HS.out.2.2.2).mono ?_; rw [HV.out]; rintro _ w5 ⟨rfl, hb5⟩; have HB5 : Hid (Below w.heap.size w w5) := below_next HB4.out hb5; have HM5 : Hid (MfAt w5 w.heap.size s (.slice a n cap)) := HM4.out.after hb5; have HY5 : Hid (Bytes w5 a3 (mfL s)) := HY4.out.keep hb5; clear hb5)
    | (go_at_call 16; clear TD1; refine (mdec_any (mfL s) N3 a3 c3 _ HFL.out HY5.out HY3.out.2 (by omega) (HT.out.keep HB5.out)).mono ?_; rw [HMD.out.1, HMD.out.2]; rintro _ w6 ⟨v6, rfl, ho6, hb6⟩; obtain ⟨a6, c6, hv6, _, _, hs6, _⟩ := ho6.shape; rw [HS.out.1] at hv6; subst hv6; have HS6 : Hid (Sms w6 a6 s.segs) := hs6; have HB6 : Hid (Below w.heap.size w w6) := below_next HB5.out hb6; have HM6 : Hid (MfAt w6 w.heap.size s (.slice a n cap)) := HM5.out.after hb6; clear ho6 hb6 hs6)
    | ((with_reducible refine frm_store 24 ?_); clear TS1; refine wpList_store_mf rfl _ _ rfl rfl (MfAt.new w6 zeroM (.slice none 0 0)) rfl (m2 := s) (a2 := a6) (n2 := n) (c2 := c6) rfl ?_; intro w7 hf7 ho7 hh7 hs7; have HN7 : Hid (MfAt w7 w6.heap.size s (.slice a6 n c6)) := hf7; have HM7 : Hid (MfAt w7 w.heap.size s (.slice a n cap)) := (hh7 _ (by have := HM6.out.lt; omega)).trans (HM6.out.after ((Below.refl _ _).alloc (Nat.le_refl _) _)); have HB7 : Hid (Below w.heap.size w w7) := ho7 _ _ (HB6.out.alloc HB6.out.size _) HB6.out.size; have HS7 : Hid (Sms w7 a6 s.segs) := HS6.out.keep (ho7 _ _ ((Below.refl _ _).alloc (Nat.le_refl _) _) (Nat.le_refl _)); clear hf7 ho7 hh7 hs7)
    | ((with_reducible refine mf_loadg 24 ?_); clear TG1; refine wpList_load_mfg rfl _ rfl HN7.out rfl ?_)
    | ((with_reducible refine mf_loadg 24 ?_); refine wpList_load_mfg rfl _ rfl HM7.out rfl ?_)
    | (go_at_call 13; refine (msame_yes s n a6 a c6 cap _ HS.out.1 HS7.out (HS.out.2.1.keep HB7.out) HS.out.2.2.2).mono ?_; rintro _ w8 ⟨rfl, hb8⟩; have HB8 : Hid (Below w.heap.size w w8) := below_next HB7.out hb8; clear hb8)
    | (go_at_call 14; refine (copy_nn l b ln bc _ HN.out (HBY.out.keep HB8.out) (by omega)).mono ?_; rintro _ y1 ⟨ay, cy, rfl, hcy, hyy, _, hby⟩; have HYY : Hid (Bytes y1 ay l ∧ ln ≤ cy) := ⟨hyy, hcy⟩; have HY1 : Hid (Below w.heap.size w y1) := below_next HB8.out hby; clear hyy hcy hby)
    | (go_at_call 16; refine (mdec_any l ln ay cy _ HN.out HYY.out.1 HYY.out.2 (by omega) (HT.out.keep HY1.out)).mono ?_; rw [HD.out.1, HD.out.2]; rintro _ y2 ⟨vz, rfl, hoz, hbz⟩; obtain ⟨az, cz, hvz, _, _, hsz, _⟩ := hoz.shape; rw [HZL.out] at hvz; subst hvz; have HSZ : Hid (Sms y2 az M.segs) := hsz; have HY2 : Hid (Below w.heap.size w y2) := below_next HY1.out hbz; clear hoz hbz hsz)
    | ((with_reducible refine frm_store 24 ?_); refine wpList_store_mf rfl _ _ rfl rfl (MfAt.new y2 zeroM (.slice none 0 0)) rfl (m2 := M) (a2 := az) (n2 := nz) (c2 := cz) rfl ?_; intro y3 hf3 ho3 hh3 hs3; have HMZ : Hid (MfAt y3 y2.heap.size M (.slice az nz cz)) := hf3; have HY3' : Hid (Below w.heap.size w y3) := ho3 _ _ (HY2.out.alloc HY2.out.size _) HY2.out.size; have HSZ3 : Hid (Sms y3 az M.segs) := HSZ.out.keep (ho3 _ _ ((Below.refl _ _).alloc (Nat.le_refl _) _) (Nat.le_refl _)); clear hf3 ho3 hh3 hs3))
  go_ret
  exact ⟨rfl, HY3'.out⟩
set_option maxRecDepth 20000 in
set_option maxHeartbeats 8000000 in
theorem way_01 (s : Mf) (a : Option Addr) (n cap : Nat) (l : List Nat) (b : Option Addr) (bc ln : Nat) (M : Mf) (nz : Nat) (w : World) (hn : s.segs.length = n) (hS : Sms w a s.segs) (hm : n * 32 ≤ 140737488351232) (hN : l.length = ln) (hb : Bytes w b l) (hln : ln ≤ 140737488351232) (ht : Tab w) (hV : mvB s = false) (hMD : mdM l = M ∧ mdE l = 0) (hz : M.segs.length = nz) (hzn : nz ≤ 256) (hEM : mfE M = 0 ∧ mfL M = l) :
    Calls Tryd.prog 5 #[MfV s (.slice a n cap), .slice b ln bc] w fun e w' => e = .returned (.bool true) ∧ Below w.heap.size w w' := by
  have HS : Hid (s.segs.length = n ∧ Sms w a s.segs ∧ n * 32 ≤ 140737488351232 ∧ n ≤ maxLen) := ⟨hn, hS, hm, by unfold maxLen; omega⟩
  have HT : Hid (Tab w) := ht
  have HN : Hid (l.length = ln) := hN
  have HBY : Hid (Bytes w b l) := hb
  have HV : Hid (mvB s = false) := hV
  have HE : Hid (mfE s = 80) := by show _ = _; unfold mfE; rw [hV]; rfl
  have HD : Hid (mdM l = M ∧ mdE l = 0) := hMD
  have HZL : Hid (M.segs.length = nz) := hz
  obtain ⟨N3, hN3⟩ : ∃ N3, (mfL s).length = N3 := ⟨_, rfl⟩
  have HFL : Hid ((mfL s).length = N3) := hN3
  have HEM : Hid (mfE M = 0 ∧ mfL M = l) := hEM
  have HM0 : Hid (MfAt (w.alloc (.cells (mfA s (.slice a n cap)) 24)) w.heap.size s (.slice a n cap)) := MfAt.new w s _
  have HB0 : Hid (Below w.heap.size w (w.alloc (.cells (mfA s (.slice a n cap)) 24))) := (Below.refl _ _).alloc (Nat.le_refl _) _
  have TL1 : Hid True := trivial
  have TC1 : Hid True := trivial
  have TE1 : Hid True := trivial
  have TL2 : Hid True := trivial
  clear hn hS hm hN hb ht hV hMD hz hN3 hEM
  go_enter Tryd.func5, Tryd.ntmps5
  go_wp2_with (first
    | (go_at_call 6; refine (head16_any _ (HT.out.keep HB0.out)).mono ?_; rintro _ w1 ⟨rfl, hb1⟩; have HB1 : Hid (Below w.heap.size w w1) := below_next HB0.out hb1; have HM1 : Hid (MfAt w1 w.heap.size s (.slice a n cap)) := HM0.out.after hb1; clear hb1)
    | ((with_reducible refine frm_load 24 ?_); clear TL1; refine wpList_load_mf rfl _ rfl HM1.out rfl ?_)
    | (go_at_call 7; clear TC1; refine (mcopy_any s a n cap _ HS.out.1 (HS.out.2.1.keep HB1.out) HS.out.2.2.1).mono ?_; rintro _ w2 ⟨v2, rfl, ho2, hb2⟩; obtain ⟨a2, c2, hv2, _, _, hs2, _⟩ := ho2.shape; rw [HS.out.1] at hv2; subst hv2; have HS2 : Hid (Sms w2 a2 s.segs) := hs2; have HB2 : Hid (Below w.heap.size w w2) := below_next HB1.out hb2; have HM2 : Hid (MfAt w2 w.heap.size s (.slice a n cap)) := HM1.out.after hb2; clear ho2 hb2 hs2)
    | (go_at_call 9; clear TE1; refine (menc_any s n a2 c2 _ HS.out.1 HS2.out HS.out.2.2.2 (HT.out.keep HB2.out)).mono ?_; rw [HE.out]; rintro _ w3 ⟨v3, rfl, ho3, hb3⟩; obtain ⟨a3, c3, hv3, hc3, _, hy3, _⟩ := ho3.shape; rw [HFL.out] at hv3 hc3; subst hv3; have HY3 : Hid (Bytes w3 a3 (mfL s) ∧ N3 ≤ c3) := ⟨hy3, hc3⟩; have HB3 : Hid (Below w.heap.size w w3) := below_next HB2.out hb3; have HM3 : Hid (MfAt w3 w.heap.size s (.slice a n cap)) := HM2.out.after hb3; clear ho3 hb3 hy3 hc3)
    | ((with_reducible refine frm_load 24 ?_); clear TL2; refine wpList_load_mf rfl _ rfl HM3.out rfl ?_)
    | (go_at_call 7; refine (mcopy_any s a n cap _ HS.out.1 (HS.out.2.1.keep HB3.out) HS.out.2.2.1).mono ?_; rintro _ w4 ⟨v4, rfl, ho4, hb4⟩; obtain ⟨a4, c4, hv4, _, _, hs4, _⟩ := ho4.shape; rw [HS.out.1] at hv4; subst hv4; have HS4 : Hid (Sms w4 a4 s.segs) := hs4; have HB4 : Hid (Below w.heap.size w w4) := below_next HB3.out hb4; have HM4 : Hid (MfAt w4 w.heap.size s (.slice a n cap)) := HM3.out.after hb4; have HY4 : Hid (Bytes w4 a3 (mfL s)) := HY3.out.1.keep hb4; clear ho4 hb4 hs4)
    | (go_at_call 12; refine (mvalid_any s n a4 c4 _ HS.out.1 HS4.out HS.out.2.2.2).mono ?_; rw [HV.out]; rintro _ w5 ⟨rfl, hb5⟩; have HB5 : Hid (Below w.heap.size w w5) := below_next HB4.out hb5; have HM5 : Hid (MfAt w5 w.heap.size s (.slice a n cap)) := HM4.out.after hb5; have HY5 : Hid (Bytes w5 a3 (mfL s)) := HY4.out.keep hb5; clear hb5)
    | (go_at_call 14; refine (copy_nn l b ln bc _ HN.out (HBY.out.keep HB5.out) (by omega)).mono ?_; rintro _ y1 ⟨ay, cy, rfl, hcy, hyy, _, hby⟩; have HYY : Hid (Bytes y1 ay l ∧ ln ≤ cy) := ⟨hyy, hcy⟩; have HY1 : Hid (Below w.heap.size w y1) := below_next HB5.out hby; clear hyy hcy hby)
    | (go_at_call 16; refine (mdec_any l ln ay cy _ HN.out HYY.out.1 HYY.out.2 (by omega) (HT.out.keep HY1.out)).mono ?_; rw [HD.out.1, HD.out.2]; rintro _ y2 ⟨vz, rfl, hoz, hbz⟩; obtain ⟨az, cz, hvz, _, _, hsz, _⟩ := hoz.shape; rw [HZL.out] at hvz; subst hvz; have HSZ : Hid (Sms y2 az M.segs) := hsz; have HY2 : Hid (Below w.heap.size w y2) := below_next HY1.out hbz; clear hoz hbz hsz)
    | ((with_reducible refine frm_store 24 ?_); refine wpList_store_mf rfl _ _ rfl rfl (MfAt.new y2 zeroM (.slice none 0 0)) rfl (m2 := M) (a2 := az) (n2 := nz) (c2 := cz) rfl ?_; intro y3 hf3 ho3 hh3 hs3; have HMZ : Hid (MfAt y3 y2.heap.size M (.slice az nz cz)) := hf3; have HY3' : Hid (Below w.heap.size w y3) := ho3 _ _ (HY2.out.alloc HY2.out.size _) HY2.out.size; have HSZ3 : Hid (Sms y3 az M.segs) := HSZ.out.keep (ho3 _ _ ((Below.refl _ _).alloc (Nat.le_refl _) _) (Nat.le_refl _)); clear hf3 ho3 hh3 hs3)
    | ((with_reducible refine frm_load 24 ?_); refine wpList_load_mf rfl _ rfl HMZ.out rfl ?_)
    | (go_at_call 9; refine (menc_any M nz az cz _ HZL.out HSZ3.out (by unfold maxLen; omega) (HT.out.keep HY3'.out)).mono ?_; rw [HEM.out.1, HEM.out.2]; rintro _ y4 ⟨ve, rfl, hoe, hbe⟩; obtain ⟨ae, ce, hve, _, _, hye, _⟩ := hoe.shape; rw [HN.out] at hve; subst hve; have HYE : Hid (Bytes y4 ae l) := hye; have HY4' : Hid (Below w.heap.size w y4) := below_next HY3'.out hbe; clear hoe hbe hye)
    | (go_at_call 10; refine (same_yes l ln ln ae b ce bc _ HN.out HN.out HYE.out (HBY.out.keep HY4'.out) (by unfold maxLen; omega)).mono ?_; rintro _ y5 ⟨rfl, hb5⟩; have HY5' : Hid (Below w.heap.size w y5) := below_next HY4'.out hb5; clear hb5))
  go_ret
  exact ⟨rfl, HY5'.out⟩
set_option maxRecDepth 20000 in
set_option maxHeartbeats 8000000 in
theorem way_00 (s : Mf) (a : Option Addr) (n cap : Nat) (l : List Nat) (b : Option Addr) (bc ln : Nat) (M : Mf) (nz : Nat) (w : World) (hn : s.segs.length = n) (hS : Sms w a s.segs) (hm : n * 32 ≤ 140737488351232) (hN : l.length = ln) (hb : Bytes w b l) (hln : ln ≤ 140737488351232) (ht : Tab w) (hV : mvB s = false) (hMD : mdM l = M ∧ mdE l = 80) (hz : M.segs.length = nz) :
    Calls Tryd.prog 5 #[MfV s (.slice a n cap), .slice b ln bc] w fun e w' => e = .returned (.bool true) ∧ Below w.heap.size w w' := by
  have HS : Hid (s.segs.length = n ∧ Sms w a s.segs ∧ n * 32 ≤ 140737488351232 ∧ n ≤ maxLen) := ⟨hn, hS, hm, by unfold maxLen; omega⟩
  have HT : Hid (Tab w) := ht
  have HN : Hid (l.length = ln) := hN
  have HBY : Hid (Bytes w b l) := hb
  have HV : Hid (mvB s = false) := hV
  have HE : Hid (mfE s = 80) := by show _ = _; unfold mfE; rw [hV]; rfl
  have HD : Hid (mdM l = M ∧ mdE l = 80) := hMD
  have HZL : Hid (M.segs.length = nz) := hz
  obtain ⟨N3, hN3⟩ : ∃ N3, (mfL s).length = N3 := ⟨_, rfl⟩
  have HFL : Hid ((mfL s).length = N3) := hN3
  have HM0 : Hid (MfAt (w.alloc (.cells (mfA s (.slice a n cap)) 24)) w.heap.size s (.slice a n cap)) := MfAt.new w s _
  have HB0 : Hid (Below w.heap.size w (w.alloc (.cells (mfA s (.slice a n cap)) 24))) := (Below.refl _ _).alloc (Nat.le_refl _) _
  have TL1 : Hid True := trivial
  have TC1 : Hid True := trivial
  have TE1 : Hid True := trivial
  have TL2 : Hid True := trivial
  clear hn hS hm hN hb ht hV hMD hz hN3
  go_enter Tryd.func5, Tryd.ntmps5
  go_wp2_with (first
    | (go_at_call 6; refine (head16_any _ (HT.out.keep HB0.out)).mono ?_; rintro _ w1 ⟨rfl, hb1⟩; have HB1 : Hid (Below w.heap.size w w1) := below_next HB0.out hb1; have HM1 : Hid (MfAt w1 w.heap.size s (.slice a n cap)) := HM0.out.after hb1; clear hb1)
    | ((with_reducible refine frm_load 24 ?_); clear TL1; refine wpList_load_mf rfl _ rfl HM1.out rfl ?_)
    | (go_at_call 7; clear TC1; refine (mcopy_any s a n cap _ HS.out.1 (HS.out.2.1.keep HB1.out) HS.out.2.2.1).mono ?_; rintro _ w2 ⟨v2, rfl, ho2, hb2⟩; obtain ⟨a2, c2, hv2, _, _, hs2, _⟩ := ho2.shape; rw [HS.out.1] at hv2; subst hv2; have HS2 : Hid (Sms w2 a2 s.segs) := hs2; have HB2 : Hid (Below w.heap.size w w2) := below_next HB1.out hb2; have HM2 : Hid (MfAt w2 w.heap.size s (.slice a n cap)) := HM1.out.after hb2; clear ho2 hb2 hs2)
    | (go_at_call 9; clear TE1; refine (menc_any s n a2 c2 _ HS.out.1 HS2.out HS.out.2.2.2 (HT.out.keep HB2.out)).mono ?_; rw [HE.out]; rintro _ w3 ⟨v3, rfl, ho3, hb3⟩; obtain ⟨a3, c3, hv3, hc3, _, hy3, _⟩ := ho3.shape; rw [HFL.out] at hv3 hc3; subst hv3; have HY3 : Hid (Bytes w3 a3 (mfL s) ∧ N3 ≤ c3) := ⟨hy3, hc3⟩; have HB3 : Hid (Below w.heap.size w w3) := below_next HB2.out hb3; have HM3 : Hid (MfAt w3 w.heap.size s (.slice a n cap)) := HM2.out.after hb3; clear ho3 hb3 hy3 hc3)
    | ((with_reducible refine frm_load 24 ?_); clear TL2; refine wpList_load_mf rfl _ rfl HM3.out rfl ?_)
    | (go_at_call 7; refine (mcopy_any s a n cap _ HS.out.1 (HS.out.2.1.keep HB3.out) HS.out.2.2.1).mono ?_; rintro _ w4 ⟨v4, rfl, ho4, hb4⟩; obtain ⟨a4, c4, hv4, _, _, hs4, _⟩ := ho4.shape; rw [HS.out.1] at hv4; subst hv4; have HS4 : Hid (Sms w4 a4 s.segs) := hs4; have HB4 : Hid (Below w.heap.size w w4) := below_next HB3.out hb4; have HM4 : Hid (MfAt w4 w.heap.size s (.slice a n cap)) := HM3.out.after hb4; have HY4 : Hid (Bytes w4 a3 (mfL s)) := HY3.out.1.keep hb4; clear ho4 hb4 hs4)
    | (go_at_call 12; refine (mvalid_any s n a4 c4 _ HS.out.1 HS4.out HS.out.2.2.2).mono ?_; rw [HV.out]; rintro _ w5 ⟨rfl, hb5⟩; have HB5 : Hid (Below w.heap.size w w5) := below_next HB4.out hb5; have HM5 : Hid (MfAt w5 w.heap.size s (.slice a n cap)) := HM4.out.after hb5; have HY5 : Hid (Bytes w5 a3 (mfL s)) := HY4.out.keep hb5; clear hb5)
    | (go_at_call 14; refine (copy_nn l b ln bc _ HN.out (HBY.out.keep HB5.out) (by omega)).mono ?_; rintro _ y1 ⟨ay, cy, rfl, hcy, hyy, _, hby⟩; have HYY : Hid (Bytes y1 ay l ∧ ln ≤ cy) := ⟨hyy, hcy⟩; have HY1 : Hid (Below w.heap.size w y1) := below_next HB5.out hby; clear hyy hcy hby)
    | (go_at_call 16; refine (mdec_any l ln ay cy _ HN.out HYY.out.1 HYY.out.2 (by omega) (HT.out.keep HY1.out)).mono ?_; rw [HD.out.1, HD.out.2]; rintro _ y2 ⟨vz, rfl, hoz, hbz⟩; obtain ⟨az, cz, hvz, _, _, hsz, _⟩ := hoz.shape; rw [HZL.out] at hvz; subst hvz; have HSZ : Hid (Sms y2 az M.segs) := hsz; have HY2 : Hid (Below w.heap.size w y2) := below_next HY1.out hbz; clear hoz hbz hsz)
    | ((with_reducible refine frm_store 24 ?_); refine wpList_store_mf rfl _ _ rfl rfl (MfAt.new y2 zeroM (.slice none 0 0)) rfl (m2 := M) (a2 := az) (n2 := nz) (c2 := cz) rfl ?_; intro y3 hf3 ho3 hh3 hs3; have HMZ : Hid (MfAt y3 y2.heap.size M (.slice az nz cz)) := hf3; have HY3' : Hid (Below w.heap.size w y3) := ho3 _ _ (HY2.out.alloc HY2.out.size _) HY2.out.size; have HSZ3 : Hid (Sms y3 az M.segs) := HSZ.out.keep (ho3 _ _ ((Below.refl _ _).alloc (Nat.le_refl _) _) (Nat.le_refl _)); clear hf3 ho3 hh3 hs3))
  go_ret
  exact ⟨rfl, HY3'.out⟩
theorem walk (s : Mf) (a : Option Addr) (n cap : Nat) (l : List Nat) (b : Option Addr) (bc : Nat) (w : World) (hn : s.segs.length = n) (hS : Sms w a s.segs) (hc : n ≤ cap) (hm : n * 32 ≤ 140737488351232) (hb : Bytes w b l) (hcm : Came w b l.length bc 1) (ht : Tab w) :
    Calls Tryd.prog 5 #[MfV s (.slice a n cap), .slice b l.length bc] w fun e w' => e = .returned (.bool true) ∧ Below w.heap.size w w' := by
  obtain ⟨hf, hr, hnn⟩ := hcm
  have hln : l.length ≤ 140737488351232 := by omega
  cases hD : mdO l with
  | some M =>
    obtain ⟨e1, e2⟩ := md_form l M hb.mem hD
    have hMD : mdM l = M ∧ mdE l = 0 := by unfold mdM mdE; rw [hD]; exact ⟨rfl, rfl⟩
    have hz := (mv_parts e1).2.2.1
    have hEM : mfE M = 0 ∧ mfL M = l := ⟨if_pos e1, e2⟩
    cases hV : mvB s with
    | true => exact way_11 s a n cap l b bc _ M _ w hn hS hm rfl hb hln ht hV hMD rfl hz hEM
    | false => exact way_01 s a n cap l b bc _ M _ w hn hS hm rfl hb hln ht hV hMD rfl hz hEM
  | none =>
    have hMD : mdM l = zeroM ∧ mdE l = 80 := by unfold mdM mdE; rw [hD]; exact ⟨rfl, rfl⟩
    cases hV : mvB s with
    | true => exact way_10 s a n cap l b bc _ zeroM 0 w hn hS hm rfl hb hln ht hV hMD rfl
    | false => exact way_00 s a n cap l b bc _ zeroM 0 w hn hS hm rfl hb hln ht hV hMD rfl
theorem own : ownKnob Tryd.prog.godebug = none := by kernel_rfl
theorem laidOut : laidOutB Tryd.prog = true := by kernel_rfl
set_option maxRecDepth 100000 in
theorem contract (H : Type) (enc : TypeId × Value → H) (W : World) (base : Nat) (args : Array Value) (ds gs : List (DataW H)) (before : List MemPlace)
    (hval : ∀ (j : Nat) t v, Tryd.f5.params[j]? = some t → args[j]? = some v → Value.okWide Tryd.prog W .any base t v)
    (hW : DataW.Whole enc Tryd.prog Tryd.f5.params.toList Rows.manifestBackSpec.vars false W args.toList ds gs before)
    (hsz : (DataW.weightsEach Tryd.prog (Tryd.f5.params.toList ++ Rows.manifestBackSpec.plain.varTypes Tryd.prog) (ds ++ gs)).all (· ≤ reachBytes) = true) (hL : laidMetH Tryd.prog ([("daybook/crc.halves", Rows.laid_daybook_crc_halves)]) W) :
    Calls Tryd.prog 5 args W fun e W' => ∃ v, e = .returned v ∧ Rows.manifestBackSpec.post enc Tryd.prog Tryd.f5 false true false false W args v W' := by
  have hW' := hW
  obtain ⟨p, q, hA0, hV, rfl, hfz, hnd⟩ := hW
  have hA : DataW.TrodAll enc Tryd.prog W 0 (fun _ => true) true Tryd.f5.params.toList args.toList ds p := hA0
  rw [Tryd.params5] at hA hval hsz
  obtain ⟨v0, vs0, d0, ds0, p0, q0, hargs, rfl, rfl, h0, r0⟩ := trodAll_cons hA
  obtain ⟨v1, vs1, d1, ds1, p1, q1, rfl, rfl, rfl, h1, r1⟩ := trodAll_cons r0
  obtain ⟨rfl, rfl, rfl⟩ := trodAll_nil r1
  obtain rfl : args = #[v0, v1] := by cases args; simp_all
  obtain ⟨rfl, rfl⟩ := trodVars_none hV
  have k0 := h0
  have lt0 : ∀ x ∈ p0, x.block < W.heap.size := by obtain ⟨m, hm⟩ := k0; exact DataW.trod_lt m _ _ _ hm
  obtain ⟨st0, a0, n0, cap0, rfl, hlen0, w0, c0, m0⟩ := open_manifest (hval 0 24 v0 rfl rfl) h0 hsz (j := 0) rfl rfl
  obtain ⟨a1, len1, cap1, rfl⟩ := okWide_slice Tryd.underlying27 (hval 1 27 v1 rfl rfl)
  have k1 := h1
  have lt1 : ∀ x ∈ p1, x.block < W.heap.size := by obtain ⟨m, hm⟩ := k1; exact DataW.trod_lt m _ _ _ hm
  obtain ⟨l1, hlen1, w1, c1⟩ : ∃ l : List Nat, l.length = len1 ∧ Bytes W a1 l ∧ Came W a1 len1 cap1 1 := by
    obtain ⟨fuel, hf⟩ := h1
    rcases open_ints Tryd.underlying27 Tryd.underlying5 (by kernel_rfl) hf with ⟨hcs, hx⟩ | ⟨x, l, c, zs, hcs, _, hl, hm, hz, hx, hcell, hwz⟩
    · simp [Value.cells] at hcs
      obtain ⟨rfl, rfl, rfl⟩ := hcs
      exact ⟨[], rfl, ⟨by simp, .inl rfl⟩, ⟨Nat.le_refl _, by simp, fun _ => rfl⟩⟩
    · simp [Value.cells] at hcs
      obtain ⟨rfl, rfl, rfl⟩ := hcs
      have hz2 : zs.length = cap1 := by simpa using hz
      obtain ⟨ll, e1, e2, e3⟩ := row_nats .u8 256 (by decide) wf_u8 W x zs len1 (by omega) hcell hwz
      have hd : d1 = .slice (lits .u8 (zs.take len1)) (lits .u8 (zs.drop len1)) := (Prod.mk.inj hx).1
      have hreach : cap1 * 1 ≤ 140737488351232 := by
        have := sized_slice hsz (j := 1) (t := 27) (e := 5) rfl (by rw [hd]; rfl) Tryd.underlying27
        rw [show Tryd.prog.bytesOf 5 = 1 from by kernel_rfl] at this
        simp only [lits, List.length_map, List.length_take, List.length_drop, reachBytes] at this
        have hmin : min len1 zs.length = len1 := Nat.min_eq_left (by omega)
        rw [hmin] at this
        have hcap : len1 + (zs.length - len1) = cap1 := by omega
        rw [hcap] at this
        exact this
      exact ⟨ll, e1, ⟨e2, e3⟩, ⟨hl, hreach, fun h => by cases h⟩⟩
  subst hlen1
  clear hA0
  refine (walk st0 a0 n0 cap0 l1 a1 cap1 W hlen0 w0 c0 m0 w1 c1 (tab_of hL)).mono fun e W' ⟨he, bel⟩ => ?_
  subst he
  exact ⟨_, rfl, _, _, _, [], _, [], hW', trodAll_mk1 (shut_bool Tryd.underlying4 _), (trodAll_cons_mk (Below.trod laidOut (by kernel_rfl) (of_decide_eq_true (by kernel_rfl)) k0 bel lt0) (trodAll_cons_mk (Below.trod laidOut (by kernel_rfl) (of_decide_eq_true (by kernel_rfl)) k1 bel lt1) trodAll_mk0)), rfl, bel.frame _, fun h => by cases h⟩
set_option maxRecDepth 100000 in
theorem start (os : Os) : ∃ w0 : World, w0.os = os ∧ (w0.forCall (fun _ _ => 0) ⟨#[], #[.agg #[.int .i64 0, .int .i64 0, .int .i64 0, .int .i64 0, .int .i64 0, .slice none 0 0], .slice none 0 0], []⟩).variablesB Tryd.prog = true ∧
    ((w0.forCall (fun _ _ => 0) ⟨#[], #[.agg #[.int .i64 0, .int .i64 0, .int .i64 0, .int .i64 0, .int .i64 0, .slice none 0 0], .slice none 0 0], []⟩).heap.toList.drop Tryd.prog.globals.size).take ((begin Tryd.prog (fun _ _ => 0) default).world.heap.size - Tryd.prog.globals.size) = (begin Tryd.prog (fun _ _ => 0) default).world.heap.toList.drop Tryd.prog.globals.size ∧
    Input.okWideB Tryd.prog (w0.forCall (fun _ _ => 0) ⟨#[], #[.agg #[.int .i64 0, .int .i64 0, .int .i64 0, .int .i64 0, .int .i64 0, .slice none 0 0], .slice none 0 0], []⟩) 5 ⟨#[], #[.agg #[.int .i64 0, .int .i64 0, .int .i64 0, .int .i64 0, .int .i64 0, .slice none 0 0], .slice none 0 0], []⟩ = true ∧
    laidMet Tryd.prog Rows.manifestBackRow.laid (w0.forCall (fun _ _ => 0) ⟨#[], #[.agg #[.int .i64 0, .int .i64 0, .int .i64 0, .int .i64 0, .int .i64 0, .slice none 0 0], .slice none 0 0], []⟩).memory ∧
    ∀ (H : Type) (enc : TypeId × Value → H), DataW.whole enc Tryd.prog (w0.forCall (fun _ _ => 0) ⟨#[], #[.agg #[.int .i64 0, .int .i64 0, .int .i64 0, .int .i64 0, .int .i64 0, .slice none 0 0], .slice none 0 0], []⟩).memory Tryd.f5.params.toList Rows.manifestBackSpec.vars false (#[.agg #[.int .i64 0, .int .i64 0, .int .i64 0, .int .i64 0, .int .i64 0, .slice none 0 0], .slice none 0 0] : Array Value).toList 8 = some ([.agg [.lit (.int .i64 0), .lit (.int .i64 0), .lit (.int .i64 0), .lit (.int .i64 0), .lit (.int .i64 0), .nil], .nil], [], []) :=
  ⟨{ World.holding Tryd.prog os ⟨#[], #[], []⟩ with heap := (World.holding Tryd.prog os ⟨#[], #[], []⟩).heap.modify 0 fun
      | .cells _ t frozen => .cells #[.int .u32 0, .int .u32 498536548, .int .u32 997073096, .int .u32 651767980, .int .u32 1994146192, .int .u32 1802195444, .int .u32 1303535960, .int .u32 1342533948, .int .u32 3988292384, .int .u32 4027552580, .int .u32 3604390888, .int .u32 3412177804, .int .u32 2607071920, .int .u32 2262029012, .int .u32 2685067896, .int .u32 3183342108] t frozen
      | o => o }, rfl, by kernel_rfl, by kernel_rfl, by kernel_rfl, laidMet_of_run' 8 (by kernel_rfl) (by kernel_rfl), fun _ _ => by kernel_rfl⟩
set_option maxRecDepth 100000 in
theorem lifted (os : Os) (started : os.Started) (H : Type) (enc : TypeId × Value → H) (F : Stop.Interp) :
    ReturnsInHanded {} Tryd.checked os 5 .any ((OpenSpec.ofChange Rows.manifestBackSpec).preRow enc Tryd.prog Tryd.f5 Rows.manifestBackRow.domain false Rows.manifestBackRow.laid) (((OpenSpec.ofChange Rows.manifestBackSpec).at F).post enc Tryd.prog Tryd.f5 false true false false) := by
  obtain ⟨w0, h1, h2, h3, h4, h5, h6⟩ := start os
  refine returnsInHanded_of_row (C := Tryd.checked) (s := OpenSpec.ofChange Rows.manifestBackSpec) own started (by kernel_rfl) Tryd.func5
    (witness_row_at (enc := enc) (C := Tryd.checked) false w0 #[.agg #[.int .i64 0, .int .i64 0, .int .i64 0, .int .i64 0, .int .i64 0, .slice none 0 0], .slice none 0 0] h1 h2 h3 h4
      (OpenSpec.preRow_of_cond 8 (h6 H enc) (by kernel_rfl) (fun k hk => by cases hk) (by kernel_rfl) h5)) ?_
  intro W base args ds gs before hval hW _ hcond hsz hL _ _
  exact contract H enc W base args ds gs before hval hW hsz hL
theorem said : Rows.ManifestBackSaid :=
  OpenClaim.holds_of_cond 5 Tryd.f5 rfl rfl rfl rfl rfl rfl rfl ⟨rfl, rfl, rfl, rfl, rfl⟩ rfl rfl rfl rfl rfl (by kernel_rfl) Tryd.func5 (by kernel_rfl)
    (of_decide_eq_true (by kernel_rfl)) (by unfold Func.isWrapper; first | (rw [if_pos (by decide +kernel)]; kernel_rfl) | (rw [if_neg (by decide +kernel)]; exact ⟨rfl, rfl⟩))
    (fun os started H enc _ F => by rw [OpenClaim.pre_eq_preRow]; exact lifted os started H enc F)
theorem plain (f : FuncId) (fn : Func) (hf : Tryd.pinned.checked.prog.funcNamed "daybook/daybooklaw16.ManifestBack" = some f) (hfn : Tryd.pinned.checked.prog.funcs[f]? = some fn) :
    false = Tryd.pinned.checked.prog.looks [] ∧ ∀ (j : Nat) t, fn.params[j]? = some t → Tryd.pinned.checked.prog.wantsStandIn t = false := by
  obtain rfl : f = 5 := Option.some.inj ((show Tryd.prog.funcNamed "daybook/daybooklaw16.ManifestBack" = some 5 by kernel_rfl).symm.trans hf) |>.symm
  obtain rfl : fn = Tryd.f5 := (Option.some.inj (Tryd.func5.symm.trans hfn)).symm
  refine ⟨by kernel_rfl, fun j t ht => ?_⟩
  rw [Tryd.params5] at ht
  have hm := Array.mem_of_getElem? ht
  have hall : ∀ t ∈ (#[24, 27] : Array TypeId), Tryd.prog.wantsStandIn t = false := by
    intro t ht
    simp only [List.mem_toArray, List.mem_cons, List.not_mem_nil, or_false] at ht
    rcases ht with rfl | rfl <;> kernel_rfl
  exact hall t hm
theorem card : Rows.ManifestBackCardSaid :=
  Claim7.holds_tied_plain_at .later [] _ _ _ _ said (fun _ h => by cases h) (by kernel_rfl) (fun _ h => by cases h) manifestBack_row_tie rfl ⟨rfl, rfl⟩ (by kernel_rfl) rfl plain (by kernel_rfl)
end Go.Proofs.YtoneaannbmkeiaaDoor.manifestBack
