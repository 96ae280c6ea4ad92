/- Every manifest: Valid, Encode and Size answer as the document says, the manifest stays, the bytes are new memory and few. No condition. -/
import Derived.Test.YtoneaannbmkeiaaDoorMfh
import Derived.Test.YtoneaannbmkeiaaDoorMfc
import Derived.Test.YtoneaannbmkeiaaDoorMfo
import Derived.Test.YtoneaannbmkeiaaDoorRm3
import Derived.Test.YtoneaannbmkeiaaDoorCrcTie
import Derived.SizedLaws
import Derived.ChangeOld
import Derived.JoinedCond
import Derived.Laws.OwnMore
namespace Go.Proofs.YtoneaannbmkeiaaDoor.manifestEncodes
open Go.ChangeShapes Go.WideShapes Go.ChangeAt Go.RowKit
set_option linter.unusedVariables false
theorem own_bytes {w : World} {base : Nat} {a : Option Addr} {k c : Nat} {m : List Nat} (h : Own w base (.slice a k c) m) : Bytes w a m := by
  obtain ⟨a2, c2, hv, _, _, hb, _⟩ := h.shape
  injection hv with h1
  subst h1
  exact hb
theorem ob_ne {a : Option Addr} {k c g : Nat} (h : ∀ x, a = some x → x.block ≠ g) : (Value.slice a k c).ownBlock ≠ some g := by
  cases a with
  | none => simp [Value.ownBlock]
  | some x => have := h x rfl; simpa [Value.ownBlock] using this
/-- while the first answer is turned -/
structure Fl (w wr : World) (ap : Option Addr) (k cp : Nat) (vq vw : Value) (m : List Nat) : Prop where
  bel : Below w.heap.size w wr
  p : ∃ xs, wr.ownsRow w.heap.size 5 1 (.slice ap k cp) k xs ∧ ∀ x ∈ xs, ∃ z : Int, x = .int .u8 z
  q : Own wr w.heap.size vq m
  r : Own wr w.heap.size vw m
theorem Fl.step {w wr : World} {ap : Option Addr} {k cp : Nat} {vq vw : Value} {m : List Nat} (h : Fl w wr ap k cp vq vw m) (hs : ∀ g, ap = some ⟨g, 0, none⟩ → vq.ownBlock ≠ some g ∧ vw.ownBlock ≠ some g) (j : Nat) (hj : j < k) :
    ∃ g z, ap = some ⟨g, 0, none⟩ ∧ wr.cell? ⟨g, j, none⟩ = some (.int .u8 z) ∧ wr.frozen? ⟨g, j, none⟩ = false ∧ ∀ y : Int, Fl w (wr.setCell ⟨g, j, none⟩ (.int .u8 y)) ap k cp vq vw m := by
  obtain ⟨xs, hx, hz⟩ := h.p
  have hx2 := hx
  rcases hx2.2 with ⟨_, hn⟩ | ⟨g, cap, cur, hv, hb, _⟩
  · omega
  · injection hv with h1 h2 h3
    subst h1
    have e2 := hx.cellAt j (by omega)
    have hl := hx.1
    obtain ⟨x, hxj⟩ : ∃ x, xs[j]? = some x := ⟨_, List.getElem?_eq_getElem (by omega)⟩
    obtain ⟨z, rfl⟩ := hz x (List.mem_of_getElem? hxj)
    refine ⟨g, z, rfl, by rw [e2]; exact hxj, hx.frozenAt j, fun y => ?_⟩
    have hst := hx.stored j (.int .u8 y)
    obtain ⟨s1, s2⟩ := hs g rfl
    exact ⟨h.bel.setCell (p := ⟨g, j, none⟩) hb _, ⟨_, hst.1, fun x hx => by rcases List.mem_or_eq_of_mem_set hx with h9 | rfl; exact hz x h9; exact ⟨y, rfl⟩⟩, ⟨h.q.1, h.q.2.kept hst.2 (.inr s1)⟩, ⟨h.r.1, h.r.2.kept hst.2 (.inr s2)⟩⟩
theorem Fl.start {w x : World} {ap aq aw : Option Addr} {k cp cq cw : Nat} {m : List Nat} (hb : Below w.heap.size w x) (hp : Own x w.heap.size (.slice ap k cp) m) (hq : Own x w.heap.size (.slice aq k cq) m) (hr : Own x w.heap.size (.slice aw k cw) m) (hk : m.length = k) : Fl w x ap k cp (.slice aq k cq) (.slice aw k cw) m := by
  subst hk
  exact ⟨hb, ⟨_, hp.2, fun x hx => by obtain ⟨n, _, rfl⟩ := List.mem_map.1 hx; exact ⟨_, rfl⟩⟩, hq, hr⟩
theorem own_le {w : World} {b b' : Nat} {v : Value} {m : List Nat} (h : Own w b' v m) (hb : b ≤ b') : Own w b v m := ⟨h.1, h.2.mono hb⟩
set_option maxRecDepth 20000 in
set_option maxHeartbeats 8000000 in
theorem way_true (s : Mf) (a : Option Addr) (n cap : Nat) (w : World) (hn : s.segs.length = n) (hS : Sms w a s.segs) (hm : n * 32 ≤ 140737488351232) (ht : Tab w) (hV : mvB s = true) :
    Calls Tryd.prog 3 #[MfV s (.slice a n cap)] w fun e w' => e = .returned (.bool true) ∧ Below w.heap.size w w' := by
  have HS : Hid (s.segs.length = n ∧ Sms w a s.segs ∧ n * 32 ≤ 140737488351232 ∧ n ≤ maxLen) := ⟨hn, hS, hm, by unfold maxLen; omega⟩
  have HT : Hid (Tab w) := ht
  have HV : Hid (mvB s = true) := hV
  have HE : Hid (mfE s = 0) := by show _ = _; unfold mfE; rw [hV]; rfl
  obtain ⟨l, hml⟩ : ∃ l, mfL s = l := ⟨_, rfl⟩
  have HML : Hid (mfL s = l) := hml
  obtain ⟨k, hk⟩ : ∃ k, l.length = k := ⟨_, rfl⟩
  have HK : Hid (l.length = k) := hk
  have hk1 : k ≤ 4394 := by rw [← hk, ← hml, show mfL s = frameL 4 s.gen.toNat (encAll (mfN s)) from if_pos hV, frameL_length]; have := mf_body hV; omega
  have hkI : (k : Int) ≤ 4394 := by omega
  have hkm : k ≤ maxLen := by unfold maxLen; omega
  have hkk : ((k : Int) != (k : Int)) = false := by simp
  have HM0 : Hid (MfAt (w.alloc (.cells (mfA s (.slice a n cap)) 24)) w.heap.size s (.slice a n cap)) := MfAt.new w s _
  have HB0 : Hid (Below w.heap.size w (w.alloc (.cells (mfA s (.slice a n cap)) 24))) := (Below.refl _ _).alloc (Nat.le_refl _) _
  have L1 : Hid True := trivial
  have L2 : Hid True := trivial
  have L3 : Hid True := trivial
  have E1 : Hid True := trivial
  have G1 : Hid True := trivial
  have G2 : Hid True := trivial
  have G3 : Hid True := trivial
  clear hn hS hm ht hV hml hk
  go_enter Tryd.func3, Tryd.ntmps3
  go_wp2_with (first
    | (go_at_call 6; refine (head16_any _ (HT.out.keep HB0.out)).mono ?_; rintro _ x1 ⟨rfl, hb⟩; have HB1 : Hid (Below w.heap.size w x1) := below_next HB0.out hb; have HM1 : Hid (MfAt x1 w.heap.size s (.slice a n cap)) := HM0.out.after hb; clear hb)
    | ((with_reducible refine frm_load 24 ?_); clear L1; refine wpList_load_mf rfl _ rfl HM1.out rfl ?_)
    | (go_at_call 7; refine (mcopy_any s a n cap _ HS.out.1 (HS.out.2.1.keep HB1.out) HS.out.2.2.1).mono ?_; rintro _ x2 ⟨v2, rfl, ho, hb⟩; obtain ⟨a2, c2, hv, _, _, hs, _⟩ := ho.shape; rw [HS.out.1] at hv; subst hv; have HS2 : Hid (Sms x2 a2 s.segs) := hs; have HB2 : Hid (Below w.heap.size w x2) := below_next HB1.out hb; have HM2 : Hid (MfAt x2 w.heap.size s (.slice a n cap)) := HM1.out.after hb; clear ho hb hs)
    | ((with_reducible refine frm_store 24 ?_); refine wpList_store_mf rfl _ _ rfl rfl (MfAt.new x2 zeroM (.slice none 0 0)) rfl (m2 := s) (a2 := a2) (n2 := n) (c2 := c2) rfl ?_; intro x3 hf ho hh hs; have HN3 : Hid (MfAt x3 x2.heap.size s (.slice a2 n c2)) := hf; have HM3 : Hid (MfAt x3 w.heap.size s (.slice a n cap)) := (hh _ (by have := HM2.out.lt; omega)).trans (HM2.out.after ((Below.refl _ _).alloc (Nat.le_refl _) _)); have HB3 : Hid (Below w.heap.size w x3) := ho _ _ (HB2.out.alloc HB2.out.size _) HB2.out.size; have HS3 : Hid (Sms x3 a2 s.segs) := HS2.out.keep (ho _ _ ((Below.refl _ _).alloc (Nat.le_refl _) _) (Nat.le_refl _)); clear hf ho hh hs)
    | ((with_reducible refine frm_load 24 ?_); clear L2; refine wpList_load_mf rfl _ rfl HM3.out rfl ?_)
    | (go_at_call 8; refine (rmenc_any s n a cap _ HS.out.1 (HS.out.2.1.keep HB3.out) HS.out.2.2.2 trivial).mono ?_; rw [HE.out, HML.out]; rintro _ x4 ⟨v4, rfl, ho, hb⟩; obtain ⟨a4, c4, hv, _, _, _, hs⟩ := ho.shape; rw [HK.out] at hv; subst hv; have HW4 : Hid (Own x4 x3.heap.size (.slice a4 k c4) l) := ho; have HB4 : Hid (Below w.heap.size w x4) := below_next HB3.out hb; have HM4 : Hid (MfAt x4 w.heap.size s (.slice a n cap)) := HM3.out.after hb; have HN4 : Hid (MfAt x4 x2.heap.size s (.slice a2 n c2)) := HN3.out.after hb; have HS4 : Hid (Sms x4 a2 s.segs) := HS3.out.keep hb; have HSWX : Hid (∀ x, a4 = some x → x3.heap.size ≤ x.block ∧ x.block < x4.heap.size) := (fun x hx => by rcases hs with ⟨h1, _⟩ | ⟨g, h1, h3, h4⟩; rw [h1] at hx; cases hx; rw [h1] at hx; cases hx; exact ⟨h3, h4⟩); clear hb ho hs)
    | ((with_reducible refine frm_load 24 ?_); clear L3; refine wpList_load_mf rfl _ rfl HN4.out rfl ?_)
    | (go_at_call 9; clear E1; refine (menc_any s n a2 c2 _ HS.out.1 HS4.out HS.out.2.2.2 (HT.out.keep HB4.out)).mono ?_; rw [HE.out, HML.out]; rintro _ x5 ⟨v5, rfl, ho, hb⟩; obtain ⟨a5, c5, hv, _, _, _, hs⟩ := ho.shape; rw [HK.out] at hv; subst hv; have HP5 : Hid (Own x5 x4.heap.size (.slice a5 k c5) l) := ho; have HW5 : Hid (Own x5 x3.heap.size (.slice a4 k c4) l) := ⟨HW4.out.1, own_below HW4.out.2 hb⟩; have HB5 : Hid (Below w.heap.size w x5) := below_next HB4.out hb; have HM5 : Hid (MfAt x5 w.heap.size s (.slice a n cap)) := HM4.out.after hb; have HN5 : Hid (MfAt x5 x2.heap.size s (.slice a2 n c2)) := HN4.out.after hb; have HS5 : Hid (Sms x5 a2 s.segs) := HS4.out.keep hb; have HSPX : Hid (∀ x, a5 = some x → x4.heap.size ≤ x.block ∧ x.block < x5.heap.size) := (fun x hx => by rcases hs with ⟨h1, _⟩ | ⟨g, h1, h3, h4⟩; rw [h1] at hx; cases hx; rw [h1] at hx; cases hx; exact ⟨h3, h4⟩); clear hb ho hs)
    | ((with_reducible refine frm_load 24 ?_); refine wpList_load_mf rfl _ rfl HN5.out rfl ?_)
    | (go_at_call 9; refine (menc_any s n a2 c2 _ HS.out.1 HS5.out HS.out.2.2.2 (HT.out.keep HB5.out)).mono ?_; rw [HE.out, HML.out]; rintro _ x6 ⟨v6, rfl, ho, hb⟩; obtain ⟨a6, c6, hv, _, _, _, hs⟩ := ho.shape; rw [HK.out] at hv; subst hv; have HQ6 : Hid (Own x6 x5.heap.size (.slice a6 k c6) l) := ho; have HW6 : Hid (Own x6 x3.heap.size (.slice a4 k c4) l) := ⟨HW5.out.1, own_below HW5.out.2 hb⟩; have HP6 : Hid (Own x6 x4.heap.size (.slice a5 k c5) l) := ⟨HP5.out.1, own_below HP5.out.2 hb⟩; have HB6 : Hid (Below w.heap.size w x6) := below_next HB5.out hb; have HM6 : Hid (MfAt x6 w.heap.size s (.slice a n cap)) := HM5.out.after hb; have HN6 : Hid (MfAt x6 x2.heap.size s (.slice a2 n c2)) := HN5.out.after hb; have HS6 : Hid (Sms x6 a2 s.segs) := HS5.out.keep hb; have HSQX : Hid (∀ x, a6 = some x → x5.heap.size ≤ x.block ∧ x.block < x6.heap.size) := (fun x hx => by rcases hs with ⟨h1, _⟩ | ⟨g, h1, h3, h4⟩; rw [h1] at hx; cases hx; rw [h1] at hx; cases hx; exact ⟨h3, h4⟩); clear hb ho hs)
    | (go_at_call 10; refine (same_yes l k k a5 a4 c5 c4 _ HK.out HK.out (own_bytes HP6.out) (own_bytes HW6.out) hkm).mono ?_; rintro _ x7 ⟨rfl, hb⟩; have HW7 : Hid (Own x7 x3.heap.size (.slice a4 k c4) l) := ⟨HW6.out.1, own_below HW6.out.2 hb⟩; have HP7 : Hid (Own x7 x4.heap.size (.slice a5 k c5) l) := ⟨HP6.out.1, own_below HP6.out.2 hb⟩; have HQ7 : Hid (Own x7 x5.heap.size (.slice a6 k c6) l) := ⟨HQ6.out.1, own_below HQ6.out.2 hb⟩; have HB7 : Hid (Below w.heap.size w x7) := below_next HB6.out hb; have HM7 : Hid (MfAt x7 w.heap.size s (.slice a n cap)) := HM6.out.after hb; have HN7 : Hid (MfAt x7 x2.heap.size s (.slice a2 n c2)) := HN6.out.after hb; have HS7 : Hid (Sms x7 a2 s.segs) := HS6.out.keep hb; clear hb)
    | ((with_reducible refine mf_loadg 24 ?_); clear G1; refine wpList_load_mfg rfl _ rfl HN7.out rfl ?_)
    | (go_at_call 11; refine (msize_any s n a2 c2 _ HS.out.1 HS7.out HS.out.2.2.2 (HT.out.keep HB7.out)).mono ?_; rw [HML.out, HK.out]; rintro _ x8 ⟨rfl, hb⟩; have HW8 : Hid (Own x8 x3.heap.size (.slice a4 k c4) l) := ⟨HW7.out.1, own_below HW7.out.2 hb⟩; have HP8 : Hid (Own x8 x4.heap.size (.slice a5 k c5) l) := ⟨HP7.out.1, own_below HP7.out.2 hb⟩; have HQ8 : Hid (Own x8 x5.heap.size (.slice a6 k c6) l) := ⟨HQ7.out.1, own_below HQ7.out.2 hb⟩; have HB8 : Hid (Below w.heap.size w x8) := below_next HB7.out hb; have HM8 : Hid (MfAt x8 w.heap.size s (.slice a n cap)) := HM7.out.after hb; have HN8 : Hid (MfAt x8 x2.heap.size s (.slice a2 n c2)) := HN7.out.after hb; have HS8 : Hid (Sms x8 a2 s.segs) := HS7.out.keep hb; clear hb)
    | ((with_reducible refine mf_loadg 24 ?_); clear G2; refine wpList_load_mfg rfl _ rfl HN8.out rfl ?_)
    | (go_at_call 12; refine (mvalid_any s n a2 c2 _ HS.out.1 HS8.out HS.out.2.2.2).mono ?_; rw [HV.out]; rintro _ x9 ⟨rfl, hb⟩; have HW9 : Hid (Own x9 x3.heap.size (.slice a4 k c4) l) := ⟨HW8.out.1, own_below HW8.out.2 hb⟩; have HP9 : Hid (Own x9 x4.heap.size (.slice a5 k c5) l) := ⟨HP8.out.1, own_below HP8.out.2 hb⟩; have HQ9 : Hid (Own x9 x5.heap.size (.slice a6 k c6) l) := ⟨HQ8.out.1, own_below HQ8.out.2 hb⟩; have HB9 : Hid (Below w.heap.size w x9) := below_next HB8.out hb; have HM9 : Hid (MfAt x9 w.heap.size s (.slice a n cap)) := HM8.out.after hb; have HN9 : Hid (MfAt x9 x2.heap.size s (.slice a2 n c2)) := HN8.out.after hb; have HS9 : Hid (Sms x9 a2 s.segs) := HS8.out.keep hb; clear hb)
    | ((with_reducible refine mf_loadg 24 ?_); clear G3; refine wpList_load_mfg rfl _ rfl HN9.out rfl ?_)
    | ((with_reducible refine mf_loadg 24 ?_); refine wpList_load_mfg rfl _ rfl HM9.out rfl ?_)
    | (go_at_call 13; refine (msame_yes s n a2 a c2 cap _ HS.out.1 HS9.out (HS.out.2.1.keep HB9.out) HS.out.2.2.2).mono ?_; rintro _ x10 ⟨rfl, hb⟩; have HW10 : Hid (Own x10 x3.heap.size (.slice a4 k c4) l) := ⟨HW9.out.1, own_below HW9.out.2 hb⟩; have HP10 : Hid (Own x10 x4.heap.size (.slice a5 k c5) l) := ⟨HP9.out.1, own_below HP9.out.2 hb⟩; have HQ10 : Hid (Own x10 x5.heap.size (.slice a6 k c6) l) := ⟨HQ9.out.1, own_below HQ9.out.2 hb⟩; have HB10 : Hid (Below w.heap.size w x10) := below_next HB9.out hb; clear hb))
  have HFL : Hid (Fl w x10 a5 k c5 (.slice a6 k c6) (.slice a4 k c4) l) := Fl.start HB10.out (own_le HP10.out HB4.out.size) (own_le HQ10.out HB5.out.size) (own_le HW10.out HB3.out.size) HK.out
  have HSEP : Hid (∀ g, a5 = some ⟨g, 0, none⟩ → (Value.slice a6 k c6).ownBlock ≠ some g ∧ (Value.slice a4 k c4).ownBlock ≠ some g) := fun g hg => ⟨ob_ne fun x hx => by have h1 := HSQX.out x hx; have h2 := HSPX.out _ hg; simp only at h2; omega, ob_ne fun x hx => by have h1 := HSWX.out x hx; have h2 := HSPX.out _ hg; simp only at h2; omega⟩
  have hk0 : (0 : Int) ≤ (k : Int) := by omega
  clear HP5 HP6 HP7 HP8 HP9 HP10 HQ6 HQ7 HQ8 HQ9 HQ10 HW4 HW5 HW6 HW7 HW8 HW9 HW10
  go_loopw [61] (fun vi wr => ∃ j : Nat, j ≤ k ∧ vi = .int .i64 (j : Int) ∧ Hid (Fl w wr a5 k c5 (.slice a6 k c6) (.slice a4 k c4) l)) (fun vi _ => k - (intOf vi).toNat)
  case atStart => exact ⟨0, by omega, rfl, HFL.out⟩
  case round =>
    obtain ⟨j, hj, rfl, HI⟩ := hrel
    by_cases hjl : j < k
    · obtain ⟨g, z, hap, c0, f0, hnew⟩ := HI.out.step HSEP.out j hjl
      have HNEW : Hid (_) := hnew
      subst hap
      clear hnew
      go_wp2
      go_roundw
      case rel => exact ⟨j + 1, by omega, by go_num, HNEW.out _⟩
      case measure => simp [intOf]; omega
    · obtain rfl : k = j := by omega
      have HY6 : Hid (Bytes wr a6 l ∧ Bytes wr a4 l) := ⟨own_bytes HI.out.q, own_bytes HI.out.r⟩
      have HB16 : Hid (Below w.heap.size w wr) := HI.out.bel
      have hk8 : (k : Int) ≤ 8092 := by omega
      go_wp2_with (go_at_call 10; refine (same_yes l k k a6 a4 c6 c4 _ HK.out HK.out HY6.out.1 HY6.out.2 hkm).mono ?_; rintro _ y7 ⟨rfl, hb7⟩; have HB17 : Hid (Below w.heap.size w y7) := below_next HB16.out hb7; clear hb7)
      go_ret
      exact ⟨rfl, HB17.out⟩
set_option maxRecDepth 20000 in
set_option maxHeartbeats 8000000 in
theorem way_false (s : Mf) (a : Option Addr) (n cap : Nat) (w : World) (hn : s.segs.length = n) (hS : Sms w a s.segs) (hm : n * 32 ≤ 140737488351232) (ht : Tab w) (hV : mvB s = false) :
    Calls Tryd.prog 3 #[MfV s (.slice a n cap)] w fun e w' => e = .returned (.bool true) ∧ Below w.heap.size w w' := by
  have HS : Hid (s.segs.length = n ∧ Sms w a s.segs ∧ n * 32 ≤ 140737488351232 ∧ n ≤ maxLen) := ⟨hn, hS, hm, by unfold maxLen; omega⟩
  have HT : Hid (Tab w) := ht
  have HV : Hid (mvB s = false) := hV
  have HE : Hid (mfE s = 80) := by show _ = _; unfold mfE; rw [hV]; rfl
  obtain ⟨l, hml⟩ : ∃ l, mfL s = l := ⟨_, rfl⟩
  have HML : Hid (mfL s = l) := hml
  obtain ⟨k, hk⟩ : ∃ k, l.length = k := ⟨_, rfl⟩
  have HK : Hid (l.length = k) := hk
  have hk1 : k ≤ 4394 := by rw [← hk, ← hml, show mfL s = [] from if_neg (by rw [hV]; simp)]; simp
  have hkI : (k : Int) ≤ 4394 := by omega
  have hkm : k ≤ maxLen := by unfold maxLen; omega
  have hkk : ((k : Int) != (k : Int)) = false := by simp
  have HM0 : Hid (MfAt (w.alloc (.cells (mfA s (.slice a n cap)) 24)) w.heap.size s (.slice a n cap)) := MfAt.new w s _
  have HB0 : Hid (Below w.heap.size w (w.alloc (.cells (mfA s (.slice a n cap)) 24))) := (Below.refl _ _).alloc (Nat.le_refl _) _
  have L1 : Hid True := trivial
  have L2 : Hid True := trivial
  have L3 : Hid True := trivial
  have E1 : Hid True := trivial
  have G1 : Hid True := trivial
  have G2 : Hid True := trivial
  have G3 : Hid True := trivial
  clear hn hS hm ht hV hml hk
  go_enter Tryd.func3, Tryd.ntmps3
  go_wp2_with (first
    | (go_at_call 6; refine (head16_any _ (HT.out.keep HB0.out)).mono ?_; rintro _ x1 ⟨rfl, hb⟩; have HB1 : Hid (Below w.heap.size w x1) := below_next HB0.out hb; have HM1 : Hid (MfAt x1 w.heap.size s (.slice a n cap)) := HM0.out.after hb; clear hb)
    | ((with_reducible refine frm_load 24 ?_); clear L1; refine wpList_load_mf rfl _ rfl HM1.out rfl ?_)
    | (go_at_call 7; refine (mcopy_any s a n cap _ HS.out.1 (HS.out.2.1.keep HB1.out) HS.out.2.2.1).mono ?_; rintro _ x2 ⟨v2, rfl, ho, hb⟩; obtain ⟨a2, c2, hv, _, _, hs, _⟩ := ho.shape; rw [HS.out.1] at hv; subst hv; have HS2 : Hid (Sms x2 a2 s.segs) := hs; have HB2 : Hid (Below w.heap.size w x2) := below_next HB1.out hb; have HM2 : Hid (MfAt x2 w.heap.size s (.slice a n cap)) := HM1.out.after hb; clear ho hb hs)
    | ((with_reducible refine frm_store 24 ?_); refine wpList_store_mf rfl _ _ rfl rfl (MfAt.new x2 zeroM (.slice none 0 0)) rfl (m2 := s) (a2 := a2) (n2 := n) (c2 := c2) rfl ?_; intro x3 hf ho hh hs; have HN3 : Hid (MfAt x3 x2.heap.size s (.slice a2 n c2)) := hf; have HM3 : Hid (MfAt x3 w.heap.size s (.slice a n cap)) := (hh _ (by have := HM2.out.lt; omega)).trans (HM2.out.after ((Below.refl _ _).alloc (Nat.le_refl _) _)); have HB3 : Hid (Below w.heap.size w x3) := ho _ _ (HB2.out.alloc HB2.out.size _) HB2.out.size; have HS3 : Hid (Sms x3 a2 s.segs) := HS2.out.keep (ho _ _ ((Below.refl _ _).alloc (Nat.le_refl _) _) (Nat.le_refl _)); clear hf ho hh hs)
    | ((with_reducible refine frm_load 24 ?_); clear L2; refine wpList_load_mf rfl _ rfl HM3.out rfl ?_)
    | (go_at_call 8; refine (rmenc_any s n a cap _ HS.out.1 (HS.out.2.1.keep HB3.out) HS.out.2.2.2 trivial).mono ?_; rw [HE.out, HML.out]; rintro _ x4 ⟨v4, rfl, ho, hb⟩; obtain ⟨a4, c4, hv, _, _, _, hs⟩ := ho.shape; rw [HK.out] at hv; subst hv; have HW4 : Hid (Own x4 x3.heap.size (.slice a4 k c4) l) := ho; have HB4 : Hid (Below w.heap.size w x4) := below_next HB3.out hb; have HM4 : Hid (MfAt x4 w.heap.size s (.slice a n cap)) := HM3.out.after hb; have HN4 : Hid (MfAt x4 x2.heap.size s (.slice a2 n c2)) := HN3.out.after hb; have HS4 : Hid (Sms x4 a2 s.segs) := HS3.out.keep hb; have HSWX : Hid (∀ x, a4 = some x → x3.heap.size ≤ x.block ∧ x.block < x4.heap.size) := (fun x hx => by rcases hs with ⟨h1, _⟩ | ⟨g, h1, h3, h4⟩; rw [h1] at hx; cases hx; rw [h1] at hx; cases hx; exact ⟨h3, h4⟩); clear hb ho hs)
    | ((with_reducible refine frm_load 24 ?_); clear L3; refine wpList_load_mf rfl _ rfl HN4.out rfl ?_)
    | (go_at_call 9; clear E1; refine (menc_any s n a2 c2 _ HS.out.1 HS4.out HS.out.2.2.2 (HT.out.keep HB4.out)).mono ?_; rw [HE.out, HML.out]; rintro _ x5 ⟨v5, rfl, ho, hb⟩; obtain ⟨a5, c5, hv, _, _, _, hs⟩ := ho.shape; rw [HK.out] at hv; subst hv; have HP5 : Hid (Own x5 x4.heap.size (.slice a5 k c5) l) := ho; have HW5 : Hid (Own x5 x3.heap.size (.slice a4 k c4) l) := ⟨HW4.out.1, own_below HW4.out.2 hb⟩; have HB5 : Hid (Below w.heap.size w x5) := below_next HB4.out hb; have HM5 : Hid (MfAt x5 w.heap.size s (.slice a n cap)) := HM4.out.after hb; have HN5 : Hid (MfAt x5 x2.heap.size s (.slice a2 n c2)) := HN4.out.after hb; have HS5 : Hid (Sms x5 a2 s.segs) := HS4.out.keep hb; have HSPX : Hid (∀ x, a5 = some x → x4.heap.size ≤ x.block ∧ x.block < x5.heap.size) := (fun x hx => by rcases hs with ⟨h1, _⟩ | ⟨g, h1, h3, h4⟩; rw [h1] at hx; cases hx; rw [h1] at hx; cases hx; exact ⟨h3, h4⟩); clear hb ho hs)
    | ((with_reducible refine frm_load 24 ?_); refine wpList_load_mf rfl _ rfl HN5.out rfl ?_)
    | (go_at_call 9; refine (menc_any s n a2 c2 _ HS.out.1 HS5.out HS.out.2.2.2 (HT.out.keep HB5.out)).mono ?_; rw [HE.out, HML.out]; rintro _ x6 ⟨v6, rfl, ho, hb⟩; obtain ⟨a6, c6, hv, _, _, _, hs⟩ := ho.shape; rw [HK.out] at hv; subst hv; have HQ6 : Hid (Own x6 x5.heap.size (.slice a6 k c6) l) := ho; have HW6 : Hid (Own x6 x3.heap.size (.slice a4 k c4) l) := ⟨HW5.out.1, own_below HW5.out.2 hb⟩; have HP6 : Hid (Own x6 x4.heap.size (.slice a5 k c5) l) := ⟨HP5.out.1, own_below HP5.out.2 hb⟩; have HB6 : Hid (Below w.heap.size w x6) := below_next HB5.out hb; have HM6 : Hid (MfAt x6 w.heap.size s (.slice a n cap)) := HM5.out.after hb; have HN6 : Hid (MfAt x6 x2.heap.size s (.slice a2 n c2)) := HN5.out.after hb; have HS6 : Hid (Sms x6 a2 s.segs) := HS5.out.keep hb; have HSQX : Hid (∀ x, a6 = some x → x5.heap.size ≤ x.block ∧ x.block < x6.heap.size) := (fun x hx => by rcases hs with ⟨h1, _⟩ | ⟨g, h1, h3, h4⟩; rw [h1] at hx; cases hx; rw [h1] at hx; cases hx; exact ⟨h3, h4⟩); clear hb ho hs)
    | (go_at_call 10; refine (same_yes l k k a5 a4 c5 c4 _ HK.out HK.out (own_bytes HP6.out) (own_bytes HW6.out) hkm).mono ?_; rintro _ x7 ⟨rfl, hb⟩; have HW7 : Hid (Own x7 x3.heap.size (.slice a4 k c4) l) := ⟨HW6.out.1, own_below HW6.out.2 hb⟩; have HP7 : Hid (Own x7 x4.heap.size (.slice a5 k c5) l) := ⟨HP6.out.1, own_below HP6.out.2 hb⟩; have HQ7 : Hid (Own x7 x5.heap.size (.slice a6 k c6) l) := ⟨HQ6.out.1, own_below HQ6.out.2 hb⟩; have HB7 : Hid (Below w.heap.size w x7) := below_next HB6.out hb; have HM7 : Hid (MfAt x7 w.heap.size s (.slice a n cap)) := HM6.out.after hb; have HN7 : Hid (MfAt x7 x2.heap.size s (.slice a2 n c2)) := HN6.out.after hb; have HS7 : Hid (Sms x7 a2 s.segs) := HS6.out.keep hb; clear hb)
    | ((with_reducible refine mf_loadg 24 ?_); clear G1; refine wpList_load_mfg rfl _ rfl HN7.out rfl ?_)
    | (go_at_call 11; refine (msize_any s n a2 c2 _ HS.out.1 HS7.out HS.out.2.2.2 (HT.out.keep HB7.out)).mono ?_; rw [HML.out, HK.out]; rintro _ x8 ⟨rfl, hb⟩; have HW8 : Hid (Own x8 x3.heap.size (.slice a4 k c4) l) := ⟨HW7.out.1, own_below HW7.out.2 hb⟩; have HP8 : Hid (Own x8 x4.heap.size (.slice a5 k c5) l) := ⟨HP7.out.1, own_below HP7.out.2 hb⟩; have HQ8 : Hid (Own x8 x5.heap.size (.slice a6 k c6) l) := ⟨HQ7.out.1, own_below HQ7.out.2 hb⟩; have HB8 : Hid (Below w.heap.size w x8) := below_next HB7.out hb; have HM8 : Hid (MfAt x8 w.heap.size s (.slice a n cap)) := HM7.out.after hb; have HN8 : Hid (MfAt x8 x2.heap.size s (.slice a2 n c2)) := HN7.out.after hb; have HS8 : Hid (Sms x8 a2 s.segs) := HS7.out.keep hb; clear hb)
    | ((with_reducible refine mf_loadg 24 ?_); clear G2; refine wpList_load_mfg rfl _ rfl HN8.out rfl ?_)
    | (go_at_call 12; refine (mvalid_any s n a2 c2 _ HS.out.1 HS8.out HS.out.2.2.2).mono ?_; rw [HV.out]; rintro _ x9 ⟨rfl, hb⟩; have HW9 : Hid (Own x9 x3.heap.size (.slice a4 k c4) l) := ⟨HW8.out.1, own_below HW8.out.2 hb⟩; have HP9 : Hid (Own x9 x4.heap.size (.slice a5 k c5) l) := ⟨HP8.out.1, own_below HP8.out.2 hb⟩; have HQ9 : Hid (Own x9 x5.heap.size (.slice a6 k c6) l) := ⟨HQ8.out.1, own_below HQ8.out.2 hb⟩; have HB9 : Hid (Below w.heap.size w x9) := below_next HB8.out hb; have HM9 : Hid (MfAt x9 w.heap.size s (.slice a n cap)) := HM8.out.after hb; have HN9 : Hid (MfAt x9 x2.heap.size s (.slice a2 n c2)) := HN8.out.after hb; have HS9 : Hid (Sms x9 a2 s.segs) := HS8.out.keep hb; clear hb)
    | ((with_reducible refine mf_loadg 24 ?_); clear G3; refine wpList_load_mfg rfl _ rfl HN9.out rfl ?_)
    | ((with_reducible refine mf_loadg 24 ?_); refine wpList_load_mfg rfl _ rfl HM9.out rfl ?_)
    | (go_at_call 13; refine (msame_yes s n a2 a c2 cap _ HS.out.1 HS9.out (HS.out.2.1.keep HB9.out) HS.out.2.2.2).mono ?_; rintro _ x10 ⟨rfl, hb⟩; have HW10 : Hid (Own x10 x3.heap.size (.slice a4 k c4) l) := ⟨HW9.out.1, own_below HW9.out.2 hb⟩; have HP10 : Hid (Own x10 x4.heap.size (.slice a5 k c5) l) := ⟨HP9.out.1, own_below HP9.out.2 hb⟩; have HQ10 : Hid (Own x10 x5.heap.size (.slice a6 k c6) l) := ⟨HQ9.out.1, own_below HQ9.out.2 hb⟩; have HB10 : Hid (Below w.heap.size w x10) := below_next HB9.out hb; clear hb))
  have HFL : Hid (Fl w x10 a5 k c5 (.slice a6 k c6) (.slice a4 k c4) l) := Fl.start HB10.out (own_le HP10.out HB4.out.size) (own_le HQ10.out HB5.out.size) (own_le HW10.out HB3.out.size) HK.out
  have HSEP : Hid (∀ g, a5 = some ⟨g, 0, none⟩ → (Value.slice a6 k c6).ownBlock ≠ some g ∧ (Value.slice a4 k c4).ownBlock ≠ some g) := fun g hg => ⟨ob_ne fun x hx => by have h1 := HSQX.out x hx; have h2 := HSPX.out _ hg; simp only at h2; omega, ob_ne fun x hx => by have h1 := HSWX.out x hx; have h2 := HSPX.out _ hg; simp only at h2; omega⟩
  have hk0 : (0 : Int) ≤ (k : Int) := by omega
  clear HP5 HP6 HP7 HP8 HP9 HP10 HQ6 HQ7 HQ8 HQ9 HQ10 HW4 HW5 HW6 HW7 HW8 HW9 HW10
  go_loopw [61] (fun vi wr => ∃ j : Nat, j ≤ k ∧ vi = .int .i64 (j : Int) ∧ Hid (Fl w wr a5 k c5 (.slice a6 k c6) (.slice a4 k c4) l)) (fun vi _ => k - (intOf vi).toNat)
  case atStart => exact ⟨0, by omega, rfl, HFL.out⟩
  case round =>
    obtain ⟨j, hj, rfl, HI⟩ := hrel
    by_cases hjl : j < k
    · obtain ⟨g, z, hap, c0, f0, hnew⟩ := HI.out.step HSEP.out j hjl
      have HNEW : Hid (_) := hnew
      subst hap
      clear hnew
      go_wp2
      go_roundw
      case rel => exact ⟨j + 1, by omega, by go_num, HNEW.out _⟩
      case measure => simp [intOf]; omega
    · obtain rfl : k = j := by omega
      have HY6 : Hid (Bytes wr a6 l ∧ Bytes wr a4 l) := ⟨own_bytes HI.out.q, own_bytes HI.out.r⟩
      have HB16 : Hid (Below w.heap.size w wr) := HI.out.bel
      have hk8 : (k : Int) ≤ 8092 := by omega
      go_wp2_with (go_at_call 10; refine (same_yes l k k a6 a4 c6 c4 _ HK.out HK.out HY6.out.1 HY6.out.2 hkm).mono ?_; rintro _ y7 ⟨rfl, hb7⟩; have HB17 : Hid (Below w.heap.size w y7) := below_next HB16.out hb7; clear hb7)
      go_ret
      exact ⟨rfl, HB17.out⟩
theorem walk (s : Mf) (a : Option Addr) (n cap : Nat) (w : World) (hn : s.segs.length = n) (hS : Sms w a s.segs) (hc : n ≤ cap) (hm : n * 32 ≤ 140737488351232) (ht : Tab w) :
    Calls Tryd.prog 3 #[MfV s (.slice a n cap)] w fun e w' => e = .returned (.bool true) ∧ Below w.heap.size w w' := by
  cases hV : mvB s with
  | true => exact way_true s a n cap w hn hS hm ht hV
  | false => exact way_false s a n cap w hn hS hm ht hV
theorem own : ownKnob Tryd.prog.godebug = none := by kernel_rfl
theorem laidOut : laidOutB Tryd.prog = true := by kernel_rfl
set_option maxRecDepth 100000 in
theorem contract (H : Type) (enc : TypeId × Value → H) (W : World) (base : Nat) (args : Array Value) (ds gs : List (DataW H)) (before : List MemPlace)
    (hval : ∀ (j : Nat) t v, Tryd.f3.params[j]? = some t → args[j]? = some v → Value.okWide Tryd.prog W .any base t v)
    (hW : DataW.Whole enc Tryd.prog Tryd.f3.params.toList Rows.manifestEncodesSpec.vars false W args.toList ds gs before)
    (hsz : (DataW.weightsEach Tryd.prog (Tryd.f3.params.toList ++ Rows.manifestEncodesSpec.plain.varTypes Tryd.prog) (ds ++ gs)).all (· ≤ reachBytes) = true) (hL : laidMetH Tryd.prog ([("daybook/crc.halves", Rows.laid_daybook_crc_halves)]) W) :
    Calls Tryd.prog 3 args W fun e W' => ∃ v, e = .returned v ∧ Rows.manifestEncodesSpec.post enc Tryd.prog Tryd.f3 false true false false W args v W' := by
  have hW' := hW
  obtain ⟨p, q, hA0, hV, rfl, hfz, hnd⟩ := hW
  have hA : DataW.TrodAll enc Tryd.prog W 0 (fun _ => true) true Tryd.f3.params.toList args.toList ds p := hA0
  rw [Tryd.params3] at hA hval hsz
  obtain ⟨v0, vs0, d0, ds0, p0, q0, hargs, rfl, rfl, h0, r0⟩ := trodAll_cons hA
  obtain ⟨rfl, rfl, rfl⟩ := trodAll_nil r0
  obtain rfl : args = #[v0] := by cases args; simp_all
  obtain ⟨rfl, rfl⟩ := trodVars_none hV
  have k0 := h0
  have lt0 : ∀ x ∈ p0, x.block < W.heap.size := by obtain ⟨m, hm⟩ := k0; exact DataW.trod_lt m _ _ _ hm
  obtain ⟨st0, a0, n0, cap0, rfl, hlen0, w0, c0, m0⟩ := open_manifest (hval 0 24 v0 rfl rfl) h0 hsz (j := 0) rfl rfl
  clear hA0
  refine (walk st0 a0 n0 cap0 W hlen0 w0 c0 m0 (tab_of hL)).mono fun e W' ⟨he, bel⟩ => ?_
  subst he
  exact ⟨_, rfl, _, _, _, [], _, [], hW', trodAll_mk1 (shut_bool Tryd.underlying4 _), (trodAll_cons_mk (Below.trod laidOut (by kernel_rfl) (of_decide_eq_true (by kernel_rfl)) k0 bel lt0) trodAll_mk0), rfl, bel.frame _, fun h => by cases h⟩
set_option maxRecDepth 100000 in
theorem start (os : Os) : ∃ w0 : World, w0.os = os ∧ (w0.forCall (fun _ _ => 0) ⟨#[], #[.agg #[.int .i64 0, .int .i64 0, .int .i64 0, .int .i64 0, .int .i64 0, .slice none 0 0]], []⟩).variablesB Tryd.prog = true ∧
    ((w0.forCall (fun _ _ => 0) ⟨#[], #[.agg #[.int .i64 0, .int .i64 0, .int .i64 0, .int .i64 0, .int .i64 0, .slice none 0 0]], []⟩).heap.toList.drop Tryd.prog.globals.size).take ((begin Tryd.prog (fun _ _ => 0) default).world.heap.size - Tryd.prog.globals.size) = (begin Tryd.prog (fun _ _ => 0) default).world.heap.toList.drop Tryd.prog.globals.size ∧
    Input.okWideB Tryd.prog (w0.forCall (fun _ _ => 0) ⟨#[], #[.agg #[.int .i64 0, .int .i64 0, .int .i64 0, .int .i64 0, .int .i64 0, .slice none 0 0]], []⟩) 3 ⟨#[], #[.agg #[.int .i64 0, .int .i64 0, .int .i64 0, .int .i64 0, .int .i64 0, .slice none 0 0]], []⟩ = true ∧
    laidMet Tryd.prog Rows.manifestEncodesRow.laid (w0.forCall (fun _ _ => 0) ⟨#[], #[.agg #[.int .i64 0, .int .i64 0, .int .i64 0, .int .i64 0, .int .i64 0, .slice none 0 0]], []⟩).memory ∧
    ∀ (H : Type) (enc : TypeId × Value → H), DataW.whole enc Tryd.prog (w0.forCall (fun _ _ => 0) ⟨#[], #[.agg #[.int .i64 0, .int .i64 0, .int .i64 0, .int .i64 0, .int .i64 0, .slice none 0 0]], []⟩).memory Tryd.f3.params.toList Rows.manifestEncodesSpec.vars false (#[.agg #[.int .i64 0, .int .i64 0, .int .i64 0, .int .i64 0, .int .i64 0, .slice none 0 0]] : Array Value).toList 8 = some ([.agg [.lit (.int .i64 0), .lit (.int .i64 0), .lit (.int .i64 0), .lit (.int .i64 0), .lit (.int .i64 0), .nil]], [], []) :=
  ⟨{ World.holding Tryd.prog os ⟨#[], #[], []⟩ with heap := (World.holding Tryd.prog os ⟨#[], #[], []⟩).heap.modify 0 fun
      | .cells _ t frozen => .cells #[.int .u32 0, .int .u32 498536548, .int .u32 997073096, .int .u32 651767980, .int .u32 1994146192, .int .u32 1802195444, .int .u32 1303535960, .int .u32 1342533948, .int .u32 3988292384, .int .u32 4027552580, .int .u32 3604390888, .int .u32 3412177804, .int .u32 2607071920, .int .u32 2262029012, .int .u32 2685067896, .int .u32 3183342108] t frozen
      | o => o }, rfl, by kernel_rfl, by kernel_rfl, by kernel_rfl, laidMet_of_run' 8 (by kernel_rfl) (by kernel_rfl), fun _ _ => by kernel_rfl⟩
set_option maxRecDepth 100000 in
theorem lifted (os : Os) (started : os.Started) (H : Type) (enc : TypeId × Value → H) (F : Stop.Interp) :
    ReturnsInHanded {} Tryd.checked os 3 .any ((OpenSpec.ofChange Rows.manifestEncodesSpec).preRow enc Tryd.prog Tryd.f3 Rows.manifestEncodesRow.domain false Rows.manifestEncodesRow.laid) (((OpenSpec.ofChange Rows.manifestEncodesSpec).at F).post enc Tryd.prog Tryd.f3 false true false false) := by
  obtain ⟨w0, h1, h2, h3, h4, h5, h6⟩ := start os
  refine returnsInHanded_of_row (C := Tryd.checked) (s := OpenSpec.ofChange Rows.manifestEncodesSpec) own started (by kernel_rfl) Tryd.func3
    (witness_row_at (enc := enc) (C := Tryd.checked) false w0 #[.agg #[.int .i64 0, .int .i64 0, .int .i64 0, .int .i64 0, .int .i64 0, .slice none 0 0]] h1 h2 h3 h4
      (OpenSpec.preRow_of_cond 8 (h6 H enc) (by kernel_rfl) (fun k hk => by cases hk) (by kernel_rfl) h5)) ?_
  intro W base args ds gs before hval hW _ hcond hsz hL _ _
  exact contract H enc W base args ds gs before hval hW hsz hL
theorem said : Rows.ManifestEncodesSaid :=
  OpenClaim.holds_of_cond 3 Tryd.f3 rfl rfl rfl rfl rfl rfl rfl ⟨rfl, rfl, rfl, rfl, rfl⟩ rfl rfl rfl rfl rfl (by kernel_rfl) Tryd.func3 (by kernel_rfl)
    (of_decide_eq_true (by kernel_rfl)) (by unfold Func.isWrapper; first | (rw [if_pos (by decide +kernel)]; kernel_rfl) | (rw [if_neg (by decide +kernel)]; exact ⟨rfl, rfl⟩))
    (fun os started H enc _ F => by rw [OpenClaim.pre_eq_preRow]; exact lifted os started H enc F)
theorem plain (f : FuncId) (fn : Func) (hf : Tryd.pinned.checked.prog.funcNamed "daybook/daybooklaw16.ManifestEncodes" = some f) (hfn : Tryd.pinned.checked.prog.funcs[f]? = some fn) :
    false = Tryd.pinned.checked.prog.looks [] ∧ ∀ (j : Nat) t, fn.params[j]? = some t → Tryd.pinned.checked.prog.wantsStandIn t = false := by
  obtain rfl : f = 3 := Option.some.inj ((show Tryd.prog.funcNamed "daybook/daybooklaw16.ManifestEncodes" = some 3 by kernel_rfl).symm.trans hf) |>.symm
  obtain rfl : fn = Tryd.f3 := (Option.some.inj (Tryd.func3.symm.trans hfn)).symm
  refine ⟨by kernel_rfl, fun j t ht => ?_⟩
  rw [Tryd.params3] at ht
  have hm := Array.mem_of_getElem? ht
  have hall : ∀ t ∈ (#[24] : Array TypeId), Tryd.prog.wantsStandIn t = false := by
    intro t ht
    simp only [List.mem_toArray, List.mem_cons, List.not_mem_nil, or_false] at ht
    rcases ht with rfl <;> kernel_rfl
  exact hall t hm
theorem card : Rows.ManifestEncodesCardSaid :=
  Claim7.holds_tied_plain_at .later [] _ _ _ _ said (fun _ h => by cases h) (by kernel_rfl) (fun _ h => by cases h) manifestEncodes_row_tie rfl ⟨rfl, rfl⟩ (by kernel_rfl) rfl plain (by kernel_rfl)
end Go.Proofs.YtoneaannbmkeiaaDoor.manifestEncodes
