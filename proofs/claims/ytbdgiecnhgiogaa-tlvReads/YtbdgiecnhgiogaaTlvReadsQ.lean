/- For every text and every script: a reader asked, call by call, answers as the reference does. No condition. -/
import Derived.Test.YtbdgiecnhgiogaaK31
import Derived.Test.YtbdgiecnhgiogaaK20
import Derived.Test.YtbdgiecnhgiogaaK21
import Derived.Test.YtbdgiecnhgiogaaK27
import Derived.SizedLaws
import Derived.ChangeOld
import Derived.Deep.MidRow
import Derived.Deep.CutBlock
import Derived.Deep.DeepCutAuto
namespace Go.Proofs.Ytbdgiecnhgiogaa.tlvReads
open Go.ChangeShapes Go.WideShapes Go.ChangeAt Go.RowKit
set_option linter.unusedVariables false
set_option linter.unusedSimpArgs false
theorem cell_heapF {x y : World} {g : Nat} (h : y.heap[g]? = x.heap[g]?) (j : Nat) : y.cell? ⟨g, j, none⟩ = x.cell? ⟨g, j, none⟩ := by
  unfold World.cell?
  simp only [h]
theorem fv_inj {T T' : Int} {X X' : Bool} {U U' : Nat} {v v' : Value} (h : FV T X U v = FV T' X' U' v') : T = T' ∧ X = X' ∧ U = U' ∧ v = v' := by
  simp only [FV, Value.agg.injEq, Array.mk.injEq, List.cons.injEq, Value.int.injEq, Value.bool.injEq, and_true, true_and] at h
  obtain ⟨h1, h2, h3, h4⟩ := h
  exact ⟨h1, h2, by omega, h4⟩
theorem row_shape {w : World} {base n : Nat} {e : TypeId} {v : Value} {xs : List Value} (h : w.ownsRow base e 1 v n xs) : ∃ a c, v = .slice a n c := by
  rcases h.2 with ⟨h1, h2⟩ | ⟨g, cap, cur, h3, _⟩
  · subst h2; exact ⟨none, 0, h1⟩
  · exact ⟨_, _, h3⟩
theorem drewS {x y : World} {base n c j g i : Nat} {a : Option Addr} {ts : List Int} {u : Value} (h : RW x (y.setCell ⟨g, i, none⟩ u) base a n c ts j) : RW x (y.drew.setCell ⟨g, i, none⟩ u) base a n c ts j := by
  have hd : y.drew.setCell ⟨g, i, none⟩ u = (y.setCell ⟨g, i, none⟩ u).drew := rfl
  rw [hd]
  obtain ⟨xs, h1, h2⟩ := h.p
  exact ⟨h.os, h.tape, h.output, h.size, h.block, ⟨xs, own_below2 h1 ((Below.refl _ _).drew), h2⟩⟩
set_option maxRecDepth 20000 in
set_option maxHeartbeats 2000000 in
theorem way_bad (l : List Nat) (a : Option Addr) (n cap : Nat) (P : List (Pt × Value)) (pa : Option Addr) (pn pcap : Nat) (w : World) (hn : l.length = n) (hb : Bytes w a l) (hcap : n ≤ cap) (hl : n ≤ 140737488351232) (hpn : P.length = pn) (hps : PsAt w pa P) (hp48 : pn * 48 ≤ 140737488351232) (hnil : pa = none → pn = 0 ∧ pcap = 0) (he : (recs l).2.2 ≠ 0) :
    Calls Try.prog 4 #[.slice a n cap, .slice pa pn pcap] w fun r w' => r = .returned (.bool true) ∧ Below w.heap.size w w' := by
  have HN : Hid (l.length = n) := hn
  have HBY : Hid (Bytes w a l) := hb
  have HX : Hid (n ≤ cap ∧ n ≤ maxLen ∧ n ≤ 281474976710656) := ⟨hcap, by unfold maxLen; omega, by omega⟩
  have hnI : (n : Int) ≤ 140737488351232 := by omega
  obtain ⟨fs, at0, e, hre⟩ : ∃ fs at0 e, recs l = (fs, at0, e) := ⟨_, _, _, rfl⟩
  have HR : Hid (recs l = (fs, at0, e)) := hre
  rw [hre] at he
  have HE : Hid (e ≠ 0) := he
  have he0 : ((e : Int) == 0) = false := by have := HE.out; simp; exact this
  have heq : ((e : Int) != (e : Int)) = false := by simp
  clear hn hb hcap hre he hpn hps hp48 hnil
  go_enter Try.func4, Try.ntmps4
  go_wp2_with (first
  | (go_at_call 7; refine (head05_any w).mono ?_; rintro _ x1 ⟨rfl, hb1⟩; have HB1 : Hid (Below w.heap.size w x1) := hb1; clear hb1)
  | (go_at_call 8; refine (copy_nn l a n cap x1 HN.out (HBY.out.keep HB1.out) HX.out.2.2).mono ?_; rintro _ x2 ⟨a2, c2, rfl, hc2, hy2, ho2, hb2⟩; have HB2 : Hid (Below w.heap.size w x2) := below_next HB1.out hb2; have HC2 : Hid (n ≤ c2 ∧ Bytes x2 a2 l ∧ Own x2 x1.heap.size (.slice a2 n c2) l ∧ x1.heap.size ≤ x2.heap.size) := ⟨hc2, hy2, ho2, hb2.size⟩; have HS1 : Hid (w.heap.size ≤ x1.heap.size) := HB1.out.size; clear hc2 hy2 ho2 hb2)
  | (go_at_call 17; refine (newr_any l a2 n c2 x2 HN.out HC2.out.2.1 HC2.out.1 HX.out.2.1).mono ?_; intro r x3 hp; obtain ⟨rfl, hb3⟩ := new_none hp (by rw [HR.out]; exact HE.out); rw [HR.out]; have HB3 : Hid (Below w.heap.size w x3) := below_next HB2.out hb3; clear hp hb3)
  | (go_at_call 18; refine (rtdec l a n cap x3 HN.out (HBY.out.keep HB3.out) HX.out.1 HX.out.2.1).mono ?_; unfold DecPost; rw [HR.out]; rintro _ x4 ⟨v4, L4, rfl, hL4, hr4, hb4⟩; have HL4 : Hid (fs = L4.map Prod.fst ∧ Rws x4 x3.heap.size v4 L4) := ⟨hL4, hr4⟩; have HB4 : Hid (Below w.heap.size w x4) := below_next HB3.out hb4; skip; clear hL4 hr4 hb4)
  | (go_at_call 19; refine (rnum_nil _ x4).mono ?_; rintro _ x5 ⟨rfl, hb⟩; have HB5 : Hid (Below w.heap.size w x5) := below_next HB4.out hb; clear hb)
  | (go_at_call 20; refine (rint_nil _ x5).mono ?_; rintro _ x6 ⟨rfl, hb⟩; have HB6 : Hid (Below w.heap.size w x6) := below_next HB5.out hb; clear hb)
  | (go_at_call 21; refine (rtext_nil _ x6).mono ?_; rintro _ x7 ⟨rfl, hb⟩; have HB7 : Hid (Below w.heap.size w x7) := below_next HB6.out hb; clear hb)
  | (go_at_call 22; refine (rest_nil x7).mono ?_; rintro _ x8 ⟨rfl, rfl⟩)
  | (go_at_call 23; refine (rerr_nil x7).mono ?_; rintro _ x9 ⟨rfl, rfl⟩))
  go_ret
  exact ⟨rfl, HB7.out⟩
set_option maxRecDepth 20000 in
set_option maxHeartbeats 16000000 in
theorem way_good (l : List Nat) (a : Option Addr) (n cap : Nat) (P : List (Pt × Value)) (pa : Option Addr) (pn pcap : Nat) (w : World) (hn : l.length = n) (hb : Bytes w a l) (hcap : n ≤ cap) (hl : n ≤ 140737488351232) (hpn : P.length = pn) (hps : PsAt w pa P) (hp48 : pn * 48 ≤ 140737488351232) (hnil : pa = none → pn = 0 ∧ pcap = 0) (he : (recs l).2.2 = 0) :
    Calls Try.prog 4 #[.slice a n cap, .slice pa pn pcap] w fun r w' => r = .returned (.bool true) ∧ Below w.heap.size w w' := by
  have HN : Hid (l.length = n) := hn
  have HBY : Hid (Bytes w a l) := hb
  have HX : Hid (n ≤ cap ∧ n ≤ maxLen ∧ n ≤ 281474976710656) := ⟨hcap, by unfold maxLen; omega, by omega⟩
  have hnI : (n : Int) ≤ 140737488351232 := by omega
  obtain ⟨fs, at0, e, hre⟩ : ∃ fs at0 e, recs l = (fs, at0, e) := ⟨_, _, _, rfl⟩
  have HR : Hid (recs l = (fs, at0, e)) := hre
  rw [hre] at he
  obtain rfl : e = 0 := he
  have HOK : Hid (OkF fs) := by have h := okF_recs l hb.mem (by rw [hre]); rw [hre] at h; exact h
  have HFO : Hid (∀ L : List (Fld × Value), fs = L.map Prod.fst → ∀ p ∈ L, p.1.num ≤ 18446744073709551615 ∧ p.1.bytes.length ≤ maxLen) := fun L hL p hp => by
    have h := HOK.out.right p.1 (by rw [hL]; exact List.mem_map_of_mem hp)
    exact ⟨h.1, Nat.le_trans h.2.1 (by unfold maxLen; omega)⟩
  obtain ⟨i0, hi, hz0, hz1, hz2⟩ := info_parts Try.infoPt
  obtain ⟨i1, hi1, hy0, hy1, hy2⟩ := info_parts Try.infoFd
  have HPN : Hid (P.length = pn ∧ PsAt w pa P ∧ (pa = none → pn = 0 ∧ pcap = 0)) := ⟨hpn, hps, hnil⟩
  clear hn hb hcap hre hpn hps hnil
  go_enter Try.func4, Try.ntmps4
  go_wp2_with (first
  | (go_at_call 7; refine (head05_any w).mono ?_; rintro _ x1 ⟨rfl, hb1⟩; have HB1 : Hid (Below w.heap.size w x1) := hb1; clear hb1)
  | (go_at_call 8; refine (copy_nn l a n cap x1 HN.out (HBY.out.keep HB1.out) HX.out.2.2).mono ?_; rintro _ x2 ⟨a2, c2, rfl, hc2, hy2, ho2, hb2⟩; have HB2 : Hid (Below w.heap.size w x2) := below_next HB1.out hb2; have HC2 : Hid (n ≤ c2 ∧ Bytes x2 a2 l ∧ Own x2 x1.heap.size (.slice a2 n c2) l ∧ x1.heap.size ≤ x2.heap.size) := ⟨hc2, hy2, ho2, hb2.size⟩; have HS1 : Hid (w.heap.size ≤ x1.heap.size) := HB1.out.size; clear hc2 hy2 ho2 hb2)
  | (go_at_call 17; refine (newr_any l a2 n c2 x2 HN.out HC2.out.2.1 HC2.out.1 HX.out.2.1).mono ?_; intro r x3 hp; obtain ⟨q, b, L3, rfl, hL3, hrd, hq, hqb, hb3⟩ := new_good hp (by rw [HR.out]); rw [HR.out] at hL3; have HB3 : Hid (Below w.heap.size w x3) := below_next HB2.out hb3; have HC3 : Hid (Own x3 x1.heap.size (.slice a2 n c2) l ∧ x2.heap.size ≤ x3.heap.size) := ⟨⟨HC2.out.2.2.1.1, own_below HC2.out.2.2.1.2 hb3⟩, hb3.size⟩; have HRD3 : Hid (RdAt x3 x2.heap.size q b L3 0) := hrd; have HQB : Hid (L3.map Prod.fst = fs ∧ x2.heap.size ≤ q ∧ x2.heap.size ≤ b) := ⟨hL3, hq, hqb⟩; clear hp hL3 hrd hq hqb hb3)
  | (go_at_call 18; refine (rtdec l a n cap x3 HN.out (HBY.out.keep HB3.out) HX.out.1 HX.out.2.1).mono ?_; unfold DecPost; rw [HR.out]; rintro _ x4 ⟨v4, L4, rfl, hL4, hr4, hb4⟩; have HL4 : Hid (fs = L4.map Prod.fst ∧ Rws x4 x3.heap.size v4 L4 ∧ x3.heap.size ≤ x4.heap.size) := ⟨hL4, hr4, hb4.size⟩; have HB4 : Hid (Below w.heap.size w x4) := below_next HB3.out hb4; have HRD4 : Hid (RdAt x4 x2.heap.size q b L3 0) := HRD3.out.keep hb4; have HC4 : Hid (Own x4 x1.heap.size (.slice a2 n c2) l) := ⟨HC3.out.1.1, own_below HC3.out.1.2 hb4⟩; obtain ⟨a4, c4, hv4, hfs4⟩ := hr4.fs (HFO.out L4 hL4); subst hv4; clear hL4 hr4 hb4))
  have HTU : Hid (Tu x4 x4 x1.heap.size a2 n c2) := Tu.start HC4.out HN.out
  have HA2 : Hid (∀ g, a2 = some ⟨g, 0, none⟩ → g < x2.heap.size) := fun g hg => (HC2.out.2.2.1.2.lt g (by rw [hg]; rfl)).2
  clear hfs4
  go_loopw [78] (fun vi y => ∃ j : Nat, j ≤ n ∧ vi = .int .i64 (j : Int) ∧ Hid (Tu x4 y x1.heap.size a2 n c2)) (fun vi _ => n - (intOf vi).toNat)
  case atStart => exact ⟨0, by omega, rfl, HTU.out⟩
  case round =>
  rename World => y
  obtain ⟨j, hj, rfl, HT⟩ := hrel
  by_cases hjl : j < n
  · obtain ⟨g, z, hap, c0, f0, hnew⟩ := HT.out.step j hjl
    have HNEW : Hid (_) := hnew
    subst hap
    clear hnew
    go_wp2
    go_roundw
    case rel => exact ⟨j + 1, by omega, by go_num, HNEW.out _⟩
    case measure => simp [intOf]; omega
  obtain rfl : n = j := by omega
  have HST : Hid (RS w y x2.heap.size q b (.slice a4 L4.length c4) L4 L3 0) := rs_start HB4.out HRD4.out HQB.out.2.1 HQB.out.2.2 HL4.out.2.1 HS1.out HC2.out.2.2.2 HC3.out.2 HT.out HA2.out
  have HE0 : Hid ((y.alloc (.cells #[] 29)).ownsRow y.heap.size 29 4 (.slice (some ⟨y.heap.size, 0, none⟩) 0 0) 0 []) := ⟨by simp, .inr ⟨y.heap.size, 0, #[], rfl, Nat.le_refl _, heap_alloc_new y _, by simp, by simp, by simp, by simp⟩⟩
  have HEQ : Hid (L3.map Prod.fst = L4.map Prod.fst ∧ OkF (L4.map Prod.fst)) := ⟨HQB.out.1.trans HL4.out.1, by show OkF _; rw [← HL4.out.1]; exact HOK.out⟩
  have HQL : Hid (q < y.heap.size ∧ b < y.heap.size) := ⟨lt_of_heap HST.out.rd.blk, by obtain ⟨_, _, hm, _⟩ := HST.out.rd.map; exact hm.lt⟩
  clear HTU HA2 HT HRD3 HRD4 HC2 HC3 HC4 HL4 HB1 HB2 HB3 HB4 HS1
  go_wp2_with (first
  | (at_builtin; refine wpList_append_puts rfl _ _ rfl y.heap.size _ rfl HE0.out P pa pn pcap rfl HPN.out.1 (HPN.out.2.1.keep (HST.out.bel.alloc HST.out.bel.size _)) HPN.out.2.2 hp48 (by simp) ?_; intro v3 z1 ho3 hg3; obtain ⟨HO3, HG3⟩ : Hid (z1.ownsRow y.heap.size 29 4 v3 pn (flatP P)) ∧ Hid (Below y.heap.size y z1) := ⟨ho3, ((Below.refl _ _).alloc (Nat.le_refl _) _).grown hg3 (by simp) (fun k hk => (HE0.out.lt k hk).1)⟩; have hs3 : y.heap.size ≤ z1.heap.size := HG3.out.size; clear ho3 hg3)
  | (at_builtin; refine wpList_append_lies _ rfl _ _ 22 rfl y.heap.size 29 i0 _ 4 48 Try.underlying22 hi hz0 hz1 hz2 rfl (by decide) v3 pn (flatP P) rfl (HO3.out.alloc _) ⟨z1.heap.size, 0, none⟩ 1 1 [.int .i64 3, .int .i64 0, .int .i64 0, .slice none 0 0] rfl rfl (newsP z1) onesP (by omega) (by unfold maxLen; omega) (by omega) (by simp; omega) (z1.heap.size + 1) (by simp) ?_; intro g cap4 z2 ho4 hg4 _ hlt4; have HI : Hid (RI w z2 x2.heap.size q b g cap4 (P ++ [(⟨3, 0, 0, []⟩, .slice none 0 0)]) (.slice a4 L4.length c4) L4 L3 0) := ri_start HST.out HO3.out HG3.out HPN.out.1 ho4 hg4; clear ho4 hg4))
  obtain ⟨NN, hNN⟩ : ∃ NN, pn + 1 = NN := ⟨_, rfl⟩
  have hNI : (pn : Int) + 1 = (NN : Int) := by omega
  have hNm : NN ≤ 140737488355328 := by omega
  have HPOK : Hid (∀ p ∈ P ++ [((⟨3, 0, 0, []⟩ : Pt), Value.slice none 0 0)], (Lit.int .i64 p.1.tag).wf = true ∧ ∃ ad m c, p.2 = .slice ad m c) := by
    intro p hp
    rcases List.mem_append.1 hp with h5 | h5
    · obtain ⟨ad, c5, h6, _⟩ := (HPN.out.2.1.fok p h5).byt
      exact ⟨(HPN.out.2.1.fok p h5).tg, ad, _, c5, h6⟩
    · obtain rfl := List.mem_singleton.1 h5
      exact ⟨rfl, none, 0, 0, rfl⟩
  have HPL : Hid ((P ++ [((⟨3, 0, 0, []⟩ : Pt), Value.slice none 0 0)]).length = NN) := by show _ = _; simp [HPN.out.1, hNN]
  have HQ2 : Hid (q < z2.heap.size ∧ b < z2.heap.size) := ⟨lt_of_heap HI.out.st.rd.blk, by obtain ⟨_, _, hm, _⟩ := HI.out.st.rd.map; exact hm.lt⟩
  obtain ⟨P', hP'⟩ : ∃ P', P ++ [((⟨3, 0, 0, []⟩ : Pt), Value.slice none 0 0)] = P' := ⟨_, rfl⟩
  rw [hP'] at HI HPL HPOK
  rw [hNI, hNN]
  clear hP' hNN hNI HST HE0 HO3 HG3 hs3 hlt4 hz0 hz1 hz2 hi HPN hp48
  go_loopw [8, 12, 92] (fun vf vb vi x => ∃ (k : Nat) (Lf L : List (Fld × Value)) (B : Bool), k ≤ NN ∧ vi = .int .i64 (k : Int) ∧ vb = .bool B ∧ Hid (RI w x x2.heap.size q b g cap4 P' vf Lf L (if B = true then 33 else 0) ∧ L.map Prod.fst = Lf.map Prod.fst ∧ OkF (Lf.map Prod.fst))) (fun _ _ vi _ => NN - (intOf vi).toNat)
  case atStart => exact ⟨0, L4, L3, false, Nat.zero_le _, rfl, rfl, HI.out, HEQ.out.1, HEQ.out.2⟩
  case round =>
    rename World => wo
    obtain ⟨k, Lf, L, B, hk, rfl, rfl, HR0⟩ := hrel
    by_cases hkl : k < NN
    · obtain ⟨p, hp⟩ : ∃ p, P'[k]? = some p := ⟨_, List.getElem?_eq_getElem (by rw [HPL.out]; exact hkl)⟩
      obtain ⟨hwf, ad, m, pc, hpv⟩ := HPOK.out p (List.mem_of_getElem? hp)
      obtain ⟨c0, c1, c2', c3⟩ := HR0.out.1.cells k p hp
      rw [hpv] at c3
      obtain ⟨⟨kk, tag, vv, bb⟩, pv⟩ := p
      simp only at hwf hpv c0 c1 c2' c3
      have HWF : Hid ((Lit.int .i64 tag).wf = true) := hwf
      obtain ⟨a8, c8, hvf, hfs8⟩ := HR0.out.1.st.fs.fs (fun p hp => by have h := HR0.out.2.2.right p.1 (List.mem_map_of_mem hp); exact ⟨h.1, Nat.le_trans h.2.1 (by unfold maxLen; omega)⟩)
      obtain ⟨n8, hn8⟩ : ∃ n8, Lf.length = n8 := ⟨_, rfl⟩
      have hn31 : n8 ≤ 31 := by have h := HR0.out.2.2.few; rw [List.length_map, hn8] at h; exact h
      have hn31I : (n8 : Int) ≤ 31 := by omega
      rw [hn8] at hvf
      subst hvf
      have HN8 : Hid (Lf.length = n8) := hn8
      have HF8 : Hid (FsAt wo a8 Lf) := hfs8
      have HRI : Hid (RI w wo x2.heap.size q b g cap4 P' (.slice a8 n8 c8) Lf L (if B = true then 33 else 0)) := HR0.out.1
      have HEF : Hid (L.map Prod.fst = Lf.map Prod.fst ∧ OkF (Lf.map Prod.fst)) := HR0.out.2
      have HQ3 : Hid (q < wo.heap.size ∧ b < wo.heap.size) := ⟨lt_of_heap HRI.out.st.rd.blk, by obtain ⟨_, _, hm, _⟩ := HRI.out.st.rd.map; exact hm.lt⟩
      have HPB : Hid ((wo.alloc (.cells #[.int .i64 kk, .int .i64 tag, .int .i64 vv, .slice ad m pc] 29)).heap[wo.heap.size]? = some (.cells #[.int .i64 kk, .int .i64 tag, .int .i64 vv, .slice ad m pc] 29)) := heap_alloc_new wo _
      have HB0 : Hid (Below wo.heap.size wo (wo.alloc (.cells #[.int .i64 kk, .int .i64 tag, .int .i64 vv, .slice ad m pc] 29))) := (Below.refl _ _).alloc (Nat.le_refl _) _
      clear hp hwf hpv hfs8 hn8 HR0 HQ2 HI
      obtain ⟨T0, X0, U0, V0, hfv, hv0⟩ : ∃ T0 X0 U0 V0, fdV Lf tag = FV T0 X0 U0 V0 ∧ V0.oneCell' = true := by
        unfold fdV
        cases hg : getT Lf tag with
        | none => exact ⟨0, false, 0, .slice none 0 0, rfl, rfl⟩
        | some p => obtain ⟨ab, cb, hbv, _⟩ := (HRI.out.st.fs.byt _ (getT_mem hg).1).shape; exact ⟨_, _, _, _, rfl, by rw [hbv]; rfl⟩
      have HFV : Hid (fdV Lf tag = FV T0 X0 U0 V0) := hfv
      have HONE : Hid (V0.oneCell' = true) := hv0
      obtain ⟨ok, hok⟩ : ∃ ok, (getT Lf tag).isSome = ok := ⟨_, rfl⟩
      have HOKB : Hid ((getT Lf tag).isSome = ok) := hok
      have HLL : Hid (L.length = n8 ∧ L.length ≤ 31) := by
        have h := congrArg List.length HEF.out.1
        rw [List.length_map, List.length_map, HN8.out] at h
        exact ⟨h, by omega⟩
      clear hfv hv0 hok
      go_upto_block 4 with (first
        | (go_at_call 24; refine (find_any Lf tag a8 n8 c8 _ HN8.out (HF8.out.keep HB0.out) (by unfold maxLen; omega)).mono ?_; rw [HFV.out, HOKB.out]; rintro _ y1 ⟨rfl, hb⟩; have HY1 : Hid (Below wo.heap.size wo y1) := HB0.out.trans (hb.mono (by simp)); have HP1 : Hid (y1.heap[wo.heap.size]? = some (.cells #[.int .i64 kk, .int .i64 tag, .int .i64 vv, .slice ad m pc] 29)) := (hb.block _ (by simp)).trans HPB.out; clear hb)
        | ((with_reducible refine guard_store 32 ?_); refine wpList_store_fld rfl _ _ rfl (k := y1.heap.size) (tag2 := T0) (text2 := X0) (num2 := U0) (bv2 := V0) (FldAt.new y1 0 false 0 (.slice none 0 0)) HONE.out rfl rfl ?_; intro y2 hf hos hks hss; have hb2 : Below y1.heap.size y1 y2 := ⟨hos.1, hos.2.1, hos.2.2, by rw [hss]; simp, fun k hk => (hks k (by omega)).trans (Below.heap_alloc _ _ k hk)⟩; have HY2 : Hid (Below wo.heap.size wo y2) := HY1.out.trans (hb2.mono HY1.out.size); have hp2 := (hb2.block _ (lt_of_heap HP1.out)).trans HP1.out; have HP2 : Hid (y2.heap[wo.heap.size]? = some (.cells #[.int .i64 kk, .int .i64 tag, .int .i64 vv, .slice ad m pc] 29)) := hp2; obtain ⟨f0, f1, f2, f3⟩ := hf.cells; have HI2 : Hid (RI w y2 x2.heap.size q b g cap4 P' (.slice a8 n8 c8) Lf L (if B = true then 33 else 0)) := HRI.out.keep HY2.out; have d0 : y2.cell? ⟨wo.heap.size, 0, none⟩ = some (.int .i64 kk) := (by rw [cell_of_row _ _ 0 _ _ _ HP2.out]; rfl); have d1 : y2.cell? ⟨wo.heap.size, 1, none⟩ = some (.int .i64 tag) := (by rw [cell_of_row _ _ 1 _ _ _ HP2.out]; rfl); have hlt2 : wo.heap.size < y2.heap.size := lt_of_heap hp2; have hbz := (Below.refl y2.heap.size y2).alloc (Nat.le_refl _) (.cells #[] 5); obtain ⟨z0, z1, z2f, z3⟩ := (hf.keep hbz).cells; have hpz := (hbz.block _ hlt2).trans hp2; have dz0 : (y2.alloc (.cells #[] 5)).cell? ⟨wo.heap.size, 0, none⟩ = some (.int .i64 kk) := (by rw [cell_of_row _ _ 0 _ _ _ hpz]; rfl); have dz1 : (y2.alloc (.cells #[] 5)).cell? ⟨wo.heap.size, 1, none⟩ = some (.int .i64 tag) := (by rw [cell_of_row _ _ 1 _ _ _ hpz]; rfl); clear hf hos hks hss hb2 hp2 hbz hpz))
      go_cut [12, 16] (fun v12 v16 x => ∃ (B1 ok1 : Bool) (L1 : List (Fld × Value)), v12 = .bool B1 ∧ v16 = .bool ok1 ∧ Hid (RI w x x2.heap.size q b g cap4 P' (.slice a8 n8 c8) Lf L1 (if B1 = true then 33 else 0) ∧ x.heap[wo.heap.size]? = some (.cells #[.int .i64 kk, .int .i64 tag, .int .i64 vv, .slice ad m pc] 29) ∧ ((ok1 = true ∧ L1 = delT L tag) ∨ (ok1 = false ∧ L1 = L))))
      case first =>
        by_cases hk0 : kk = 0
        · subst hk0
          rcases hg : getT Lf tag with _ | ⟨⟨T, tx, nu, by0⟩, bv⟩
          · have hok := HOKB.out
            rw [hg] at hok
            obtain rfl : false = ok := hok
            have hfv : ZF = FV T0 X0 U0 V0 := by have h := HFV.out; unfold fdV at h; rw [hg] at h; exact h
            obtain ⟨e1, e2, e3, e4⟩ := fv_inj hfv
            subst e1 e2 e3 e4
            clear hfv
            have HDL : Hid (delT L tag = L) := (ask_none HEF.out.1 hg 0 false).2.2.2
            cases B with
            | true =>
              as_aux_lemma =>
                have HAS : Hid (numF (L.map Prod.fst) tag = 0 ∧ txtF (L.map Prod.fst) tag = [] ∧ errF (L.map Prod.fst) 33 tag false = 33) := ⟨(ask_none HEF.out.1 hg 33 false).1, (ask_none HEF.out.1 hg 33 false).2.1, (ask_none HEF.out.1 hg 33 false).2.2.1⟩
                clear hg
                have HI2 : Hid (RI w y2 x2.heap.size q b g cap4 P' (.slice a8 n8 c8) Lf L 33) := HI2.out
                go_wp2_with (first
                  | (go_at_call 19; refine (rnum_any tag y2 x2.heap.size q b L 33 HI2.out.st.rd HWF.out).mono ?_; rw [HAS.out.1]; rintro _ y3 ⟨rfl, hp3⟩; have HI3 : Hid (RI w y3 x2.heap.size q b g cap4 P' (.slice a8 n8 c8) Lf (delT L tag) (errF (L.map Prod.fst) 33 tag false)) := HI2.out.took hp3; rw [HAS.out.2.2] at HI3; have hp9 := (hp3.2.block wo.heap.size hlt2 (by have := HQ3.out; omega) (by have := HQ3.out; omega)).trans HP2.out; have e0 : y3.cell? ⟨wo.heap.size, 0, none⟩ = some (.int .i64 0) := (by rw [cell_of_row _ _ 0 _ _ _ hp9]; rfl); have e1 : y3.cell? ⟨wo.heap.size, 1, none⟩ = some (.int .i64 tag) := (by rw [cell_of_row _ _ 1 _ _ _ hp9]; rfl); have HP3 : Hid (y3.heap[wo.heap.size]? = some (.cells #[.int .i64 0, .int .i64 tag, .int .i64 vv, .slice ad m pc] 29)) := hp9; have hlt3 : wo.heap.size < y3.heap.size := lt_of_heap hp9; clear hp3 hp9))
                go_meet
                case rel => exact ⟨true, false, L, rfl, rfl, by have h := HI3.out; rw [HDL.out] at h; exact h, HP3.out, .inr ⟨rfl, rfl⟩⟩
            | false =>
              as_aux_lemma =>
                have HAS : Hid (numF (L.map Prod.fst) tag = 0 ∧ txtF (L.map Prod.fst) tag = [] ∧ errF (L.map Prod.fst) 0 tag false = 0) := ⟨(ask_none HEF.out.1 hg 0 false).1, (ask_none HEF.out.1 hg 0 false).2.1, (ask_none HEF.out.1 hg 0 false).2.2.1⟩
                clear hg
                have HI2 : Hid (RI w y2 x2.heap.size q b g cap4 P' (.slice a8 n8 c8) Lf L 0) := HI2.out
                go_wp2_with (first
                  | (go_at_call 19; refine (rnum_any tag y2 x2.heap.size q b L 0 HI2.out.st.rd HWF.out).mono ?_; rw [HAS.out.1]; rintro _ y3 ⟨rfl, hp3⟩; have HI3 : Hid (RI w y3 x2.heap.size q b g cap4 P' (.slice a8 n8 c8) Lf (delT L tag) (errF (L.map Prod.fst) 0 tag false)) := HI2.out.took hp3; rw [HAS.out.2.2] at HI3; have hp9 := (hp3.2.block wo.heap.size hlt2 (by have := HQ3.out; omega) (by have := HQ3.out; omega)).trans HP2.out; have e0 : y3.cell? ⟨wo.heap.size, 0, none⟩ = some (.int .i64 0) := (by rw [cell_of_row _ _ 0 _ _ _ hp9]; rfl); have e1 : y3.cell? ⟨wo.heap.size, 1, none⟩ = some (.int .i64 tag) := (by rw [cell_of_row _ _ 1 _ _ _ hp9]; rfl); have HP3 : Hid (y3.heap[wo.heap.size]? = some (.cells #[.int .i64 0, .int .i64 tag, .int .i64 vv, .slice ad m pc] 29)) := hp9; have hlt3 : wo.heap.size < y3.heap.size := lt_of_heap hp9; clear hp3 hp9))
                go_meet
                case rel => exact ⟨false, false, L, rfl, rfl, by have h := HI3.out; rw [HDL.out] at h; exact h, HP3.out, .inr ⟨rfl, rfl⟩⟩
          · cases tx with
            | false =>
              have HG : Hid (getT Lf tag = some (⟨T, false, nu, by0⟩, bv)) := hg
              have HFR : Hid (FRight ⟨T, false, nu, by0⟩) := HEF.out.2.right _ (List.mem_map_of_mem (getT_mem hg).1)
              have hnu : nu ≤ 18446744073709551615 := HFR.out.1
              have hnuI : (nu : Int) ≤ 18446744073709551615 := by omega
              obtain ⟨mb, hmb⟩ : ∃ mb, by0.length = mb := ⟨_, rfl⟩
              have HBL : Hid (by0.length = mb) := hmb
              have HBM : Hid (mb ≤ maxLen) := by have h := HFR.out.2.1; simp only [hmb] at h; show _ ≤ _; unfold maxLen; omega
              obtain ⟨ab, cb, hbv, _⟩ := ((HRI.out.st.fs.byt _ (getT_mem hg).1)).shape
              simp only [hmb] at hbv
              subst hbv
              have hok := HOKB.out
              rw [hg] at hok
              obtain rfl : true = ok := hok
              have hfv : FV T false nu (.slice ab mb cb) = FV T0 X0 U0 V0 := by have h := HFV.out; unfold fdV at h; rw [hg] at h; exact h
              obtain ⟨e1, e2, e3, e4⟩ := fv_inj hfv
              subst e1 e2 e3 e4
              clear hfv hmb hnu
              cases B with
              | true =>
                as_aux_lemma =>
                  have HAS : Hid (numF (L.map Prod.fst) tag = nu ∧ txtF (L.map Prod.fst) tag = [] ∧ errF (L.map Prod.fst) 33 tag false = 33) := by obtain ⟨h1, h2, h3⟩ := ask_some HEF.out.1 hg 33 false; exact ⟨h1.trans rfl, h2.trans rfl, h3.trans rfl⟩
                  clear hg
                  have HI2 : Hid (RI w y2 x2.heap.size q b g cap4 P' (.slice a8 n8 c8) Lf L 33) := HI2.out
                  go_wp2_with (first
                    | (go_at_call 19; refine (rnum_any tag y2 x2.heap.size q b L 33 HI2.out.st.rd HWF.out).mono ?_; rw [HAS.out.1]; rintro _ y3 ⟨rfl, hp3⟩; have HI3 : Hid (RI w y3 x2.heap.size q b g cap4 P' (.slice a8 n8 c8) Lf (delT L tag) (errF (L.map Prod.fst) 33 tag false)) := HI2.out.took hp3; rw [HAS.out.2.2] at HI3; have hp9 := (hp3.2.block wo.heap.size hlt2 (by have := HQ3.out; omega) (by have := HQ3.out; omega)).trans HP2.out; have e0 : y3.cell? ⟨wo.heap.size, 0, none⟩ = some (.int .i64 0) := (by rw [cell_of_row _ _ 0 _ _ _ hp9]; rfl); have e1 : y3.cell? ⟨wo.heap.size, 1, none⟩ = some (.int .i64 tag) := (by rw [cell_of_row _ _ 1 _ _ _ hp9]; rfl); have HP3 : Hid (y3.heap[wo.heap.size]? = some (.cells #[.int .i64 0, .int .i64 tag, .int .i64 vv, .slice ad m pc] 29)) := hp9; have hlt3 : wo.heap.size < y3.heap.size := lt_of_heap hp9; clear hp3 hp9))
                  go_meet
                  case rel => exact ⟨true, true, delT L tag, rfl, rfl, HI3.out, HP3.out, .inl ⟨rfl, rfl⟩⟩
              | false =>
                as_aux_lemma =>
                  have HAS : Hid (numF (L.map Prod.fst) tag = nu ∧ txtF (L.map Prod.fst) tag = [] ∧ errF (L.map Prod.fst) 0 tag false = 0) := by obtain ⟨h1, h2, h3⟩ := ask_some HEF.out.1 hg 0 false; exact ⟨h1.trans rfl, h2.trans rfl, h3.trans rfl⟩
                  clear hg
                  have HI2 : Hid (RI w y2 x2.heap.size q b g cap4 P' (.slice a8 n8 c8) Lf L 0) := HI2.out
                  go_wp2_with (first
                    | (go_at_call 19; refine (rnum_any tag y2 x2.heap.size q b L 0 HI2.out.st.rd HWF.out).mono ?_; rw [HAS.out.1]; rintro _ y3 ⟨rfl, hp3⟩; have HI3 : Hid (RI w y3 x2.heap.size q b g cap4 P' (.slice a8 n8 c8) Lf (delT L tag) (errF (L.map Prod.fst) 0 tag false)) := HI2.out.took hp3; rw [HAS.out.2.2] at HI3; have hp9 := (hp3.2.block wo.heap.size hlt2 (by have := HQ3.out; omega) (by have := HQ3.out; omega)).trans HP2.out; have e0 : y3.cell? ⟨wo.heap.size, 0, none⟩ = some (.int .i64 0) := (by rw [cell_of_row _ _ 0 _ _ _ hp9]; rfl); have e1 : y3.cell? ⟨wo.heap.size, 1, none⟩ = some (.int .i64 tag) := (by rw [cell_of_row _ _ 1 _ _ _ hp9]; rfl); have HP3 : Hid (y3.heap[wo.heap.size]? = some (.cells #[.int .i64 0, .int .i64 tag, .int .i64 vv, .slice ad m pc] 29)) := hp9; have hlt3 : wo.heap.size < y3.heap.size := lt_of_heap hp9; clear hp3 hp9))
                  go_meet
                  case rel => exact ⟨false, true, delT L tag, rfl, rfl, HI3.out, HP3.out, .inl ⟨rfl, rfl⟩⟩
            | true =>
              have HG : Hid (getT Lf tag = some (⟨T, true, nu, by0⟩, bv)) := hg
              have HFR : Hid (FRight ⟨T, true, nu, by0⟩) := HEF.out.2.right _ (List.mem_map_of_mem (getT_mem hg).1)
              have hnu : nu ≤ 18446744073709551615 := HFR.out.1
              have hnuI : (nu : Int) ≤ 18446744073709551615 := by omega
              obtain ⟨mb, hmb⟩ : ∃ mb, by0.length = mb := ⟨_, rfl⟩
              have HBL : Hid (by0.length = mb) := hmb
              have HBM : Hid (mb ≤ maxLen) := by have h := HFR.out.2.1; simp only [hmb] at h; show _ ≤ _; unfold maxLen; omega
              obtain ⟨ab, cb, hbv, _⟩ := ((HRI.out.st.fs.byt _ (getT_mem hg).1)).shape
              simp only [hmb] at hbv
              subst hbv
              have hok := HOKB.out
              rw [hg] at hok
              obtain rfl : true = ok := hok
              have hfv : FV T true nu (.slice ab mb cb) = FV T0 X0 U0 V0 := by have h := HFV.out; unfold fdV at h; rw [hg] at h; exact h
              obtain ⟨e1, e2, e3, e4⟩ := fv_inj hfv
              subst e1 e2 e3 e4
              clear hfv hmb hnu
              cases B with
              | true =>
                as_aux_lemma =>
                  have HAS : Hid (numF (L.map Prod.fst) tag = 0 ∧ txtF (L.map Prod.fst) tag = by0 ∧ errF (L.map Prod.fst) 33 tag false = 33) := by obtain ⟨h1, h2, h3⟩ := ask_some HEF.out.1 hg 33 false; exact ⟨h1.trans rfl, h2.trans rfl, h3.trans rfl⟩
                  clear hg
                  have HI2 : Hid (RI w y2 x2.heap.size q b g cap4 P' (.slice a8 n8 c8) Lf L 33) := HI2.out
                  go_wp2_with (first
                    | (go_at_call 19; refine (rnum_any tag y2 x2.heap.size q b L 33 HI2.out.st.rd HWF.out).mono ?_; rw [HAS.out.1]; rintro _ y3 ⟨rfl, hp3⟩; have HI3 : Hid (RI w y3 x2.heap.size q b g cap4 P' (.slice a8 n8 c8) Lf (delT L tag) (errF (L.map Prod.fst) 33 tag false)) := HI2.out.took hp3; rw [HAS.out.2.2] at HI3; have hp9 := (hp3.2.block wo.heap.size hlt2 (by have := HQ3.out; omega) (by have := HQ3.out; omega)).trans HP2.out; have e0 : y3.cell? ⟨wo.heap.size, 0, none⟩ = some (.int .i64 0) := (by rw [cell_of_row _ _ 0 _ _ _ hp9]; rfl); have e1 : y3.cell? ⟨wo.heap.size, 1, none⟩ = some (.int .i64 tag) := (by rw [cell_of_row _ _ 1 _ _ _ hp9]; rfl); have HP3 : Hid (y3.heap[wo.heap.size]? = some (.cells #[.int .i64 0, .int .i64 tag, .int .i64 vv, .slice ad m pc] 29)) := hp9; have hlt3 : wo.heap.size < y3.heap.size := lt_of_heap hp9; clear hp3 hp9))
                  go_meet
                  case rel => exact ⟨true, true, delT L tag, rfl, rfl, HI3.out, HP3.out, .inl ⟨rfl, rfl⟩⟩
              | false =>
                as_aux_lemma =>
                  have HAS : Hid (numF (L.map Prod.fst) tag = 0 ∧ txtF (L.map Prod.fst) tag = by0 ∧ errF (L.map Prod.fst) 0 tag false = 33) := by obtain ⟨h1, h2, h3⟩ := ask_some HEF.out.1 hg 0 false; exact ⟨h1.trans rfl, h2.trans rfl, h3.trans rfl⟩
                  clear hg
                  have HI2 : Hid (RI w y2 x2.heap.size q b g cap4 P' (.slice a8 n8 c8) Lf L 0) := HI2.out
                  go_wp2_with (first
                    | (go_at_call 19; refine (rnum_any tag y2 x2.heap.size q b L 0 HI2.out.st.rd HWF.out).mono ?_; rw [HAS.out.1]; rintro _ y3 ⟨rfl, hp3⟩; have HI3 : Hid (RI w y3 x2.heap.size q b g cap4 P' (.slice a8 n8 c8) Lf (delT L tag) (errF (L.map Prod.fst) 0 tag false)) := HI2.out.took hp3; rw [HAS.out.2.2] at HI3; have hp9 := (hp3.2.block wo.heap.size hlt2 (by have := HQ3.out; omega) (by have := HQ3.out; omega)).trans HP2.out; have e0 : y3.cell? ⟨wo.heap.size, 0, none⟩ = some (.int .i64 0) := (by rw [cell_of_row _ _ 0 _ _ _ hp9]; rfl); have e1 : y3.cell? ⟨wo.heap.size, 1, none⟩ = some (.int .i64 tag) := (by rw [cell_of_row _ _ 1 _ _ _ hp9]; rfl); have HP3 : Hid (y3.heap[wo.heap.size]? = some (.cells #[.int .i64 0, .int .i64 tag, .int .i64 vv, .slice ad m pc] 29)) := hp9; have hlt3 : wo.heap.size < y3.heap.size := lt_of_heap hp9; clear hp3 hp9))
                  go_meet
                  case rel => exact ⟨true, true, delT L tag, rfl, rfl, HI3.out, HP3.out, .inl ⟨rfl, rfl⟩⟩
        · by_cases hk1 : kk = 1
          · subst hk1
            rcases hg : getT Lf tag with _ | ⟨⟨T, tx, nu, by0⟩, bv⟩
            · have hok := HOKB.out
              rw [hg] at hok
              obtain rfl : false = ok := hok
              have hfv : ZF = FV T0 X0 U0 V0 := by have h := HFV.out; unfold fdV at h; rw [hg] at h; exact h
              obtain ⟨e1, e2, e3, e4⟩ := fv_inj hfv
              subst e1 e2 e3 e4
              clear hfv
              have HDL : Hid (delT L tag = L) := (ask_none HEF.out.1 hg 0 false).2.2.2
              cases B with
              | true =>
                as_aux_lemma =>
                  have HAS : Hid (numF (L.map Prod.fst) tag = 0 ∧ txtF (L.map Prod.fst) tag = [] ∧ errF (L.map Prod.fst) 33 tag false = 33) := ⟨(ask_none HEF.out.1 hg 33 false).1, (ask_none HEF.out.1 hg 33 false).2.1, (ask_none HEF.out.1 hg 33 false).2.2.1⟩
                  clear hg
                  have HI2 : Hid (RI w y2 x2.heap.size q b g cap4 P' (.slice a8 n8 c8) Lf L 33) := HI2.out
                  go_wp2_with (first
                    | (go_at_call 20; refine (rint_any tag y2 x2.heap.size q b L 33 HI2.out.st.rd HWF.out (by rw [HEF.out.1]; exact HEF.out.2.right)).mono ?_; rw [HAS.out.1]; rintro _ y3 ⟨rfl, hp3⟩; have HI3 : Hid (RI w y3 x2.heap.size q b g cap4 P' (.slice a8 n8 c8) Lf (delT L tag) (errF (L.map Prod.fst) 33 tag false)) := HI2.out.took hp3; rw [HAS.out.2.2] at HI3; have hp9 := (hp3.2.block wo.heap.size hlt2 (by have := HQ3.out; omega) (by have := HQ3.out; omega)).trans HP2.out; have e0 : y3.cell? ⟨wo.heap.size, 0, none⟩ = some (.int .i64 1) := (by rw [cell_of_row _ _ 0 _ _ _ hp9]; rfl); have e1 : y3.cell? ⟨wo.heap.size, 1, none⟩ = some (.int .i64 tag) := (by rw [cell_of_row _ _ 1 _ _ _ hp9]; rfl); have HP3 : Hid (y3.heap[wo.heap.size]? = some (.cells #[.int .i64 1, .int .i64 tag, .int .i64 vv, .slice ad m pc] 29)) := hp9; have hlt3 : wo.heap.size < y3.heap.size := lt_of_heap hp9; clear hp3 hp9)
                    | (go_at_call 25; refine (rzag_any 0 y3 (by omega) (by omega)).mono ?_; rintro _ y4 ⟨rfl, rfl⟩))
                  go_meet
                  case rel => exact ⟨true, false, L, rfl, rfl, by have h := HI3.out; rw [HDL.out] at h; exact h, HP3.out, .inr ⟨rfl, rfl⟩⟩
              | false =>
                as_aux_lemma =>
                  have HAS : Hid (numF (L.map Prod.fst) tag = 0 ∧ txtF (L.map Prod.fst) tag = [] ∧ errF (L.map Prod.fst) 0 tag false = 0) := ⟨(ask_none HEF.out.1 hg 0 false).1, (ask_none HEF.out.1 hg 0 false).2.1, (ask_none HEF.out.1 hg 0 false).2.2.1⟩
                  clear hg
                  have HI2 : Hid (RI w y2 x2.heap.size q b g cap4 P' (.slice a8 n8 c8) Lf L 0) := HI2.out
                  go_wp2_with (first
                    | (go_at_call 20; refine (rint_any tag y2 x2.heap.size q b L 0 HI2.out.st.rd HWF.out (by rw [HEF.out.1]; exact HEF.out.2.right)).mono ?_; rw [HAS.out.1]; rintro _ y3 ⟨rfl, hp3⟩; have HI3 : Hid (RI w y3 x2.heap.size q b g cap4 P' (.slice a8 n8 c8) Lf (delT L tag) (errF (L.map Prod.fst) 0 tag false)) := HI2.out.took hp3; rw [HAS.out.2.2] at HI3; have hp9 := (hp3.2.block wo.heap.size hlt2 (by have := HQ3.out; omega) (by have := HQ3.out; omega)).trans HP2.out; have e0 : y3.cell? ⟨wo.heap.size, 0, none⟩ = some (.int .i64 1) := (by rw [cell_of_row _ _ 0 _ _ _ hp9]; rfl); have e1 : y3.cell? ⟨wo.heap.size, 1, none⟩ = some (.int .i64 tag) := (by rw [cell_of_row _ _ 1 _ _ _ hp9]; rfl); have HP3 : Hid (y3.heap[wo.heap.size]? = some (.cells #[.int .i64 1, .int .i64 tag, .int .i64 vv, .slice ad m pc] 29)) := hp9; have hlt3 : wo.heap.size < y3.heap.size := lt_of_heap hp9; clear hp3 hp9)
                    | (go_at_call 25; refine (rzag_any 0 y3 (by omega) (by omega)).mono ?_; rintro _ y4 ⟨rfl, rfl⟩))
                  go_meet
                  case rel => exact ⟨false, false, L, rfl, rfl, by have h := HI3.out; rw [HDL.out] at h; exact h, HP3.out, .inr ⟨rfl, rfl⟩⟩
            · cases tx with
              | false =>
                have HG : Hid (getT Lf tag = some (⟨T, false, nu, by0⟩, bv)) := hg
                have HFR : Hid (FRight ⟨T, false, nu, by0⟩) := HEF.out.2.right _ (List.mem_map_of_mem (getT_mem hg).1)
                have hnu : nu ≤ 18446744073709551615 := HFR.out.1
                have hnuI : (nu : Int) ≤ 18446744073709551615 := by omega
                obtain ⟨mb, hmb⟩ : ∃ mb, by0.length = mb := ⟨_, rfl⟩
                have HBL : Hid (by0.length = mb) := hmb
                have HBM : Hid (mb ≤ maxLen) := by have h := HFR.out.2.1; simp only [hmb] at h; show _ ≤ _; unfold maxLen; omega
                obtain ⟨ab, cb, hbv, _⟩ := ((HRI.out.st.fs.byt _ (getT_mem hg).1)).shape
                simp only [hmb] at hbv
                subst hbv
                have hok := HOKB.out
                rw [hg] at hok
                obtain rfl : true = ok := hok
                have hfv : FV T false nu (.slice ab mb cb) = FV T0 X0 U0 V0 := by have h := HFV.out; unfold fdV at h; rw [hg] at h; exact h
                obtain ⟨e1, e2, e3, e4⟩ := fv_inj hfv
                subst e1 e2 e3 e4
                clear hfv hmb hnu
                cases B with
                | true =>
                  as_aux_lemma =>
                    have HAS : Hid (numF (L.map Prod.fst) tag = nu ∧ txtF (L.map Prod.fst) tag = [] ∧ errF (L.map Prod.fst) 33 tag false = 33) := by obtain ⟨h1, h2, h3⟩ := ask_some HEF.out.1 hg 33 false; exact ⟨h1.trans rfl, h2.trans rfl, h3.trans rfl⟩
                    clear hg
                    have HI2 : Hid (RI w y2 x2.heap.size q b g cap4 P' (.slice a8 n8 c8) Lf L 33) := HI2.out
                    go_wp2_with (first
                      | (go_at_call 20; refine (rint_any tag y2 x2.heap.size q b L 33 HI2.out.st.rd HWF.out (by rw [HEF.out.1]; exact HEF.out.2.right)).mono ?_; rw [HAS.out.1]; rintro _ y3 ⟨rfl, hp3⟩; have HI3 : Hid (RI w y3 x2.heap.size q b g cap4 P' (.slice a8 n8 c8) Lf (delT L tag) (errF (L.map Prod.fst) 33 tag false)) := HI2.out.took hp3; rw [HAS.out.2.2] at HI3; have hp9 := (hp3.2.block wo.heap.size hlt2 (by have := HQ3.out; omega) (by have := HQ3.out; omega)).trans HP2.out; have e0 : y3.cell? ⟨wo.heap.size, 0, none⟩ = some (.int .i64 1) := (by rw [cell_of_row _ _ 0 _ _ _ hp9]; rfl); have e1 : y3.cell? ⟨wo.heap.size, 1, none⟩ = some (.int .i64 tag) := (by rw [cell_of_row _ _ 1 _ _ _ hp9]; rfl); have HP3 : Hid (y3.heap[wo.heap.size]? = some (.cells #[.int .i64 1, .int .i64 tag, .int .i64 vv, .slice ad m pc] 29)) := hp9; have hlt3 : wo.heap.size < y3.heap.size := lt_of_heap hp9; clear hp3 hp9)
                      | (go_at_call 25; refine (rzag_any (nu : Int) y3 (by omega) (by omega)).mono ?_; rintro _ y4 ⟨rfl, rfl⟩))
                    go_meet
                    case rel => exact ⟨true, true, delT L tag, rfl, rfl, HI3.out, HP3.out, .inl ⟨rfl, rfl⟩⟩
                | false =>
                  as_aux_lemma =>
                    have HAS : Hid (numF (L.map Prod.fst) tag = nu ∧ txtF (L.map Prod.fst) tag = [] ∧ errF (L.map Prod.fst) 0 tag false = 0) := by obtain ⟨h1, h2, h3⟩ := ask_some HEF.out.1 hg 0 false; exact ⟨h1.trans rfl, h2.trans rfl, h3.trans rfl⟩
                    clear hg
                    have HI2 : Hid (RI w y2 x2.heap.size q b g cap4 P' (.slice a8 n8 c8) Lf L 0) := HI2.out
                    go_wp2_with (first
                      | (go_at_call 20; refine (rint_any tag y2 x2.heap.size q b L 0 HI2.out.st.rd HWF.out (by rw [HEF.out.1]; exact HEF.out.2.right)).mono ?_; rw [HAS.out.1]; rintro _ y3 ⟨rfl, hp3⟩; have HI3 : Hid (RI w y3 x2.heap.size q b g cap4 P' (.slice a8 n8 c8) Lf (delT L tag) (errF (L.map Prod.fst) 0 tag false)) := HI2.out.took hp3; rw [HAS.out.2.2] at HI3; have hp9 := (hp3.2.block wo.heap.size hlt2 (by have := HQ3.out; omega) (by have := HQ3.out; omega)).trans HP2.out; have e0 : y3.cell? ⟨wo.heap.size, 0, none⟩ = some (.int .i64 1) := (by rw [cell_of_row _ _ 0 _ _ _ hp9]; rfl); have e1 : y3.cell? ⟨wo.heap.size, 1, none⟩ = some (.int .i64 tag) := (by rw [cell_of_row _ _ 1 _ _ _ hp9]; rfl); have HP3 : Hid (y3.heap[wo.heap.size]? = some (.cells #[.int .i64 1, .int .i64 tag, .int .i64 vv, .slice ad m pc] 29)) := hp9; have hlt3 : wo.heap.size < y3.heap.size := lt_of_heap hp9; clear hp3 hp9)
                      | (go_at_call 25; refine (rzag_any (nu : Int) y3 (by omega) (by omega)).mono ?_; rintro _ y4 ⟨rfl, rfl⟩))
                    go_meet
                    case rel => exact ⟨false, true, delT L tag, rfl, rfl, HI3.out, HP3.out, .inl ⟨rfl, rfl⟩⟩
              | true =>
                have HG : Hid (getT Lf tag = some (⟨T, true, nu, by0⟩, bv)) := hg
                have HFR : Hid (FRight ⟨T, true, nu, by0⟩) := HEF.out.2.right _ (List.mem_map_of_mem (getT_mem hg).1)
                have hnu : nu ≤ 18446744073709551615 := HFR.out.1
                have hnuI : (nu : Int) ≤ 18446744073709551615 := by omega
                obtain ⟨mb, hmb⟩ : ∃ mb, by0.length = mb := ⟨_, rfl⟩
                have HBL : Hid (by0.length = mb) := hmb
                have HBM : Hid (mb ≤ maxLen) := by have h := HFR.out.2.1; simp only [hmb] at h; show _ ≤ _; unfold maxLen; omega
                obtain ⟨ab, cb, hbv, _⟩ := ((HRI.out.st.fs.byt _ (getT_mem hg).1)).shape
                simp only [hmb] at hbv
                subst hbv
                have hok := HOKB.out
                rw [hg] at hok
                obtain rfl : true = ok := hok
                have hfv : FV T true nu (.slice ab mb cb) = FV T0 X0 U0 V0 := by have h := HFV.out; unfold fdV at h; rw [hg] at h; exact h
                obtain ⟨e1, e2, e3, e4⟩ := fv_inj hfv
                subst e1 e2 e3 e4
                clear hfv hmb hnu
                cases B with
                | true =>
                  as_aux_lemma =>
                    have HAS : Hid (numF (L.map Prod.fst) tag = 0 ∧ txtF (L.map Prod.fst) tag = by0 ∧ errF (L.map Prod.fst) 33 tag false = 33) := by obtain ⟨h1, h2, h3⟩ := ask_some HEF.out.1 hg 33 false; exact ⟨h1.trans rfl, h2.trans rfl, h3.trans rfl⟩
                    clear hg
                    have HI2 : Hid (RI w y2 x2.heap.size q b g cap4 P' (.slice a8 n8 c8) Lf L 33) := HI2.out
                    go_wp2_with (first
                      | (go_at_call 20; refine (rint_any tag y2 x2.heap.size q b L 33 HI2.out.st.rd HWF.out (by rw [HEF.out.1]; exact HEF.out.2.right)).mono ?_; rw [HAS.out.1]; rintro _ y3 ⟨rfl, hp3⟩; have HI3 : Hid (RI w y3 x2.heap.size q b g cap4 P' (.slice a8 n8 c8) Lf (delT L tag) (errF (L.map Prod.fst) 33 tag false)) := HI2.out.took hp3; rw [HAS.out.2.2] at HI3; have hp9 := (hp3.2.block wo.heap.size hlt2 (by have := HQ3.out; omega) (by have := HQ3.out; omega)).trans HP2.out; have e0 : y3.cell? ⟨wo.heap.size, 0, none⟩ = some (.int .i64 1) := (by rw [cell_of_row _ _ 0 _ _ _ hp9]; rfl); have e1 : y3.cell? ⟨wo.heap.size, 1, none⟩ = some (.int .i64 tag) := (by rw [cell_of_row _ _ 1 _ _ _ hp9]; rfl); have HP3 : Hid (y3.heap[wo.heap.size]? = some (.cells #[.int .i64 1, .int .i64 tag, .int .i64 vv, .slice ad m pc] 29)) := hp9; have hlt3 : wo.heap.size < y3.heap.size := lt_of_heap hp9; clear hp3 hp9)
                      | (go_at_call 25; refine (rzag_any 0 y3 (by omega) (by omega)).mono ?_; rintro _ y4 ⟨rfl, rfl⟩))
                    go_meet
                    case rel => exact ⟨true, true, delT L tag, rfl, rfl, HI3.out, HP3.out, .inl ⟨rfl, rfl⟩⟩
                | false =>
                  as_aux_lemma =>
                    have HAS : Hid (numF (L.map Prod.fst) tag = 0 ∧ txtF (L.map Prod.fst) tag = by0 ∧ errF (L.map Prod.fst) 0 tag false = 33) := by obtain ⟨h1, h2, h3⟩ := ask_some HEF.out.1 hg 0 false; exact ⟨h1.trans rfl, h2.trans rfl, h3.trans rfl⟩
                    clear hg
                    have HI2 : Hid (RI w y2 x2.heap.size q b g cap4 P' (.slice a8 n8 c8) Lf L 0) := HI2.out
                    go_wp2_with (first
                      | (go_at_call 20; refine (rint_any tag y2 x2.heap.size q b L 0 HI2.out.st.rd HWF.out (by rw [HEF.out.1]; exact HEF.out.2.right)).mono ?_; rw [HAS.out.1]; rintro _ y3 ⟨rfl, hp3⟩; have HI3 : Hid (RI w y3 x2.heap.size q b g cap4 P' (.slice a8 n8 c8) Lf (delT L tag) (errF (L.map Prod.fst) 0 tag false)) := HI2.out.took hp3; rw [HAS.out.2.2] at HI3; have hp9 := (hp3.2.block wo.heap.size hlt2 (by have := HQ3.out; omega) (by have := HQ3.out; omega)).trans HP2.out; have e0 : y3.cell? ⟨wo.heap.size, 0, none⟩ = some (.int .i64 1) := (by rw [cell_of_row _ _ 0 _ _ _ hp9]; rfl); have e1 : y3.cell? ⟨wo.heap.size, 1, none⟩ = some (.int .i64 tag) := (by rw [cell_of_row _ _ 1 _ _ _ hp9]; rfl); have HP3 : Hid (y3.heap[wo.heap.size]? = some (.cells #[.int .i64 1, .int .i64 tag, .int .i64 vv, .slice ad m pc] 29)) := hp9; have hlt3 : wo.heap.size < y3.heap.size := lt_of_heap hp9; clear hp3 hp9)
                      | (go_at_call 25; refine (rzag_any 0 y3 (by omega) (by omega)).mono ?_; rintro _ y4 ⟨rfl, rfl⟩))
                    go_meet
                    case rel => exact ⟨true, true, delT L tag, rfl, rfl, HI3.out, HP3.out, .inl ⟨rfl, rfl⟩⟩
          · by_cases hk2 : kk = 2
            · subst hk2
              rcases hg : getT Lf tag with _ | ⟨⟨T, tx, nu, by0⟩, bv⟩
              · have hok := HOKB.out
                rw [hg] at hok
                obtain rfl : false = ok := hok
                have hfv : ZF = FV T0 X0 U0 V0 := by have h := HFV.out; unfold fdV at h; rw [hg] at h; exact h
                obtain ⟨e1, e2, e3, e4⟩ := fv_inj hfv
                subst e1 e2 e3 e4
                clear hfv
                have HDL : Hid (delT L tag = L) := (ask_none HEF.out.1 hg 0 false).2.2.2
                cases B with
                | true =>
                  as_aux_lemma =>
                    have HAS : Hid (numF (L.map Prod.fst) tag = 0 ∧ txtF (L.map Prod.fst) tag = [] ∧ errF (L.map Prod.fst) 33 tag true = 33) := ⟨(ask_none HEF.out.1 hg 33 true).1, (ask_none HEF.out.1 hg 33 true).2.1, (ask_none HEF.out.1 hg 33 true).2.2.1⟩
                    clear hg
                    have HI2 : Hid (RI w y2 x2.heap.size q b g cap4 P' (.slice a8 n8 c8) Lf L 33) := HI2.out
                    have HI2z : Hid (RI w (y2.alloc (.cells #[] 5)) x2.heap.size q b g cap4 P' (.slice a8 n8 c8) Lf L 33) := HI2.out.keep ((Below.refl _ _).alloc (Nat.le_refl _) _)
                    have HP2z : Hid ((y2.alloc (.cells #[] 5)).heap[wo.heap.size]? = some (.cells #[.int .i64 2, .int .i64 tag, .int .i64 vv, .slice ad m pc] 29)) := (Below.heap_alloc _ _ _ hlt2).trans HP2.out
                    have hlz : wo.heap.size < (y2.alloc (.cells #[] 5)).heap.size := by simp; omega
                    go_wp2_with (first
                      | (go_at_call 21; refine (rtext_any tag (y2.alloc (.cells #[] 5)) x2.heap.size q b L 33 HI2z.out.st.rd HWF.out).mono ?_; rw [HAS.out.2.1]; rintro _ y3 ⟨v3, rfl, ho3, hp3⟩; obtain ⟨a3, c3z, hv3, _⟩ := ho3.shape; simp only [List.length_nil] at hv3; subst hv3; have HI3 : Hid (RI w y3 x2.heap.size q b g cap4 P' (.slice a8 n8 c8) Lf (delT L tag) (errF (L.map Prod.fst) 33 tag true)) := HI2z.out.took hp3; rw [HAS.out.2.2] at HI3; have hp9 := (hp3.2.block wo.heap.size hlz (by have := HQ3.out; omega) (by have := HQ3.out; omega)).trans HP2z.out; have e0 : y3.cell? ⟨wo.heap.size, 0, none⟩ = some (.int .i64 2) := (by rw [cell_of_row _ _ 0 _ _ _ hp9]; rfl); have e1 : y3.cell? ⟨wo.heap.size, 1, none⟩ = some (.int .i64 tag) := (by rw [cell_of_row _ _ 1 _ _ _ hp9]; rfl); have HP3 : Hid (y3.heap[wo.heap.size]? = some (.cells #[.int .i64 2, .int .i64 tag, .int .i64 vv, .slice ad m pc] 29)) := hp9; have hlt3 : wo.heap.size < y3.heap.size := lt_of_heap hp9; clear hp3 hp9; clear ho3)
                      | (go_at_call 15; refine (same_nil a3 _ c3z _ y3).mono ?_; rintro _ y4 ⟨rfl, hb4⟩; have HI4 : Hid (RI w y4 x2.heap.size q b g cap4 P' (.slice a8 n8 c8) Lf (delT L tag) 33) := HI3.out.keep hb4; have HP4 : Hid (y4.heap[wo.heap.size]? = some (.cells #[.int .i64 2, .int .i64 tag, .int .i64 vv, .slice ad m pc] 29)) := (hb4.block _ hlt3).trans HP3.out; clear hb4))
                    go_meet
                    case rel => exact ⟨true, false, L, rfl, rfl, by have h := HI4.out; rw [HDL.out] at h; exact h, HP4.out, .inr ⟨rfl, rfl⟩⟩
                | false =>
                  as_aux_lemma =>
                    have HAS : Hid (numF (L.map Prod.fst) tag = 0 ∧ txtF (L.map Prod.fst) tag = [] ∧ errF (L.map Prod.fst) 0 tag true = 0) := ⟨(ask_none HEF.out.1 hg 0 true).1, (ask_none HEF.out.1 hg 0 true).2.1, (ask_none HEF.out.1 hg 0 true).2.2.1⟩
                    clear hg
                    have HI2 : Hid (RI w y2 x2.heap.size q b g cap4 P' (.slice a8 n8 c8) Lf L 0) := HI2.out
                    have HI2z : Hid (RI w (y2.alloc (.cells #[] 5)) x2.heap.size q b g cap4 P' (.slice a8 n8 c8) Lf L 0) := HI2.out.keep ((Below.refl _ _).alloc (Nat.le_refl _) _)
                    have HP2z : Hid ((y2.alloc (.cells #[] 5)).heap[wo.heap.size]? = some (.cells #[.int .i64 2, .int .i64 tag, .int .i64 vv, .slice ad m pc] 29)) := (Below.heap_alloc _ _ _ hlt2).trans HP2.out
                    have hlz : wo.heap.size < (y2.alloc (.cells #[] 5)).heap.size := by simp; omega
                    go_wp2_with (first
                      | (go_at_call 21; refine (rtext_any tag (y2.alloc (.cells #[] 5)) x2.heap.size q b L 0 HI2z.out.st.rd HWF.out).mono ?_; rw [HAS.out.2.1]; rintro _ y3 ⟨v3, rfl, ho3, hp3⟩; obtain ⟨a3, c3z, hv3, _⟩ := ho3.shape; simp only [List.length_nil] at hv3; subst hv3; have HI3 : Hid (RI w y3 x2.heap.size q b g cap4 P' (.slice a8 n8 c8) Lf (delT L tag) (errF (L.map Prod.fst) 0 tag true)) := HI2z.out.took hp3; rw [HAS.out.2.2] at HI3; have hp9 := (hp3.2.block wo.heap.size hlz (by have := HQ3.out; omega) (by have := HQ3.out; omega)).trans HP2z.out; have e0 : y3.cell? ⟨wo.heap.size, 0, none⟩ = some (.int .i64 2) := (by rw [cell_of_row _ _ 0 _ _ _ hp9]; rfl); have e1 : y3.cell? ⟨wo.heap.size, 1, none⟩ = some (.int .i64 tag) := (by rw [cell_of_row _ _ 1 _ _ _ hp9]; rfl); have HP3 : Hid (y3.heap[wo.heap.size]? = some (.cells #[.int .i64 2, .int .i64 tag, .int .i64 vv, .slice ad m pc] 29)) := hp9; have hlt3 : wo.heap.size < y3.heap.size := lt_of_heap hp9; clear hp3 hp9; clear ho3)
                      | (go_at_call 15; refine (same_nil a3 _ c3z _ y3).mono ?_; rintro _ y4 ⟨rfl, hb4⟩; have HI4 : Hid (RI w y4 x2.heap.size q b g cap4 P' (.slice a8 n8 c8) Lf (delT L tag) 0) := HI3.out.keep hb4; have HP4 : Hid (y4.heap[wo.heap.size]? = some (.cells #[.int .i64 2, .int .i64 tag, .int .i64 vv, .slice ad m pc] 29)) := (hb4.block _ hlt3).trans HP3.out; clear hb4))
                    go_meet
                    case rel => exact ⟨false, false, L, rfl, rfl, by have h := HI4.out; rw [HDL.out] at h; exact h, HP4.out, .inr ⟨rfl, rfl⟩⟩
              · cases tx with
                | false =>
                  have HG : Hid (getT Lf tag = some (⟨T, false, nu, by0⟩, bv)) := hg
                  have HFR : Hid (FRight ⟨T, false, nu, by0⟩) := HEF.out.2.right _ (List.mem_map_of_mem (getT_mem hg).1)
                  have hnu : nu ≤ 18446744073709551615 := HFR.out.1
                  have hnuI : (nu : Int) ≤ 18446744073709551615 := by omega
                  obtain ⟨mb, hmb⟩ : ∃ mb, by0.length = mb := ⟨_, rfl⟩
                  have HBL : Hid (by0.length = mb) := hmb
                  have HBM : Hid (mb ≤ maxLen) := by have h := HFR.out.2.1; simp only [hmb] at h; show _ ≤ _; unfold maxLen; omega
                  obtain ⟨ab, cb, hbv, _⟩ := ((HRI.out.st.fs.byt _ (getT_mem hg).1)).shape
                  simp only [hmb] at hbv
                  subst hbv
                  have hok := HOKB.out
                  rw [hg] at hok
                  obtain rfl : true = ok := hok
                  have hfv : FV T false nu (.slice ab mb cb) = FV T0 X0 U0 V0 := by have h := HFV.out; unfold fdV at h; rw [hg] at h; exact h
                  obtain ⟨e1, e2, e3, e4⟩ := fv_inj hfv
                  subst e1 e2 e3 e4
                  clear hfv hmb hnu
                  cases B with
                  | true =>
                    as_aux_lemma =>
                      have HAS : Hid (numF (L.map Prod.fst) tag = nu ∧ txtF (L.map Prod.fst) tag = [] ∧ errF (L.map Prod.fst) 33 tag true = 33) := by obtain ⟨h1, h2, h3⟩ := ask_some HEF.out.1 hg 33 true; exact ⟨h1.trans rfl, h2.trans rfl, h3.trans rfl⟩
                      clear hg
                      have HI2 : Hid (RI w y2 x2.heap.size q b g cap4 P' (.slice a8 n8 c8) Lf L 33) := HI2.out
                      have HI2z : Hid (RI w (y2.alloc (.cells #[] 5)) x2.heap.size q b g cap4 P' (.slice a8 n8 c8) Lf L 33) := HI2.out.keep ((Below.refl _ _).alloc (Nat.le_refl _) _)
                      have HP2z : Hid ((y2.alloc (.cells #[] 5)).heap[wo.heap.size]? = some (.cells #[.int .i64 2, .int .i64 tag, .int .i64 vv, .slice ad m pc] 29)) := (Below.heap_alloc _ _ _ hlt2).trans HP2.out
                      have hlz : wo.heap.size < (y2.alloc (.cells #[] 5)).heap.size := by simp; omega
                      go_wp2_with (first
                        | (go_at_call 21; refine (rtext_any tag (y2.alloc (.cells #[] 5)) x2.heap.size q b L 33 HI2z.out.st.rd HWF.out).mono ?_; rw [HAS.out.2.1]; rintro _ y3 ⟨v3, rfl, ho3, hp3⟩; obtain ⟨a3, c3z, hv3, _⟩ := ho3.shape; simp only [List.length_nil] at hv3; subst hv3; have HI3 : Hid (RI w y3 x2.heap.size q b g cap4 P' (.slice a8 n8 c8) Lf (delT L tag) (errF (L.map Prod.fst) 33 tag true)) := HI2z.out.took hp3; rw [HAS.out.2.2] at HI3; have hp9 := (hp3.2.block wo.heap.size hlz (by have := HQ3.out; omega) (by have := HQ3.out; omega)).trans HP2z.out; have e0 : y3.cell? ⟨wo.heap.size, 0, none⟩ = some (.int .i64 2) := (by rw [cell_of_row _ _ 0 _ _ _ hp9]; rfl); have e1 : y3.cell? ⟨wo.heap.size, 1, none⟩ = some (.int .i64 tag) := (by rw [cell_of_row _ _ 1 _ _ _ hp9]; rfl); have HP3 : Hid (y3.heap[wo.heap.size]? = some (.cells #[.int .i64 2, .int .i64 tag, .int .i64 vv, .slice ad m pc] 29)) := hp9; have hlt3 : wo.heap.size < y3.heap.size := lt_of_heap hp9; clear hp3 hp9; clear ho3)
                        | (go_at_call 15; refine (same_nil a3 _ c3z _ y3).mono ?_; rintro _ y4 ⟨rfl, hb4⟩; have HI4 : Hid (RI w y4 x2.heap.size q b g cap4 P' (.slice a8 n8 c8) Lf (delT L tag) 33) := HI3.out.keep hb4; have HP4 : Hid (y4.heap[wo.heap.size]? = some (.cells #[.int .i64 2, .int .i64 tag, .int .i64 vv, .slice ad m pc] 29)) := (hb4.block _ hlt3).trans HP3.out; clear hb4))
                      go_meet
                      case rel => exact ⟨true, true, delT L tag, rfl, rfl, HI4.out, HP4.out, .inl ⟨rfl, rfl⟩⟩
                  | false =>
                    as_aux_lemma =>
                      have HAS : Hid (numF (L.map Prod.fst) tag = nu ∧ txtF (L.map Prod.fst) tag = [] ∧ errF (L.map Prod.fst) 0 tag true = 33) := by obtain ⟨h1, h2, h3⟩ := ask_some HEF.out.1 hg 0 true; exact ⟨h1.trans rfl, h2.trans rfl, h3.trans rfl⟩
                      clear hg
                      have HI2 : Hid (RI w y2 x2.heap.size q b g cap4 P' (.slice a8 n8 c8) Lf L 0) := HI2.out
                      have HI2z : Hid (RI w (y2.alloc (.cells #[] 5)) x2.heap.size q b g cap4 P' (.slice a8 n8 c8) Lf L 0) := HI2.out.keep ((Below.refl _ _).alloc (Nat.le_refl _) _)
                      have HP2z : Hid ((y2.alloc (.cells #[] 5)).heap[wo.heap.size]? = some (.cells #[.int .i64 2, .int .i64 tag, .int .i64 vv, .slice ad m pc] 29)) := (Below.heap_alloc _ _ _ hlt2).trans HP2.out
                      have hlz : wo.heap.size < (y2.alloc (.cells #[] 5)).heap.size := by simp; omega
                      go_wp2_with (first
                        | (go_at_call 21; refine (rtext_any tag (y2.alloc (.cells #[] 5)) x2.heap.size q b L 0 HI2z.out.st.rd HWF.out).mono ?_; rw [HAS.out.2.1]; rintro _ y3 ⟨v3, rfl, ho3, hp3⟩; obtain ⟨a3, c3z, hv3, _⟩ := ho3.shape; simp only [List.length_nil] at hv3; subst hv3; have HI3 : Hid (RI w y3 x2.heap.size q b g cap4 P' (.slice a8 n8 c8) Lf (delT L tag) (errF (L.map Prod.fst) 0 tag true)) := HI2z.out.took hp3; rw [HAS.out.2.2] at HI3; have hp9 := (hp3.2.block wo.heap.size hlz (by have := HQ3.out; omega) (by have := HQ3.out; omega)).trans HP2z.out; have e0 : y3.cell? ⟨wo.heap.size, 0, none⟩ = some (.int .i64 2) := (by rw [cell_of_row _ _ 0 _ _ _ hp9]; rfl); have e1 : y3.cell? ⟨wo.heap.size, 1, none⟩ = some (.int .i64 tag) := (by rw [cell_of_row _ _ 1 _ _ _ hp9]; rfl); have HP3 : Hid (y3.heap[wo.heap.size]? = some (.cells #[.int .i64 2, .int .i64 tag, .int .i64 vv, .slice ad m pc] 29)) := hp9; have hlt3 : wo.heap.size < y3.heap.size := lt_of_heap hp9; clear hp3 hp9; clear ho3)
                        | (go_at_call 15; refine (same_nil a3 _ c3z _ y3).mono ?_; rintro _ y4 ⟨rfl, hb4⟩; have HI4 : Hid (RI w y4 x2.heap.size q b g cap4 P' (.slice a8 n8 c8) Lf (delT L tag) 33) := HI3.out.keep hb4; have HP4 : Hid (y4.heap[wo.heap.size]? = some (.cells #[.int .i64 2, .int .i64 tag, .int .i64 vv, .slice ad m pc] 29)) := (hb4.block _ hlt3).trans HP3.out; clear hb4))
                      go_meet
                      case rel => exact ⟨true, true, delT L tag, rfl, rfl, HI4.out, HP4.out, .inl ⟨rfl, rfl⟩⟩
                | true =>
                  have HG : Hid (getT Lf tag = some (⟨T, true, nu, by0⟩, bv)) := hg
                  have HFR : Hid (FRight ⟨T, true, nu, by0⟩) := HEF.out.2.right _ (List.mem_map_of_mem (getT_mem hg).1)
                  have hnu : nu ≤ 18446744073709551615 := HFR.out.1
                  have hnuI : (nu : Int) ≤ 18446744073709551615 := by omega
                  obtain ⟨mb, hmb⟩ : ∃ mb, by0.length = mb := ⟨_, rfl⟩
                  have HBL : Hid (by0.length = mb) := hmb
                  have HBM : Hid (mb ≤ maxLen) := by have h := HFR.out.2.1; simp only [hmb] at h; show _ ≤ _; unfold maxLen; omega
                  obtain ⟨ab, cb, hbv, _⟩ := ((HRI.out.st.fs.byt _ (getT_mem hg).1)).shape
                  simp only [hmb] at hbv
                  subst hbv
                  have hok := HOKB.out
                  rw [hg] at hok
                  obtain rfl : true = ok := hok
                  have hfv : FV T true nu (.slice ab mb cb) = FV T0 X0 U0 V0 := by have h := HFV.out; unfold fdV at h; rw [hg] at h; exact h
                  obtain ⟨e1, e2, e3, e4⟩ := fv_inj hfv
                  subst e1 e2 e3 e4
                  clear hfv hmb hnu
                  cases B with
                  | true =>
                    as_aux_lemma =>
                      have HAS : Hid (numF (L.map Prod.fst) tag = 0 ∧ txtF (L.map Prod.fst) tag = by0 ∧ errF (L.map Prod.fst) 33 tag true = 33) := by obtain ⟨h1, h2, h3⟩ := ask_some HEF.out.1 hg 33 true; exact ⟨h1.trans rfl, h2.trans rfl, h3.trans rfl⟩
                      clear hg
                      have HI2 : Hid (RI w y2 x2.heap.size q b g cap4 P' (.slice a8 n8 c8) Lf L 33) := HI2.out
                      have HI2z : Hid (RI w (y2.alloc (.cells #[] 5)) x2.heap.size q b g cap4 P' (.slice a8 n8 c8) Lf L 33) := HI2.out.keep ((Below.refl _ _).alloc (Nat.le_refl _) _)
                      have HP2z : Hid ((y2.alloc (.cells #[] 5)).heap[wo.heap.size]? = some (.cells #[.int .i64 2, .int .i64 tag, .int .i64 vv, .slice ad m pc] 29)) := (Below.heap_alloc _ _ _ hlt2).trans HP2.out
                      have hlz : wo.heap.size < (y2.alloc (.cells #[] 5)).heap.size := by simp; omega
                      go_wp2_with (first
                        | (go_at_call 21; refine (rtext_any tag (y2.alloc (.cells #[] 5)) x2.heap.size q b L 33 HI2z.out.st.rd HWF.out).mono ?_; rw [HAS.out.2.1]; rintro _ y3 ⟨v3, rfl, ho3, hp3⟩; obtain ⟨a3, c3z, hv3, _, _, hy3, _⟩ := ho3.shape; rw [HBL.out] at hv3; subst hv3; have HI3 : Hid (RI w y3 x2.heap.size q b g cap4 P' (.slice a8 n8 c8) Lf (delT L tag) (errF (L.map Prod.fst) 33 tag true)) := HI2z.out.took hp3; rw [HAS.out.2.2] at HI3; have hp9 := (hp3.2.block wo.heap.size hlz (by have := HQ3.out; omega) (by have := HQ3.out; omega)).trans HP2z.out; have e0 : y3.cell? ⟨wo.heap.size, 0, none⟩ = some (.int .i64 2) := (by rw [cell_of_row _ _ 0 _ _ _ hp9]; rfl); have e1 : y3.cell? ⟨wo.heap.size, 1, none⟩ = some (.int .i64 tag) := (by rw [cell_of_row _ _ 1 _ _ _ hp9]; rfl); have HP3 : Hid (y3.heap[wo.heap.size]? = some (.cells #[.int .i64 2, .int .i64 tag, .int .i64 vv, .slice ad m pc] 29)) := hp9; have hlt3 : wo.heap.size < y3.heap.size := lt_of_heap hp9; clear hp3 hp9; have HBV : Hid (Bytes y3 a3 by0 ∧ Bytes y3 ab by0) := ⟨hy3, by obtain ⟨a9, c9, hv9, _, _, hy9, _⟩ := (HI3.out.st.fs.byt _ (getT_mem HG.out).1).shape; simp only at hv9; injection hv9 with h1; subst h1; exact hy9⟩; clear ho3 hy3)
                        | (go_at_call 15; refine (same_yes by0 mb mb a3 ab c3z cb y3 HBL.out HBL.out HBV.out.1 HBV.out.2 HBM.out).mono ?_; rintro _ y4 ⟨rfl, hb4⟩; have HI4 : Hid (RI w y4 x2.heap.size q b g cap4 P' (.slice a8 n8 c8) Lf (delT L tag) 33) := HI3.out.keep hb4; have HP4 : Hid (y4.heap[wo.heap.size]? = some (.cells #[.int .i64 2, .int .i64 tag, .int .i64 vv, .slice ad m pc] 29)) := (hb4.block _ hlt3).trans HP3.out; clear hb4))
                      go_meet
                      case rel => exact ⟨true, true, delT L tag, rfl, rfl, HI4.out, HP4.out, .inl ⟨rfl, rfl⟩⟩
                  | false =>
                    as_aux_lemma =>
                      have HAS : Hid (numF (L.map Prod.fst) tag = 0 ∧ txtF (L.map Prod.fst) tag = by0 ∧ errF (L.map Prod.fst) 0 tag true = 0) := by obtain ⟨h1, h2, h3⟩ := ask_some HEF.out.1 hg 0 true; exact ⟨h1.trans rfl, h2.trans rfl, h3.trans rfl⟩
                      clear hg
                      have HI2 : Hid (RI w y2 x2.heap.size q b g cap4 P' (.slice a8 n8 c8) Lf L 0) := HI2.out
                      have HI2z : Hid (RI w (y2.alloc (.cells #[] 5)) x2.heap.size q b g cap4 P' (.slice a8 n8 c8) Lf L 0) := HI2.out.keep ((Below.refl _ _).alloc (Nat.le_refl _) _)
                      have HP2z : Hid ((y2.alloc (.cells #[] 5)).heap[wo.heap.size]? = some (.cells #[.int .i64 2, .int .i64 tag, .int .i64 vv, .slice ad m pc] 29)) := (Below.heap_alloc _ _ _ hlt2).trans HP2.out
                      have hlz : wo.heap.size < (y2.alloc (.cells #[] 5)).heap.size := by simp; omega
                      go_wp2_with (first
                        | (go_at_call 21; refine (rtext_any tag (y2.alloc (.cells #[] 5)) x2.heap.size q b L 0 HI2z.out.st.rd HWF.out).mono ?_; rw [HAS.out.2.1]; rintro _ y3 ⟨v3, rfl, ho3, hp3⟩; obtain ⟨a3, c3z, hv3, _, _, hy3, _⟩ := ho3.shape; rw [HBL.out] at hv3; subst hv3; have HI3 : Hid (RI w y3 x2.heap.size q b g cap4 P' (.slice a8 n8 c8) Lf (delT L tag) (errF (L.map Prod.fst) 0 tag true)) := HI2z.out.took hp3; rw [HAS.out.2.2] at HI3; have hp9 := (hp3.2.block wo.heap.size hlz (by have := HQ3.out; omega) (by have := HQ3.out; omega)).trans HP2z.out; have e0 : y3.cell? ⟨wo.heap.size, 0, none⟩ = some (.int .i64 2) := (by rw [cell_of_row _ _ 0 _ _ _ hp9]; rfl); have e1 : y3.cell? ⟨wo.heap.size, 1, none⟩ = some (.int .i64 tag) := (by rw [cell_of_row _ _ 1 _ _ _ hp9]; rfl); have HP3 : Hid (y3.heap[wo.heap.size]? = some (.cells #[.int .i64 2, .int .i64 tag, .int .i64 vv, .slice ad m pc] 29)) := hp9; have hlt3 : wo.heap.size < y3.heap.size := lt_of_heap hp9; clear hp3 hp9; have HBV : Hid (Bytes y3 a3 by0 ∧ Bytes y3 ab by0) := ⟨hy3, by obtain ⟨a9, c9, hv9, _, _, hy9, _⟩ := (HI3.out.st.fs.byt _ (getT_mem HG.out).1).shape; simp only at hv9; injection hv9 with h1; subst h1; exact hy9⟩; clear ho3 hy3)
                        | (go_at_call 15; refine (same_yes by0 mb mb a3 ab c3z cb y3 HBL.out HBL.out HBV.out.1 HBV.out.2 HBM.out).mono ?_; rintro _ y4 ⟨rfl, hb4⟩; have HI4 : Hid (RI w y4 x2.heap.size q b g cap4 P' (.slice a8 n8 c8) Lf (delT L tag) 0) := HI3.out.keep hb4; have HP4 : Hid (y4.heap[wo.heap.size]? = some (.cells #[.int .i64 2, .int .i64 tag, .int .i64 vv, .slice ad m pc] 29)) := (hb4.block _ hlt3).trans HP3.out; clear hb4))
                      go_meet
                      case rel => exact ⟨false, true, delT L tag, rfl, rfl, HI4.out, HP4.out, .inl ⟨rfl, rfl⟩⟩
            · have n0 : (kk == 0) = false := by simpa using hk0
              have n1 : (kk == 1) = false := by simpa using hk1
              have n2 : (kk == 2) = false := by simpa using hk2
              cases B with
              | true =>
                as_aux_lemma =>
                  have HI2 : Hid (RI w y2 x2.heap.size q b g cap4 P' (.slice a8 n8 c8) Lf L 33) := HI2.out
                  have HER : Hid (errR (L.map Prod.fst) 33 = 33) := by show _ = _; unfold errR; rw [List.length_map, HLL.out.1]; rfl
                  go_wp2_with (first
                    | (go_at_call 22; refine (rest_any y2 x2.heap.size q b L 33 HI2.out.st.rd (by rw [HEF.out.1]; exact HEF.out.2.rise) HLL.out.2).mono ?_; rw [HLL.out.1]; rintro _ y3 ⟨v3, rfl, ho3, hb3⟩; obtain ⟨a3, c3z, hv3⟩ := row_shape ho3; subst hv3; have HRW : Hid (RW y3 y3 y2.heap.size a3 n8 c3z (L.map (fun p => p.1.tag)) 0) := RW.start ho3; have HI3 : Hid (RI w y3 x2.heap.size q b g cap4 P' (.slice a8 n8 c8) Lf L 33) := HI2.out.keep hb3; have HB3 : Hid (Below y2.heap.size y2 y3) := hb3; clear ho3 hb3))
                  have HFX : Hid (FsAt y3 a8 Lf) := by
                    obtain ⟨a9, c9, hv9, hf9⟩ := HI3.out.st.fs.fs (fun p hp => by have h := HEF.out.2.right p.1 (List.mem_map_of_mem hp); exact ⟨h.1, Nat.le_trans h.2.1 (by unfold maxLen; omega)⟩)
                    injection hv9 with h1
                    subst h1
                    exact hf9
                  have HA8L : Hid (∀ b8 o8, a8 = some ⟨b8, o8, none⟩ → b8 < y2.heap.size) := by
                    intro b8 o8 h
                    have h1 := HRI.out.st.fs.own.lt b8 (by rw [h]; rfl)
                    have h2 := HY2.out.size
                    omega
                  go_loopw [114] (fun vi wx => ∃ j : Nat, j ≤ n8 ∧ vi = .int .i64 (j : Int) ∧ Hid (RW y3 wx y2.heap.size a3 n8 c3z (L.map (fun p => p.1.tag)) j)) (fun vi _ => n8 - (intOf vi).toNat)
                  case atStart => exact ⟨0, Nat.zero_le _, rfl, HRW.out⟩
                  case round =>
                    rename World => wx
                    obtain ⟨j, hj, rfl, HG1⟩ := hrel
                    by_cases hjl : j < n8
                    · obtain ⟨pf, hpf⟩ : ∃ pf, Lf[j]? = some pf := ⟨_, List.getElem?_eq_getElem (by rw [HN8.out]; exact hjl)⟩
                      obtain ⟨b8, o8, ha8⟩ : ∃ b8 o8, a8 = some ⟨b8, o8, none⟩ := by
                        rcases HFX.out.row with h1 | ⟨b8, o8, h1, _⟩
                        · rw [h1] at hpf; simp at hpf
                        · exact ⟨b8, o8, h1⟩
                      have hF := HFX.out
                      rw [ha8] at hF
                      obtain ⟨k0', _, _, _⟩ := hF.cells j pf hpf
                      have hb8 := HA8L.out b8 o8 ha8
                      obtain ⟨⟨T1, X1, U1, Y1⟩, V1⟩ := pf
                      simp only at k0'
                      have htg : (L.map (fun p => p.1.tag))[j]? = some T1 := by
                        have h1 : (L.map Prod.fst)[j]? = (Lf.map Prod.fst)[j]? := by rw [HEF.out.1]
                        rw [List.getElem?_map, List.getElem?_map, hpf] at h1
                        rw [List.getElem?_map]
                        cases h2 : L[j]? with
                        | none => rw [h2] at h1; cases h1
                        | some p => rw [h2] at h1; simp only [Option.map_some, Option.some.injEq] at h1 ⊢; rw [h1]
                      obtain ⟨g3, ha3, hg3, hgl, c5, f5, hnx⟩ := HG1.out.step hjl htg
                      have k0 : wx.cell? ⟨b8, o8 + j * 4, none⟩ = some (.int .i64 T1) := (cell_heapF (HG1.out.block b8 (by rw [ha3]; intro h; injection h with h; injection h with h1 h2; omega)) _).trans k0'
                      have HNX : Hid (RW y3 (wx.drew.setCell ⟨g3, j, none⟩ (.int .i64 99)) y2.heap.size a3 n8 c3z (L.map (fun p => p.1.tag)) (j + 1)) := drewS (hnx 99)
                      have hjI : (j : Int) < (n8 : Int) := by omega
                      have HA8 : Hid (a8 = some ⟨b8, o8, none⟩ ∧ a3 = some ⟨g3, 0, none⟩) := ⟨ha8, ha3⟩
                      subst ha8
                      subst ha3
                      clear hpf hF htg hnx k0' hb8
                      go_wp2
                      refine wp_region_held (S := (fun y => y.heap[g3]? = wx.heap[g3]? ∧ y.heap[b8]? = wx.heap[b8]?)) (by kernel_rfl) ?_
                      change wpAnyH _ _ _ _ _ _ _ _ (World.drew _)
                      refine wpAnyH_take (i := 0) (oi := { dst := some 117, op := Op.move (Operand.tmp 19), type := 54, pos := "law.go:222", after := #[], guard := none }) (v := ?_) rfl (by kernel_rfl) (by kernel_rfl) (by kernel_rfl) (fun _ _ _ h => h) (Or.inl ⟨by rfl, ?_⟩) ⟨rfl, rfl⟩ ?_
                      rotate_left
                      · (intro y hy; go_simp; try (with_reducible rfl))
                      simp only [Act.put, List.setIfInBounds_toArray, List.set_cons_zero, List.set_cons_succ]
                      refine wpAnyH_take (i := 1) (oi := { dst := some 118, op := Op.move (Operand.tmp 20), type := 3, pos := "law.go:222", after := #[], guard := none }) (v := ?_) rfl (by kernel_rfl) (by kernel_rfl) (by kernel_rfl) (fun _ _ _ h => h) (Or.inl ⟨by rfl, ?_⟩) ⟨rfl, rfl⟩ ?_
                      rotate_left
                      · (intro y hy; go_simp; try (with_reducible rfl))
                      simp only [Act.put, List.setIfInBounds_toArray, List.set_cons_zero, List.set_cons_succ]
                      refine wpAnyH_take (i := 2) (oi := { dst := some 119, op := Op.indexAddr 54 (Operand.tmp 117) (Operand.tmp 118), type := 0, pos := "law.go:222", after := #[{ on := 0, ground := Ground.data }, { on := 1, ground := Ground.data }], guard := none }) (v := ?_) rfl (by kernel_rfl) (by kernel_rfl) (by kernel_rfl) (fun _ _ _ h => h) (Or.inl ⟨by rfl, ?_⟩) ⟨rfl, rfl⟩ ?_
                      rotate_left
                      · (intro y hy; go_simp; try (with_reducible rfl))
                      simp only [Act.put, List.setIfInBounds_toArray, List.set_cons_zero, List.set_cons_succ]
                      refine wpAnyH_take (i := 3) (oi := { dst := some 120, op := Op.load 3 (Operand.tmp 119), type := 3, pos := "law.go:222", after := #[{ on := 2, ground := Ground.data }], guard := none }) (v := .int .i64 T1) rfl (by kernel_rfl) (by kernel_rfl) (by kernel_rfl) (fun _ _ _ h => h) (Or.inl ⟨by rfl, ?_⟩) ⟨rfl, rfl⟩ ?_
                      · (intro y hy; have h0 := (cell_heapF hy.1 _).trans c5; go_simp)
                      simp only [Act.put, List.setIfInBounds_toArray, List.set_cons_zero, List.set_cons_succ]
                      refine wpAnyH_take (i := 4) (oi := { dst := some 121, op := Op.move (Operand.tmp 8), type := 26, pos := "law.go:222", after := #[], guard := none }) (v := ?_) rfl (by kernel_rfl) (by kernel_rfl) (by kernel_rfl) (fun _ _ _ h => h) (Or.inl ⟨by rfl, ?_⟩) ⟨rfl, rfl⟩ ?_
                      rotate_left
                      · (intro y hy; go_simp; try (with_reducible rfl))
                      simp only [Act.put, List.setIfInBounds_toArray, List.set_cons_zero, List.set_cons_succ]
                      refine wpAnyH_take (i := 5) (oi := { dst := some 122, op := Op.move (Operand.tmp 20), type := 3, pos := "law.go:222", after := #[], guard := none }) (v := ?_) rfl (by kernel_rfl) (by kernel_rfl) (by kernel_rfl) (fun _ _ _ h => h) (Or.inl ⟨by rfl, ?_⟩) ⟨rfl, rfl⟩ ?_
                      rotate_left
                      · (intro y hy; go_simp; try (with_reducible rfl))
                      simp only [Act.put, List.setIfInBounds_toArray, List.set_cons_zero, List.set_cons_succ]
                      refine wpAnyH_take (i := 6) (oi := { dst := some 123, op := Op.indexAddr 26 (Operand.tmp 121) (Operand.tmp 122), type := 0, pos := "law.go:222", after := #[{ on := 4, ground := Ground.data }, { on := 5, ground := Ground.data }], guard := none }) (v := ?_) rfl (by kernel_rfl) (by kernel_rfl) (by kernel_rfl) (fun _ _ _ h => h) (Or.inl ⟨by rfl, ?_⟩) ⟨rfl, rfl⟩ ?_
                      rotate_left
                      · (intro y hy; go_simp; try (with_reducible rfl))
                      simp only [Act.put, List.setIfInBounds_toArray, List.set_cons_zero, List.set_cons_succ]
                      refine wpAnyH_take (i := 7) (oi := { dst := some 124, op := Op.fieldAddr 32 (Operand.tmp 123) 0, type := 0, pos := "law.go:222", after := #[{ on := 6, ground := Ground.data }], guard := none }) (v := ?_) rfl (by kernel_rfl) (by kernel_rfl) (by kernel_rfl) (fun _ _ _ h => h) (Or.inl ⟨by rfl, ?_⟩) ⟨rfl, rfl⟩ ?_
                      rotate_left
                      · (intro y hy; go_simp; try (with_reducible rfl))
                      simp only [Act.put, List.setIfInBounds_toArray, List.set_cons_zero, List.set_cons_succ]
                      refine wpAnyH_take (i := 8) (oi := { dst := some 125, op := Op.load 3 (Operand.tmp 124), type := 3, pos := "law.go:222", after := #[{ on := 7, ground := Ground.data }], guard := none }) (v := .int .i64 T1) rfl (by kernel_rfl) (by kernel_rfl) (by kernel_rfl) (fun _ _ _ h => h) (Or.inl ⟨by rfl, ?_⟩) ⟨rfl, rfl⟩ ?_
                      · (intro y hy; have h0 := (cell_heapF hy.2 _).trans k0; go_simp)
                      simp only [Act.put, List.setIfInBounds_toArray, List.set_cons_zero, List.set_cons_succ]
                      refine wpAnyH_take (i := 9) (oi := { dst := some 126, op := Op.binOp BinOp.neq 3 (Operand.tmp 120) (Operand.tmp 125) 3, type := 4, pos := "law.go:222", after := #[{ on := 3, ground := Ground.data }, { on := 8, ground := Ground.data }], guard := none }) (v := ?_) rfl (by kernel_rfl) (by kernel_rfl) (by kernel_rfl) (fun _ _ _ h => h) (Or.inl ⟨by rfl, ?_⟩) ⟨rfl, rfl⟩ ?_
                      rotate_left
                      · (intro y hy; go_simp; try (with_reducible rfl))
                      simp only [Act.put, List.setIfInBounds_toArray, List.set_cons_zero, List.set_cons_succ]
                      refine wpAnyH_done (by kernel_rfl) ?_ _
                      go_wp2
                      go_roundw
                      case rel => exact ⟨j + 1, by omega, by go_num, HNX.out⟩
                      case measure => simp [intOf]; omega
                    · obtain rfl : n8 = j := by omega
                      have HBX : Hid (Below y2.heap.size y2 wx) := HB3.out.trans (HG1.out.below (Nat.le_refl _) |>.mono (Nat.le_refl _))
                      have HIX : Hid (RI w wx x2.heap.size q b g cap4 P' (.slice a8 n8 c8) Lf L 33) := HI2.out.keep HBX.out
                      have HPX : Hid (wx.heap[wo.heap.size]? = some (.cells #[.int .i64 kk, .int .i64 tag, .int .i64 vv, .slice ad m pc] 29)) := (HBX.out.block _ hlt2).trans HP2.out
                      go_wp2_with (go_at_call 23; refine (rerr_any wx x2.heap.size q b L 33 HIX.out.st.rd).mono ?_; rw [HER.out]; rintro _ y9 ⟨rfl, rfl⟩)
                      go_meet
                      case rel => exact ⟨true, false, L, rfl, rfl, HIX.out, HPX.out, .inr ⟨rfl, rfl⟩⟩
              | false =>
                by_cases hz8 : n8 = 0
                · have HZ8 : Hid (n8 = 0) := hz8
                  have d8 : decide ((0 : Int) < (n8 : Int)) = false := by simp; omega
                  have d9 : decide (0 < n8) = false := by simp; omega
                  clear hz8
                  as_aux_lemma =>
                    have HI2 : Hid (RI w y2 x2.heap.size q b g cap4 P' (.slice a8 n8 c8) Lf L 0) := HI2.out
                    have HER : Hid (errR (L.map Prod.fst) 0 = 0) := by show _ = _; unfold errR; rw [List.length_map, HLL.out.1]; rw [if_neg (by simp), if_neg (by have := HZ8.out; omega)]
                    go_wp2_with (first
                      | (go_at_call 22; refine (rest_any y2 x2.heap.size q b L 0 HI2.out.st.rd (by rw [HEF.out.1]; exact HEF.out.2.rise) HLL.out.2).mono ?_; rw [HLL.out.1]; rintro _ y3 ⟨v3, rfl, ho3, hb3⟩; obtain ⟨a3, c3z, hv3⟩ := row_shape ho3; subst hv3; have HRW : Hid (RW y3 y3 y2.heap.size a3 n8 c3z (L.map (fun p => p.1.tag)) 0) := RW.start ho3; have HI3 : Hid (RI w y3 x2.heap.size q b g cap4 P' (.slice a8 n8 c8) Lf L 0) := HI2.out.keep hb3; have HB3 : Hid (Below y2.heap.size y2 y3) := hb3; clear ho3 hb3))
                    have HFX : Hid (FsAt y3 a8 Lf) := by
                      obtain ⟨a9, c9, hv9, hf9⟩ := HI3.out.st.fs.fs (fun p hp => by have h := HEF.out.2.right p.1 (List.mem_map_of_mem hp); exact ⟨h.1, Nat.le_trans h.2.1 (by unfold maxLen; omega)⟩)
                      injection hv9 with h1
                      subst h1
                      exact hf9
                    have HA8L : Hid (∀ b8 o8, a8 = some ⟨b8, o8, none⟩ → b8 < y2.heap.size) := by
                      intro b8 o8 h
                      have h1 := HRI.out.st.fs.own.lt b8 (by rw [h]; rfl)
                      have h2 := HY2.out.size
                      omega
                    go_loopw [114] (fun vi wx => ∃ j : Nat, j ≤ n8 ∧ vi = .int .i64 (j : Int) ∧ Hid (RW y3 wx y2.heap.size a3 n8 c3z (L.map (fun p => p.1.tag)) j)) (fun vi _ => n8 - (intOf vi).toNat)
                    case atStart => exact ⟨0, Nat.zero_le _, rfl, HRW.out⟩
                    case round =>
                      rename World => wx
                      obtain ⟨j, hj, rfl, HG1⟩ := hrel
                      by_cases hjl : j < n8
                      · exact absurd hjl (by have := HZ8.out; omega)
                      · obtain rfl : n8 = j := by omega
                        have HBX : Hid (Below y2.heap.size y2 wx) := HB3.out.trans (HG1.out.below (Nat.le_refl _) |>.mono (Nat.le_refl _))
                        have HIX : Hid (RI w wx x2.heap.size q b g cap4 P' (.slice a8 n8 c8) Lf L 0) := HI2.out.keep HBX.out
                        have HPX : Hid (wx.heap[wo.heap.size]? = some (.cells #[.int .i64 kk, .int .i64 tag, .int .i64 vv, .slice ad m pc] 29)) := (HBX.out.block _ hlt2).trans HP2.out
                        go_wp2_with (go_at_call 23; refine (rerr_any wx x2.heap.size q b L 0 HIX.out.st.rd).mono ?_; rw [HER.out]; rintro _ y9 ⟨rfl, rfl⟩)
                        go_meet
                        case rel => exact ⟨false, false, L, rfl, rfl, HIX.out, HPX.out, .inr ⟨rfl, rfl⟩⟩
                · have hz8I : (0 : Int) < (n8 : Int) := by omega
                  as_aux_lemma =>
                    have HI2 : Hid (RI w y2 x2.heap.size q b g cap4 P' (.slice a8 n8 c8) Lf L 0) := HI2.out
                    have HER : Hid (errR (L.map Prod.fst) 0 = 20) := by show _ = _; unfold errR; rw [List.length_map, HLL.out.1]; rw [if_neg (by simp), if_pos (by omega)]
                    go_wp2_with (first
                      | (go_at_call 22; refine (rest_any y2 x2.heap.size q b L 0 HI2.out.st.rd (by rw [HEF.out.1]; exact HEF.out.2.rise) HLL.out.2).mono ?_; rw [HLL.out.1]; rintro _ y3 ⟨v3, rfl, ho3, hb3⟩; obtain ⟨a3, c3z, hv3⟩ := row_shape ho3; subst hv3; have HRW : Hid (RW y3 y3 y2.heap.size a3 n8 c3z (L.map (fun p => p.1.tag)) 0) := RW.start ho3; have HI3 : Hid (RI w y3 x2.heap.size q b g cap4 P' (.slice a8 n8 c8) Lf L 0) := HI2.out.keep hb3; have HB3 : Hid (Below y2.heap.size y2 y3) := hb3; clear ho3 hb3))
                    have HFX : Hid (FsAt y3 a8 Lf) := by
                      obtain ⟨a9, c9, hv9, hf9⟩ := HI3.out.st.fs.fs (fun p hp => by have h := HEF.out.2.right p.1 (List.mem_map_of_mem hp); exact ⟨h.1, Nat.le_trans h.2.1 (by unfold maxLen; omega)⟩)
                      injection hv9 with h1
                      subst h1
                      exact hf9
                    have HA8L : Hid (∀ b8 o8, a8 = some ⟨b8, o8, none⟩ → b8 < y2.heap.size) := by
                      intro b8 o8 h
                      have h1 := HRI.out.st.fs.own.lt b8 (by rw [h]; rfl)
                      have h2 := HY2.out.size
                      omega
                    go_loopw [114] (fun vi wx => ∃ j : Nat, j ≤ n8 ∧ vi = .int .i64 (j : Int) ∧ Hid (RW y3 wx y2.heap.size a3 n8 c3z (L.map (fun p => p.1.tag)) j)) (fun vi _ => n8 - (intOf vi).toNat)
                    case atStart => exact ⟨0, Nat.zero_le _, rfl, HRW.out⟩
                    case round =>
                      rename World => wx
                      obtain ⟨j, hj, rfl, HG1⟩ := hrel
                      by_cases hjl : j < n8
                      · obtain ⟨pf, hpf⟩ : ∃ pf, Lf[j]? = some pf := ⟨_, List.getElem?_eq_getElem (by rw [HN8.out]; exact hjl)⟩
                        obtain ⟨b8, o8, ha8⟩ : ∃ b8 o8, a8 = some ⟨b8, o8, none⟩ := by
                          rcases HFX.out.row with h1 | ⟨b8, o8, h1, _⟩
                          · rw [h1] at hpf; simp at hpf
                          · exact ⟨b8, o8, h1⟩
                        have hF := HFX.out
                        rw [ha8] at hF
                        obtain ⟨k0', _, _, _⟩ := hF.cells j pf hpf
                        have hb8 := HA8L.out b8 o8 ha8
                        obtain ⟨⟨T1, X1, U1, Y1⟩, V1⟩ := pf
                        simp only at k0'
                        have htg : (L.map (fun p => p.1.tag))[j]? = some T1 := by
                          have h1 : (L.map Prod.fst)[j]? = (Lf.map Prod.fst)[j]? := by rw [HEF.out.1]
                          rw [List.getElem?_map, List.getElem?_map, hpf] at h1
                          rw [List.getElem?_map]
                          cases h2 : L[j]? with
                          | none => rw [h2] at h1; cases h1
                          | some p => rw [h2] at h1; simp only [Option.map_some, Option.some.injEq] at h1 ⊢; rw [h1]
                        obtain ⟨g3, ha3, hg3, hgl, c5, f5, hnx⟩ := HG1.out.step hjl htg
                        have k0 : wx.cell? ⟨b8, o8 + j * 4, none⟩ = some (.int .i64 T1) := (cell_heapF (HG1.out.block b8 (by rw [ha3]; intro h; injection h with h; injection h with h1 h2; omega)) _).trans k0'
                        have HNX : Hid (RW y3 (wx.drew.setCell ⟨g3, j, none⟩ (.int .i64 99)) y2.heap.size a3 n8 c3z (L.map (fun p => p.1.tag)) (j + 1)) := drewS (hnx 99)
                        have hjI : (j : Int) < (n8 : Int) := by omega
                        have HA8 : Hid (a8 = some ⟨b8, o8, none⟩ ∧ a3 = some ⟨g3, 0, none⟩) := ⟨ha8, ha3⟩
                        subst ha8
                        subst ha3
                        clear hpf hF htg hnx k0' hb8
                        go_wp2
                        refine wp_region_held (S := (fun y => y.heap[g3]? = wx.heap[g3]? ∧ y.heap[b8]? = wx.heap[b8]?)) (by kernel_rfl) ?_
                        change wpAnyH _ _ _ _ _ _ _ _ (World.drew _)
                        refine wpAnyH_take (i := 0) (oi := { dst := some 117, op := Op.move (Operand.tmp 19), type := 54, pos := "law.go:222", after := #[], guard := none }) (v := ?_) rfl (by kernel_rfl) (by kernel_rfl) (by kernel_rfl) (fun _ _ _ h => h) (Or.inl ⟨by rfl, ?_⟩) ⟨rfl, rfl⟩ ?_
                        rotate_left
                        · (intro y hy; go_simp; try (with_reducible rfl))
                        simp only [Act.put, List.setIfInBounds_toArray, List.set_cons_zero, List.set_cons_succ]
                        refine wpAnyH_take (i := 1) (oi := { dst := some 118, op := Op.move (Operand.tmp 20), type := 3, pos := "law.go:222", after := #[], guard := none }) (v := ?_) rfl (by kernel_rfl) (by kernel_rfl) (by kernel_rfl) (fun _ _ _ h => h) (Or.inl ⟨by rfl, ?_⟩) ⟨rfl, rfl⟩ ?_
                        rotate_left
                        · (intro y hy; go_simp; try (with_reducible rfl))
                        simp only [Act.put, List.setIfInBounds_toArray, List.set_cons_zero, List.set_cons_succ]
                        refine wpAnyH_take (i := 2) (oi := { dst := some 119, op := Op.indexAddr 54 (Operand.tmp 117) (Operand.tmp 118), type := 0, pos := "law.go:222", after := #[{ on := 0, ground := Ground.data }, { on := 1, ground := Ground.data }], guard := none }) (v := ?_) rfl (by kernel_rfl) (by kernel_rfl) (by kernel_rfl) (fun _ _ _ h => h) (Or.inl ⟨by rfl, ?_⟩) ⟨rfl, rfl⟩ ?_
                        rotate_left
                        · (intro y hy; go_simp; try (with_reducible rfl))
                        simp only [Act.put, List.setIfInBounds_toArray, List.set_cons_zero, List.set_cons_succ]
                        refine wpAnyH_take (i := 3) (oi := { dst := some 120, op := Op.load 3 (Operand.tmp 119), type := 3, pos := "law.go:222", after := #[{ on := 2, ground := Ground.data }], guard := none }) (v := .int .i64 T1) rfl (by kernel_rfl) (by kernel_rfl) (by kernel_rfl) (fun _ _ _ h => h) (Or.inl ⟨by rfl, ?_⟩) ⟨rfl, rfl⟩ ?_
                        · (intro y hy; have h0 := (cell_heapF hy.1 _).trans c5; go_simp)
                        simp only [Act.put, List.setIfInBounds_toArray, List.set_cons_zero, List.set_cons_succ]
                        refine wpAnyH_take (i := 4) (oi := { dst := some 121, op := Op.move (Operand.tmp 8), type := 26, pos := "law.go:222", after := #[], guard := none }) (v := ?_) rfl (by kernel_rfl) (by kernel_rfl) (by kernel_rfl) (fun _ _ _ h => h) (Or.inl ⟨by rfl, ?_⟩) ⟨rfl, rfl⟩ ?_
                        rotate_left
                        · (intro y hy; go_simp; try (with_reducible rfl))
                        simp only [Act.put, List.setIfInBounds_toArray, List.set_cons_zero, List.set_cons_succ]
                        refine wpAnyH_take (i := 5) (oi := { dst := some 122, op := Op.move (Operand.tmp 20), type := 3, pos := "law.go:222", after := #[], guard := none }) (v := ?_) rfl (by kernel_rfl) (by kernel_rfl) (by kernel_rfl) (fun _ _ _ h => h) (Or.inl ⟨by rfl, ?_⟩) ⟨rfl, rfl⟩ ?_
                        rotate_left
                        · (intro y hy; go_simp; try (with_reducible rfl))
                        simp only [Act.put, List.setIfInBounds_toArray, List.set_cons_zero, List.set_cons_succ]
                        refine wpAnyH_take (i := 6) (oi := { dst := some 123, op := Op.indexAddr 26 (Operand.tmp 121) (Operand.tmp 122), type := 0, pos := "law.go:222", after := #[{ on := 4, ground := Ground.data }, { on := 5, ground := Ground.data }], guard := none }) (v := ?_) rfl (by kernel_rfl) (by kernel_rfl) (by kernel_rfl) (fun _ _ _ h => h) (Or.inl ⟨by rfl, ?_⟩) ⟨rfl, rfl⟩ ?_
                        rotate_left
                        · (intro y hy; go_simp; try (with_reducible rfl))
                        simp only [Act.put, List.setIfInBounds_toArray, List.set_cons_zero, List.set_cons_succ]
                        refine wpAnyH_take (i := 7) (oi := { dst := some 124, op := Op.fieldAddr 32 (Operand.tmp 123) 0, type := 0, pos := "law.go:222", after := #[{ on := 6, ground := Ground.data }], guard := none }) (v := ?_) rfl (by kernel_rfl) (by kernel_rfl) (by kernel_rfl) (fun _ _ _ h => h) (Or.inl ⟨by rfl, ?_⟩) ⟨rfl, rfl⟩ ?_
                        rotate_left
                        · (intro y hy; go_simp; try (with_reducible rfl))
                        simp only [Act.put, List.setIfInBounds_toArray, List.set_cons_zero, List.set_cons_succ]
                        refine wpAnyH_take (i := 8) (oi := { dst := some 125, op := Op.load 3 (Operand.tmp 124), type := 3, pos := "law.go:222", after := #[{ on := 7, ground := Ground.data }], guard := none }) (v := .int .i64 T1) rfl (by kernel_rfl) (by kernel_rfl) (by kernel_rfl) (fun _ _ _ h => h) (Or.inl ⟨by rfl, ?_⟩) ⟨rfl, rfl⟩ ?_
                        · (intro y hy; have h0 := (cell_heapF hy.2 _).trans k0; go_simp)
                        simp only [Act.put, List.setIfInBounds_toArray, List.set_cons_zero, List.set_cons_succ]
                        refine wpAnyH_take (i := 9) (oi := { dst := some 126, op := Op.binOp BinOp.neq 3 (Operand.tmp 120) (Operand.tmp 125) 3, type := 4, pos := "law.go:222", after := #[{ on := 3, ground := Ground.data }, { on := 8, ground := Ground.data }], guard := none }) (v := ?_) rfl (by kernel_rfl) (by kernel_rfl) (by kernel_rfl) (fun _ _ _ h => h) (Or.inl ⟨by rfl, ?_⟩) ⟨rfl, rfl⟩ ?_
                        rotate_left
                        · (intro y hy; go_simp; try (with_reducible rfl))
                        simp only [Act.put, List.setIfInBounds_toArray, List.set_cons_zero, List.set_cons_succ]
                        refine wpAnyH_done (by kernel_rfl) ?_ _
                        go_wp2
                        go_roundw
                        case rel => exact ⟨j + 1, by omega, by go_num, HNX.out⟩
                        case measure => simp [intOf]; omega
                      · obtain rfl : n8 = j := by omega
                        have HBX : Hid (Below y2.heap.size y2 wx) := HB3.out.trans (HG1.out.below (Nat.le_refl _) |>.mono (Nat.le_refl _))
                        have HIX : Hid (RI w wx x2.heap.size q b g cap4 P' (.slice a8 n8 c8) Lf L 0) := HI2.out.keep HBX.out
                        have HPX : Hid (wx.heap[wo.heap.size]? = some (.cells #[.int .i64 kk, .int .i64 tag, .int .i64 vv, .slice ad m pc] 29)) := (HBX.out.block _ hlt2).trans HP2.out
                        go_wp2_with (go_at_call 23; refine (rerr_any wx x2.heap.size q b L 0 HIX.out.st.rd).mono ?_; rw [HER.out]; rintro _ y9 ⟨rfl, rfl⟩)
                        go_meet
                        case rel => exact ⟨false, false, L, rfl, rfl, HIX.out, HPX.out, .inr ⟨rfl, rfl⟩⟩
      case rest =>
        obtain ⟨B1, ok1, L1, h12, h16, HC⟩ := hcut
        subst h12 h16
        rename World => wc
        have HPC : Hid (wc.heap[wo.heap.size]? = some (.cells #[.int .i64 kk, .int .i64 tag, .int .i64 vv, .slice ad m pc] 29)) := HC.out.2.1
        have hltc : wo.heap.size < wc.heap.size := lt_of_heap HPC.out
        rcases HC.out.2.2 with ⟨ho1, hL1⟩ | ⟨ho1, hL1⟩
        · subst ho1
          have HRZ : Hid (RI w wc x2.heap.size q b g cap4 P' (.slice a8 n8 c8) Lf (delT L tag) (if B1 = true then 33 else 0)) := by have h := HC.out.1; rw [hL1] at h; exact h
          clear HC hL1
          as_aux_lemma =>
            go_wp2
            have HGS : Hid (GL wc (wc.alloc (.cells #[] 32)) (.slice (some ⟨wc.heap.size, 0, none⟩) 0 0) (delT (Lf.take 0) tag)) := GL.start wc
            have HFX : Hid (FsAt wc a8 Lf) := by
              obtain ⟨a9, c9, hv9, hf9⟩ := HRZ.out.st.fs.fs (fun p hp => by have h := HEF.out.2.right p.1 (List.mem_map_of_mem hp); exact ⟨h.1, Nat.le_trans h.2.1 (by unfold maxLen; omega)⟩)
              injection hv9 with h1
              subst h1
              exact hf9
            go_loopw [22, 211] (fun vl vi wx => ∃ j : Nat, j ≤ n8 ∧ vi = .int .i64 (j : Int) ∧ Hid (GL wc wx vl (delT (Lf.take j) tag))) (fun _ vi _ => n8 - (intOf vi).toNat)
            case atStart => exact ⟨0, Nat.zero_le _, rfl, HGS.out⟩
            case round =>
              rename World => wx
              obtain ⟨j, hj, rfl, HG1⟩ := hrel
              by_cases hjl : j < n8
              · obtain ⟨pf, hpf⟩ : ∃ pf, Lf[j]? = some pf := ⟨_, List.getElem?_eq_getElem (by rw [HN8.out]; exact hjl)⟩
                obtain ⟨b8, o8, ha8⟩ : ∃ b8 o8, a8 = some ⟨b8, o8, none⟩ := by
                  rcases HFX.out.row with h1 | ⟨b8, o8, h1, _⟩
                  · rw [h1] at hpf; simp at hpf
                  · exact ⟨b8, o8, h1⟩
                have hF := HFX.out.keep HG1.out.bel
                rw [ha8] at hF
                obtain ⟨k0, k1, k2, k3⟩ := hF.cells j pf hpf
                obtain ⟨adv, cdv, hV1, _⟩ := (hF.fok pf (List.mem_of_getElem? hpf)).byt
                obtain ⟨⟨T1, X1, U1, Y1⟩, V1⟩ := pf
                simp only at k0 k1 k2 k3 hV1
                have HV1 : Hid (V1.oneCell' = true) := by show _ = _; rw [hV1]; rfl
                have HTS : Hid (Lf.take (j + 1) = Lf.take j ++ [(⟨T1, X1, U1, Y1⟩, V1)]) := take_snocF hpf
                obtain ⟨mm, hmm⟩ : ∃ mm, (delT (Lf.take j) tag).length = mm := ⟨_, rfl⟩
                have HMM : Hid ((delT (Lf.take j) tag).length = mm) := hmm
                have hmj : mm ≤ 31 := by
                  rw [← hmm]
                  have h1 := List.length_filter_le (fun p : Fld × Value => !(p.1.tag == tag)) (Lf.take j)
                  have h2 := List.length_take_le j Lf
                  show (List.filter _ _).length ≤ 31
                  omega
                have hpx := (HG1.out.bel.block _ hltc).trans HPC.out
                have p1 : wx.cell? ⟨wo.heap.size, 1, none⟩ = some (.int .i64 tag) := by rw [cell_of_row _ _ 1 _ _ _ hpx]; rfl
                have hjI : (j : Int) < (n8 : Int) := by omega
                have HGD : Hid (GL wc wx.drew u22 (delT (Lf.take j) tag)) := HG1.out.drew
                have HGA : Hid ((((wx.alloc (.cells #[.int .i64 T1, .bool X1, .int .u64 (U1 : Int), V1] 32)).drew)).ownsRow wc.heap.size 32 4 u22 mm (flat (delT (Lf.take j) tag))) := by have h := own_below2 HG1.out.row (((Below.refl wx.heap.size wx).alloc (Nat.le_refl _) (.cells #[.int .i64 T1, .bool X1, .int .u64 (U1 : Int), V1] 32)).drew); rw [HMM.out] at h; exact h
                have HA8 : Hid (a8 = some ⟨b8, o8, none⟩) := ha8
                subst ha8
                clear hpf hF hV1 hmm hpx
                go_wp2
                by_cases hT : T1 = tag
                · subst hT
                  refine wp_region_held (S := (fun y => y.heap[b8]? = wx.heap[b8]? ∧ y.heap[wo.heap.size]? = wx.heap[wo.heap.size]?)) (by kernel_rfl) ?_
                  change wpAnyH _ _ _ _ _ _ _ _ (World.drew _)
                  refine wpAnyH_take (i := 0) (oi := { dst := some 214, op := Op.move (Operand.tmp 8), type := 26, pos := "law.go:240", after := #[], guard := none }) (v := ?_) rfl (by kernel_rfl) (by kernel_rfl) (by kernel_rfl) (fun _ _ _ h => h) (Or.inl ⟨by rfl, ?_⟩) ⟨rfl, rfl⟩ ?_
                  rotate_left
                  · (intro y hy; go_simp; try (with_reducible rfl))
                  simp only [Act.put, List.setIfInBounds_toArray, List.set_cons_zero, List.set_cons_succ]
                  refine wpAnyH_take (i := 1) (oi := { dst := some 215, op := Op.move (Operand.tmp 23), type := 3, pos := "law.go:240", after := #[], guard := none }) (v := ?_) rfl (by kernel_rfl) (by kernel_rfl) (by kernel_rfl) (fun _ _ _ h => h) (Or.inl ⟨by rfl, ?_⟩) ⟨rfl, rfl⟩ ?_
                  rotate_left
                  · (intro y hy; go_simp; try (with_reducible rfl))
                  simp only [Act.put, List.setIfInBounds_toArray, List.set_cons_zero, List.set_cons_succ]
                  refine wpAnyH_take (i := 2) (oi := { dst := some 216, op := Op.indexAddr 26 (Operand.tmp 214) (Operand.tmp 215), type := 0, pos := "law.go:240", after := #[{ on := 0, ground := Ground.data }, { on := 1, ground := Ground.data }], guard := none }) (v := ?_) rfl (by kernel_rfl) (by kernel_rfl) (by kernel_rfl) (fun _ _ _ h => h) (Or.inl ⟨by rfl, ?_⟩) ⟨rfl, rfl⟩ ?_
                  rotate_left
                  · (intro y hy; go_simp; try (with_reducible rfl))
                  simp only [Act.put, List.setIfInBounds_toArray, List.set_cons_zero, List.set_cons_succ]
                  refine wpAnyH_take (i := 3) (oi := { dst := some 217, op := Op.fieldAddr 32 (Operand.tmp 216) 0, type := 0, pos := "law.go:240", after := #[{ on := 2, ground := Ground.data }], guard := none }) (v := ?_) rfl (by kernel_rfl) (by kernel_rfl) (by kernel_rfl) (fun _ _ _ h => h) (Or.inl ⟨by rfl, ?_⟩) ⟨rfl, rfl⟩ ?_
                  rotate_left
                  · (intro y hy; go_simp; try (with_reducible rfl))
                  simp only [Act.put, List.setIfInBounds_toArray, List.set_cons_zero, List.set_cons_succ]
                  refine wpAnyH_take (i := 4) (oi := { dst := some 218, op := Op.load 3 (Operand.tmp 217), type := 3, pos := "law.go:240", after := #[{ on := 3, ground := Ground.data }], guard := none }) (v := .int .i64 T1) rfl (by kernel_rfl) (by kernel_rfl) (by kernel_rfl) (fun _ _ _ h => h) (Or.inl ⟨by rfl, ?_⟩) ⟨rfl, rfl⟩ ?_
                  · (intro y hy; have h0 := (cell_heapF hy.1 _).trans k0; go_simp)
                  simp only [Act.put, List.setIfInBounds_toArray, List.set_cons_zero, List.set_cons_succ]
                  refine wpAnyH_take (i := 5) (oi := { dst := some 219, op := Op.fieldAddr 29 (Operand.tmp 14) 1, type := 0, pos := "law.go:240", after := #[], guard := none }) (v := ?_) rfl (by kernel_rfl) (by kernel_rfl) (by kernel_rfl) (fun _ _ _ h => h) (Or.inl ⟨by rfl, ?_⟩) ⟨rfl, rfl⟩ ?_
                  rotate_left
                  · (intro y hy; go_simp; try (with_reducible rfl))
                  simp only [Act.put, List.setIfInBounds_toArray, List.set_cons_zero, List.set_cons_succ]
                  refine wpAnyH_take (i := 6) (oi := { dst := some 220, op := Op.load 3 (Operand.tmp 219), type := 3, pos := "law.go:240", after := #[{ on := 5, ground := Ground.data }], guard := none }) (v := .int .i64 T1) rfl (by kernel_rfl) (by kernel_rfl) (by kernel_rfl) (fun _ _ _ h => h) (Or.inl ⟨by rfl, ?_⟩) ⟨rfl, rfl⟩ ?_
                  · (intro y hy; have h0 := (cell_heapF hy.2 _).trans p1; go_simp)
                  simp only [Act.put, List.setIfInBounds_toArray, List.set_cons_zero, List.set_cons_succ]
                  refine wpAnyH_take (i := 7) (oi := { dst := some 221, op := Op.binOp BinOp.neq 3 (Operand.tmp 218) (Operand.tmp 220) 3, type := 4, pos := "law.go:240", after := #[{ on := 4, ground := Ground.data }, { on := 6, ground := Ground.data }], guard := none }) (v := ?_) rfl (by kernel_rfl) (by kernel_rfl) (by kernel_rfl) (fun _ _ _ h => h) (Or.inl ⟨by rfl, ?_⟩) ⟨rfl, rfl⟩ ?_
                  rotate_left
                  · (intro y hy; go_simp; try (with_reducible rfl))
                  simp only [Act.put, List.setIfInBounds_toArray, List.set_cons_zero, List.set_cons_succ]
                  refine wpAnyH_done (by kernel_rfl) ?_ _
                  go_wp2
                  go_roundw
                  case rel => exact ⟨j + 1, by omega, by go_num, by show GL _ _ _ _; rw [HTS.out, delT_snoc, if_pos rfl]; exact HGD.out⟩
                  case measure => simp [intOf]; omega
                · have hTb : (T1 != tag) = true := by simpa using hT
                  refine wp_region_held (S := (fun y => y.heap[b8]? = wx.heap[b8]? ∧ y.heap[wo.heap.size]? = wx.heap[wo.heap.size]?)) (by kernel_rfl) ?_
                  change wpAnyH _ _ _ _ _ _ _ _ (World.drew _)
                  refine wpAnyH_take (i := 0) (oi := { dst := some 214, op := Op.move (Operand.tmp 8), type := 26, pos := "law.go:240", after := #[], guard := none }) (v := ?_) rfl (by kernel_rfl) (by kernel_rfl) (by kernel_rfl) (fun _ _ _ h => h) (Or.inl ⟨by rfl, ?_⟩) ⟨rfl, rfl⟩ ?_
                  rotate_left
                  · (intro y hy; go_simp; try (with_reducible rfl))
                  simp only [Act.put, List.setIfInBounds_toArray, List.set_cons_zero, List.set_cons_succ]
                  refine wpAnyH_take (i := 1) (oi := { dst := some 215, op := Op.move (Operand.tmp 23), type := 3, pos := "law.go:240", after := #[], guard := none }) (v := ?_) rfl (by kernel_rfl) (by kernel_rfl) (by kernel_rfl) (fun _ _ _ h => h) (Or.inl ⟨by rfl, ?_⟩) ⟨rfl, rfl⟩ ?_
                  rotate_left
                  · (intro y hy; go_simp; try (with_reducible rfl))
                  simp only [Act.put, List.setIfInBounds_toArray, List.set_cons_zero, List.set_cons_succ]
                  refine wpAnyH_take (i := 2) (oi := { dst := some 216, op := Op.indexAddr 26 (Operand.tmp 214) (Operand.tmp 215), type := 0, pos := "law.go:240", after := #[{ on := 0, ground := Ground.data }, { on := 1, ground := Ground.data }], guard := none }) (v := ?_) rfl (by kernel_rfl) (by kernel_rfl) (by kernel_rfl) (fun _ _ _ h => h) (Or.inl ⟨by rfl, ?_⟩) ⟨rfl, rfl⟩ ?_
                  rotate_left
                  · (intro y hy; go_simp; try (with_reducible rfl))
                  simp only [Act.put, List.setIfInBounds_toArray, List.set_cons_zero, List.set_cons_succ]
                  refine wpAnyH_take (i := 3) (oi := { dst := some 217, op := Op.fieldAddr 32 (Operand.tmp 216) 0, type := 0, pos := "law.go:240", after := #[{ on := 2, ground := Ground.data }], guard := none }) (v := ?_) rfl (by kernel_rfl) (by kernel_rfl) (by kernel_rfl) (fun _ _ _ h => h) (Or.inl ⟨by rfl, ?_⟩) ⟨rfl, rfl⟩ ?_
                  rotate_left
                  · (intro y hy; go_simp; try (with_reducible rfl))
                  simp only [Act.put, List.setIfInBounds_toArray, List.set_cons_zero, List.set_cons_succ]
                  refine wpAnyH_take (i := 4) (oi := { dst := some 218, op := Op.load 3 (Operand.tmp 217), type := 3, pos := "law.go:240", after := #[{ on := 3, ground := Ground.data }], guard := none }) (v := .int .i64 T1) rfl (by kernel_rfl) (by kernel_rfl) (by kernel_rfl) (fun _ _ _ h => h) (Or.inl ⟨by rfl, ?_⟩) ⟨rfl, rfl⟩ ?_
                  · (intro y hy; have h0 := (cell_heapF hy.1 _).trans k0; go_simp)
                  simp only [Act.put, List.setIfInBounds_toArray, List.set_cons_zero, List.set_cons_succ]
                  refine wpAnyH_take (i := 5) (oi := { dst := some 219, op := Op.fieldAddr 29 (Operand.tmp 14) 1, type := 0, pos := "law.go:240", after := #[], guard := none }) (v := ?_) rfl (by kernel_rfl) (by kernel_rfl) (by kernel_rfl) (fun _ _ _ h => h) (Or.inl ⟨by rfl, ?_⟩) ⟨rfl, rfl⟩ ?_
                  rotate_left
                  · (intro y hy; go_simp; try (with_reducible rfl))
                  simp only [Act.put, List.setIfInBounds_toArray, List.set_cons_zero, List.set_cons_succ]
                  refine wpAnyH_take (i := 6) (oi := { dst := some 220, op := Op.load 3 (Operand.tmp 219), type := 3, pos := "law.go:240", after := #[{ on := 5, ground := Ground.data }], guard := none }) (v := .int .i64 tag) rfl (by kernel_rfl) (by kernel_rfl) (by kernel_rfl) (fun _ _ _ h => h) (Or.inl ⟨by rfl, ?_⟩) ⟨rfl, rfl⟩ ?_
                  · (intro y hy; have h0 := (cell_heapF hy.2 _).trans p1; go_simp)
                  simp only [Act.put, List.setIfInBounds_toArray, List.set_cons_zero, List.set_cons_succ]
                  refine wpAnyH_take (i := 7) (oi := { dst := some 221, op := Op.binOp BinOp.neq 3 (Operand.tmp 218) (Operand.tmp 220) 3, type := 4, pos := "law.go:240", after := #[{ on := 4, ground := Ground.data }, { on := 6, ground := Ground.data }], guard := none }) (v := ?_) rfl (by kernel_rfl) (by kernel_rfl) (by kernel_rfl) (fun _ _ _ h => h) (Or.inl ⟨by rfl, ?_⟩) ⟨rfl, rfl⟩ ?_
                  rotate_left
                  · (intro y hy; go_simp; try (with_reducible rfl))
                  simp only [Act.put, List.setIfInBounds_toArray, List.set_cons_zero, List.set_cons_succ]
                  refine wpAnyH_done (by kernel_rfl) ?_ _
                  go_wp2_with (at_builtin; refine wpList_append_lies _ rfl _ _ 26 rfl wc.heap.size 32 i1 _ 4 48 Try.underlying26 hi1 hy0 hy1 hy2 rfl (by decide) u22 mm (flat (delT (Lf.take j) tag)) rfl HGA.out ⟨wx.heap.size, 0, none⟩ 1 1 [.int .i64 T1, .bool X1, .int .u64 (U1 : Int), V1] rfl rfl (news4 wx ⟨T1, X1, U1, Y1⟩ V1 32) (one4 ⟨T1, X1, U1, Y1⟩ V1 HV1.out) (by omega) (by unfold maxLen; omega) (by omega) (by have := HGD.out.bel.size; simp at this ⊢; omega) (wx.heap.size + 1) (by simp) ?_; intro g9 cap9 z9 ho9 hg9 _ hlt9; have HG9 : Hid (GL wc z9 (.slice (some ⟨g9, 0, none⟩) (mm + 1) cap9) (delT (Lf.take j) tag ++ [(⟨T1, X1, U1, Y1⟩, V1)])) := GL.step HGD.out HMM.out ho9 (show (wx.drew.alloc (.cells #[.int .i64 T1, .bool X1, .int .u64 (U1 : Int), V1] 32)).grownBy z9 _ from hg9); clear ho9 hg9 hlt9)
                  go_roundw
                  case rel => exact ⟨j + 1, by omega, by go_num, by show GL _ _ _ _; rw [HTS.out, delT_snoc, if_neg hT]; exact HG9.out⟩
                  case measure => simp [intOf]; omega
              · obtain rfl : n8 = j := by omega
                have HZZ : Hid (GL wc wx u22 (delT Lf tag)) := by have h := HG1.out; rw [List.take_of_length_le (by rw [HN8.out]; exact Nat.le_refl _)] at h; exact h
                have HRF : Hid (RI w wx x2.heap.size q b g cap4 P' u22 (delT Lf tag) (delT L tag) (if B1 = true then 33 else 0)) := HRZ.out.left HZZ.out
                go_wp2
                go_roundw
                case rel => exact ⟨k + 1, delT Lf tag, delT L tag, B1, by omega, by go_num, rfl, HRF.out, del_two HEF.out.1 tag, by have h := HEF.out.2.del tag; rw [delF_of] at h; exact h⟩
                case measure => simp [intOf]; omega
        · subst ho1
          have HRZ : Hid (RI w wc x2.heap.size q b g cap4 P' (.slice a8 n8 c8) Lf L (if B1 = true then 33 else 0)) := by have h := HC.out.1; rw [hL1] at h; exact h
          clear HC hL1
          go_wp2
          go_roundw
          case rel => exact ⟨k + 1, Lf, L, B1, by omega, by go_num, rfl, HRZ.out, HEF.out⟩
          case measure => simp [intOf]; omega
    · obtain rfl : k = NN := by omega
      go_wp2
      go_ret
      exact ⟨rfl, HR0.out.1.st.bel⟩
theorem walk (l : List Nat) (a : Option Addr) (cap : Nat) (P : List (Pt × Value)) (pa : Option Addr) (pcap : Nat) (w : World) (hb : Bytes w a l) (hc : Came w a l.length cap 1) (hps : PsAt w pa P) (hc2 : P.length ≤ pcap ∧ pcap * 48 ≤ 140737488351232 ∧ (∀ p ∈ P, p.1.bytes.length ≤ 140737488351232) ∧ (pa = none → P.length = 0 ∧ pcap = 0)) :
    Calls Try.prog 4 #[.slice a l.length cap, .slice pa P.length pcap] w fun r w' => r = .returned (.bool true) ∧ Below w.heap.size w w' := by
  obtain ⟨h1, h2, h3⟩ := hc
  obtain ⟨g1, g2, g3, g4⟩ := hc2
  by_cases he : (recs l).2.2 = 0
  · exact way_good l a _ cap P pa _ pcap w rfl hb (by omega) (by omega) rfl hps (by omega) g4 he
  · exact way_bad l a _ cap P pa _ pcap w rfl hb (by omega) (by omega) rfl hps (by omega) g4 he
theorem own : ownKnob Try.prog.godebug = none := by kernel_rfl
theorem laidOut : laidOutB Try.prog = true := by kernel_rfl
set_option maxRecDepth 100000 in
theorem contract (H : Type) (enc : TypeId × Value → H) (W : World) (base : Nat) (args : Array Value) (ds gs : List (DataW H)) (before : List MemPlace)
    (hval : ∀ (j : Nat) t v, Try.f4.params[j]? = some t → args[j]? = some v → Value.okWide Try.prog W .any base t v)
    (hW : DataW.Whole enc Try.prog Try.f4.params.toList Rows.tlvReadsSpec.vars false W args.toList ds gs before)
    (hsz : (DataW.weightsEach Try.prog (Try.f4.params.toList ++ Rows.tlvReadsSpec.plain.varTypes Try.prog) (ds ++ gs)).all (· ≤ reachBytes) = true) :
    Calls Try.prog 4 args W fun e W' => ∃ v, e = .returned v ∧ Rows.tlvReadsSpec.post enc Try.prog Try.f4 false true false false W args v W' := by
  have hW' := hW
  obtain ⟨p, q, hA0, hV, rfl, hfz, hnd⟩ := hW
  have hA : DataW.TrodAll enc Try.prog W 0 (fun _ => true) true Try.f4.params.toList args.toList ds p := hA0
  rw [Try.params4] at hA hval hsz
  obtain ⟨v0, vs0, d0, ds0, p0, q0, hargs, rfl, rfl, h0, r0⟩ := trodAll_cons hA
  obtain ⟨v1, vs1, d1, ds1, p1, q1, rfl, rfl, rfl, h1, r1⟩ := trodAll_cons r0
  obtain ⟨rfl, rfl, rfl⟩ := trodAll_nil r1
  obtain rfl : args = #[v0, v1] := by cases args; simp_all
  obtain ⟨rfl, rfl⟩ := trodVars_none hV
  obtain ⟨a0, len0, cap0, rfl⟩ := okWide_slice Try.underlying27 (hval 0 27 v0 rfl rfl)
  have k0 := h0
  have lt0 : ∀ x ∈ p0, x.block < W.heap.size := by obtain ⟨m, hm⟩ := k0; exact DataW.trod_lt m _ _ _ hm
  obtain ⟨l0, hlen0, w0, c0⟩ : ∃ l : List Nat, l.length = len0 ∧ Bytes W a0 l ∧ Came W a0 len0 cap0 1 := by
    obtain ⟨fuel, hf⟩ := h0
    rcases open_ints Try.underlying27 Try.underlying5 (by kernel_rfl) hf with ⟨hcs, hx⟩ | ⟨x, l, c, zs, hcs, _, hl, hm, hz, hx, hcell, hwz⟩
    · simp [Value.cells] at hcs
      obtain ⟨rfl, rfl, rfl⟩ := hcs
      exact ⟨[], rfl, ⟨by simp, .inl rfl⟩, ⟨Nat.le_refl _, by simp, fun _ => rfl⟩⟩
    · simp [Value.cells] at hcs
      obtain ⟨rfl, rfl, rfl⟩ := hcs
      have hz2 : zs.length = cap0 := by simpa using hz
      obtain ⟨ll, e1, e2, e3⟩ := row_nats .u8 256 (by decide) wf_u8 W x zs len0 (by omega) hcell hwz
      have hd : d0 = .slice (lits .u8 (zs.take len0)) (lits .u8 (zs.drop len0)) := (Prod.mk.inj hx).1
      have hreach : cap0 * 1 ≤ 140737488351232 := by
        have := sized_slice hsz (j := 0) (t := 27) (e := 5) rfl (by rw [hd]; rfl) Try.underlying27
        rw [show Try.prog.bytesOf 5 = 1 from by kernel_rfl] at this
        simp only [lits, List.length_map, List.length_take, List.length_drop, reachBytes] at this
        have hmin : min len0 zs.length = len0 := Nat.min_eq_left (by omega)
        rw [hmin] at this
        have hcap : len0 + (zs.length - len0) = cap0 := by omega
        rw [hcap] at this
        exact this
      exact ⟨ll, e1, ⟨e2, e3⟩, ⟨hl, hreach, fun h => by cases h⟩⟩
  subst hlen0
  obtain ⟨a1, len1, cap1, rfl⟩ := okWide_slice Try.underlying22 (hval 1 22 v1 rfl rfl)
  have k1 := h1
  have lt1 : ∀ x ∈ p1, x.block < W.heap.size := by obtain ⟨m, hm⟩ := k1; exact DataW.trod_lt m _ _ _ hm
  obtain ⟨l1, hlen1, w1, c1⟩ : ∃ L : List (Pt × Value), L.length = len1 ∧ PsAt W a1 L ∧ (len1 ≤ cap1 ∧ cap1 * 48 ≤ 140737488351232 ∧ (∀ p ∈ L, p.1.bytes.length ≤ 140737488351232) ∧ (a1 = none → len1 = 0 ∧ cap1 = 0)) := by
    obtain ⟨fuel, hf⟩ := h1
    rcases open_puts hf with ⟨hcs, hx⟩ | ⟨x, l, c, L, D, hcs, hl, hm, hLl, hfs, hx, hD⟩
    · simp [Value.cells] at hcs
      obtain ⟨rfl, rfl, rfl⟩ := hcs
      exact ⟨[], rfl, ⟨.inl rfl, fun p hp => by cases hp⟩, Nat.le_refl _, by simp, fun p hp => (by cases hp), fun _ => ⟨rfl, rfl⟩⟩
    · simp [Value.cells] at hcs
      obtain ⟨rfl, rfl, rfl⟩ := hcs
      have hd : d1 = _ := hx
      obtain ⟨s1, s2⟩ := sized_puts hsz (j := 1) rfl (by rw [hd]; rfl) hl hLl hD
      exact ⟨L, hLl, hfs, hl, s1, s2, fun h => by cases h⟩
  subst hlen1
  clear hA0
  refine (walk l0 a0 cap0 l1 a1 cap1 W w0 c0 w1 c1).mono fun e W' ⟨he, bel⟩ => ?_
  subst he
  exact ⟨_, rfl, _, _, _, [], _, [], hW', trodAll_mk1 (shut_bool Try.underlying4 _), (trodAll_cons_mk (Below.trod laidOut (by kernel_rfl) (of_decide_eq_true (by kernel_rfl)) k0 bel lt0) (trodAll_cons_mk (Below.trod laidOut (by kernel_rfl) (of_decide_eq_true (by kernel_rfl)) k1 bel lt1) trodAll_mk0)), rfl, bel.frame _, fun h => by cases h⟩
set_option maxRecDepth 100000 in
theorem lifted (os : Os) (started : os.Started) (H : Type) (enc : TypeId × Value → H) :
    ReturnsInHanded {} Try.checked os 4 .any (Rows.tlvReadsSpec.pre6 enc Try.prog Try.f4 Rows.tlvReadsRow.domain false) (Rows.tlvReadsSpec.post enc Try.prog Try.f4 false true false false) := by
  refine returnsInHanded_of_change_sized (C := Try.checked) own started (by kernel_rfl) Try.func4
    (ChangeSpec.witness6 (enc := enc) (C := Try.checked) false ⟨#[], #[.slice none 0 0, .slice none 0 0], []⟩ 8 (by kernel_rfl) (by kernel_rfl) (by kernel_rfl) (by kernel_rfl)) ?_
  intro W base args ds gs before hval hW _ hsz _
  exact contract H enc W base args ds gs before hval hW hsz
theorem over : Rows.tlvReadsRow.holds Try.pinned (OpenSpec.ofChange Rows.tlvReadsSpec) :=
  OpenClaim.holds_of_wide 4 Try.f4 rfl rfl rfl rfl rfl rfl rfl ⟨rfl, rfl, rfl, rfl, rfl⟩ rfl rfl rfl rfl rfl (by kernel_rfl) Try.func4 (by kernel_rfl)
    (of_decide_eq_true (by kernel_rfl)) (by unfold Func.isWrapper; first | (rw [if_pos (by decide +kernel)]; kernel_rfl) | (rw [if_neg (by decide +kernel)]; exact ⟨rfl, rfl⟩))
    (fun os started H enc _ => lifted os started H enc)
theorem proved : Rows.TlvReadsSaid := over
end Go.Proofs.Ytbdgiecnhgiogaa.tlvReads
