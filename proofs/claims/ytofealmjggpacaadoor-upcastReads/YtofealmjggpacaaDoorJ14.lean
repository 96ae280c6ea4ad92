/- Own texts, joined: Sd7, Sd8. -/
import Derived.Test.YtofealmjggpacaaDoorJ32
namespace Go.Proofs.YtofealmjggpacaaDoor
open Go.ChangeShapes Go.WideShapes Go.ChangeAt Go.RowKit
set_option linter.unusedVariables false
theorem Tk.poke {w1 x y : World} {base q b : Nat} {L : List (Fld × Value)} {ts : List (Int × Bool)} (h : Tk w1 x base q b L ts) {k : Nat} {e : Ev} (he : EvAt x k e) (hk : w1.heap.size ≤ k) (ho : y.os = x.os ∧ y.tape = x.tape ∧ y.output = x.output) (hj : ∀ j, j ≠ k → y.heap[j]? = x.heap[j]?) (hs : y.heap.size = x.heap.size) : Tk w1 y base q b L ts := by
  obtain ⟨n, D, hm, hr⟩ := h.rd.map
  obtain ⟨es, c, hbm⟩ := map_blk hm
  have hqk : q ≠ k := by
    intro hh
    have h1 := h.rd.blk
    unfold EvAt at he
    rw [hh, he] at h1
    cases h1
  have hbk : b ≠ k := by
    intro hh
    unfold EvAt at he
    rw [hh, he] at hbm
    cases hbm
  refine ⟨⟨(hj q hqk).trans h.rd.blk, ⟨n, D, owns_same hm (hj b hbk), hr⟩, fun p hp => own_other (h.rd.byt p hp) (x := k) (y := k) (fun c hc => ?_) (fun c hc => ?_) (fun j _ j2 _ => hj j j2)⟩, ⟨ho.1.trans h.kep.os, ho.2.1.trans h.kep.tape, ho.2.2.trans h.kep.output, by rw [hs]; exact h.kep.size, fun j j1 j2 j3 => (hj j (by omega)).trans (h.kep.block j j1 j2 j3)⟩⟩
  · unfold EvAt at he; rw [he] at hc; cases hc
  · unfold EvAt at he; rw [he] at hc; cases hc
/-- while schema.Decode reads: the reader, the answer's block (nought), nothing older has turned -/
structure Dv (w w3 x : World) (base q b : Nat) (L : List (Fld × Value)) (ts : List (Int × Bool)) : Prop where
  tk : Tk w3 x base q b L ts
  res : EvAt x w.heap.size zeroE
  bel : Below w.heap.size w x
  lts : w.heap.size < q ∧ w.heap.size < b ∧ w.heap.size < w3.heap.size
theorem Dv.step {w w3 x y : World} {base q b : Nat} {L : List (Fld × Value)} {ts ts' : List (Int × Bool)} (h : Dv w w3 x base q b L ts) (ht : Tk w3 y base q b L ts') (hk : Kept q b x y) : Dv w w3 y base q b L ts' := by
  obtain ⟨l1, l2, l3⟩ := h.lts
  exact ⟨ht, h.res.kept hk (by omega) (by omega), ⟨hk.os.trans h.bel.os, hk.tape.trans h.bel.tape, hk.output.trans h.bel.output, Nat.le_trans h.bel.size hk.size, fun j hj => (hk.block j (Nat.lt_of_lt_of_le hj h.bel.size) (by omega) (by omega)).trans (h.bel.block j hj)⟩, l1, l2, l3⟩
theorem Dv.keep {w w3 x y : World} {base q b : Nat} {L : List (Fld × Value)} {ts : List (Int × Bool)} (h : Dv w w3 x base q b L ts) (hb : Below x.heap.size x y) : Dv w w3 y base q b L ts :=
  h.step (h.tk.keep hb) (Kept.of_bel hb)
theorem Dv.poke {w w3 x y : World} {base q b : Nat} {L : List (Fld × Value)} {ts : List (Int × Bool)} (h : Dv w w3 x base q b L ts) {k : Nat} {e : Ev} (he : EvAt x k e) (hk : w3.heap.size ≤ k) (ho : y.os = x.os ∧ y.tape = x.tape ∧ y.output = x.output) (hj : ∀ j, j ≠ k → y.heap[j]? = x.heap[j]?) (hs : y.heap.size = x.heap.size) : Dv w w3 y base q b L ts := by
  obtain ⟨l1, l2, l3⟩ := h.lts
  exact ⟨h.tk.poke he hk ho hj hs, (hj _ (by omega)).trans h.res, ⟨ho.1.trans h.bel.os, ho.2.1.trans h.bel.tape, ho.2.2.trans h.bel.output, by rw [hs]; exact h.bel.size, fun j hjj => (hj j (by omega)).trans (h.bel.block j hjj)⟩, l1, l2, l3⟩
theorem Dv.fin {w x y : World} (h : Below w.heap.size w x) {e2 : Ev} (hs : ∀ B a, Below B a x → B ≤ w.heap.size → Below B a y) : Below w.heap.size w y := hs _ _ h (Nat.le_refl _)
/-- what schema.Decode answers, given what the version takes -/
def sdR (v : Int) (ev : List Fld → Ev) (Q : List Fld → Int) (tgs : List (Int × Bool)) (l : List Nat) : Ev × Int :=
  if (recs l).2.2 ≠ 0 then (zeroE, (recs l).2.2)
  else if errR (tkF (recs l).1 tgs) (tkE (recs l).1 tgs) ≠ 0 then (zeroE, errR (tkF (recs l).1 tgs) (tkE (recs l).1 tgs))
  else if chk v { ev (recs l).1 with qty := Q (recs l).1 } ≠ 0 then (zeroE, chk v { ev (recs l).1 with qty := Q (recs l).1 })
  else ({ ev (recs l).1 with qty := Q (recs l).1 }, 0)
theorem sd_no (v : Int) (a : Option Addr) (n cap : Nat) (w : World) (hv : v < 1 ∨ 5 < v) :
    Calls Tryd.prog 33 #[.int .i64 v, .slice a n cap] w fun r w' => r = .returned (.tuple #[.agg (evA zeroE), .int .i64 30]) ∧ Below w.heap.size w w' := by
  have HV : Hid (_) := hv
  have HA : Hid (EvAt (w.alloc (.cells (evA zeroE) 25)) w.heap.size zeroE) := evAt_new w zeroE
  have HAB : Hid (Below w.heap.size w (w.alloc (.cells (evA zeroE) 25))) := (Below.refl _ _).alloc (Nat.le_refl _) _
  clear hv
  go_enter Tryd.func33, Tryd.ntmps33
  go_wp2_with (first
    | (go_at_call 64; refine (find_no v _ HV.out).mono ?_; rintro _ w2 ⟨rfl, rfl⟩)
    | ((with_reducible refine guard_store 25 ?_); refine wpList_store_ev (e := zeroE) (e2 := zeroE) rfl _ _ rfl HA.out rfl rfl ?_; intro x5 z1 z2 z3 z4))
  exact bodyPost_ret (results_ev rfl _ _ _ _ _ rfl rfl z1) rfl ⟨rfl, z2 _ _ HAB.out (Nat.le_refl _)⟩
set_option maxRecDepth 20000 in
set_option maxHeartbeats 1000000 in
theorem sd_bad (v : Int) (T : Nat) (V : Value) (l : List Nat) (a : Option Addr) (n cap : Nat) (w : World) (hn : l.length = n) (hb : Bytes w a l) (hcap : n ≤ cap) (hm : n ≤ maxLen) (hv1 : 1 ≤ v) (hv5 : v ≤ 5) (hver : verV v = .iface T V) (he : (recs l).2.2 ≠ 0) :
    Calls Tryd.prog 33 #[.int .i64 v, .slice a n cap] w fun r w' => r = .returned (.tuple #[.agg (evA zeroE), .int .i64 ((recs l).2.2 : Int)]) ∧ Below w.heap.size w w' := by
  have HV : Hid (1 ≤ v ∧ v ≤ 5) := ⟨hv1, hv5⟩
  have HVR : Hid (_) := hver
  have HN : Hid (_) := hn
  have HE : Hid (_) := he
  have HA : Hid (EvAt (w.alloc (.cells (evA zeroE) 25)) w.heap.size zeroE) := evAt_new w zeroE
  have hAB : Below w.heap.size w (w.alloc (.cells (evA zeroE) 25)) := (Below.refl _ _).alloc (Nat.le_refl _) _
  have HAB : Hid (Below w.heap.size w (w.alloc (.cells (evA zeroE) 25))) := hAB
  have HBY : Hid (Bytes (w.alloc (.cells (evA zeroE) 25)) a l) := hb.keep hAB
  obtain ⟨e, hE⟩ : ∃ e, (recs l).2.2 = e := ⟨_, rfl⟩
  have HEE : Hid (_) := hE
  rw [hE] at he ⊢
  have heb : ((e : Int) != 0) = true := by simp; omega
  have heb2 : ¬ (e : Int) = 0 := by omega
  clear hn hb hAB hv1 hv5 hver he hE
  go_enter Tryd.func33, Tryd.ntmps33
  go_wp2_with (first
    | (go_at_call 64; refine (find_yes v _ HV.out.1 HV.out.2).mono ?_; rw [HVR.out]; rintro _ w2 ⟨rfl, rfl⟩)
    | (go_at_call 65; refine (newr_bad l a n cap _ HN.out HBY.out hcap hm HE.out).mono ?_; rw [HEE.out]; rintro r w3 ⟨rfl, hb3⟩; have HB3 : Hid (Below w.heap.size w w3) := below_next HAB.out hb3; have HA3 : Hid (EvAt w3 w.heap.size zeroE) := HA.out.after hb3; clear hb3)
    | ((with_reducible refine guard_store 25 ?_); refine wpList_store_ev (e := zeroE) (e2 := zeroE) rfl _ _ rfl HA3.out rfl rfl ?_; intro x5 z1 z2 z3 z4))
  exact bodyPost_ret (results_ev rfl _ _ _ _ _ rfl rfl z1) rfl ⟨rfl, z2 _ _ HB3.out (Nat.le_refl _)⟩
theorem tk_ne_q {w1 x : World} {base q b : Nat} {L : List (Fld × Value)} {ts : List (Int × Bool)} (h : Tk w1 x base q b L ts) {k : Nat} {e : Ev} (he : EvAt x k e) : k ≠ q := by
  intro hh
  have h1 := h.rd.blk
  unfold EvAt at he
  rw [← hh, he] at h1
  cases h1
theorem tk_ne_b {w1 x : World} {base q b : Nat} {L : List (Fld × Value)} {ts : List (Int × Bool)} (h : Tk w1 x base q b L ts) {k : Nat} {e : Ev} (he : EvAt x k e) : k ≠ b := by
  intro hh
  obtain ⟨n, D, hm, hr⟩ := h.rd.map
  obtain ⟨es, c, hbm⟩ := map_blk hm
  unfold EvAt at he
  rw [← hh, he] at hbm
  cases hbm
theorem tk_start {w3 : World} {base q b : Nat} {L : List (Fld × Value)} (h : RdAt w3 base q b L 0) : Tk w3 w3 base q b L [] := ⟨h, Kept.refl _ _ _⟩
set_option maxRecDepth 20000 in
set_option maxHeartbeats 2000000 in
theorem sd_ok (v : Int) (T ft fq : Nat) (V V1 V2 : Value) (ev : List Fld → Ev) (Q : List Fld → Int) (tg : List (Int × Bool)) (l : List Nat) (a : Option Addr) (n cap : Nat) (w : World) (hn : l.length = n) (hb : Bytes w a l) (hcap : n ≤ cap) (hm : n ≤ maxLen) (hv1 : 1 ≤ v) (hv5 : v ≤ 5) (hver : verV v = .iface T V)
    (hmt : ∀ w, (method 320 T V "daybook/schema.take").run Tryd.prog w = .ok (ft, V1) w) (hmq : ∀ w, (method 320 T V "daybook/schema.takeQty").run Tryd.prog w = .ok (fq, V2) w) (hct : ∀ (a : Array Value) (w : World), (callFunc ft a).run Tryd.prog w = .ok (.enter ft a) w) (hcq : ∀ (a : Array Value) (w : World), (callFunc fq a).run Tryd.prog w = .ok (.enter fq a) w)
    (htake : ∀ (w1 w2 : World) (base q b : Nat) (L : List (Fld × Value)), Tk w1 w2 base q b L [] → Calls Tryd.prog ft #[V1, .pointer (some ⟨q, 0, none⟩)] w2 fun r w3 => r = .returned (.agg (evA (ev (L.map Prod.fst)))) ∧ Tk w1 w3 base q b L tg ∧ Kept q b w2 w3)
    (hqty : ∀ (w1 w2 : World) (base q b : Nat) (L : List (Fld × Value)), Tk w1 w2 base q b L tg → (∀ f ∈ L.map Prod.fst, FRight f) → Calls Tryd.prog fq #[V2, .pointer (some ⟨q, 0, none⟩)] w2 fun r w3 => r = .returned (.int .i64 (Q (L.map Prod.fst))) ∧ Tk w1 w3 base q b L (tg ++ [(4, false)]) ∧ Kept q b w2 w3) (he : (recs l).2.2 = 0) :
    Calls Tryd.prog 33 #[.int .i64 v, .slice a n cap] w fun r w' => r = .returned (.tuple #[.agg (evA (sdR v ev Q (tg ++ [(4, false)]) l).1), .int .i64 (sdR v ev Q (tg ++ [(4, false)]) l).2]) ∧ Below w.heap.size w w' := by
  have hl : ∀ x ∈ l, x < 256 := by
    intro x hx
    obtain ⟨i, hi, rfl⟩ := List.mem_iff_getElem.1 hx
    have := hb.1 i
    simpa [List.getD_eq_getElem?_getD, hi] using this
  have HFR : Hid (∀ f ∈ (recs l).1, FRight f) := (recs_ok l hl he).2.2.1
  have HV : Hid (1 ≤ v ∧ v ≤ 5) := ⟨hv1, hv5⟩
  have HVR : Hid (_) := hver
  have HN : Hid (_) := hn
  have HE : Hid (_) := he
  have HTK : Hid (_) := htake
  have HQT : Hid (_) := hqty
  have HA : Hid (EvAt (w.alloc (.cells (evA zeroE) 25)) w.heap.size zeroE) := evAt_new w zeroE
  have hAB : Below w.heap.size w (w.alloc (.cells (evA zeroE) 25)) := (Below.refl _ _).alloc (Nat.le_refl _) _
  have HAB : Hid (Below w.heap.size w (w.alloc (.cells (evA zeroE) 25))) := hAB
  have HBY : Hid (Bytes (w.alloc (.cells (evA zeroE) 25)) a l) := hb.keep hAB
  obtain ⟨er, hER⟩ : ∃ er, errR (tkF (recs l).1 (tg ++ [(4, false)])) (tkE (recs l).1 (tg ++ [(4, false)])) = er := ⟨_, rfl⟩
  obtain ⟨E1, hE1⟩ : ∃ E1, ev (recs l).1 = E1 := ⟨_, rfl⟩
  obtain ⟨QQ, hQQ⟩ : ∃ QQ, Q (recs l).1 = QQ := ⟨_, rfl⟩
  obtain ⟨cc, hCC⟩ : ∃ cc, chk v { E1 with qty := QQ } = cc := ⟨_, rfl⟩
  have HSD : Hid (sdR v ev Q (tg ++ [(4, false)]) l = if er ≠ 0 then (zeroE, (er : Int)) else if cc ≠ 0 then (zeroE, cc) else ({ E1 with qty := QQ }, 0)) := by
    show _ = _
    unfold sdR
    rw [if_neg (by rw [he]; simp), hER, hE1, hQQ, hCC]
  have HER : Hid (_) := hER
  have HE1 : Hid (_) := hE1
  have HQQ : Hid (_) := hQQ
  have HCC : Hid (_) := hCC
  have HLT : Hid (w.heap.size < (w.alloc (.cells (evA zeroE) 25)).heap.size) := by show _ < _; simp
  clear hn hb hAB hv1 hv5 hver he hER hE1 hQQ hCC htake hqty hl
  have T1 : Hid True := trivial
  by_cases he0 : er = 0
  · by_cases hc0 : cc = 0
    · subst he0
      subst hc0
      have HR : Hid (sdR v ev Q (tg ++ [(4, false)]) l = ({ E1 with qty := QQ }, 0)) := by show _ = _; rw [HSD.out]; rfl
      clear HSD
      go_enter Tryd.func33, Tryd.ntmps33
      go_wp2_with (first
        | (go_at_call 64; refine (find_yes v _ HV.out.1 HV.out.2).mono ?_; rw [HVR.out]; rintro _ w2 ⟨rfl, rfl⟩)
        | (go_at_call 65; refine (newr_ok l a n cap _ HN.out HBY.out hcap hm HE.out).mono ?_; rintro r w3 ⟨hb3, q, b, L, rfl, hL, hR, hq, hbb⟩; have hqx : w.heap.size < q := Nat.lt_of_lt_of_le HLT.out hq; have hbx : w.heap.size < b := Nat.lt_of_lt_of_le HLT.out hbb; have hd : Dv w w3 w3 _ q b L [] := ⟨tk_start hR, HA.out.after hb3, below_next HAB.out hb3, hqx, hbx, Nat.lt_of_lt_of_le HLT.out hb3.size⟩; have HD : Hid (_) := hd; have HL : Hid (_) := hL; clear hb3 hL hR hq hbb hd hqx hbx)
        | ((with_reducible refine (HTK.out w3 _ _ q b L (Dv.tk HD.out)).mono ?_); rw [HL.out, HE1.out]; rintro r x1 ⟨rfl, h1, h2⟩; have hd := Dv.step HD.out h1 h2; have HX1 : Hid (w3.heap.size ≤ x1.heap.size) := h2.size; clear HD h1 h2; have hd2 := hd.keep ((Below.refl x1.heap.size x1).alloc (Nat.le_refl _) (.cells (evA zeroE) 25)); have HD : Hid (_) := hd2; clear hd hd2)
        | ((with_reducible refine guard_store 25 ?_); clear T1; refine wpList_store_ev (e := zeroE) (e2 := E1) rfl _ _ rfl (evAt_new x1 zeroE) rfl rfl ?_; intro x2 z1 z2 z3 z4; have hd := Dv.poke HD.out (evAt_new x1 zeroE) HX1.out (os_of z2) z3 z4; clear HD z2 z3 z4; have HD : Hid (_) := hd; have HEV : Hid (EvAt x2 x1.heap.size E1) := z1; clear hd z1)
        | ((with_reducible refine (HQT.out w3 _ _ q b L (Dv.tk HD.out) (by rw [HL.out]; exact HFR.out)).mono ?_); rw [HL.out, HQQ.out]; rintro r x3 ⟨rfl, h1, h2⟩; have hd := Dv.step HD.out h1 h2; have he3 : EvAt x3 x1.heap.size E1 := HEV.out.kept h2 (tk_ne_q HD.out.tk HEV.out) (tk_ne_b HD.out.tk HEV.out); have f0 := he3.froz 3; have f1 := he3.cells.2.2.2.1; have hp := hd.poke (y := x3.setCell ⟨x1.heap.size, 3, none⟩ (.int .i64 QQ)) he3 HX1.out ⟨rfl, rfl, rfl⟩ (fun jj hj => heap_setCell_other x3 ⟨x1.heap.size, 3, none⟩ jj _ hj) (by simp); have hes : EvAt (x3.setCell ⟨x1.heap.size, 3, none⟩ (.int .i64 QQ)) x1.heap.size { E1 with qty := QQ } := he3.set _ rfl; clear HD HEV h1 h2 hd he3; have HD : Hid (_) := hp; have HEV : Hid (_) := hes; clear hp hes)
        | (go_at_call 66; refine (rerr_any _ _ q b _ _ (Dv.tk HD.out).rd).mono ?_; rw [tkF_of, HL.out, HER.out]; rintro r x4 ⟨rfl, rfl⟩)
        | ((with_reducible refine guard_load 25 ?_); refine wpList_load_ev (e := { E1 with qty := QQ }) rfl _ rfl HEV.out rfl ?_)
        | (go_at_call 34; refine (check_ev v { E1 with qty := QQ } _).mono ?_; rw [HCC.out]; rintro r x6 ⟨rfl, hb6⟩; have hd := Dv.keep HD.out hb6; have he6 : EvAt x6 x1.heap.size { E1 with qty := QQ } := EvAt.after HEV.out hb6; clear HD HEV hb6; have HD : Hid (_) := hd; have HEV : Hid (_) := he6; clear hd he6)
        | ((with_reducible refine guard_store 25 ?_); refine wpList_store_ev (e := zeroE) (e2 := { E1 with qty := QQ }) rfl _ _ rfl (Dv.res HD.out) rfl rfl ?_; intro x5 z1 z2 z3 z4))
      rw [HR.out]
      exact bodyPost_ret (results_ev rfl _ _ _ _ _ rfl rfl z1) rfl ⟨rfl, z2 _ _ HD.out.bel (Nat.le_refl _)⟩
    · subst he0
      have HR : Hid (sdR v ev Q (tg ++ [(4, false)]) l = (zeroE, cc)) := by show _ = _; rw [HSD.out, if_neg (by simp), if_pos hc0]
      have heb : (cc != 0) = true := by simpa using hc0
      clear HSD
      go_enter Tryd.func33, Tryd.ntmps33
      go_wp2_with (first
        | (go_at_call 64; refine (find_yes v _ HV.out.1 HV.out.2).mono ?_; rw [HVR.out]; rintro _ w2 ⟨rfl, rfl⟩)
        | (go_at_call 65; refine (newr_ok l a n cap _ HN.out HBY.out hcap hm HE.out).mono ?_; rintro r w3 ⟨hb3, q, b, L, rfl, hL, hR, hq, hbb⟩; have hqx : w.heap.size < q := Nat.lt_of_lt_of_le HLT.out hq; have hbx : w.heap.size < b := Nat.lt_of_lt_of_le HLT.out hbb; have hd : Dv w w3 w3 _ q b L [] := ⟨tk_start hR, HA.out.after hb3, below_next HAB.out hb3, hqx, hbx, Nat.lt_of_lt_of_le HLT.out hb3.size⟩; have HD : Hid (_) := hd; have HL : Hid (_) := hL; clear hb3 hL hR hq hbb hd hqx hbx)
        | ((with_reducible refine (HTK.out w3 _ _ q b L (Dv.tk HD.out)).mono ?_); rw [HL.out, HE1.out]; rintro r x1 ⟨rfl, h1, h2⟩; have hd := Dv.step HD.out h1 h2; have HX1 : Hid (w3.heap.size ≤ x1.heap.size) := h2.size; clear HD h1 h2; have hd2 := hd.keep ((Below.refl x1.heap.size x1).alloc (Nat.le_refl _) (.cells (evA zeroE) 25)); have HD : Hid (_) := hd2; clear hd hd2)
        | ((with_reducible refine guard_store 25 ?_); clear T1; refine wpList_store_ev (e := zeroE) (e2 := E1) rfl _ _ rfl (evAt_new x1 zeroE) rfl rfl ?_; intro x2 z1 z2 z3 z4; have hd := Dv.poke HD.out (evAt_new x1 zeroE) HX1.out (os_of z2) z3 z4; clear HD z2 z3 z4; have HD : Hid (_) := hd; have HEV : Hid (EvAt x2 x1.heap.size E1) := z1; clear hd z1)
        | ((with_reducible refine (HQT.out w3 _ _ q b L (Dv.tk HD.out) (by rw [HL.out]; exact HFR.out)).mono ?_); rw [HL.out, HQQ.out]; rintro r x3 ⟨rfl, h1, h2⟩; have hd := Dv.step HD.out h1 h2; have he3 : EvAt x3 x1.heap.size E1 := HEV.out.kept h2 (tk_ne_q HD.out.tk HEV.out) (tk_ne_b HD.out.tk HEV.out); have f0 := he3.froz 3; have f1 := he3.cells.2.2.2.1; have hp := hd.poke (y := x3.setCell ⟨x1.heap.size, 3, none⟩ (.int .i64 QQ)) he3 HX1.out ⟨rfl, rfl, rfl⟩ (fun jj hj => heap_setCell_other x3 ⟨x1.heap.size, 3, none⟩ jj _ hj) (by simp); have hes : EvAt (x3.setCell ⟨x1.heap.size, 3, none⟩ (.int .i64 QQ)) x1.heap.size { E1 with qty := QQ } := he3.set _ rfl; clear HD HEV h1 h2 hd he3; have HD : Hid (_) := hp; have HEV : Hid (_) := hes; clear hp hes)
        | (go_at_call 66; refine (rerr_any _ _ q b _ _ (Dv.tk HD.out).rd).mono ?_; rw [tkF_of, HL.out, HER.out]; rintro r x4 ⟨rfl, rfl⟩)
        | ((with_reducible refine guard_load 25 ?_); refine wpList_load_ev (e := { E1 with qty := QQ }) rfl _ rfl HEV.out rfl ?_)
        | (go_at_call 34; refine (check_ev v { E1 with qty := QQ } _).mono ?_; rw [HCC.out]; rintro r x6 ⟨rfl, hb6⟩; have hd := Dv.keep HD.out hb6; have he6 : EvAt x6 x1.heap.size { E1 with qty := QQ } := EvAt.after HEV.out hb6; clear HD HEV hb6; have HD : Hid (_) := hd; have HEV : Hid (_) := he6; clear hd he6)
        | ((with_reducible refine guard_store 25 ?_); refine wpList_store_ev (e := zeroE) (e2 := zeroE) rfl _ _ rfl (Dv.res HD.out) rfl rfl ?_; intro x5 z1 z2 z3 z4))
      rw [HR.out]
      exact bodyPost_ret (results_ev rfl _ _ _ _ _ rfl rfl z1) rfl ⟨rfl, z2 _ _ HD.out.bel (Nat.le_refl _)⟩
  · have HR : Hid (sdR v ev Q (tg ++ [(4, false)]) l = (zeroE, (er : Int))) := by show _ = _; rw [HSD.out, if_pos he0]
    have heb : ((er : Int) != 0) = true := by simp; omega
    have heb2 : ¬ (er : Int) = 0 := by omega
    clear he0 HSD
    go_enter Tryd.func33, Tryd.ntmps33
    go_wp2_with (first
      | (go_at_call 64; refine (find_yes v _ HV.out.1 HV.out.2).mono ?_; rw [HVR.out]; rintro _ w2 ⟨rfl, rfl⟩)
      | (go_at_call 65; refine (newr_ok l a n cap _ HN.out HBY.out hcap hm HE.out).mono ?_; rintro r w3 ⟨hb3, q, b, L, rfl, hL, hR, hq, hbb⟩; have hqx : w.heap.size < q := Nat.lt_of_lt_of_le HLT.out hq; have hbx : w.heap.size < b := Nat.lt_of_lt_of_le HLT.out hbb; have hd : Dv w w3 w3 _ q b L [] := ⟨tk_start hR, HA.out.after hb3, below_next HAB.out hb3, hqx, hbx, Nat.lt_of_lt_of_le HLT.out hb3.size⟩; have HD : Hid (_) := hd; have HL : Hid (_) := hL; clear hb3 hL hR hq hbb hd hqx hbx)
      | ((with_reducible refine (HTK.out w3 _ _ q b L (Dv.tk HD.out)).mono ?_); rw [HL.out, HE1.out]; rintro r x1 ⟨rfl, h1, h2⟩; have hd := Dv.step HD.out h1 h2; have HX1 : Hid (w3.heap.size ≤ x1.heap.size) := h2.size; clear HD h1 h2; have hd2 := hd.keep ((Below.refl x1.heap.size x1).alloc (Nat.le_refl _) (.cells (evA zeroE) 25)); have HD : Hid (_) := hd2; clear hd hd2)
      | ((with_reducible refine guard_store 25 ?_); clear T1; refine wpList_store_ev (e := zeroE) (e2 := E1) rfl _ _ rfl (evAt_new x1 zeroE) rfl rfl ?_; intro x2 z1 z2 z3 z4; have hd := Dv.poke HD.out (evAt_new x1 zeroE) HX1.out (os_of z2) z3 z4; clear HD z2 z3 z4; have HD : Hid (_) := hd; have HEV : Hid (EvAt x2 x1.heap.size E1) := z1; clear hd z1)
      | ((with_reducible refine (HQT.out w3 _ _ q b L (Dv.tk HD.out) (by rw [HL.out]; exact HFR.out)).mono ?_); rw [HL.out, HQQ.out]; rintro r x3 ⟨rfl, h1, h2⟩; have hd := Dv.step HD.out h1 h2; have he3 : EvAt x3 x1.heap.size E1 := HEV.out.kept h2 (tk_ne_q HD.out.tk HEV.out) (tk_ne_b HD.out.tk HEV.out); have f0 := he3.froz 3; have f1 := he3.cells.2.2.2.1; have hp := hd.poke (y := x3.setCell ⟨x1.heap.size, 3, none⟩ (.int .i64 QQ)) he3 HX1.out ⟨rfl, rfl, rfl⟩ (fun jj hj => heap_setCell_other x3 ⟨x1.heap.size, 3, none⟩ jj _ hj) (by simp); have hes : EvAt (x3.setCell ⟨x1.heap.size, 3, none⟩ (.int .i64 QQ)) x1.heap.size { E1 with qty := QQ } := he3.set _ rfl; clear HD HEV h1 h2 hd he3; have HD : Hid (_) := hp; have HEV : Hid (_) := hes; clear hp hes)
      | (go_at_call 66; refine (rerr_any _ _ q b _ _ (Dv.tk HD.out).rd).mono ?_; rw [tkF_of, HL.out, HER.out]; rintro r x4 ⟨rfl, rfl⟩)
      | ((with_reducible refine guard_store 25 ?_); refine wpList_store_ev (e := zeroE) (e2 := zeroE) rfl _ _ rfl (Dv.res HD.out) rfl rfl ?_; intro x5 z1 z2 z3 z4))
    rw [HR.out]
    exact bodyPost_ret (results_ev rfl _ _ _ _ _ rfl rfl z1) rfl ⟨rfl, z2 _ _ HD.out.bel (Nat.le_refl _)⟩
end Go.Proofs.YtofealmjggpacaaDoor
namespace Go.Proofs.YtofealmjggpacaaDoor
open Go.ChangeShapes Go.WideShapes Go.ChangeAt Go.RowKit
set_option linter.unusedVariables false
theorem m_take1 (w : World) : (method 320 159 (.agg #[.int .i64 0, .int .i64 0, .int .i64 0, .int .i64 0, .int .i64 0]) "daybook/schema.take").run Tryd.prog w = .ok (134, .agg #[.int .i64 0, .int .i64 0, .int .i64 0, .int .i64 0, .int .i64 0]) w := by kernel_rfl
theorem cf_take1 (a : Array Value) (w : World) : (callFunc 134 a).run Tryd.prog w = .ok (.enter 134 a) w := by kernel_rfl
theorem m_takeq1 (w : World) : (method 320 159 (.agg #[.int .i64 0, .int .i64 0, .int .i64 0, .int .i64 0, .int .i64 0]) "daybook/schema.takeQty").run Tryd.prog w = .ok (135, .agg #[.int .i64 0, .int .i64 0, .int .i64 0, .int .i64 0, .int .i64 0]) w := by kernel_rfl
theorem m_take2 (w : World) : (method 320 161 (.agg #[.int .i64 0, .int .i64 0, .int .i64 0, .int .i64 0, .int .i64 0, .int .i64 0]) "daybook/schema.take").run Tryd.prog w = .ok (141, .agg #[.int .i64 0, .int .i64 0, .int .i64 0, .int .i64 0, .int .i64 0, .int .i64 0]) w := by kernel_rfl
theorem cf_take2 (a : Array Value) (w : World) : (callFunc 141 a).run Tryd.prog w = .ok (.enter 141 a) w := by kernel_rfl
theorem m_takeq2 (w : World) : (method 320 161 (.agg #[.int .i64 0, .int .i64 0, .int .i64 0, .int .i64 0, .int .i64 0, .int .i64 0]) "daybook/schema.takeQty").run Tryd.prog w = .ok (135, .agg #[.int .i64 0, .int .i64 0, .int .i64 0, .int .i64 0, .int .i64 0]) w := by kernel_rfl
theorem m_take3 (w : World) : (method 320 163 (.agg #[.int .i64 0, .int .i64 0, .int .i64 0, .int .i64 0, .int .i64 0, .int .i64 0, .int .i64 0]) "daybook/schema.take").run Tryd.prog w = .ok (145, .agg #[.int .i64 0, .int .i64 0, .int .i64 0, .int .i64 0, .int .i64 0, .int .i64 0, .int .i64 0]) w := by kernel_rfl
theorem cf_take3 (a : Array Value) (w : World) : (callFunc 145 a).run Tryd.prog w = .ok (.enter 145 a) w := by kernel_rfl
theorem m_takeq3 (w : World) : (method 320 163 (.agg #[.int .i64 0, .int .i64 0, .int .i64 0, .int .i64 0, .int .i64 0, .int .i64 0, .int .i64 0]) "daybook/schema.takeQty").run Tryd.prog w = .ok (146, .agg #[.int .i64 0, .int .i64 0, .int .i64 0, .int .i64 0, .int .i64 0, .int .i64 0, .int .i64 0]) w := by kernel_rfl
theorem m_take4 (w : World) : (method 320 165 (.agg #[.int .i64 0, .int .i64 0, .int .i64 0, .int .i64 0, .int .i64 0, .int .i64 0, .int .i64 0, .string ⟨#[]⟩]) "daybook/schema.take").run Tryd.prog w = .ok (148, .agg #[.int .i64 0, .int .i64 0, .int .i64 0, .int .i64 0, .int .i64 0, .int .i64 0, .int .i64 0, .string ⟨#[]⟩]) w := by kernel_rfl
theorem cf_take4 (a : Array Value) (w : World) : (callFunc 148 a).run Tryd.prog w = .ok (.enter 148 a) w := by kernel_rfl
theorem m_takeq4 (w : World) : (method 320 165 (.agg #[.int .i64 0, .int .i64 0, .int .i64 0, .int .i64 0, .int .i64 0, .int .i64 0, .int .i64 0, .string ⟨#[]⟩]) "daybook/schema.takeQty").run Tryd.prog w = .ok (146, .agg #[.int .i64 0, .int .i64 0, .int .i64 0, .int .i64 0, .int .i64 0, .int .i64 0, .int .i64 0]) w := by kernel_rfl
theorem m_take5 (w : World) : (method 320 167 (.agg #[.int .i64 0, .int .i64 0, .int .i64 0, .int .i64 0, .int .i64 0, .int .i64 0, .int .i64 0, .string ⟨#[]⟩, .int .i64 0, .string ⟨#[]⟩]) "daybook/schema.take").run Tryd.prog w = .ok (151, .agg #[.int .i64 0, .int .i64 0, .int .i64 0, .int .i64 0, .int .i64 0, .int .i64 0, .int .i64 0, .string ⟨#[]⟩, .int .i64 0, .string ⟨#[]⟩]) w := by kernel_rfl
theorem cf_take5 (a : Array Value) (w : World) : (callFunc 151 a).run Tryd.prog w = .ok (.enter 151 a) w := by kernel_rfl
theorem m_takeq5 (w : World) : (method 320 167 (.agg #[.int .i64 0, .int .i64 0, .int .i64 0, .int .i64 0, .int .i64 0, .int .i64 0, .int .i64 0, .string ⟨#[]⟩, .int .i64 0, .string ⟨#[]⟩]) "daybook/schema.takeQty").run Tryd.prog w = .ok (146, .agg #[.int .i64 0, .int .i64 0, .int .i64 0, .int .i64 0, .int .i64 0, .int .i64 0, .int .i64 0]) w := by kernel_rfl
theorem cf_takeq1 (a : Array Value) (w : World) : (callFunc 135 a).run Tryd.prog w = .ok (.enter 135 a) w := by kernel_rfl
theorem cf_takeq3 (a : Array Value) (w : World) : (callFunc 146 a).run Tryd.prog w = .ok (.enter 146 a) w := by kernel_rfl
/-- what a version takes -/
def evV (v : Int) (fs : List Fld) : Ev := if v ≤ 1 then ev1 fs else if v ≤ 2 then ev2 fs else if v ≤ 3 then ev3 fs else if v ≤ 4 then ev4 fs else ev5 fs
def qtyV (v : Int) (fs : List Fld) : Int := if v ≤ 2 then zag (numF fs 4 : Int) else capN (numF fs 4)
def tgV (v : Int) : List (Int × Bool) := (if v ≤ 1 then tg1 else if v ≤ 2 then tg2 else if v ≤ 3 then tg3 else if v ≤ 4 then tg4 else tg5) ++ [(4, false)]
/-- what schema.Decode answers -/
def sdec (v : Int) (l : List Nat) : Ev × Int := if v < 1 ∨ 5 < v then (zeroE, 30) else sdR v (evV v) (qtyV v) (tgV v) l
theorem sdecode_any (v : Int) (l : List Nat) (a : Option Addr) (n cap : Nat) (w : World) (hn : l.length = n) (hb : Bytes w a l) (hcap : n ≤ cap) (hm : n ≤ maxLen) :
    Calls Tryd.prog 33 #[.int .i64 v, .slice a n cap] w fun r w' => r = .returned (.tuple #[.agg (evA (sdec v l).1), .int .i64 (sdec v l).2]) ∧ Below w.heap.size w w' := by
  by_cases hv : v < 1 ∨ 5 < v
  · rw [show sdec v l = (zeroE, 30) from if_pos hv]
    exact sd_no v a n cap w hv
  · rw [show sdec v l = sdR v (evV v) (qtyV v) (tgV v) l from if_neg hv]
    have h5 : v = 1 ∨ v = 2 ∨ v = 3 ∨ v = 4 ∨ v = 5 := by omega
    by_cases he : (recs l).2.2 = 0
    · rcases h5 with rfl | rfl | rfl | rfl | rfl
      · exact sd_ok 1 _ _ _ _ _ _ (evV 1) (qtyV 1) tg1 l a n cap w hn hb hcap hm (by decide) (by decide) rfl m_take1 m_takeq1 cf_take1 cf_takeq1 (fun w1 w2 base q b L h => take1 _ w1 w2 base q b L h) (fun w1 w2 base q b L h hf => takeq1 _ w1 w2 base q b L _ h (by unfold tg1; simp) hf) he
      · exact sd_ok 2 _ _ _ _ _ _ (evV 2) (qtyV 2) tg2 l a n cap w hn hb hcap hm (by decide) (by decide) rfl m_take2 m_takeq2 cf_take2 cf_takeq1 (fun w1 w2 base q b L h => take2 w1 w2 base q b L h) (fun w1 w2 base q b L h hf => takeq1 _ w1 w2 base q b L _ h (by unfold tg2; simp) hf) he
      · exact sd_ok 3 _ _ _ _ _ _ (evV 3) (qtyV 3) tg3 l a n cap w hn hb hcap hm (by decide) (by decide) rfl m_take3 m_takeq3 cf_take3 cf_takeq3 (fun w1 w2 base q b L h => take3 w1 w2 base q b L h) (fun w1 w2 base q b L h hf => takeq3 _ w1 w2 base q b L _ h (by unfold tg3; simp)) he
      · exact sd_ok 4 _ _ _ _ _ _ (evV 4) (qtyV 4) tg4 l a n cap w hn hb hcap hm (by decide) (by decide) rfl m_take4 m_takeq4 cf_take4 cf_takeq3 (fun w1 w2 base q b L h => take4 w1 w2 base q b L h) (fun w1 w2 base q b L h hf => takeq3 _ w1 w2 base q b L _ h (by unfold tg4; simp)) he
      · exact sd_ok 5 _ _ _ _ _ _ (evV 5) (qtyV 5) tg5 l a n cap w hn hb hcap hm (by decide) (by decide) rfl m_take5 m_takeq5 cf_take5 cf_takeq3 (fun w1 w2 base q b L h => take5 w1 w2 base q b L h) (fun w1 w2 base q b L h hf => takeq3 _ w1 w2 base q b L _ h (by unfold tg5; simp)) he
    · have e1 : sdR v (evV v) (qtyV v) (tgV v) l = (zeroE, ((recs l).2.2 : Int)) := if_pos he
      rw [e1]
      obtain ⟨T, V, hTV⟩ : ∃ T V, verV v = .iface T V := by rcases h5 with rfl | rfl | rfl | rfl | rfl <;> exact ⟨_, _, rfl⟩
      exact sd_bad v T V l a n cap w hn hb hcap hm (by omega) (by omega) hTV he
end Go.Proofs.YtofealmjggpacaaDoor
