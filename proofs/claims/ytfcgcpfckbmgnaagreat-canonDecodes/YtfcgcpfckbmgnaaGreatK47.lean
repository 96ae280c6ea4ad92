/- Own texts, joined: Cn7, Sd8. -/
import Derived.Test.YtfcgcpfckbmgnaaGreatK24
import Derived.Test.YtfcgcpfckbmgnaaGreatK46
namespace Go.Proofs.YtfcgcpfckbmgnaaGreat
open Go.ChangeShapes Go.WideShapes Go.ChangeAt Go.RowKit
set_option linter.unusedVariables false
def stL (fs : List Fld) : St := { stOf fs with lines := (rdAll (txsFrom fs 16 0)).1 }
def ctg (fs : List Fld) : List (Int × Bool) := tg11 ++ tgsFrom fs 16 0
/-- what canon.Decode answers -/
def cdec (l : List Nat) : St × Int :=
  if (recs l).2.2 ≠ 0 then (zeroS, ((recs l).2.2 : Int))
  else if errR (tkF (recs l).1 (ctg (recs l).1)) (tkE (recs l).1 (ctg (recs l).1)) ≠ 0 then (zeroS, (errR (tkF (recs l).1 (ctg (recs l).1)) (tkE (recs l).1 (ctg (recs l).1)) : Int))
  else if (rdAll (txsFrom (recs l).1 16 0)).2 = true ∧ vldB (stL (recs l).1) = true then (stL (recs l).1, 0)
  else (zeroS, 40)
def CdecPost (w : World) (P : St × Int) (r : Ending) (w' : World) : Prop := ∃ v', r = .returned (.tuple #[.agg (stA P.1 v'), .int .i64 P.2]) ∧ OwnL w' w.heap.size v' P.1.lines ∧ Below w.heap.size w w'
theorem bel_kept {w x y : World} {q b : Nat} (h : Below w.heap.size w x) (hk : Kept q b x y) (hq : w.heap.size ≤ q) (hb : w.heap.size ≤ b) : Below w.heap.size w y :=
  ⟨hk.os.trans h.os, hk.tape.trans h.tape, hk.output.trans h.output, Nat.le_trans h.size hk.size, fun j hj => (hk.block j (Nat.lt_of_lt_of_le hj h.size) (by omega) (by omega)).trans (h.block j hj)⟩
theorem txs_len (fs : List Fld) : ∀ (f k : Nat), (txsFrom fs f k).length ≤ f
  | 0, k => by simp [txsFrom]
  | f + 1, k => by
    simp only [txsFrom]
    split
    · simp
    · have := txs_len fs f (k + 1); simp only [List.length_cons]; omega
theorem txs_short {fs : List Fld} (h : ∀ f ∈ fs, FRight f) : ∀ (f k : Nat), ∀ t ∈ txsFrom fs f k, t.length ≤ 200
  | 0, k, t, ht => by simp [txsFrom] at ht
  | f + 1, k, t, ht => by
    simp only [txsFrom] at ht
    split at ht
    · cases ht
    · rcases List.mem_cons.1 ht with rfl | ht
      · exact (txtF_lt h _).2
      · exact txs_short h f (k + 1) t ht
theorem Txs.shape {w : World} {bt base : Nat} {v : Value} {T : List (List Nat × Value)} (h : Txs w bt base v T) : ∃ a cap, v = .slice a T.length cap := by
  rcases h.own.2 with ⟨h1, h2⟩ | ⟨g, cp, cur, h1, _⟩
  · exact ⟨none, 0, by rw [h1, h2]⟩
  · exact ⟨_, cp, h1⟩
theorem StAt.set5 {w : World} {b : Nat} {s : St} {v : Value} (h : StAt w b s v) (L : List Ln) (v2 : Value) : StAt (w.setCell ⟨b, 5, none⟩ v2) b { s with lines := L } v2 := by
  unfold StAt at h ⊢
  rw [heap_setCell_same w b 5 _ _ _ h]
  rfl
set_option maxRecDepth 20000 in
set_option maxHeartbeats 1000000 in
theorem cdec_bad (l : List Nat) (a : Option Addr) (n cap : Nat) (w : World) (hn : l.length = n) (hb : Bytes w a l) (hcap : n ≤ cap) (hm : n ≤ maxLen) (he : (recs l).2.2 ≠ 0) :
    Calls Tryz.prog 7 #[.slice a n cap] w fun r w' => r = .returned (.tuple #[.agg (stA zeroS (.slice none 0 0)), .int .i64 ((recs l).2.2 : Int)]) ∧ Below w.heap.size w w' := by
  have HN : Hid (_) := hn
  have HE : Hid (_) := he
  have HA : Hid (StAt (w.alloc (.cells (stA zeroS (.slice none 0 0)) 28)) w.heap.size zeroS (.slice none 0 0)) := StAt.new w zeroS _
  have hAB : Below w.heap.size w (w.alloc (.cells (stA zeroS (.slice none 0 0)) 28)) := (Below.refl _ _).alloc (Nat.le_refl _) _
  have HAB : Hid (Below w.heap.size w (w.alloc (.cells (stA zeroS (.slice none 0 0)) 28))) := hAB
  have HBY : Hid (Bytes (w.alloc (.cells (stA zeroS (.slice none 0 0)) 28)) a l) := hb.keep hAB
  obtain ⟨e, hE⟩ : ∃ e, (recs l).2.2 = e := ⟨_, rfl⟩
  have HEE : Hid (_) := hE
  rw [hE] at he ⊢
  have heb : ((e : Int) != 0) = true := by simp; omega
  have heb2 : ¬ (e : Int) = 0 := by omega
  clear hn hb hAB he hE
  go_enter Tryz.func7, Tryz.ntmps7
  go_wp2_with (first
    | (go_at_call 16; refine (newr_bad l a n cap _ HN.out HBY.out hcap hm HE.out).mono ?_; rw [HEE.out]; rintro r w3 ⟨rfl, hb3⟩; have HB3 : Hid (Below w.heap.size w w3) := below_next HAB.out hb3; have HA3 : Hid (StAt w3 w.heap.size zeroS (.slice none 0 0)) := HA.out.after hb3; clear hb3)
    | ((with_reducible refine guard_store 28 ?_); refine wpList_store_st (s := zeroS) (s2 := zeroS) (a2 := none) (n2 := 0) (c2 := 0) rfl _ _ rfl HA3.out rfl rfl ?_; intro x5 z1 z2 z3 z4))
  exact bodyPost_ret (results_st2 rfl _ _ _ _ rfl rfl z1) rfl ⟨rfl, z2 _ _ HB3.out (Nat.le_refl _)⟩
set_option maxRecDepth 20000 in
set_option maxHeartbeats 4000000 in
theorem cdec_ok (l : List Nat) (a : Option Addr) (n cap : Nat) (w : World) (P : St × Int) (hP : cdec l = P) (hn : l.length = n) (hb : Bytes w a l) (hcap : n ≤ cap) (hm : n ≤ maxLen) (he : (recs l).2.2 = 0) :
    Calls Tryz.prog 7 #[.slice a n cap] w fun r w' => CdecPost w P r w' := by
  have hl := lt_allC hb.1
  have HFR : Hid (∀ f ∈ (recs l).1, FRight f) := (recs_ok l hl he).2.2.1
  have HN : Hid (_) := hn
  have HE : Hid (_) := he
  have HA : Hid (StAt (w.alloc (.cells (stA zeroS (.slice none 0 0)) 28)) w.heap.size zeroS (.slice none 0 0)) := StAt.new w zeroS _
  have hAB : Below w.heap.size w (w.alloc (.cells (stA zeroS (.slice none 0 0)) 28)) := (Below.refl _ _).alloc (Nat.le_refl _) _
  have HAB : Hid (Below w.heap.size w (w.alloc (.cells (stA zeroS (.slice none 0 0)) 28))) := hAB
  have HBY : Hid (Bytes (w.alloc (.cells (stA zeroS (.slice none 0 0)) 28)) a l) := hb.keep hAB
  obtain ⟨fs, hfs⟩ : ∃ fs, (recs l).1 = fs := ⟨_, rfl⟩
  have HFS : Hid (_) := hfs
  have HP0 : Hid (P = if errR (tkF fs (ctg fs)) (tkE fs (ctg fs)) ≠ 0 then (zeroS, (errR (tkF fs (ctg fs)) (tkE fs (ctg fs)) : Int)) else if (rdAll (txsFrom fs 16 0)).2 = true ∧ vldB (stL fs) = true then (stL fs, 0) else (zeroS, 40)) := by
    show _ = _
    rw [← hP]
    unfold cdec
    rw [if_neg (by rw [he]; simp), hfs]
  rw [hfs] at HFR
  obtain ⟨er, hER⟩ : ∃ er, errR (tkF fs (ctg fs)) (tkE fs (ctg fs)) = er := ⟨_, rfl⟩
  have HER : Hid (_) := hER
  rw [hER] at HP0
  obtain ⟨Ls, ok, hLS⟩ : ∃ Ls ok, rdAll (txsFrom fs 16 0) = (Ls, ok) := ⟨_, _, rfl⟩
  have HLS : Hid (_) := hLS
  obtain ⟨S1, hS1⟩ : ∃ S1, stOf fs = S1 := ⟨_, rfl⟩
  have HS1 : Hid (_) := hS1
  have hSL : stL fs = { S1 with lines := Ls } := by unfold stL; rw [hS1, hLS]
  rw [hLS, hSL] at HP0
  obtain ⟨vb, hvb⟩ : ∃ vb, vldB { S1 with lines := Ls } = vb := ⟨_, rfl⟩
  have HVB : Hid (_) := hvb
  rw [hvb] at HP0
  have HLT : Hid (w.heap.size < (w.alloc (.cells (stA zeroS (.slice none 0 0)) 28)).heap.size) := by show _ < _; simp
  clear hn hb hAB he hER hLS hS1 hSL hvb hl hP hfs
  have T1 : Hid True := trivial
  by_cases h0 : er = 0
  · subst h0
    rw [if_neg (by simp)] at HP0
    cases ok with
    | false =>
      have HPP : Hid (P = (zeroS, 40)) := by show _ = _; rw [HP0.out]; rfl
      go_enter Tryz.func7, Tryz.ntmps7
      go_wp2_with (first
        | (go_at_call 16; refine (newr_ok l a n cap _ HN.out HBY.out hcap hm HE.out).mono ?_; rintro r w3 ⟨hb3, q, b, L, rfl, hL3, hr3, hq3, hbb3⟩; have HLf : Hid (L.map Prod.fst = fs) := hL3.trans HFS.out; obtain ⟨base, hbase⟩ : ∃ base, (w.alloc (.cells (stA zeroS (.slice none 0 0)) 28)).heap.size = base := ⟨_, rfl⟩; have HBS : Hid (w.heap.size < base) := (by have := HLT.out; rw [hbase] at this; exact this); rw [hbase] at hr3 hq3 hbb3; have HQB : Hid (w.heap.size < q ∧ w.heap.size < b ∧ q < w3.heap.size ∧ b < w3.heap.size) := ⟨Nat.lt_of_lt_of_le HBS.out hq3, Nat.lt_of_lt_of_le HBS.out hbb3, (tk_start hr3).lts.1, (tk_start hr3).lts.2⟩; have HT : Hid (Tk w3 w3 base q b L []) := tk_start hr3; have HB : Hid (Below w.heap.size w w3) := below_next HAB.out hb3; have HR : Hid (StAt w3 w.heap.size zeroS (.slice none 0 0)) := HA.out.after hb3; clear hb3 hL3 hr3 hq3 hbb3 hbase)
        | (go_at_call 17; refine (takeFields_any w3 w3 base q b L HT.out).mono ?_; rw [HLf.out, HS1.out]; rintro r x1 ⟨rfl, h1, h2⟩; have HT1 : Hid (Tk w3 x1 base q b L tg11) := h1; have HB1 : Hid (Below w.heap.size w x1) := bel_kept HB.out h2 (by have := HQB.out; omega) (by have := HQB.out; omega); have HR1 : Hid (StAt x1 w.heap.size zeroS (.slice none 0 0)) := StAt.kept HR.out h2 (by have := HQB.out; omega) (by have := HQB.out; omega); have HX1 : Hid (w3.heap.size ≤ x1.heap.size) := h2.size; clear h1 h2)
        | ((with_reducible refine guard_store 28 ?_); clear T1; refine wpList_store_st (s := zeroS) (s2 := S1) (a2 := none) (n2 := 0) (c2 := 0) rfl _ _ rfl (StAt.new x1 zeroS (.slice none 0 0)) rfl rfl ?_; intro x2 z1 z2 z3 z4; have hu := (z2 _ _ ((Below.refl x1.heap.size x1).alloc (Nat.le_refl _) _) (Nat.le_refl _)); have HT2 : Hid (Tk w3 x2 base q b L tg11) := Tk.keep HT1.out hu; have HB2 : Hid (Below w.heap.size w x2) := below_next HB1.out hu; have HR2 : Hid (StAt x2 w.heap.size zeroS (.slice none 0 0)) := HR1.out.after hu; have HS2 : Hid (StAt x2 x1.heap.size S1 (.slice none 0 0)) := z1; clear z1 z2 z3 z4 hu)
        | (go_at_call 18; refine (takeTexts_any w3 x2 base q b L fs HLf.out HT2.out).mono ?_; rintro r x3 ⟨vt, T, rfl, hT1, hT2, hT3, hT4⟩; obtain ⟨at3, ct3, hvt⟩ := hT2.shape; subst hvt; have HTT : Hid (T.map Prod.fst = txsFrom fs 16 0) := hT1; have HTX : Hid (Txs x3 x2.heap.size base (.slice at3 T.length ct3) T) := hT2; have HT3 : Hid (Tk w3 x3 base q b L (ctg fs)) := hT3; have HB3 : Hid (Below w.heap.size w x3) := bel_kept HB2.out hT4 (by have := HQB.out; omega) (by have := HQB.out; omega); have HR3 : Hid (StAt x3 w.heap.size zeroS (.slice none 0 0)) := StAt.kept HR2.out hT4 (by have := HQB.out; omega) (by have := HQB.out; omega); have HS3 : Hid (StAt x3 x1.heap.size S1 (.slice none 0 0)) := StAt.kept HS2.out hT4 (by have := HQB.out; have := HX1.out; omega) (by have := HQB.out; have := HX1.out; omega); clear hT1 hT2 hT3 hT4)
        | (go_at_call 19; refine (rerr_any _ base q b _ _ (Tk.rd HT3.out)).mono ?_; rw [tkF_of, HLf.out, HER.out]; rintro r x9 ⟨rfl, rfl⟩)
        | (go_at_call 20; refine (readLines_any T x2.heap.size base at3 T.length ct3 _ rfl HTX.out (by have h := txs_len fs 16 0; rw [← HTT.out, List.length_map] at h; exact h) (fun p hp => txs_short HFR.out 16 0 p.1 (by rw [← HTT.out]; exact List.mem_map_of_mem hp))).mono ?_; rw [HTT.out, HLS.out]; rintro r x4 ⟨vl, rfl, hol, hbl⟩; dsimp only at hol; obtain ⟨al, cl, hvl, hlc, hcm, _, _⟩ := hol.shape; subst hvl; have hcm2 : Ls.length ≤ maxLen := (by omega); clear hlc hcm; have HOL : Hid (OwnL x4 x3.heap.size (.slice al Ls.length cl) Ls) := hol; have HB4 : Hid (Below w.heap.size w x4) := below_next HB3.out hbl; have HR4 : Hid (StAt x4 w.heap.size zeroS (.slice none 0 0)) := HR3.out.after hbl; have hs4 := HS3.out.after hbl; have HS4 : Hid (StAt x4 x1.heap.size S1 (.slice none 0 0)) := hs4; have f5 := hs4.froz 5; have c5 : x4.cell? ⟨x1.heap.size, 5, none⟩ = some (.slice none 0 0) := hs4.cell 5 _ rfl; have HXX : Hid (x1.heap.size < x3.heap.size ∧ w.heap.size < x1.heap.size) := ⟨HS3.out.lt, HR1.out.lt⟩; have hs5 := hs4.set5 Ls (.slice al Ls.length cl); have HS5 : Hid (StAt (x4.setCell ⟨x1.heap.size, 5, none⟩ (.slice al Ls.length cl)) x1.heap.size { S1 with lines := Ls } (.slice al Ls.length cl)) := hs5; have HO5 : Hid (OwnL (x4.setCell ⟨x1.heap.size, 5, none⟩ (.slice al Ls.length cl)) x3.heap.size (.slice al Ls.length cl) Ls) := OwnL.other hol HS3.out.lt (fun j hj => heap_setCell_other x4 ⟨x1.heap.size, 5, none⟩ j _ hj); have HB5 : Hid (Below w.heap.size w (x4.setCell ⟨x1.heap.size, 5, none⟩ (.slice al Ls.length cl))) := HB4.out.setCell (p := ⟨x1.heap.size, 5, none⟩) (Nat.le_of_lt HXX.out.2) _; have HR5 : Hid (StAt (x4.setCell ⟨x1.heap.size, 5, none⟩ (.slice al Ls.length cl)) w.heap.size zeroS (.slice none 0 0)) := (heap_setCell_other x4 ⟨x1.heap.size, 5, none⟩ w.heap.size _ (by have := HXX.out.2; simp only [ne_eq]; omega)).trans HR4.out; clear hol hbl hs4 hs5)
        | ((with_reducible refine guard_store 28 ?_); refine wpList_store_st (s := zeroS) (s2 := zeroS) (a2 := none) (n2 := 0) (c2 := 0) rfl _ _ rfl HR5.out rfl rfl ?_; intro x8 z1 z2 z3 z4))
      rw [HPP.out]
      exact bodyPost_ret (results_st2 rfl _ _ _ _ rfl rfl z1) rfl ⟨_, rfl, OwnL.nil _ _, z2 _ _ HB5.out (Nat.le_refl _)⟩
    | true =>
      cases vb with
      | false =>
        have HPP : Hid (P = (zeroS, 40)) := by show _ = _; rw [HP0.out]; rfl
        go_enter Tryz.func7, Tryz.ntmps7
        go_wp2_with (first
          | (go_at_call 16; refine (newr_ok l a n cap _ HN.out HBY.out hcap hm HE.out).mono ?_; rintro r w3 ⟨hb3, q, b, L, rfl, hL3, hr3, hq3, hbb3⟩; have HLf : Hid (L.map Prod.fst = fs) := hL3.trans HFS.out; obtain ⟨base, hbase⟩ : ∃ base, (w.alloc (.cells (stA zeroS (.slice none 0 0)) 28)).heap.size = base := ⟨_, rfl⟩; have HBS : Hid (w.heap.size < base) := (by have := HLT.out; rw [hbase] at this; exact this); rw [hbase] at hr3 hq3 hbb3; have HQB : Hid (w.heap.size < q ∧ w.heap.size < b ∧ q < w3.heap.size ∧ b < w3.heap.size) := ⟨Nat.lt_of_lt_of_le HBS.out hq3, Nat.lt_of_lt_of_le HBS.out hbb3, (tk_start hr3).lts.1, (tk_start hr3).lts.2⟩; have HT : Hid (Tk w3 w3 base q b L []) := tk_start hr3; have HB : Hid (Below w.heap.size w w3) := below_next HAB.out hb3; have HR : Hid (StAt w3 w.heap.size zeroS (.slice none 0 0)) := HA.out.after hb3; clear hb3 hL3 hr3 hq3 hbb3 hbase)
          | (go_at_call 17; refine (takeFields_any w3 w3 base q b L HT.out).mono ?_; rw [HLf.out, HS1.out]; rintro r x1 ⟨rfl, h1, h2⟩; have HT1 : Hid (Tk w3 x1 base q b L tg11) := h1; have HB1 : Hid (Below w.heap.size w x1) := bel_kept HB.out h2 (by have := HQB.out; omega) (by have := HQB.out; omega); have HR1 : Hid (StAt x1 w.heap.size zeroS (.slice none 0 0)) := StAt.kept HR.out h2 (by have := HQB.out; omega) (by have := HQB.out; omega); have HX1 : Hid (w3.heap.size ≤ x1.heap.size) := h2.size; clear h1 h2)
          | ((with_reducible refine guard_store 28 ?_); clear T1; refine wpList_store_st (s := zeroS) (s2 := S1) (a2 := none) (n2 := 0) (c2 := 0) rfl _ _ rfl (StAt.new x1 zeroS (.slice none 0 0)) rfl rfl ?_; intro x2 z1 z2 z3 z4; have hu := (z2 _ _ ((Below.refl x1.heap.size x1).alloc (Nat.le_refl _) _) (Nat.le_refl _)); have HT2 : Hid (Tk w3 x2 base q b L tg11) := Tk.keep HT1.out hu; have HB2 : Hid (Below w.heap.size w x2) := below_next HB1.out hu; have HR2 : Hid (StAt x2 w.heap.size zeroS (.slice none 0 0)) := HR1.out.after hu; have HS2 : Hid (StAt x2 x1.heap.size S1 (.slice none 0 0)) := z1; clear z1 z2 z3 z4 hu)
          | (go_at_call 18; refine (takeTexts_any w3 x2 base q b L fs HLf.out HT2.out).mono ?_; rintro r x3 ⟨vt, T, rfl, hT1, hT2, hT3, hT4⟩; obtain ⟨at3, ct3, hvt⟩ := hT2.shape; subst hvt; have HTT : Hid (T.map Prod.fst = txsFrom fs 16 0) := hT1; have HTX : Hid (Txs x3 x2.heap.size base (.slice at3 T.length ct3) T) := hT2; have HT3 : Hid (Tk w3 x3 base q b L (ctg fs)) := hT3; have HB3 : Hid (Below w.heap.size w x3) := bel_kept HB2.out hT4 (by have := HQB.out; omega) (by have := HQB.out; omega); have HR3 : Hid (StAt x3 w.heap.size zeroS (.slice none 0 0)) := StAt.kept HR2.out hT4 (by have := HQB.out; omega) (by have := HQB.out; omega); have HS3 : Hid (StAt x3 x1.heap.size S1 (.slice none 0 0)) := StAt.kept HS2.out hT4 (by have := HQB.out; have := HX1.out; omega) (by have := HQB.out; have := HX1.out; omega); clear hT1 hT2 hT3 hT4)
          | (go_at_call 19; refine (rerr_any _ base q b _ _ (Tk.rd HT3.out)).mono ?_; rw [tkF_of, HLf.out, HER.out]; rintro r x9 ⟨rfl, rfl⟩)
          | (go_at_call 20; refine (readLines_any T x2.heap.size base at3 T.length ct3 _ rfl HTX.out (by have h := txs_len fs 16 0; rw [← HTT.out, List.length_map] at h; exact h) (fun p hp => txs_short HFR.out 16 0 p.1 (by rw [← HTT.out]; exact List.mem_map_of_mem hp))).mono ?_; rw [HTT.out, HLS.out]; rintro r x4 ⟨vl, rfl, hol, hbl⟩; dsimp only at hol; obtain ⟨al, cl, hvl, hlc, hcm, _, _⟩ := hol.shape; subst hvl; have hcm2 : Ls.length ≤ maxLen := (by omega); clear hlc hcm; have HOL : Hid (OwnL x4 x3.heap.size (.slice al Ls.length cl) Ls) := hol; have HB4 : Hid (Below w.heap.size w x4) := below_next HB3.out hbl; have HR4 : Hid (StAt x4 w.heap.size zeroS (.slice none 0 0)) := HR3.out.after hbl; have hs4 := HS3.out.after hbl; have HS4 : Hid (StAt x4 x1.heap.size S1 (.slice none 0 0)) := hs4; have f5 := hs4.froz 5; have c5 : x4.cell? ⟨x1.heap.size, 5, none⟩ = some (.slice none 0 0) := hs4.cell 5 _ rfl; have HXX : Hid (x1.heap.size < x3.heap.size ∧ w.heap.size < x1.heap.size) := ⟨HS3.out.lt, HR1.out.lt⟩; have hs5 := hs4.set5 Ls (.slice al Ls.length cl); have HS5 : Hid (StAt (x4.setCell ⟨x1.heap.size, 5, none⟩ (.slice al Ls.length cl)) x1.heap.size { S1 with lines := Ls } (.slice al Ls.length cl)) := hs5; have HO5 : Hid (OwnL (x4.setCell ⟨x1.heap.size, 5, none⟩ (.slice al Ls.length cl)) x3.heap.size (.slice al Ls.length cl) Ls) := OwnL.other hol HS3.out.lt (fun j hj => heap_setCell_other x4 ⟨x1.heap.size, 5, none⟩ j _ hj); have HB5 : Hid (Below w.heap.size w (x4.setCell ⟨x1.heap.size, 5, none⟩ (.slice al Ls.length cl))) := HB4.out.setCell (p := ⟨x1.heap.size, 5, none⟩) (Nat.le_of_lt HXX.out.2) _; have HR5 : Hid (StAt (x4.setCell ⟨x1.heap.size, 5, none⟩ (.slice al Ls.length cl)) w.heap.size zeroS (.slice none 0 0)) := (heap_setCell_other x4 ⟨x1.heap.size, 5, none⟩ w.heap.size _ (by have := HXX.out.2; simp only [ne_eq]; omega)).trans HR4.out; clear hol hbl hs4 hs5)
          | ((with_reducible refine guard_loadg 28 ?_); refine wpList_load_stg rfl _ rfl HS5.out rfl ?_)
          | (go_at_call 21; refine (valid_st { S1 with lines := Ls } al Ls.length cl _ rfl (ownl_lns HO5.out) hcm2).mono ?_; rw [HVB.out]; rintro r x6 ⟨rfl, hb6⟩; have HB6 : Hid (Below w.heap.size w x6) := below_next HB5.out hb6; have HR6 : Hid (StAt x6 w.heap.size zeroS (.slice none 0 0)) := HR5.out.after hb6; have HS6 : Hid (StAt x6 x1.heap.size { S1 with lines := Ls } (.slice al Ls.length cl)) := HS5.out.after hb6; have HO6 : Hid (OwnL x6 x3.heap.size (.slice al Ls.length cl) Ls) := OwnL.keep HO5.out hb6; clear hb6)
          | ((with_reducible refine guard_store 28 ?_); refine wpList_store_st (s := zeroS) (s2 := zeroS) (a2 := none) (n2 := 0) (c2 := 0) rfl _ _ rfl HR6.out rfl rfl ?_; intro x8 z1 z2 z3 z4))
        rw [HPP.out]
        exact bodyPost_ret (results_st2 rfl _ _ _ _ rfl rfl z1) rfl ⟨_, rfl, OwnL.nil _ _, z2 _ _ HB6.out (Nat.le_refl _)⟩
      | true =>
        have HPP : Hid (P = ({ S1 with lines := Ls }, 0)) := by show _ = _; rw [HP0.out]; rfl
        go_enter Tryz.func7, Tryz.ntmps7
        go_wp2_with (first
          | (go_at_call 16; refine (newr_ok l a n cap _ HN.out HBY.out hcap hm HE.out).mono ?_; rintro r w3 ⟨hb3, q, b, L, rfl, hL3, hr3, hq3, hbb3⟩; have HLf : Hid (L.map Prod.fst = fs) := hL3.trans HFS.out; obtain ⟨base, hbase⟩ : ∃ base, (w.alloc (.cells (stA zeroS (.slice none 0 0)) 28)).heap.size = base := ⟨_, rfl⟩; have HBS : Hid (w.heap.size < base) := (by have := HLT.out; rw [hbase] at this; exact this); rw [hbase] at hr3 hq3 hbb3; have HQB : Hid (w.heap.size < q ∧ w.heap.size < b ∧ q < w3.heap.size ∧ b < w3.heap.size) := ⟨Nat.lt_of_lt_of_le HBS.out hq3, Nat.lt_of_lt_of_le HBS.out hbb3, (tk_start hr3).lts.1, (tk_start hr3).lts.2⟩; have HT : Hid (Tk w3 w3 base q b L []) := tk_start hr3; have HB : Hid (Below w.heap.size w w3) := below_next HAB.out hb3; have HR : Hid (StAt w3 w.heap.size zeroS (.slice none 0 0)) := HA.out.after hb3; clear hb3 hL3 hr3 hq3 hbb3 hbase)
          | (go_at_call 17; refine (takeFields_any w3 w3 base q b L HT.out).mono ?_; rw [HLf.out, HS1.out]; rintro r x1 ⟨rfl, h1, h2⟩; have HT1 : Hid (Tk w3 x1 base q b L tg11) := h1; have HB1 : Hid (Below w.heap.size w x1) := bel_kept HB.out h2 (by have := HQB.out; omega) (by have := HQB.out; omega); have HR1 : Hid (StAt x1 w.heap.size zeroS (.slice none 0 0)) := StAt.kept HR.out h2 (by have := HQB.out; omega) (by have := HQB.out; omega); have HX1 : Hid (w3.heap.size ≤ x1.heap.size) := h2.size; clear h1 h2)
          | ((with_reducible refine guard_store 28 ?_); clear T1; refine wpList_store_st (s := zeroS) (s2 := S1) (a2 := none) (n2 := 0) (c2 := 0) rfl _ _ rfl (StAt.new x1 zeroS (.slice none 0 0)) rfl rfl ?_; intro x2 z1 z2 z3 z4; have hu := (z2 _ _ ((Below.refl x1.heap.size x1).alloc (Nat.le_refl _) _) (Nat.le_refl _)); have HT2 : Hid (Tk w3 x2 base q b L tg11) := Tk.keep HT1.out hu; have HB2 : Hid (Below w.heap.size w x2) := below_next HB1.out hu; have HR2 : Hid (StAt x2 w.heap.size zeroS (.slice none 0 0)) := HR1.out.after hu; have HS2 : Hid (StAt x2 x1.heap.size S1 (.slice none 0 0)) := z1; clear z1 z2 z3 z4 hu)
          | (go_at_call 18; refine (takeTexts_any w3 x2 base q b L fs HLf.out HT2.out).mono ?_; rintro r x3 ⟨vt, T, rfl, hT1, hT2, hT3, hT4⟩; obtain ⟨at3, ct3, hvt⟩ := hT2.shape; subst hvt; have HTT : Hid (T.map Prod.fst = txsFrom fs 16 0) := hT1; have HTX : Hid (Txs x3 x2.heap.size base (.slice at3 T.length ct3) T) := hT2; have HT3 : Hid (Tk w3 x3 base q b L (ctg fs)) := hT3; have HB3 : Hid (Below w.heap.size w x3) := bel_kept HB2.out hT4 (by have := HQB.out; omega) (by have := HQB.out; omega); have HR3 : Hid (StAt x3 w.heap.size zeroS (.slice none 0 0)) := StAt.kept HR2.out hT4 (by have := HQB.out; omega) (by have := HQB.out; omega); have HS3 : Hid (StAt x3 x1.heap.size S1 (.slice none 0 0)) := StAt.kept HS2.out hT4 (by have := HQB.out; have := HX1.out; omega) (by have := HQB.out; have := HX1.out; omega); clear hT1 hT2 hT3 hT4)
          | (go_at_call 19; refine (rerr_any _ base q b _ _ (Tk.rd HT3.out)).mono ?_; rw [tkF_of, HLf.out, HER.out]; rintro r x9 ⟨rfl, rfl⟩)
          | (go_at_call 20; refine (readLines_any T x2.heap.size base at3 T.length ct3 _ rfl HTX.out (by have h := txs_len fs 16 0; rw [← HTT.out, List.length_map] at h; exact h) (fun p hp => txs_short HFR.out 16 0 p.1 (by rw [← HTT.out]; exact List.mem_map_of_mem hp))).mono ?_; rw [HTT.out, HLS.out]; rintro r x4 ⟨vl, rfl, hol, hbl⟩; dsimp only at hol; obtain ⟨al, cl, hvl, hlc, hcm, _, _⟩ := hol.shape; subst hvl; have hcm2 : Ls.length ≤ maxLen := (by omega); clear hlc hcm; have HOL : Hid (OwnL x4 x3.heap.size (.slice al Ls.length cl) Ls) := hol; have HB4 : Hid (Below w.heap.size w x4) := below_next HB3.out hbl; have HR4 : Hid (StAt x4 w.heap.size zeroS (.slice none 0 0)) := HR3.out.after hbl; have hs4 := HS3.out.after hbl; have HS4 : Hid (StAt x4 x1.heap.size S1 (.slice none 0 0)) := hs4; have f5 := hs4.froz 5; have c5 : x4.cell? ⟨x1.heap.size, 5, none⟩ = some (.slice none 0 0) := hs4.cell 5 _ rfl; have HXX : Hid (x1.heap.size < x3.heap.size ∧ w.heap.size < x1.heap.size) := ⟨HS3.out.lt, HR1.out.lt⟩; have hs5 := hs4.set5 Ls (.slice al Ls.length cl); have HS5 : Hid (StAt (x4.setCell ⟨x1.heap.size, 5, none⟩ (.slice al Ls.length cl)) x1.heap.size { S1 with lines := Ls } (.slice al Ls.length cl)) := hs5; have HO5 : Hid (OwnL (x4.setCell ⟨x1.heap.size, 5, none⟩ (.slice al Ls.length cl)) x3.heap.size (.slice al Ls.length cl) Ls) := OwnL.other hol HS3.out.lt (fun j hj => heap_setCell_other x4 ⟨x1.heap.size, 5, none⟩ j _ hj); have HB5 : Hid (Below w.heap.size w (x4.setCell ⟨x1.heap.size, 5, none⟩ (.slice al Ls.length cl))) := HB4.out.setCell (p := ⟨x1.heap.size, 5, none⟩) (Nat.le_of_lt HXX.out.2) _; have HR5 : Hid (StAt (x4.setCell ⟨x1.heap.size, 5, none⟩ (.slice al Ls.length cl)) w.heap.size zeroS (.slice none 0 0)) := (heap_setCell_other x4 ⟨x1.heap.size, 5, none⟩ w.heap.size _ (by have := HXX.out.2; simp only [ne_eq]; omega)).trans HR4.out; clear hol hbl hs4 hs5)
          | ((with_reducible refine guard_loadg 28 ?_); refine wpList_load_stg rfl _ rfl HS5.out rfl ?_)
          | (go_at_call 21; refine (valid_st { S1 with lines := Ls } al Ls.length cl _ rfl (ownl_lns HO5.out) hcm2).mono ?_; rw [HVB.out]; rintro r x6 ⟨rfl, hb6⟩; have HB6 : Hid (Below w.heap.size w x6) := below_next HB5.out hb6; have HR6 : Hid (StAt x6 w.heap.size zeroS (.slice none 0 0)) := HR5.out.after hb6; have HS6 : Hid (StAt x6 x1.heap.size { S1 with lines := Ls } (.slice al Ls.length cl)) := HS5.out.after hb6; have HO6 : Hid (OwnL x6 x3.heap.size (.slice al Ls.length cl) Ls) := OwnL.keep HO5.out hb6; clear hb6)
          | ((with_reducible refine guard_load 28 ?_); refine wpList_load_st rfl _ rfl HS6.out rfl ?_)
          | ((with_reducible refine guard_store 28 ?_); refine wpList_store_st (s := zeroS) (s2 := { S1 with lines := Ls }) rfl _ _ rfl HR6.out rfl rfl ?_; intro x8 z1 z2 z3 z4))
        rw [HPP.out]
        exact bodyPost_ret (results_st2 rfl _ _ _ _ rfl rfl z1) rfl ⟨_, rfl, (OwnL.other HO6.out (k := w.heap.size) (by have := HXX.out; omega) z3).mono (by have := HXX.out; omega), z2 _ _ HB6.out (Nat.le_refl _)⟩
  · have HPP : Hid (P = (zeroS, (er : Int))) := by show _ = _; rw [HP0.out, if_pos h0]
    have heb : ((er : Int) != 0) = true := by simp; omega
    have heb2 : ¬ (er : Int) = 0 := by omega
    clear h0
    go_enter Tryz.func7, Tryz.ntmps7
    go_wp2_with (first
      | (go_at_call 16; refine (newr_ok l a n cap _ HN.out HBY.out hcap hm HE.out).mono ?_; rintro r w3 ⟨hb3, q, b, L, rfl, hL3, hr3, hq3, hbb3⟩; have HLf : Hid (L.map Prod.fst = fs) := hL3.trans HFS.out; obtain ⟨base, hbase⟩ : ∃ base, (w.alloc (.cells (stA zeroS (.slice none 0 0)) 28)).heap.size = base := ⟨_, rfl⟩; have HBS : Hid (w.heap.size < base) := (by have := HLT.out; rw [hbase] at this; exact this); rw [hbase] at hr3 hq3 hbb3; have HQB : Hid (w.heap.size < q ∧ w.heap.size < b ∧ q < w3.heap.size ∧ b < w3.heap.size) := ⟨Nat.lt_of_lt_of_le HBS.out hq3, Nat.lt_of_lt_of_le HBS.out hbb3, (tk_start hr3).lts.1, (tk_start hr3).lts.2⟩; have HT : Hid (Tk w3 w3 base q b L []) := tk_start hr3; have HB : Hid (Below w.heap.size w w3) := below_next HAB.out hb3; have HR : Hid (StAt w3 w.heap.size zeroS (.slice none 0 0)) := HA.out.after hb3; clear hb3 hL3 hr3 hq3 hbb3 hbase)
      | (go_at_call 17; refine (takeFields_any w3 w3 base q b L HT.out).mono ?_; rw [HLf.out, HS1.out]; rintro r x1 ⟨rfl, h1, h2⟩; have HT1 : Hid (Tk w3 x1 base q b L tg11) := h1; have HB1 : Hid (Below w.heap.size w x1) := bel_kept HB.out h2 (by have := HQB.out; omega) (by have := HQB.out; omega); have HR1 : Hid (StAt x1 w.heap.size zeroS (.slice none 0 0)) := StAt.kept HR.out h2 (by have := HQB.out; omega) (by have := HQB.out; omega); have HX1 : Hid (w3.heap.size ≤ x1.heap.size) := h2.size; clear h1 h2)
      | ((with_reducible refine guard_store 28 ?_); clear T1; refine wpList_store_st (s := zeroS) (s2 := S1) (a2 := none) (n2 := 0) (c2 := 0) rfl _ _ rfl (StAt.new x1 zeroS (.slice none 0 0)) rfl rfl ?_; intro x2 z1 z2 z3 z4; have hu := (z2 _ _ ((Below.refl x1.heap.size x1).alloc (Nat.le_refl _) _) (Nat.le_refl _)); have HT2 : Hid (Tk w3 x2 base q b L tg11) := Tk.keep HT1.out hu; have HB2 : Hid (Below w.heap.size w x2) := below_next HB1.out hu; have HR2 : Hid (StAt x2 w.heap.size zeroS (.slice none 0 0)) := HR1.out.after hu; have HS2 : Hid (StAt x2 x1.heap.size S1 (.slice none 0 0)) := z1; clear z1 z2 z3 z4 hu)
      | (go_at_call 18; refine (takeTexts_any w3 x2 base q b L fs HLf.out HT2.out).mono ?_; rintro r x3 ⟨vt, T, rfl, hT1, hT2, hT3, hT4⟩; obtain ⟨at3, ct3, hvt⟩ := hT2.shape; subst hvt; have HTT : Hid (T.map Prod.fst = txsFrom fs 16 0) := hT1; have HTX : Hid (Txs x3 x2.heap.size base (.slice at3 T.length ct3) T) := hT2; have HT3 : Hid (Tk w3 x3 base q b L (ctg fs)) := hT3; have HB3 : Hid (Below w.heap.size w x3) := bel_kept HB2.out hT4 (by have := HQB.out; omega) (by have := HQB.out; omega); have HR3 : Hid (StAt x3 w.heap.size zeroS (.slice none 0 0)) := StAt.kept HR2.out hT4 (by have := HQB.out; omega) (by have := HQB.out; omega); have HS3 : Hid (StAt x3 x1.heap.size S1 (.slice none 0 0)) := StAt.kept HS2.out hT4 (by have := HQB.out; have := HX1.out; omega) (by have := HQB.out; have := HX1.out; omega); clear hT1 hT2 hT3 hT4)
      | (go_at_call 19; refine (rerr_any _ base q b _ _ (Tk.rd HT3.out)).mono ?_; rw [tkF_of, HLf.out, HER.out]; rintro r x9 ⟨rfl, rfl⟩)
      | ((with_reducible refine guard_store 28 ?_); refine wpList_store_st (s := zeroS) (s2 := zeroS) (a2 := none) (n2 := 0) (c2 := 0) rfl _ _ rfl HR3.out rfl rfl ?_; intro x8 z1 z2 z3 z4))
    rw [HPP.out]
    exact bodyPost_ret (results_st2 rfl _ _ _ _ rfl rfl z1) rfl ⟨_, rfl, OwnL.nil _ _, z2 _ _ HB3.out (Nat.le_refl _)⟩
theorem cdec_any (l : List Nat) (a : Option Addr) (n cap : Nat) (w : World) (hn : l.length = n) (hb : Bytes w a l) (hcap : n ≤ cap) (hm : n ≤ maxLen) :
    Calls Tryz.prog 7 #[.slice a n cap] w fun r w' => CdecPost w (cdec l) r w' := by
  by_cases he : (recs l).2.2 = 0
  · exact cdec_ok l a n cap w _ rfl hn hb hcap hm he
  · have e1 : cdec l = (zeroS, ((recs l).2.2 : Int)) := if_pos he
    refine (cdec_bad l a n cap w hn hb hcap hm he).mono ?_
    rintro r w' ⟨h1, h2⟩
    rw [e1]
    exact ⟨_, h1, OwnL.nil _ _, h2⟩
end Go.Proofs.YtfcgcpfckbmgnaaGreat
namespace Go.Proofs.YtfcgcpfckbmgnaaGreat
open Go.ChangeShapes Go.WideShapes Go.ChangeAt Go.RowKit
set_option linter.unusedVariables false
/-- what a version takes -/
def evV (v : Int) (fs : List Fld) : Ev := if v ≤ 1 then ev1 fs else if v ≤ 2 then ev2 fs else if v ≤ 3 then ev3 fs else if v ≤ 4 then ev4 fs else ev5 fs
def qtyV (v : Int) (fs : List Fld) : Int := if v ≤ 2 then zag (numF fs 4 : Int) else capN (numF fs 4)
def tgV (v : Int) : List (Int × Bool) := (if v ≤ 1 then tg1 else if v ≤ 2 then tg2 else if v ≤ 3 then tg3 else if v ≤ 4 then tg4 else tg5) ++ [(4, false)]
/-- what schema.Decode answers -/
def sdec (v : Int) (l : List Nat) : Ev × Int := if v < 1 ∨ 5 < v then (zeroE, 30) else sdR v (evV v) (qtyV v) (tgV v) l
end Go.Proofs.YtfcgcpfckbmgnaaGreat
