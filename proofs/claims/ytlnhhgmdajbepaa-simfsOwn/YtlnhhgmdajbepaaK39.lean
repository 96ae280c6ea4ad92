/- Own texts, joined: Rdq. -/
import Derived.Test.YtlnhhgmdajbepaaK36
namespace Go.Proofs.Ytlnhhgmdajbepaa
open Go.ChangeShapes Go.WideShapes Go.ChangeAt Go.RowKit
set_option linter.unusedVariables false
set_option linter.unusedSimpArgs false
set_option maxRecDepth 100000 in
set_option maxHeartbeats 1600000 in
theorem rdo_f1 (w : World) (X : List (Fa × Value)) (a : Option Addr) (n c : Nat) (q : Rn) (hn : X.length = n) (hX : FlsA w a X) (hnl : n ≤ 1000) (o : Oa) (ho : OpIn w o) (hk : 0 ≤ o.k ∧ o.k ≤ 5) (hk1 : o.k ≠ 1) (hf : q.fuse = 1) (hb : BarC X a n c q o 0) :
    Calls Try.prog 17 #[rdV (.slice a n c) q, opV o] w (DoQ X a w { q with fuse := 0, off := true } (X.map Prod.fst) [] 0 3) := by
  have hC := Ch3.start w (.slice a n c) q o
  obtain ⟨W, hW⟩ : ∃ W, (((w.alloc (.cells #[.slice a n c, .int .i64 q.room, .int .i64 q.fuse, .bool q.off, .int .i64 q.steps, .int .i64 q.read] 28)).alloc (.cells #[.int .i64 o.k, .string (bs o.nm), .string (bs o.to), .slice o.P o.lb.length o.C, .int .i64 o.n, .int .i64 o.m, .slice o.K o.ks.length o.CK] 34)).alloc (.cells #[.slice none 0 0, .int .i64 0, .int .i64 0, .bool false, .int .i64 0, .int .i64 0] 28)) = W := ⟨_, rfl⟩
  have HW : Hid ((((w.alloc (.cells #[.slice a n c, .int .i64 q.room, .int .i64 q.fuse, .bool q.off, .int .i64 q.steps, .int .i64 q.read] 28)).alloc (.cells #[.int .i64 o.k, .string (bs o.nm), .string (bs o.to), .slice o.P o.lb.length o.C, .int .i64 o.n, .int .i64 o.m, .slice o.K o.ks.length o.CK] 34)).alloc (.cells #[.slice none 0 0, .int .i64 0, .int .i64 0, .bool false, .int .i64 0, .int .i64 0] 28)) = W) := hW
  rw [hW] at hC
  have HC : Hid (Ch3 w W (.slice a n c) q o) := hC
  have HN : Hid (X.length = n ∧ n ≤ 1000) := ⟨hn, hnl⟩
  have hnI : (n : Int) ≤ 1000 := by omega
  have hn0 : (0 : Int) ≤ (n : Int) := by omega
  have HX : Hid (FlsA w a X) := hX
  have HO : Hid (OpIn w o) := ho
  have HLO : Hid (w.heap.size + 1 + 1 < W.heap.size) := hC.rz.lt
  have k8 : (o.k == 8) = false := by simp; omega
  have k9 : (o.k == 9) = false := by simp; omega
  have k6 : (o.k == 6) = false := by simp; omega
  have k7 : (o.k == 7) = false := by simp; omega
  have kl : decide (o.k < 0) = false := by simp; omega
  have kg : decide (9 < o.k) = false := by simp; omega
  have k1 : (o.k == 1) = false := by simp; omega
  have HF : Hid (q.fuse = 1) := hf
  have HB : Hid (BarC X a n c q o 0) := hb
  clear hk hk1 hf hb
  clear hW hC hn hX ho
  go_enter Try.func17, Try.ntmps17
  go_upto_region 1 with fail
  try simp only [Act.put]
  rw [HW.out]
  obtain ⟨c0, c1, c2, c3, c4, c5, c6⟩ := HC.out.op.cells
  obtain ⟨d0, d1, d2, d3, d4, d5⟩ := HC.out.rd.cells
  have z2 := HC.out.rd.froz 2
  have z3 := HC.out.rd.froz 3
  have z4 := HC.out.rd.froz 4
  have z5 := HC.out.rd.froz 5

  go_wp2_with (first
    | (go_at_call 46; refine (HB.out W (HX.out.keep HC.out.low) (HO.out.keep HC.out.low)).mono ?_; rintro _ x5 ⟨rfl, hb5⟩; have HC5 : Hid (Ch3 w x5 (.slice a n c) q o) := HC.out.keep hb5; obtain ⟨e0, e1, e2, e3, e4, e5, e6⟩ := HC5.out.op.cells; obtain ⟨g0, g1, g2, g3, g4, g5⟩ := HC5.out.rd.cells; have y2 := HC5.out.rd.froz 2; have y3 := HC5.out.rd.froz 3; have y4 := HC5.out.rd.froz 4; have y5 := HC5.out.rd.froz 5; rw [HF.out] at g2; have HC6 : Hid (Ch3 w (x5.setCell ⟨w.heap.size, 2, none⟩ (.int .i64 0)) (.slice a n c) { q with fuse := 0 } o) := HC5.out.setn 2 _ (HC5.out.rd.set2 0); have HC7 : Hid (Ch3 w ((x5.setCell ⟨w.heap.size, 2, none⟩ (.int .i64 0)).setCell ⟨w.heap.size, 3, none⟩ (.bool true)) (.slice a n c) { q with fuse := 0, off := true } o) := HC6.out.setn 3 _ (HC6.out.rd.set3 true); obtain ⟨i0, i1, i2, i3, i4, i5, i6⟩ := HC7.out.op.cells; clear hb5)
    | ((with_reducible refine guard_load 28 ?_); refine wpList_load_rd rfl _ rfl HC7.out.rd rfl ?_)
    | ((with_reducible refine guard_load 28 ?_); refine wpList_load_rd rfl _ rfl HC.out.rd rfl ?_)
    | ((with_reducible refine guard_load 34 ?_); refine wpList_load_opb rfl _ rfl HC.out.op rfl ?_)
    | ((with_reducible refine guard_store 28 ?_); refine wpList_store_rd rfl _ _ rfl rfl HC7.out.rz (slice_one _ _ _) rfl rfl (v2 := .slice a n c) (q2 := { q with fuse := 0, off := true }) ?_; intro x9 hr9 hb9 hh9 hs9; have HR9 : Hid (RdAt x9 (w.heap.size + 1 + 1) (.slice a n c) { q with fuse := 0, off := true } ∧ Below w.heap.size w x9 ∧ (∀ j, j ≠ w.heap.size + 1 + 1 → x9.heap[j]? = ((x5.setCell ⟨w.heap.size, 2, none⟩ (.int .i64 0)).setCell ⟨w.heap.size, 3, none⟩ (.bool true)).heap[j]?) ∧ x9.heap.size = ((x5.setCell ⟨w.heap.size, 2, none⟩ (.int .i64 0)).setCell ⟨w.heap.size, 3, none⟩ (.bool true)).heap.size) := ⟨hr9, hb9 _ _ HC7.out.low (by omega), hh9, hs9⟩; clear hr9 hb9 hh9 hs9)
    | go_in)
  exact bodyPost_ret (results_rd4 rfl _ _ _ rfl HR9.out.1) rfl ⟨a, n, c, X, .slice none 0 0, rfl, .inr ⟨rfl, rfl⟩, HN.out.1, rfl, own_nil _ _, HX.out.keep HR9.out.2.1, HR9.out.2.1⟩
set_option maxRecDepth 100000 in
set_option maxHeartbeats 1600000 in
theorem rdo_f1a (w : World) (X : List (Fa × Value)) (a : Option Addr) (n c : Nat) (q : Rn) (hn : X.length = n) (hX : FlsA w a X) (hnl : n ≤ 1000) (o : Oa) (ho : OpIn w o) (hk : o.k = 1) (hf : q.fuse = 1) (hb : BarC X a n c q o 0) (L : List Fa) (hch : ChC X a n c { q with fuse := 0, off := true } o L) :
    Calls Try.prog 17 #[rdV (.slice a n c) q, opV o] w (DoQ X a w { q with fuse := 0, off := true } L [] 0 3) := by
  have hC := Ch3.start w (.slice a n c) q o
  obtain ⟨W, hW⟩ : ∃ W, (((w.alloc (.cells #[.slice a n c, .int .i64 q.room, .int .i64 q.fuse, .bool q.off, .int .i64 q.steps, .int .i64 q.read] 28)).alloc (.cells #[.int .i64 o.k, .string (bs o.nm), .string (bs o.to), .slice o.P o.lb.length o.C, .int .i64 o.n, .int .i64 o.m, .slice o.K o.ks.length o.CK] 34)).alloc (.cells #[.slice none 0 0, .int .i64 0, .int .i64 0, .bool false, .int .i64 0, .int .i64 0] 28)) = W := ⟨_, rfl⟩
  have HW : Hid ((((w.alloc (.cells #[.slice a n c, .int .i64 q.room, .int .i64 q.fuse, .bool q.off, .int .i64 q.steps, .int .i64 q.read] 28)).alloc (.cells #[.int .i64 o.k, .string (bs o.nm), .string (bs o.to), .slice o.P o.lb.length o.C, .int .i64 o.n, .int .i64 o.m, .slice o.K o.ks.length o.CK] 34)).alloc (.cells #[.slice none 0 0, .int .i64 0, .int .i64 0, .bool false, .int .i64 0, .int .i64 0] 28)) = W) := hW
  rw [hW] at hC
  have HC : Hid (Ch3 w W (.slice a n c) q o) := hC
  have HN : Hid (X.length = n ∧ n ≤ 1000) := ⟨hn, hnl⟩
  have hnI : (n : Int) ≤ 1000 := by omega
  have hn0 : (0 : Int) ≤ (n : Int) := by omega
  have HX : Hid (FlsA w a X) := hX
  have HO : Hid (OpIn w o) := ho
  have HLO : Hid (w.heap.size + 1 + 1 < W.heap.size) := hC.rz.lt
  have HK : Hid (o.k = 1) := hk
  have HF : Hid (q.fuse = 1) := hf
  have HB : Hid (BarC X a n c q o 0) := hb
  have HCH : Hid (ChC X a n c { q with fuse := 0, off := true } o L) := hch
  clear hk hf hb hch
  clear hW hC hn hX ho
  go_enter Try.func17, Try.ntmps17
  go_upto_region 1 with fail
  try simp only [Act.put]
  rw [HW.out]
  obtain ⟨c0, c1, c2, c3, c4, c5, c6⟩ := HC.out.op.cells
  obtain ⟨d0, d1, d2, d3, d4, d5⟩ := HC.out.rd.cells
  have z2 := HC.out.rd.froz 2
  have z3 := HC.out.rd.froz 3
  have z4 := HC.out.rd.froz 4
  have z5 := HC.out.rd.froz 5
  rw [HK.out] at c0
  go_wp2_with (first
    | (go_at_call 46; refine (HB.out W (HX.out.keep HC.out.low) (HO.out.keep HC.out.low)).mono ?_; rintro _ x5 ⟨rfl, hb5⟩; have HC5 : Hid (Ch3 w x5 (.slice a n c) q o) := HC.out.keep hb5; obtain ⟨e0, e1, e2, e3, e4, e5, e6⟩ := HC5.out.op.cells; obtain ⟨g0, g1, g2, g3, g4, g5⟩ := HC5.out.rd.cells; have y2 := HC5.out.rd.froz 2; have y3 := HC5.out.rd.froz 3; have y4 := HC5.out.rd.froz 4; have y5 := HC5.out.rd.froz 5; rw [HK.out] at e0; rw [HF.out] at g2; have HC6 : Hid (Ch3 w (x5.setCell ⟨w.heap.size, 2, none⟩ (.int .i64 0)) (.slice a n c) { q with fuse := 0 } o) := HC5.out.setn 2 _ (HC5.out.rd.set2 0); have HC7 : Hid (Ch3 w ((x5.setCell ⟨w.heap.size, 2, none⟩ (.int .i64 0)).setCell ⟨w.heap.size, 3, none⟩ (.bool true)) (.slice a n c) { q with fuse := 0, off := true } o) := HC6.out.setn 3 _ (HC6.out.rd.set3 true); obtain ⟨i0, i1, i2, i3, i4, i5, i6⟩ := HC7.out.op.cells; rw [HK.out] at i0; clear hb5)
    | (go_at_call 48; refine (HCH.out ((x5.setCell ⟨w.heap.size, 2, none⟩ (.int .i64 0)).setCell ⟨w.heap.size, 3, none⟩ (.bool true)) (HX.out.keep HC7.out.low) (HO.out.keep HC7.out.low)).mono ?_; rintro _ x8 ⟨b8, j8, d8, Y8, rfl, hf8, hl8, hm8, hb8⟩; have HC8 : Hid (Ch3 w x8 (.slice a n c) { q with fuse := 0, off := true } o) := HC7.out.keep hb8; have HF8 : Hid (FlsB X ((x5.setCell ⟨w.heap.size, 2, none⟩ (.int .i64 0)).setCell ⟨w.heap.size, 3, none⟩ (.bool true)) x8 b8 Y8 ∧ Y8.length = j8 ∧ Y8.map Prod.fst = L) := ⟨hf8, hl8, hm8⟩; clear hf8 hl8 hm8 hb8)
    | ((with_reducible refine guard_load 28 ?_); refine wpList_load_rd rfl _ rfl HC9.out.rd rfl ?_)
    | ((with_reducible refine guard_load 28 ?_); refine wpList_load_rd rfl _ rfl HC7.out.rd rfl ?_)
    | ((with_reducible refine guard_load 28 ?_); refine wpList_load_rd rfl _ rfl HC.out.rd rfl ?_)
    | ((with_reducible refine guard_load 34 ?_); refine wpList_load_opb rfl _ rfl HC7.out.op rfl ?_)
    | ((with_reducible refine guard_load 34 ?_); refine wpList_load_opb rfl _ rfl HC.out.op rfl ?_)
    | ((with_reducible refine guard_store 28 ?_); refine wpList_store_rd rfl _ _ rfl rfl HC9.out.rz (slice_one _ _ _) rfl rfl (v2 := .slice b8 j8 d8) (q2 := { q with fuse := 0, off := true }) ?_; intro x9 hr9 hb9 hh9 hs9; have HR9 : Hid (RdAt x9 (w.heap.size + 1 + 1) (.slice b8 j8 d8) { q with fuse := 0, off := true } ∧ Below w.heap.size w x9 ∧ (∀ j, j ≠ w.heap.size + 1 + 1 → x9.heap[j]? = (x7).heap[j]?) ∧ x9.heap.size = (x7).heap.size) := ⟨hr9, hb9 _ _ HC9.out.low (by omega), hh9, hs9⟩; clear hr9 hb9 hh9 hs9)
    | ((with_reducible refine guard_store 28 ?_); refine wpList_store_rd rfl _ _ rfl rfl HC8.out.rd (slice_one _ _ _) rfl rfl (v2 := .slice b8 j8 d8) (q2 := { q with fuse := 0, off := true }) ?_; intro x7 hr7 hb7 hh7 hs7; have HC9 : Hid (Ch3 w x7 (.slice b8 j8 d8) { q with fuse := 0, off := true } o) := ⟨hr7, (hh7 _ (by omega)).trans HC8.out.op, (hh7 _ (by omega)).trans HC8.out.rz, hb7 _ _ HC8.out.low (Nat.le_refl _)⟩; have HH7 : Hid ((∀ j, j ≠ w.heap.size → x7.heap[j]? = x8.heap[j]?) ∧ x7.heap.size = x8.heap.size) := ⟨hh7, hs7⟩; clear hr7 hb7 hh7 hs7)
    | go_in)
  have hfin : FlsB X w x9 b8 Y8 := HF8.out.1.turn HX.out HR9.out.2.1 HC8.out.low HC7.out.low.size (by rw [HR9.out.2.2.2]; exact Nat.le_of_eq HH7.out.2.symm) (fun k h1 _ => (HR9.out.2.2.1 k (by have := HC7.out.rz.lt; omega)).trans (HH7.out.1 k (by have := HC7.out.rz.lt; omega)))
  exact bodyPost_ret (results_rd4 rfl _ _ _ rfl HR9.out.1) rfl ⟨b8, _, d8, Y8, .slice none 0 0, rfl, .inl hfin, HF8.out.2.1, HF8.out.2.2, own_nil _ _, hfin.fls, HR9.out.2.1⟩
set_option maxRecDepth 100000 in
set_option maxHeartbeats 1600000 in
theorem rdo_st0 (w : World) (X : List (Fa × Value)) (a : Option Addr) (n c : Nat) (q : Rn) (hn : X.length = n) (hX : FlsA w a X) (hnl : n ≤ 1000) (o : Oa) (ho : OpIn w o) (hk : 0 ≤ o.k ∧ o.k ≤ 5) (hf : q.fuse < 1) (hb : BarC X a n c q o 0) (L : List Fa) (hch : ChC X a n c { q with steps := wrap64 (q.steps + 1) } o L) :
    Calls Try.prog 17 #[rdV (.slice a n c) q, opV o] w (DoQ X a w { q with steps := wrap64 (q.steps + 1) } L [] 0 0) := by
  have hC := Ch3.start w (.slice a n c) q o
  obtain ⟨W, hW⟩ : ∃ W, (((w.alloc (.cells #[.slice a n c, .int .i64 q.room, .int .i64 q.fuse, .bool q.off, .int .i64 q.steps, .int .i64 q.read] 28)).alloc (.cells #[.int .i64 o.k, .string (bs o.nm), .string (bs o.to), .slice o.P o.lb.length o.C, .int .i64 o.n, .int .i64 o.m, .slice o.K o.ks.length o.CK] 34)).alloc (.cells #[.slice none 0 0, .int .i64 0, .int .i64 0, .bool false, .int .i64 0, .int .i64 0] 28)) = W := ⟨_, rfl⟩
  have HW : Hid ((((w.alloc (.cells #[.slice a n c, .int .i64 q.room, .int .i64 q.fuse, .bool q.off, .int .i64 q.steps, .int .i64 q.read] 28)).alloc (.cells #[.int .i64 o.k, .string (bs o.nm), .string (bs o.to), .slice o.P o.lb.length o.C, .int .i64 o.n, .int .i64 o.m, .slice o.K o.ks.length o.CK] 34)).alloc (.cells #[.slice none 0 0, .int .i64 0, .int .i64 0, .bool false, .int .i64 0, .int .i64 0] 28)) = W) := hW
  rw [hW] at hC
  have HC : Hid (Ch3 w W (.slice a n c) q o) := hC
  have HN : Hid (X.length = n ∧ n ≤ 1000) := ⟨hn, hnl⟩
  have hnI : (n : Int) ≤ 1000 := by omega
  have hn0 : (0 : Int) ≤ (n : Int) := by omega
  have HX : Hid (FlsA w a X) := hX
  have HO : Hid (OpIn w o) := ho
  have HLO : Hid (w.heap.size + 1 + 1 < W.heap.size) := hC.rz.lt
  have k8 : (o.k == 8) = false := by simp; omega
  have k9 : (o.k == 9) = false := by simp; omega
  have k6 : (o.k == 6) = false := by simp; omega
  have k7 : (o.k == 7) = false := by simp; omega
  have kl : decide (o.k < 0) = false := by simp; omega
  have kg : decide (9 < o.k) = false := by simp; omega
  have hf1 : (q.fuse == 1) = false := by simp; omega
  have hf2 : decide (1 < q.fuse) = false := by simp; omega
  have HB : Hid (BarC X a n c q o 0) := hb
  have HCH : Hid (ChC X a n c { q with steps := wrap64 (q.steps + 1) } o L) := hch
  clear hk hf hb hch
  clear hW hC hn hX ho
  go_enter Try.func17, Try.ntmps17
  go_upto_region 1 with fail
  try simp only [Act.put]
  rw [HW.out]
  obtain ⟨c0, c1, c2, c3, c4, c5, c6⟩ := HC.out.op.cells
  obtain ⟨d0, d1, d2, d3, d4, d5⟩ := HC.out.rd.cells
  have z2 := HC.out.rd.froz 2
  have z3 := HC.out.rd.froz 3
  have z4 := HC.out.rd.froz 4
  have z5 := HC.out.rd.froz 5

  go_wp2_with (first
    | (go_at_call 46; refine (HB.out W (HX.out.keep HC.out.low) (HO.out.keep HC.out.low)).mono ?_; rintro _ x5 ⟨rfl, hb5⟩; have HC5 : Hid (Ch3 w x5 (.slice a n c) q o) := HC.out.keep hb5; obtain ⟨e0, e1, e2, e3, e4, e5, e6⟩ := HC5.out.op.cells; obtain ⟨g0, g1, g2, g3, g4, g5⟩ := HC5.out.rd.cells; have y2 := HC5.out.rd.froz 2; have y3 := HC5.out.rd.froz 3; have y4 := HC5.out.rd.froz 4; have y5 := HC5.out.rd.froz 5; have HC6 : Hid (Ch3 w (x5.setCell ⟨w.heap.size, 4, none⟩ (.int .i64 (wrap64 (q.steps + 1)))) (.slice a n c) { q with steps := wrap64 (q.steps + 1) } o) := HC5.out.setn 4 _ (HC5.out.rd.set4 _); clear hb5)
    | (go_at_call 48; refine (HCH.out (x5.setCell ⟨w.heap.size, 4, none⟩ (.int .i64 (wrap64 (q.steps + 1)))) (HX.out.keep HC6.out.low) (HO.out.keep HC6.out.low)).mono ?_; rintro _ x8 ⟨b8, j8, d8, Y8, rfl, hf8, hl8, hm8, hb8⟩; have HC8 : Hid (Ch3 w x8 (.slice a n c) { q with steps := wrap64 (q.steps + 1) } o) := HC6.out.keep hb8; have HF8 : Hid (FlsB X (x5.setCell ⟨w.heap.size, 4, none⟩ (.int .i64 (wrap64 (q.steps + 1)))) x8 b8 Y8 ∧ Y8.length = j8 ∧ Y8.map Prod.fst = L) := ⟨hf8, hl8, hm8⟩; clear hf8 hl8 hm8 hb8)
    | ((with_reducible refine guard_load 28 ?_); refine wpList_load_rd rfl _ rfl HC6.out.rd rfl ?_)
    | ((with_reducible refine guard_load 28 ?_); refine wpList_load_rd rfl _ rfl HC.out.rd rfl ?_)
    | ((with_reducible refine guard_load 34 ?_); refine wpList_load_opb rfl _ rfl HC6.out.op rfl ?_)
    | ((with_reducible refine guard_load 34 ?_); refine wpList_load_opb rfl _ rfl HC.out.op rfl ?_)
    | ((with_reducible refine guard_store 28 ?_); refine wpList_store_rd rfl _ _ rfl rfl HC8.out.rz (slice_one _ _ _) rfl rfl (v2 := .slice b8 j8 d8) (q2 := { q with steps := wrap64 (q.steps + 1) }) ?_; intro x9 hr9 hb9 hh9 hs9; have HR9 : Hid (RdAt x9 (w.heap.size + 1 + 1) (.slice b8 j8 d8) { q with steps := wrap64 (q.steps + 1) } ∧ Below w.heap.size w x9 ∧ (∀ j, j ≠ w.heap.size + 1 + 1 → x9.heap[j]? = (x8).heap[j]?) ∧ x9.heap.size = (x8).heap.size) := ⟨hr9, hb9 _ _ HC8.out.low (by omega), hh9, hs9⟩; clear hr9 hb9 hh9 hs9)
    | go_in)
  have hfin : FlsB X w x9 b8 Y8 := HF8.out.1.turn HX.out HR9.out.2.1 HC8.out.low HC6.out.low.size (by rw [HR9.out.2.2.2]; exact Nat.le_refl _) (fun k h1 _ => HR9.out.2.2.1 k (by have := HC6.out.rz.lt; omega))
  exact bodyPost_ret (results_rd4 rfl _ _ _ rfl HR9.out.1) rfl ⟨b8, _, d8, Y8, .slice none 0 0, rfl, .inl hfin, HF8.out.2.1, HF8.out.2.2, own_nil _ _, hfin.fls, HR9.out.2.1⟩
set_option maxRecDepth 100000 in
set_option maxHeartbeats 1600000 in
theorem rdo_st1 (w : World) (X : List (Fa × Value)) (a : Option Addr) (n c : Nat) (q : Rn) (hn : X.length = n) (hX : FlsA w a X) (hnl : n ≤ 1000) (o : Oa) (ho : OpIn w o) (hk : 0 ≤ o.k ∧ o.k ≤ 5) (hf : 1 < q.fuse) (hfm : q.fuse ≤ 9223372036854775807) (hb : BarC X a n c q o 0) (L : List Fa) (hch : ChC X a n c { q with fuse := q.fuse - 1, steps := wrap64 (q.steps + 1) } o L) :
    Calls Try.prog 17 #[rdV (.slice a n c) q, opV o] w (DoQ X a w { q with fuse := q.fuse - 1, steps := wrap64 (q.steps + 1) } L [] 0 0) := by
  have hC := Ch3.start w (.slice a n c) q o
  obtain ⟨W, hW⟩ : ∃ W, (((w.alloc (.cells #[.slice a n c, .int .i64 q.room, .int .i64 q.fuse, .bool q.off, .int .i64 q.steps, .int .i64 q.read] 28)).alloc (.cells #[.int .i64 o.k, .string (bs o.nm), .string (bs o.to), .slice o.P o.lb.length o.C, .int .i64 o.n, .int .i64 o.m, .slice o.K o.ks.length o.CK] 34)).alloc (.cells #[.slice none 0 0, .int .i64 0, .int .i64 0, .bool false, .int .i64 0, .int .i64 0] 28)) = W := ⟨_, rfl⟩
  have HW : Hid ((((w.alloc (.cells #[.slice a n c, .int .i64 q.room, .int .i64 q.fuse, .bool q.off, .int .i64 q.steps, .int .i64 q.read] 28)).alloc (.cells #[.int .i64 o.k, .string (bs o.nm), .string (bs o.to), .slice o.P o.lb.length o.C, .int .i64 o.n, .int .i64 o.m, .slice o.K o.ks.length o.CK] 34)).alloc (.cells #[.slice none 0 0, .int .i64 0, .int .i64 0, .bool false, .int .i64 0, .int .i64 0] 28)) = W) := hW
  rw [hW] at hC
  have HC : Hid (Ch3 w W (.slice a n c) q o) := hC
  have HN : Hid (X.length = n ∧ n ≤ 1000) := ⟨hn, hnl⟩
  have hnI : (n : Int) ≤ 1000 := by omega
  have hn0 : (0 : Int) ≤ (n : Int) := by omega
  have HX : Hid (FlsA w a X) := hX
  have HO : Hid (OpIn w o) := ho
  have HLO : Hid (w.heap.size + 1 + 1 < W.heap.size) := hC.rz.lt
  have k8 : (o.k == 8) = false := by simp; omega
  have k9 : (o.k == 9) = false := by simp; omega
  have k6 : (o.k == 6) = false := by simp; omega
  have k7 : (o.k == 7) = false := by simp; omega
  have kl : decide (o.k < 0) = false := by simp; omega
  have kg : decide (9 < o.k) = false := by simp; omega
  have hf1 : (q.fuse == 1) = false := by simp; omega
  have hf2 : decide (1 < q.fuse) = true := by simpa using hf
  have hfw : wrap64 (q.fuse - 1) = q.fuse - 1 := by unfold wrap64; omega
  have HB : Hid (BarC X a n c q o 0) := hb
  have HCH : Hid (ChC X a n c { q with fuse := q.fuse - 1, steps := wrap64 (q.steps + 1) } o L) := hch
  clear hk hb hch
  clear hW hC hn hX ho
  go_enter Try.func17, Try.ntmps17
  go_upto_region 1 with fail
  try simp only [Act.put]
  rw [HW.out]
  obtain ⟨c0, c1, c2, c3, c4, c5, c6⟩ := HC.out.op.cells
  obtain ⟨d0, d1, d2, d3, d4, d5⟩ := HC.out.rd.cells
  have z2 := HC.out.rd.froz 2
  have z3 := HC.out.rd.froz 3
  have z4 := HC.out.rd.froz 4
  have z5 := HC.out.rd.froz 5

  go_wp2_with (first
    | (go_at_call 46; refine (HB.out W (HX.out.keep HC.out.low) (HO.out.keep HC.out.low)).mono ?_; rintro _ x5 ⟨rfl, hb5⟩; have HC5 : Hid (Ch3 w x5 (.slice a n c) q o) := HC.out.keep hb5; obtain ⟨e0, e1, e2, e3, e4, e5, e6⟩ := HC5.out.op.cells; obtain ⟨g0, g1, g2, g3, g4, g5⟩ := HC5.out.rd.cells; have y2 := HC5.out.rd.froz 2; have y3 := HC5.out.rd.froz 3; have y4 := HC5.out.rd.froz 4; have y5 := HC5.out.rd.froz 5; have HC6 : Hid (Ch3 w (x5.setCell ⟨w.heap.size, 2, none⟩ (.int .i64 (q.fuse - 1))) (.slice a n c) { q with fuse := q.fuse - 1 } o) := HC5.out.setn 2 _ (HC5.out.rd.set2 _); have HC7 : Hid (Ch3 w ((x5.setCell ⟨w.heap.size, 2, none⟩ (.int .i64 (q.fuse - 1))).setCell ⟨w.heap.size, 4, none⟩ (.int .i64 (wrap64 (q.steps + 1)))) (.slice a n c) { q with fuse := q.fuse - 1, steps := wrap64 (q.steps + 1) } o) := HC6.out.setn 4 _ (HC6.out.rd.set4 _); clear hb5)
    | (go_at_call 48; refine (HCH.out ((x5.setCell ⟨w.heap.size, 2, none⟩ (.int .i64 (q.fuse - 1))).setCell ⟨w.heap.size, 4, none⟩ (.int .i64 (wrap64 (q.steps + 1)))) (HX.out.keep HC7.out.low) (HO.out.keep HC7.out.low)).mono ?_; rintro _ x8 ⟨b8, j8, d8, Y8, rfl, hf8, hl8, hm8, hb8⟩; have HC8 : Hid (Ch3 w x8 (.slice a n c) { q with fuse := q.fuse - 1, steps := wrap64 (q.steps + 1) } o) := HC7.out.keep hb8; have HF8 : Hid (FlsB X ((x5.setCell ⟨w.heap.size, 2, none⟩ (.int .i64 (q.fuse - 1))).setCell ⟨w.heap.size, 4, none⟩ (.int .i64 (wrap64 (q.steps + 1)))) x8 b8 Y8 ∧ Y8.length = j8 ∧ Y8.map Prod.fst = L) := ⟨hf8, hl8, hm8⟩; clear hf8 hl8 hm8 hb8)
    | ((with_reducible refine guard_load 28 ?_); refine wpList_load_rd rfl _ rfl HC7.out.rd rfl ?_)
    | ((with_reducible refine guard_load 28 ?_); refine wpList_load_rd rfl _ rfl HC.out.rd rfl ?_)
    | ((with_reducible refine guard_load 34 ?_); refine wpList_load_opb rfl _ rfl HC7.out.op rfl ?_)
    | ((with_reducible refine guard_load 34 ?_); refine wpList_load_opb rfl _ rfl HC.out.op rfl ?_)
    | ((with_reducible refine guard_store 28 ?_); refine wpList_store_rd rfl _ _ rfl rfl HC8.out.rz (slice_one _ _ _) rfl rfl (v2 := .slice b8 j8 d8) (q2 := { q with fuse := q.fuse - 1, steps := wrap64 (q.steps + 1) }) ?_; intro x9 hr9 hb9 hh9 hs9; have HR9 : Hid (RdAt x9 (w.heap.size + 1 + 1) (.slice b8 j8 d8) { q with fuse := q.fuse - 1, steps := wrap64 (q.steps + 1) } ∧ Below w.heap.size w x9 ∧ (∀ j, j ≠ w.heap.size + 1 + 1 → x9.heap[j]? = (x8).heap[j]?) ∧ x9.heap.size = (x8).heap.size) := ⟨hr9, hb9 _ _ HC8.out.low (by omega), hh9, hs9⟩; clear hr9 hb9 hh9 hs9)
    | go_in)
  have hfin : FlsB X w x9 b8 Y8 := HF8.out.1.turn HX.out HR9.out.2.1 HC8.out.low HC7.out.low.size (by rw [HR9.out.2.2.2]; exact Nat.le_refl _) (fun k h1 _ => HR9.out.2.2.1 k (by have := HC7.out.rz.lt; omega))
  exact bodyPost_ret (results_rd4 rfl _ _ _ rfl HR9.out.1) rfl ⟨b8, _, d8, Y8, .slice none 0 0, rfl, .inl hfin, HF8.out.2.1, HF8.out.2.2, own_nil _ _, hfin.fls, HR9.out.2.1⟩
end Go.Proofs.Ytlnhhgmdajbepaa
