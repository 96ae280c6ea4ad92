/- Own texts, joined: Rdo. -/
import Derived.Test.YtlnhhgmdajbepaaK36
namespace Go.Proofs.Ytlnhhgmdajbepaa
open Go.ChangeShapes Go.WideShapes Go.ChangeAt Go.RowKit
set_option linter.unusedVariables false
set_option linter.unusedSimpArgs false
set_option maxRecDepth 100000 in
set_option maxHeartbeats 1600000 in
theorem rdo_lo (w : World) (X : List (Fa × Value)) (a : Option Addr) (n c : Nat) (q : Rn) (hn : X.length = n) (hX : FlsA w a X) (hnl : n ≤ 1000) (o : Oa) (ho : OpIn w o) (hk : o.k < 0) :
    Calls Try.prog 17 #[rdV (.slice a n c) q, opV o] w (DoQ X a w q (X.map Prod.fst) [] 0 0) := by
  have hC := Ch3.start w (.slice a n c) q o
  obtain ⟨W, hW⟩ : ∃ W, (((w.alloc (.cells #[.slice a n c, .int .i64 q.room, .int .i64 q.fuse, .bool q.off, .int .i64 q.steps, .int .i64 q.read] 28)).alloc (.cells #[.int .i64 o.k, .string (bs o.nm), .string (bs o.to), .slice o.P o.lb.length o.C, .int .i64 o.n, .int .i64 o.m, .slice o.K o.ks.length o.CK] 34)).alloc (.cells #[.slice none 0 0, .int .i64 0, .int .i64 0, .bool false, .int .i64 0, .int .i64 0] 28)) = W := ⟨_, rfl⟩
  have HW : Hid ((((w.alloc (.cells #[.slice a n c, .int .i64 q.room, .int .i64 q.fuse, .bool q.off, .int .i64 q.steps, .int .i64 q.read] 28)).alloc (.cells #[.int .i64 o.k, .string (bs o.nm), .string (bs o.to), .slice o.P o.lb.length o.C, .int .i64 o.n, .int .i64 o.m, .slice o.K o.ks.length o.CK] 34)).alloc (.cells #[.slice none 0 0, .int .i64 0, .int .i64 0, .bool false, .int .i64 0, .int .i64 0] 28)) = W) := hW
  rw [hW] at hC
  have HC : Hid (Ch3 w W (.slice a n c) q o) := hC
  have HN : Hid (X.length = n ∧ n ≤ 1000) := ⟨hn, hnl⟩
  have hnI : (n : Int) ≤ 1000 := by omega
  have hn0 : (0 : Int) ≤ (n : Int) := by omega
  have HX : Hid (FlsA w a X) := hX
  have HO : Hid (OpIn w o) := ho
  have HLO : Hid (w.heap.size + 1 + 1 < W.heap.size) := hC.rz.lt
  have k8 : (o.k == 8) = false := by simp; omega
  have k9 : (o.k == 9) = false := by simp; omega
  have kl : decide (o.k < 0) = true := by simpa using hk
  clear hW hC hn hX ho
  go_enter Try.func17, Try.ntmps17
  go_upto_region 1 with fail
  try simp only [Act.put]
  rw [HW.out]
  obtain ⟨c0, c1, c2, c3, c4, c5, c6⟩ := HC.out.op.cells
  obtain ⟨d0, d1, d2, d3, d4, d5⟩ := HC.out.rd.cells
  have z2 := HC.out.rd.froz 2
  have z3 := HC.out.rd.froz 3
  have z4 := HC.out.rd.froz 4
  have z5 := HC.out.rd.froz 5

  go_wp2_with (first
    | ((with_reducible refine guard_load 28 ?_); refine wpList_load_rd rfl _ rfl HC.out.rd rfl ?_)
    | ((with_reducible refine guard_store 28 ?_); refine wpList_store_rd rfl _ _ rfl rfl HC.out.rz (slice_one _ _ _) rfl rfl (v2 := .slice a n c) (q2 := q) ?_; intro x9 hr9 hb9 hh9 hs9; have HR9 : Hid (RdAt x9 (w.heap.size + 1 + 1) (.slice a n c) q ∧ Below w.heap.size w x9 ∧ (∀ j, j ≠ w.heap.size + 1 + 1 → x9.heap[j]? = (W).heap[j]?) ∧ x9.heap.size = (W).heap.size) := ⟨hr9, hb9 _ _ HC.out.low (by omega), hh9, hs9⟩; clear hr9 hb9 hh9 hs9)
    | go_in)
  exact bodyPost_ret (results_rd4 rfl _ _ _ rfl HR9.out.1) rfl ⟨a, n, c, X, .slice none 0 0, rfl, .inr ⟨rfl, rfl⟩, HN.out.1, rfl, own_nil _ _, HX.out.keep HR9.out.2.1, HR9.out.2.1⟩
set_option maxRecDepth 100000 in
set_option maxHeartbeats 1600000 in
theorem rdo_hi (w : World) (X : List (Fa × Value)) (a : Option Addr) (n c : Nat) (q : Rn) (hn : X.length = n) (hX : FlsA w a X) (hnl : n ≤ 1000) (o : Oa) (ho : OpIn w o) (hk : 9 < o.k) :
    Calls Try.prog 17 #[rdV (.slice a n c) q, opV o] w (DoQ X a w q (X.map Prod.fst) [] 0 0) := by
  have hC := Ch3.start w (.slice a n c) q o
  obtain ⟨W, hW⟩ : ∃ W, (((w.alloc (.cells #[.slice a n c, .int .i64 q.room, .int .i64 q.fuse, .bool q.off, .int .i64 q.steps, .int .i64 q.read] 28)).alloc (.cells #[.int .i64 o.k, .string (bs o.nm), .string (bs o.to), .slice o.P o.lb.length o.C, .int .i64 o.n, .int .i64 o.m, .slice o.K o.ks.length o.CK] 34)).alloc (.cells #[.slice none 0 0, .int .i64 0, .int .i64 0, .bool false, .int .i64 0, .int .i64 0] 28)) = W := ⟨_, rfl⟩
  have HW : Hid ((((w.alloc (.cells #[.slice a n c, .int .i64 q.room, .int .i64 q.fuse, .bool q.off, .int .i64 q.steps, .int .i64 q.read] 28)).alloc (.cells #[.int .i64 o.k, .string (bs o.nm), .string (bs o.to), .slice o.P o.lb.length o.C, .int .i64 o.n, .int .i64 o.m, .slice o.K o.ks.length o.CK] 34)).alloc (.cells #[.slice none 0 0, .int .i64 0, .int .i64 0, .bool false, .int .i64 0, .int .i64 0] 28)) = W) := hW
  rw [hW] at hC
  have HC : Hid (Ch3 w W (.slice a n c) q o) := hC
  have HN : Hid (X.length = n ∧ n ≤ 1000) := ⟨hn, hnl⟩
  have hnI : (n : Int) ≤ 1000 := by omega
  have hn0 : (0 : Int) ≤ (n : Int) := by omega
  have HX : Hid (FlsA w a X) := hX
  have HO : Hid (OpIn w o) := ho
  have HLO : Hid (w.heap.size + 1 + 1 < W.heap.size) := hC.rz.lt
  have k8 : (o.k == 8) = false := by simp; omega
  have k9 : (o.k == 9) = false := by simp; omega
  have kl : decide (o.k < 0) = false := by simp; omega
  have kg : decide (9 < o.k) = true := by simpa using hk
  clear hW hC hn hX ho
  go_enter Try.func17, Try.ntmps17
  go_upto_region 1 with fail
  try simp only [Act.put]
  rw [HW.out]
  obtain ⟨c0, c1, c2, c3, c4, c5, c6⟩ := HC.out.op.cells
  obtain ⟨d0, d1, d2, d3, d4, d5⟩ := HC.out.rd.cells
  have z2 := HC.out.rd.froz 2
  have z3 := HC.out.rd.froz 3
  have z4 := HC.out.rd.froz 4
  have z5 := HC.out.rd.froz 5

  go_wp2_with (first
    | ((with_reducible refine guard_load 28 ?_); refine wpList_load_rd rfl _ rfl HC.out.rd rfl ?_)
    | ((with_reducible refine guard_store 28 ?_); refine wpList_store_rd rfl _ _ rfl rfl HC.out.rz (slice_one _ _ _) rfl rfl (v2 := .slice a n c) (q2 := q) ?_; intro x9 hr9 hb9 hh9 hs9; have HR9 : Hid (RdAt x9 (w.heap.size + 1 + 1) (.slice a n c) q ∧ Below w.heap.size w x9 ∧ (∀ j, j ≠ w.heap.size + 1 + 1 → x9.heap[j]? = (W).heap[j]?) ∧ x9.heap.size = (W).heap.size) := ⟨hr9, hb9 _ _ HC.out.low (by omega), hh9, hs9⟩; clear hr9 hb9 hh9 hs9)
    | go_in)
  exact bodyPost_ret (results_rd4 rfl _ _ _ rfl HR9.out.1) rfl ⟨a, n, c, X, .slice none 0 0, rfl, .inr ⟨rfl, rfl⟩, HN.out.1, rfl, own_nil _ _, HX.out.keep HR9.out.2.1, HR9.out.2.1⟩
set_option maxRecDepth 100000 in
set_option maxHeartbeats 1600000 in
theorem rdo_fz0 (w : World) (X : List (Fa × Value)) (a : Option Addr) (n c : Nat) (q : Rn) (hn : X.length = n) (hX : FlsA w a X) (hnl : n ≤ 1000) (o : Oa) (ho : OpIn w o) (hk : o.k = 9) (h1 : ¬ 0 < o.n) :
    Calls Try.prog 17 #[rdV (.slice a n c) q, opV o] w (DoQ X a w { q with fuse := 0 } (X.map Prod.fst) [] 0 0) := by
  have hC := Ch3.start w (.slice a n c) q o
  obtain ⟨W, hW⟩ : ∃ W, (((w.alloc (.cells #[.slice a n c, .int .i64 q.room, .int .i64 q.fuse, .bool q.off, .int .i64 q.steps, .int .i64 q.read] 28)).alloc (.cells #[.int .i64 o.k, .string (bs o.nm), .string (bs o.to), .slice o.P o.lb.length o.C, .int .i64 o.n, .int .i64 o.m, .slice o.K o.ks.length o.CK] 34)).alloc (.cells #[.slice none 0 0, .int .i64 0, .int .i64 0, .bool false, .int .i64 0, .int .i64 0] 28)) = W := ⟨_, rfl⟩
  have HW : Hid ((((w.alloc (.cells #[.slice a n c, .int .i64 q.room, .int .i64 q.fuse, .bool q.off, .int .i64 q.steps, .int .i64 q.read] 28)).alloc (.cells #[.int .i64 o.k, .string (bs o.nm), .string (bs o.to), .slice o.P o.lb.length o.C, .int .i64 o.n, .int .i64 o.m, .slice o.K o.ks.length o.CK] 34)).alloc (.cells #[.slice none 0 0, .int .i64 0, .int .i64 0, .bool false, .int .i64 0, .int .i64 0] 28)) = W) := hW
  rw [hW] at hC
  have HC : Hid (Ch3 w W (.slice a n c) q o) := hC
  have HN : Hid (X.length = n ∧ n ≤ 1000) := ⟨hn, hnl⟩
  have hnI : (n : Int) ≤ 1000 := by omega
  have hn0 : (0 : Int) ≤ (n : Int) := by omega
  have HX : Hid (FlsA w a X) := hX
  have HO : Hid (OpIn w o) := ho
  have HLO : Hid (w.heap.size + 1 + 1 < W.heap.size) := hC.rz.lt
  have HK : Hid (o.k = 9) := hk
  have hd : decide (0 < o.n) = false := by simpa using h1
  clear hk
  clear hW hC hn hX ho
  go_enter Try.func17, Try.ntmps17
  go_upto_region 1 with fail
  try simp only [Act.put]
  rw [HW.out]
  obtain ⟨c0, c1, c2, c3, c4, c5, c6⟩ := HC.out.op.cells
  obtain ⟨d0, d1, d2, d3, d4, d5⟩ := HC.out.rd.cells
  have z2 := HC.out.rd.froz 2
  have z3 := HC.out.rd.froz 3
  have z4 := HC.out.rd.froz 4
  have z5 := HC.out.rd.froz 5
  rw [HK.out] at c0
  have HS : Hid (Ch3 w (W.setCell ⟨w.heap.size, 2, none⟩ (.int .i64 0)) (.slice a n c) { q with fuse := 0 } o) := HC.out.setn 2 _ (HC.out.rd.set2 0)
  go_wp2_with (first
    | ((with_reducible refine guard_load 28 ?_); refine wpList_load_rd rfl _ rfl HS.out.rd rfl ?_)
    | ((with_reducible refine guard_store 28 ?_); refine wpList_store_rd rfl _ _ rfl rfl HS.out.rz (slice_one _ _ _) rfl rfl (v2 := .slice a n c) (q2 := { q with fuse := 0 }) ?_; intro x9 hr9 hb9 hh9 hs9; have HR9 : Hid (RdAt x9 (w.heap.size + 1 + 1) (.slice a n c) { q with fuse := 0 } ∧ Below w.heap.size w x9 ∧ (∀ j, j ≠ w.heap.size + 1 + 1 → x9.heap[j]? = (W.setCell ⟨w.heap.size, 2, none⟩ (.int .i64 0)).heap[j]?) ∧ x9.heap.size = (W.setCell ⟨w.heap.size, 2, none⟩ (.int .i64 0)).heap.size) := ⟨hr9, hb9 _ _ HS.out.low (by omega), hh9, hs9⟩; clear hr9 hb9 hh9 hs9)
    | go_in)
  exact bodyPost_ret (results_rd4 rfl _ _ _ rfl HR9.out.1) rfl ⟨a, n, c, X, .slice none 0 0, rfl, .inr ⟨rfl, rfl⟩, HN.out.1, rfl, own_nil _ _, HX.out.keep HR9.out.2.1, HR9.out.2.1⟩
set_option maxRecDepth 100000 in
set_option maxHeartbeats 1600000 in
theorem rdo_fz1 (w : World) (X : List (Fa × Value)) (a : Option Addr) (n c : Nat) (q : Rn) (hn : X.length = n) (hX : FlsA w a X) (hnl : n ≤ 1000) (o : Oa) (ho : OpIn w o) (hk : o.k = 9) (h1 : 0 < o.n) :
    Calls Try.prog 17 #[rdV (.slice a n c) q, opV o] w (DoQ X a w { q with fuse := o.n } (X.map Prod.fst) [] 0 0) := by
  have hC := Ch3.start w (.slice a n c) q o
  obtain ⟨W, hW⟩ : ∃ W, (((w.alloc (.cells #[.slice a n c, .int .i64 q.room, .int .i64 q.fuse, .bool q.off, .int .i64 q.steps, .int .i64 q.read] 28)).alloc (.cells #[.int .i64 o.k, .string (bs o.nm), .string (bs o.to), .slice o.P o.lb.length o.C, .int .i64 o.n, .int .i64 o.m, .slice o.K o.ks.length o.CK] 34)).alloc (.cells #[.slice none 0 0, .int .i64 0, .int .i64 0, .bool false, .int .i64 0, .int .i64 0] 28)) = W := ⟨_, rfl⟩
  have HW : Hid ((((w.alloc (.cells #[.slice a n c, .int .i64 q.room, .int .i64 q.fuse, .bool q.off, .int .i64 q.steps, .int .i64 q.read] 28)).alloc (.cells #[.int .i64 o.k, .string (bs o.nm), .string (bs o.to), .slice o.P o.lb.length o.C, .int .i64 o.n, .int .i64 o.m, .slice o.K o.ks.length o.CK] 34)).alloc (.cells #[.slice none 0 0, .int .i64 0, .int .i64 0, .bool false, .int .i64 0, .int .i64 0] 28)) = W) := hW
  rw [hW] at hC
  have HC : Hid (Ch3 w W (.slice a n c) q o) := hC
  have HN : Hid (X.length = n ∧ n ≤ 1000) := ⟨hn, hnl⟩
  have hnI : (n : Int) ≤ 1000 := by omega
  have hn0 : (0 : Int) ≤ (n : Int) := by omega
  have HX : Hid (FlsA w a X) := hX
  have HO : Hid (OpIn w o) := ho
  have HLO : Hid (w.heap.size + 1 + 1 < W.heap.size) := hC.rz.lt
  have HK : Hid (o.k = 9) := hk
  have hd : decide (0 < o.n) = true := by simpa using h1
  clear hk
  clear hW hC hn hX ho
  go_enter Try.func17, Try.ntmps17
  go_upto_region 1 with fail
  try simp only [Act.put]
  rw [HW.out]
  obtain ⟨c0, c1, c2, c3, c4, c5, c6⟩ := HC.out.op.cells
  obtain ⟨d0, d1, d2, d3, d4, d5⟩ := HC.out.rd.cells
  have z2 := HC.out.rd.froz 2
  have z3 := HC.out.rd.froz 3
  have z4 := HC.out.rd.froz 4
  have z5 := HC.out.rd.froz 5
  rw [HK.out] at c0
  have HS0 : Hid (Ch3 w (W.setCell ⟨w.heap.size, 2, none⟩ (.int .i64 0)) (.slice a n c) { q with fuse := 0 } o) := HC.out.setn 2 _ (HC.out.rd.set2 0)
  have z22 := HS0.out.rd.froz 2
  have HS : Hid (Ch3 w ((W.setCell ⟨w.heap.size, 2, none⟩ (.int .i64 0)).setCell ⟨w.heap.size, 2, none⟩ (.int .i64 o.n)) (.slice a n c) { q with fuse := o.n } o) := HS0.out.setn 2 _ (HS0.out.rd.set2 _)
  go_wp2_with (first
    | ((with_reducible refine guard_load 28 ?_); refine wpList_load_rd rfl _ rfl HS.out.rd rfl ?_)
    | ((with_reducible refine guard_store 28 ?_); refine wpList_store_rd rfl _ _ rfl rfl HS.out.rz (slice_one _ _ _) rfl rfl (v2 := .slice a n c) (q2 := { q with fuse := o.n }) ?_; intro x9 hr9 hb9 hh9 hs9; have HR9 : Hid (RdAt x9 (w.heap.size + 1 + 1) (.slice a n c) { q with fuse := o.n } ∧ Below w.heap.size w x9 ∧ (∀ j, j ≠ w.heap.size + 1 + 1 → x9.heap[j]? = ((W.setCell ⟨w.heap.size, 2, none⟩ (.int .i64 0)).setCell ⟨w.heap.size, 2, none⟩ (.int .i64 o.n)).heap[j]?) ∧ x9.heap.size = ((W.setCell ⟨w.heap.size, 2, none⟩ (.int .i64 0)).setCell ⟨w.heap.size, 2, none⟩ (.int .i64 o.n)).heap.size) := ⟨hr9, hb9 _ _ HS.out.low (by omega), hh9, hs9⟩; clear hr9 hb9 hh9 hs9)
    | go_in)
  exact bodyPost_ret (results_rd4 rfl _ _ _ rfl HR9.out.1) rfl ⟨a, n, c, X, .slice none 0 0, rfl, .inr ⟨rfl, rfl⟩, HN.out.1, rfl, own_nil _ _, HX.out.keep HR9.out.2.1, HR9.out.2.1⟩
set_option maxRecDepth 100000 in
set_option maxHeartbeats 1600000 in
theorem rdo_re (w : World) (X : List (Fa × Value)) (a : Option Addr) (n c : Nat) (q : Rn) (hn : X.length = n) (hX : FlsA w a X) (hnl : n ≤ 1000) (o : Oa) (ho : OpIn w o) (hk : o.k = 8) (hsf : ∀ f ∈ X.map Prod.fst, f.s ≤ f.l.length ∧ f.l.length ≤ 67108864) :
    Calls Try.prog 17 #[rdV (.slice a n c) q, opV o] w (DoQ X a w { q with fuse := 0, off := false } (loseA (X.map Prod.fst) o.ks) [] 0 0) := by
  have hC := Ch3.start w (.slice a n c) q o
  obtain ⟨W, hW⟩ : ∃ W, (((w.alloc (.cells #[.slice a n c, .int .i64 q.room, .int .i64 q.fuse, .bool q.off, .int .i64 q.steps, .int .i64 q.read] 28)).alloc (.cells #[.int .i64 o.k, .string (bs o.nm), .string (bs o.to), .slice o.P o.lb.length o.C, .int .i64 o.n, .int .i64 o.m, .slice o.K o.ks.length o.CK] 34)).alloc (.cells #[.slice none 0 0, .int .i64 0, .int .i64 0, .bool false, .int .i64 0, .int .i64 0] 28)) = W := ⟨_, rfl⟩
  have HW : Hid ((((w.alloc (.cells #[.slice a n c, .int .i64 q.room, .int .i64 q.fuse, .bool q.off, .int .i64 q.steps, .int .i64 q.read] 28)).alloc (.cells #[.int .i64 o.k, .string (bs o.nm), .string (bs o.to), .slice o.P o.lb.length o.C, .int .i64 o.n, .int .i64 o.m, .slice o.K o.ks.length o.CK] 34)).alloc (.cells #[.slice none 0 0, .int .i64 0, .int .i64 0, .bool false, .int .i64 0, .int .i64 0] 28)) = W) := hW
  rw [hW] at hC
  have HC : Hid (Ch3 w W (.slice a n c) q o) := hC
  have HN : Hid (X.length = n ∧ n ≤ 1000) := ⟨hn, hnl⟩
  have hnI : (n : Int) ≤ 1000 := by omega
  have hn0 : (0 : Int) ≤ (n : Int) := by omega
  have HX : Hid (FlsA w a X) := hX
  have HO : Hid (OpIn w o) := ho
  have HLO : Hid (w.heap.size + 1 + 1 < W.heap.size) := hC.rz.lt
  have HK : Hid (o.k = 8) := hk
  have HSF : Hid (∀ f ∈ X.map Prod.fst, f.s ≤ f.l.length ∧ f.l.length ≤ 67108864) := hsf
  clear hk hsf
  clear hW hC hn hX ho
  go_enter Try.func17, Try.ntmps17
  go_upto_region 1 with fail
  try simp only [Act.put]
  rw [HW.out]
  obtain ⟨c0, c1, c2, c3, c4, c5, c6⟩ := HC.out.op.cells
  obtain ⟨d0, d1, d2, d3, d4, d5⟩ := HC.out.rd.cells
  have z2 := HC.out.rd.froz 2
  have z3 := HC.out.rd.froz 3
  have z4 := HC.out.rd.froz 4
  have z5 := HC.out.rd.froz 5
  rw [HK.out] at c0
  go_wp2_with (first
    | (go_at_call 45; refine (rrestart_any W X a n c q HN.out.1 (HX.out.keep HC.out.low) HN.out.2 HSF.out o.K o.CK o.ks.length o.ks rfl (HO.out.ks.keep HC.out.low) (by have := HO.out.kl; omega)).mono ?_; rintro _ x8 ⟨b8, d8, Y8, rfl, hf8, hl8, hm8, hb8⟩; have HC8 : Hid (Ch3 w x8 (.slice a n c) q o) := HC.out.keep hb8; have HF8 : Hid (FlsB X W x8 b8 Y8 ∧ Y8.length = n ∧ Y8.map Prod.fst = loseA (X.map Prod.fst) o.ks) := ⟨hf8, hl8, hm8⟩; clear hf8 hl8 hm8 hb8)
    | ((with_reducible refine guard_load 28 ?_); refine wpList_load_rd rfl _ rfl HC.out.rd rfl ?_)
    | ((with_reducible refine guard_store 28 ?_); refine wpList_store_rd rfl _ _ rfl rfl HC8.out.rz (slice_one _ _ _) rfl rfl (v2 := .slice b8 n d8) (q2 := { q with fuse := 0, off := false }) ?_; intro x9 hr9 hb9 hh9 hs9; have HR9 : Hid (RdAt x9 (w.heap.size + 1 + 1) (.slice b8 n d8) { q with fuse := 0, off := false } ∧ Below w.heap.size w x9 ∧ (∀ j, j ≠ w.heap.size + 1 + 1 → x9.heap[j]? = (x8).heap[j]?) ∧ x9.heap.size = (x8).heap.size) := ⟨hr9, hb9 _ _ HC8.out.low (by omega), hh9, hs9⟩; clear hr9 hb9 hh9 hs9)
    | go_in)
  have hfin : FlsB X w x9 b8 Y8 := HF8.out.1.turn HX.out HR9.out.2.1 HC8.out.low HC.out.low.size (by rw [HR9.out.2.2.2]; exact Nat.le_refl _) (fun k h1 _ => HR9.out.2.2.1 k (by have := HLO.out; omega))
  exact bodyPost_ret (results_rd4 rfl _ _ _ rfl HR9.out.1) rfl ⟨b8, _, d8, Y8, .slice none 0 0, rfl, .inl hfin, HF8.out.2.1, HF8.out.2.2, own_nil _ _, hfin.fls, HR9.out.2.1⟩
set_option maxRecDepth 100000 in
set_option maxHeartbeats 1600000 in
theorem rdo_bar (w : World) (X : List (Fa × Value)) (a : Option Addr) (n c : Nat) (q : Rn) (hn : X.length = n) (hX : FlsA w a X) (hnl : n ≤ 1000) (o : Oa) (ho : OpIn w o) (hk : 0 ≤ o.k ∧ o.k ≤ 7) (e : Int) (he : e ≠ 0) (hb : BarC X a n c q o e) :
    Calls Try.prog 17 #[rdV (.slice a n c) q, opV o] w (DoQ X a w q (X.map Prod.fst) [] 0 e) := by
  have hC := Ch3.start w (.slice a n c) q o
  obtain ⟨W, hW⟩ : ∃ W, (((w.alloc (.cells #[.slice a n c, .int .i64 q.room, .int .i64 q.fuse, .bool q.off, .int .i64 q.steps, .int .i64 q.read] 28)).alloc (.cells #[.int .i64 o.k, .string (bs o.nm), .string (bs o.to), .slice o.P o.lb.length o.C, .int .i64 o.n, .int .i64 o.m, .slice o.K o.ks.length o.CK] 34)).alloc (.cells #[.slice none 0 0, .int .i64 0, .int .i64 0, .bool false, .int .i64 0, .int .i64 0] 28)) = W := ⟨_, rfl⟩
  have HW : Hid ((((w.alloc (.cells #[.slice a n c, .int .i64 q.room, .int .i64 q.fuse, .bool q.off, .int .i64 q.steps, .int .i64 q.read] 28)).alloc (.cells #[.int .i64 o.k, .string (bs o.nm), .string (bs o.to), .slice o.P o.lb.length o.C, .int .i64 o.n, .int .i64 o.m, .slice o.K o.ks.length o.CK] 34)).alloc (.cells #[.slice none 0 0, .int .i64 0, .int .i64 0, .bool false, .int .i64 0, .int .i64 0] 28)) = W) := hW
  rw [hW] at hC
  have HC : Hid (Ch3 w W (.slice a n c) q o) := hC
  have HN : Hid (X.length = n ∧ n ≤ 1000) := ⟨hn, hnl⟩
  have hnI : (n : Int) ≤ 1000 := by omega
  have hn0 : (0 : Int) ≤ (n : Int) := by omega
  have HX : Hid (FlsA w a X) := hX
  have HO : Hid (OpIn w o) := ho
  have HLO : Hid (w.heap.size + 1 + 1 < W.heap.size) := hC.rz.lt
  have k8 : (o.k == 8) = false := by simp; omega
  have k9 : (o.k == 9) = false := by simp; omega
  have kl : decide (o.k < 0) = false := by simp; omega
  have kg : decide (9 < o.k) = false := by simp; omega
  have he1 : (e != 0) = true := by simpa using he
  have he2 : (e == 0) = false := by simpa using he
  have HB : Hid (BarC X a n c q o e) := hb
  clear hb hk he
  clear hW hC hn hX ho
  go_enter Try.func17, Try.ntmps17
  go_upto_region 1 with fail
  try simp only [Act.put]
  rw [HW.out]
  obtain ⟨c0, c1, c2, c3, c4, c5, c6⟩ := HC.out.op.cells
  obtain ⟨d0, d1, d2, d3, d4, d5⟩ := HC.out.rd.cells
  have z2 := HC.out.rd.froz 2
  have z3 := HC.out.rd.froz 3
  have z4 := HC.out.rd.froz 4
  have z5 := HC.out.rd.froz 5

  go_wp2_with (first
    | (go_at_call 46; refine (HB.out W (HX.out.keep HC.out.low) (HO.out.keep HC.out.low)).mono ?_; rintro _ x5 ⟨rfl, hb5⟩; have HC5 : Hid (Ch3 w x5 (.slice a n c) q o) := HC.out.keep hb5; obtain ⟨e0, e1, e2, e3, e4, e5, e6⟩ := HC5.out.op.cells; obtain ⟨g0, g1, g2, g3, g4, g5⟩ := HC5.out.rd.cells; have y2 := HC5.out.rd.froz 2; have y3 := HC5.out.rd.froz 3; have y4 := HC5.out.rd.froz 4; have y5 := HC5.out.rd.froz 5; clear hb5)
    | ((with_reducible refine guard_load 28 ?_); refine wpList_load_rd rfl _ rfl HC5.out.rd rfl ?_)
    | ((with_reducible refine guard_load 28 ?_); refine wpList_load_rd rfl _ rfl HC.out.rd rfl ?_)
    | ((with_reducible refine guard_load 34 ?_); refine wpList_load_opb rfl _ rfl HC.out.op rfl ?_)
    | ((with_reducible refine guard_store 28 ?_); refine wpList_store_rd rfl _ _ rfl rfl HC5.out.rz (slice_one _ _ _) rfl rfl (v2 := .slice a n c) (q2 := q) ?_; intro x9 hr9 hb9 hh9 hs9; have HR9 : Hid (RdAt x9 (w.heap.size + 1 + 1) (.slice a n c) q ∧ Below w.heap.size w x9 ∧ (∀ j, j ≠ w.heap.size + 1 + 1 → x9.heap[j]? = (x5).heap[j]?) ∧ x9.heap.size = (x5).heap.size) := ⟨hr9, hb9 _ _ HC5.out.low (by omega), hh9, hs9⟩; clear hr9 hb9 hh9 hs9)
    | go_in)
  exact bodyPost_ret (results_rd4 rfl _ _ _ rfl HR9.out.1) rfl ⟨a, n, c, X, .slice none 0 0, rfl, .inr ⟨rfl, rfl⟩, HN.out.1, rfl, own_nil _ _, HX.out.keep HR9.out.2.1, HR9.out.2.1⟩
end Go.Proofs.Ytlnhhgmdajbepaa
