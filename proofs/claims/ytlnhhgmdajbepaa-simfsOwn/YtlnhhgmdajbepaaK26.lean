/- Own texts, joined: Rbs. -/
import Derived.Test.YtlnhhgmdajbepaaK25
namespace Go.Proofs.Ytlnhhgmdajbepaa
open Go.ChangeShapes Go.WideShapes Go.ChangeAt Go.RowKit
set_option linter.unusedVariables false
set_option linter.unusedSimpArgs false
set_option maxRecDepth 100000 in
set_option maxHeartbeats 1600000 in
theorem rbar_2ok (w : World) (X : List (Fa × Value)) (a : Option Addr) (n c : Nat) (q : Rn) (hn : X.length = n) (hX : FlsA w a X) (hnl : n ≤ 1000) (o : Oa) (ho : OpIn w o) (hoff : q.off = false) (hr : rightS o.nm = true) (hk : o.k = 2) (f : Fa) (hg : getA (X.map Prod.fst) o.nm = some f) (m : Nat) (hm : f.l.length = m) (hm6 : m ≤ 67108864) :
    Calls Try.prog 46 #[rdV (.slice a n c) q, opV o] w fun r w' => r = .returned (.int .i64 0) ∧ Below w.heap.size w w' := by
  have hC := Ch2.start w (.slice a n c) q o
  obtain ⟨W, hW⟩ : ∃ W, ((w.alloc (.cells #[.slice a n c, .int .i64 q.room, .int .i64 q.fuse, .bool q.off, .int .i64 q.steps, .int .i64 q.read] 28)).alloc (.cells #[.int .i64 o.k, .string (bs o.nm), .string (bs o.to), .slice o.P o.lb.length o.C, .int .i64 o.n, .int .i64 o.m, .slice o.K o.ks.length o.CK] 34)) = W := ⟨_, rfl⟩
  have HW : Hid (((w.alloc (.cells #[.slice a n c, .int .i64 q.room, .int .i64 q.fuse, .bool q.off, .int .i64 q.steps, .int .i64 q.read] 28)).alloc (.cells #[.int .i64 o.k, .string (bs o.nm), .string (bs o.to), .slice o.P o.lb.length o.C, .int .i64 o.n, .int .i64 o.m, .slice o.K o.ks.length o.CK] 34)) = W) := hW
  rw [hW] at hC
  have HC : Hid (Ch2 w W (.slice a n c) q o) := hC
  have HN : Hid (X.length = n ∧ n ≤ 1000) := ⟨hn, hnl⟩
  have hnI : (n : Int) ≤ 1000 := by omega
  have hn0 : (0 : Int) ≤ (n : Int) := by omega
  have HX : Hid (FlsA w a X) := hX
  have HO : Hid (OpIn w o) := ho
  have HF : Hid (q.off = false) := hoff
  have HRN : Hid (rightS o.nm = true) := hr
  clear hoff hr
  have HK : Hid (o.k = 2) := hk
  clear hk
  have HG : Hid (getA (X.map Prod.fst) o.nm = some f) := hg
  have HM : Hid (f.l.length = m) := hm
  clear hg hm
  have hmI : (m : Int) ≤ 67108864 := by omega
  have hm0 : (0 : Int) ≤ (m : Int) := by omega
  clear hm6
  clear hW hC hn hX ho
  go_enter Try.func46, Try.ntmps46
  go_upto_region 1 with fail
  try simp only [Act.put]
  rw [HW.out]
  obtain ⟨c0, c1, c2, c3, c4, c5, c6⟩ := HC.out.op.cells
  obtain ⟨d0, d1, d2, d3, d4, d5⟩ := HC.out.rd.cells
  rw [HF.out] at d3
  rw [HK.out] at c0
  go_wp2_with (first
    | (go_at_call 27; refine (rright_any o.nm _ HO.out.nm).mono ?_; rw [HRN.out]; rintro _ x3 ⟨rfl, rfl⟩)
    | ((with_reducible refine guard_load 28 ?_); refine wpList_load_rd rfl _ rfl HC.out.rd rfl ?_)
    | (go_at_call 47; refine (rat_any W X a n c q HN.out.1 (HX.out.keep HC.out.low) (by have := HN.out.2; omega) o.nm HO.out.nm).mono ?_; rintro _ y5 ⟨z, rfl, hb5, hz⟩; obtain ⟨i, p, hi, rfl, hp, hpf⟩ : ∃ (i : Nat) (p : Fa × Value), i < n ∧ z = (i : Int) ∧ X[i]? = some p ∧ p.1 = f := at_found hz HG.out; obtain ⟨f2, bv⟩ := p; simp only at hpf; subst hpf; obtain ⟨a2, c2', e2', _, _, _⟩ := HX.out.fv (List.mem_of_getElem? hp); simp only at e2'; subst e2'; have HC5 : Hid (Ch2 w y5 (.slice a n c) q o) := HC.out.keep hb5; obtain ⟨b0, off, hab, hlt0, k0, k1, k2⟩ := (HX.out.keep HC5.out.low).at i _ hp; subst hab; simp only at k0 k1 k2; rw [HM.out] at k1; have HX5 : Hid (FlsA y5 (some ⟨b0, off, none⟩) X) := HX.out.keep HC5.out.low; have hiI : (i : Int) < (n : Int) := (by omega); have hi0 : (0 : Int) ≤ (i : Int) := (by omega); obtain ⟨e0, e1, e2, e3, e4, e5, e6⟩ := HC5.out.op.cells; obtain ⟨f0, f1, g2, f3, f4, f5⟩ := HC5.out.rd.cells; rw [HK.out] at e0; clear hb5 hz hp hlt0 k0 k2)
    | go_in)
  go_region
  obtain ⟨y6, hy6⟩ : ∃ y6, y5.drew = y6 := ⟨_, rfl⟩
  have HC6 : Hid (Ch2 w y6 (.slice (some ⟨b0, off, none⟩) n c) q o) := by rw [← hy6]; exact HC5.out.keep (Below.refl _ _).drew
  obtain ⟨e0, e1, e2, e3, e4, e5, e6⟩ := HC6.out.op.cells
  obtain ⟨f0, f1, g2, f3, f4, f5⟩ := HC6.out.rd.cells
  rw [HK.out] at e0
  rw [hy6]
  clear hy6
  go_wp2_with fail
  go_ret
  exact ⟨rfl, HC6.out.low⟩
set_option maxRecDepth 100000 in
set_option maxHeartbeats 1600000 in
theorem rbar_3ok (w : World) (X : List (Fa × Value)) (a : Option Addr) (n c : Nat) (q : Rn) (hn : X.length = n) (hX : FlsA w a X) (hnl : n ≤ 1000) (o : Oa) (ho : OpIn w o) (hoff : q.off = false) (hr : rightS o.nm = true) (hk : o.k = 3) (f : Fa) (hg : getA (X.map Prod.fst) o.nm = some f) (m : Nat) (hm : f.l.length = m) (hm6 : m ≤ 67108864) (ht : rightS o.to = true) :
    Calls Try.prog 46 #[rdV (.slice a n c) q, opV o] w fun r w' => r = .returned (.int .i64 0) ∧ Below w.heap.size w w' := by
  have hC := Ch2.start w (.slice a n c) q o
  obtain ⟨W, hW⟩ : ∃ W, ((w.alloc (.cells #[.slice a n c, .int .i64 q.room, .int .i64 q.fuse, .bool q.off, .int .i64 q.steps, .int .i64 q.read] 28)).alloc (.cells #[.int .i64 o.k, .string (bs o.nm), .string (bs o.to), .slice o.P o.lb.length o.C, .int .i64 o.n, .int .i64 o.m, .slice o.K o.ks.length o.CK] 34)) = W := ⟨_, rfl⟩
  have HW : Hid (((w.alloc (.cells #[.slice a n c, .int .i64 q.room, .int .i64 q.fuse, .bool q.off, .int .i64 q.steps, .int .i64 q.read] 28)).alloc (.cells #[.int .i64 o.k, .string (bs o.nm), .string (bs o.to), .slice o.P o.lb.length o.C, .int .i64 o.n, .int .i64 o.m, .slice o.K o.ks.length o.CK] 34)) = W) := hW
  rw [hW] at hC
  have HC : Hid (Ch2 w W (.slice a n c) q o) := hC
  have HN : Hid (X.length = n ∧ n ≤ 1000) := ⟨hn, hnl⟩
  have hnI : (n : Int) ≤ 1000 := by omega
  have hn0 : (0 : Int) ≤ (n : Int) := by omega
  have HX : Hid (FlsA w a X) := hX
  have HO : Hid (OpIn w o) := ho
  have HF : Hid (q.off = false) := hoff
  have HRN : Hid (rightS o.nm = true) := hr
  clear hoff hr
  have HK : Hid (o.k = 3) := hk
  clear hk
  have HG : Hid (getA (X.map Prod.fst) o.nm = some f) := hg
  have HM : Hid (f.l.length = m) := hm
  clear hg hm
  have HRT : Hid (rightS o.to = true) := ht
  clear ht
  have T1 : Hid True := trivial
  have hmI : (m : Int) ≤ 67108864 := by omega
  have hm0 : (0 : Int) ≤ (m : Int) := by omega
  clear hm6
  clear hW hC hn hX ho
  go_enter Try.func46, Try.ntmps46
  go_upto_region 1 with fail
  try simp only [Act.put]
  rw [HW.out]
  obtain ⟨c0, c1, c2, c3, c4, c5, c6⟩ := HC.out.op.cells
  obtain ⟨d0, d1, d2, d3, d4, d5⟩ := HC.out.rd.cells
  rw [HF.out] at d3
  rw [HK.out] at c0
  go_wp2_with (first
    | (go_at_call 27; clear T1; refine (rright_any o.nm _ HO.out.nm).mono ?_; rw [HRN.out]; rintro _ x3 ⟨rfl, rfl⟩)
    | (go_at_call 27; refine (rright_any o.to _ HO.out.to).mono ?_; rw [HRT.out]; rintro _ x3 ⟨rfl, rfl⟩)
    | ((with_reducible refine guard_load 28 ?_); refine wpList_load_rd rfl _ rfl HC.out.rd rfl ?_)
    | (go_at_call 47; refine (rat_any W X a n c q HN.out.1 (HX.out.keep HC.out.low) (by have := HN.out.2; omega) o.nm HO.out.nm).mono ?_; rintro _ y5 ⟨z, rfl, hb5, hz⟩; obtain ⟨i, p, hi, rfl, hp, hpf⟩ : ∃ (i : Nat) (p : Fa × Value), i < n ∧ z = (i : Int) ∧ X[i]? = some p ∧ p.1 = f := at_found hz HG.out; obtain ⟨f2, bv⟩ := p; simp only at hpf; subst hpf; obtain ⟨a2, c2', e2', _, _, _⟩ := HX.out.fv (List.mem_of_getElem? hp); simp only at e2'; subst e2'; have HC5 : Hid (Ch2 w y5 (.slice a n c) q o) := HC.out.keep hb5; obtain ⟨b0, off, hab, hlt0, k0, k1, k2⟩ := (HX.out.keep HC5.out.low).at i _ hp; subst hab; simp only at k0 k1 k2; rw [HM.out] at k1; have HX5 : Hid (FlsA y5 (some ⟨b0, off, none⟩) X) := HX.out.keep HC5.out.low; have hiI : (i : Int) < (n : Int) := (by omega); have hi0 : (0 : Int) ≤ (i : Int) := (by omega); obtain ⟨e0, e1, e2, e3, e4, e5, e6⟩ := HC5.out.op.cells; obtain ⟨f0, f1, g2, f3, f4, f5⟩ := HC5.out.rd.cells; rw [HK.out] at e0; clear hb5 hz hp hlt0 k0 k2)
    | go_in)
  go_region
  obtain ⟨y6, hy6⟩ : ∃ y6, y5.drew = y6 := ⟨_, rfl⟩
  have HC6 : Hid (Ch2 w y6 (.slice (some ⟨b0, off, none⟩) n c) q o) := by rw [← hy6]; exact HC5.out.keep (Below.refl _ _).drew
  obtain ⟨e0, e1, e2, e3, e4, e5, e6⟩ := HC6.out.op.cells
  obtain ⟨f0, f1, g2, f3, f4, f5⟩ := HC6.out.rd.cells
  rw [HK.out] at e0
  rw [hy6]
  clear hy6
  go_wp2_with fail
  go_ret
  exact ⟨rfl, HC6.out.low⟩
set_option maxRecDepth 100000 in
set_option maxHeartbeats 1600000 in
theorem rbar_4ok (w : World) (X : List (Fa × Value)) (a : Option Addr) (n c : Nat) (q : Rn) (hn : X.length = n) (hX : FlsA w a X) (hnl : n ≤ 1000) (o : Oa) (ho : OpIn w o) (hoff : q.off = false) (hr : rightS o.nm = true) (hk : o.k = 4) (f : Fa) (hg : getA (X.map Prod.fst) o.nm = some f) (m : Nat) (hm : f.l.length = m) (hm6 : m ≤ 67108864) :
    Calls Try.prog 46 #[rdV (.slice a n c) q, opV o] w fun r w' => r = .returned (.int .i64 0) ∧ Below w.heap.size w w' := by
  have hC := Ch2.start w (.slice a n c) q o
  obtain ⟨W, hW⟩ : ∃ W, ((w.alloc (.cells #[.slice a n c, .int .i64 q.room, .int .i64 q.fuse, .bool q.off, .int .i64 q.steps, .int .i64 q.read] 28)).alloc (.cells #[.int .i64 o.k, .string (bs o.nm), .string (bs o.to), .slice o.P o.lb.length o.C, .int .i64 o.n, .int .i64 o.m, .slice o.K o.ks.length o.CK] 34)) = W := ⟨_, rfl⟩
  have HW : Hid (((w.alloc (.cells #[.slice a n c, .int .i64 q.room, .int .i64 q.fuse, .bool q.off, .int .i64 q.steps, .int .i64 q.read] 28)).alloc (.cells #[.int .i64 o.k, .string (bs o.nm), .string (bs o.to), .slice o.P o.lb.length o.C, .int .i64 o.n, .int .i64 o.m, .slice o.K o.ks.length o.CK] 34)) = W) := hW
  rw [hW] at hC
  have HC : Hid (Ch2 w W (.slice a n c) q o) := hC
  have HN : Hid (X.length = n ∧ n ≤ 1000) := ⟨hn, hnl⟩
  have hnI : (n : Int) ≤ 1000 := by omega
  have hn0 : (0 : Int) ≤ (n : Int) := by omega
  have HX : Hid (FlsA w a X) := hX
  have HO : Hid (OpIn w o) := ho
  have HF : Hid (q.off = false) := hoff
  have HRN : Hid (rightS o.nm = true) := hr
  clear hoff hr
  have HK : Hid (o.k = 4) := hk
  clear hk
  have HG : Hid (getA (X.map Prod.fst) o.nm = some f) := hg
  have HM : Hid (f.l.length = m) := hm
  clear hg hm
  have hmI : (m : Int) ≤ 67108864 := by omega
  have hm0 : (0 : Int) ≤ (m : Int) := by omega
  clear hm6
  clear hW hC hn hX ho
  go_enter Try.func46, Try.ntmps46
  go_upto_region 1 with fail
  try simp only [Act.put]
  rw [HW.out]
  obtain ⟨c0, c1, c2, c3, c4, c5, c6⟩ := HC.out.op.cells
  obtain ⟨d0, d1, d2, d3, d4, d5⟩ := HC.out.rd.cells
  rw [HF.out] at d3
  rw [HK.out] at c0
  go_wp2_with (first
    | (go_at_call 27; refine (rright_any o.nm _ HO.out.nm).mono ?_; rw [HRN.out]; rintro _ x3 ⟨rfl, rfl⟩)
    | ((with_reducible refine guard_load 28 ?_); refine wpList_load_rd rfl _ rfl HC.out.rd rfl ?_)
    | (go_at_call 47; refine (rat_any W X a n c q HN.out.1 (HX.out.keep HC.out.low) (by have := HN.out.2; omega) o.nm HO.out.nm).mono ?_; rintro _ y5 ⟨z, rfl, hb5, hz⟩; obtain ⟨i, p, hi, rfl, hp, hpf⟩ : ∃ (i : Nat) (p : Fa × Value), i < n ∧ z = (i : Int) ∧ X[i]? = some p ∧ p.1 = f := at_found hz HG.out; obtain ⟨f2, bv⟩ := p; simp only at hpf; subst hpf; obtain ⟨a2, c2', e2', _, _, _⟩ := HX.out.fv (List.mem_of_getElem? hp); simp only at e2'; subst e2'; have HC5 : Hid (Ch2 w y5 (.slice a n c) q o) := HC.out.keep hb5; obtain ⟨b0, off, hab, hlt0, k0, k1, k2⟩ := (HX.out.keep HC5.out.low).at i _ hp; subst hab; simp only at k0 k1 k2; rw [HM.out] at k1; have HX5 : Hid (FlsA y5 (some ⟨b0, off, none⟩) X) := HX.out.keep HC5.out.low; have hiI : (i : Int) < (n : Int) := (by omega); have hi0 : (0 : Int) ≤ (i : Int) := (by omega); obtain ⟨e0, e1, e2, e3, e4, e5, e6⟩ := HC5.out.op.cells; obtain ⟨f0, f1, g2, f3, f4, f5⟩ := HC5.out.rd.cells; rw [HK.out] at e0; clear hb5 hz hp hlt0 k0 k2)
    | go_in)
  go_region
  obtain ⟨y6, hy6⟩ : ∃ y6, y5.drew = y6 := ⟨_, rfl⟩
  have HC6 : Hid (Ch2 w y6 (.slice (some ⟨b0, off, none⟩) n c) q o) := by rw [← hy6]; exact HC5.out.keep (Below.refl _ _).drew
  obtain ⟨e0, e1, e2, e3, e4, e5, e6⟩ := HC6.out.op.cells
  obtain ⟨f0, f1, g2, f3, f4, f5⟩ := HC6.out.rd.cells
  rw [HK.out] at e0
  rw [hy6]
  clear hy6
  go_wp2_with fail
  go_ret
  exact ⟨rfl, HC6.out.low⟩
set_option maxRecDepth 100000 in
set_option maxHeartbeats 1600000 in
theorem rbar_7ok (w : World) (X : List (Fa × Value)) (a : Option Addr) (n c : Nat) (q : Rn) (hn : X.length = n) (hX : FlsA w a X) (hnl : n ≤ 1000) (o : Oa) (ho : OpIn w o) (hoff : q.off = false) (hr : rightS o.nm = true) (hk : o.k = 7) (f : Fa) (hg : getA (X.map Prod.fst) o.nm = some f) (m : Nat) (hm : f.l.length = m) (hm6 : m ≤ 67108864) :
    Calls Try.prog 46 #[rdV (.slice a n c) q, opV o] w fun r w' => r = .returned (.int .i64 0) ∧ Below w.heap.size w w' := by
  have hC := Ch2.start w (.slice a n c) q o
  obtain ⟨W, hW⟩ : ∃ W, ((w.alloc (.cells #[.slice a n c, .int .i64 q.room, .int .i64 q.fuse, .bool q.off, .int .i64 q.steps, .int .i64 q.read] 28)).alloc (.cells #[.int .i64 o.k, .string (bs o.nm), .string (bs o.to), .slice o.P o.lb.length o.C, .int .i64 o.n, .int .i64 o.m, .slice o.K o.ks.length o.CK] 34)) = W := ⟨_, rfl⟩
  have HW : Hid (((w.alloc (.cells #[.slice a n c, .int .i64 q.room, .int .i64 q.fuse, .bool q.off, .int .i64 q.steps, .int .i64 q.read] 28)).alloc (.cells #[.int .i64 o.k, .string (bs o.nm), .string (bs o.to), .slice o.P o.lb.length o.C, .int .i64 o.n, .int .i64 o.m, .slice o.K o.ks.length o.CK] 34)) = W) := hW
  rw [hW] at hC
  have HC : Hid (Ch2 w W (.slice a n c) q o) := hC
  have HN : Hid (X.length = n ∧ n ≤ 1000) := ⟨hn, hnl⟩
  have hnI : (n : Int) ≤ 1000 := by omega
  have hn0 : (0 : Int) ≤ (n : Int) := by omega
  have HX : Hid (FlsA w a X) := hX
  have HO : Hid (OpIn w o) := ho
  have HF : Hid (q.off = false) := hoff
  have HRN : Hid (rightS o.nm = true) := hr
  clear hoff hr
  have HK : Hid (o.k = 7) := hk
  clear hk
  have HG : Hid (getA (X.map Prod.fst) o.nm = some f) := hg
  have HM : Hid (f.l.length = m) := hm
  clear hg hm
  have hmI : (m : Int) ≤ 67108864 := by omega
  have hm0 : (0 : Int) ≤ (m : Int) := by omega
  clear hm6
  clear hW hC hn hX ho
  go_enter Try.func46, Try.ntmps46
  go_upto_region 1 with fail
  try simp only [Act.put]
  rw [HW.out]
  obtain ⟨c0, c1, c2, c3, c4, c5, c6⟩ := HC.out.op.cells
  obtain ⟨d0, d1, d2, d3, d4, d5⟩ := HC.out.rd.cells
  rw [HF.out] at d3
  rw [HK.out] at c0
  go_wp2_with (first
    | (go_at_call 27; refine (rright_any o.nm _ HO.out.nm).mono ?_; rw [HRN.out]; rintro _ x3 ⟨rfl, rfl⟩)
    | ((with_reducible refine guard_load 28 ?_); refine wpList_load_rd rfl _ rfl HC.out.rd rfl ?_)
    | (go_at_call 47; refine (rat_any W X a n c q HN.out.1 (HX.out.keep HC.out.low) (by have := HN.out.2; omega) o.nm HO.out.nm).mono ?_; rintro _ y5 ⟨z, rfl, hb5, hz⟩; obtain ⟨i, p, hi, rfl, hp, hpf⟩ : ∃ (i : Nat) (p : Fa × Value), i < n ∧ z = (i : Int) ∧ X[i]? = some p ∧ p.1 = f := at_found hz HG.out; obtain ⟨f2, bv⟩ := p; simp only at hpf; subst hpf; obtain ⟨a2, c2', e2', _, _, _⟩ := HX.out.fv (List.mem_of_getElem? hp); simp only at e2'; subst e2'; have HC5 : Hid (Ch2 w y5 (.slice a n c) q o) := HC.out.keep hb5; obtain ⟨b0, off, hab, hlt0, k0, k1, k2⟩ := (HX.out.keep HC5.out.low).at i _ hp; subst hab; simp only at k0 k1 k2; rw [HM.out] at k1; have HX5 : Hid (FlsA y5 (some ⟨b0, off, none⟩) X) := HX.out.keep HC5.out.low; have hiI : (i : Int) < (n : Int) := (by omega); have hi0 : (0 : Int) ≤ (i : Int) := (by omega); obtain ⟨e0, e1, e2, e3, e4, e5, e6⟩ := HC5.out.op.cells; obtain ⟨f0, f1, g2, f3, f4, f5⟩ := HC5.out.rd.cells; rw [HK.out] at e0; clear hb5 hz hp hlt0 k0 k2)
    | go_in)
  go_region
  obtain ⟨y6, hy6⟩ : ∃ y6, y5.drew = y6 := ⟨_, rfl⟩
  have HC6 : Hid (Ch2 w y6 (.slice (some ⟨b0, off, none⟩) n c) q o) := by rw [← hy6]; exact HC5.out.keep (Below.refl _ _).drew
  obtain ⟨e0, e1, e2, e3, e4, e5, e6⟩ := HC6.out.op.cells
  obtain ⟨f0, f1, g2, f3, f4, f5⟩ := HC6.out.rd.cells
  rw [HK.out] at e0
  rw [hy6]
  clear hy6
  go_wp2_with fail
  go_ret
  exact ⟨rfl, HC6.out.low⟩
set_option maxRecDepth 100000 in
set_option maxHeartbeats 1600000 in
theorem rbar_5low (w : World) (X : List (Fa × Value)) (a : Option Addr) (n c : Nat) (q : Rn) (hn : X.length = n) (hX : FlsA w a X) (hnl : n ≤ 1000) (o : Oa) (ho : OpIn w o) (hoff : q.off = false) (hr : rightS o.nm = true) (hk : o.k = 5) (f : Fa) (hg : getA (X.map Prod.fst) o.nm = some f) (m : Nat) (hm : f.l.length = m) (hm6 : m ≤ 67108864) (h1 : o.n < 0) :
    Calls Try.prog 46 #[rdV (.slice a n c) q, opV o] w fun r w' => r = .returned (.int .i64 1) ∧ Below w.heap.size w w' := by
  have hC := Ch2.start w (.slice a n c) q o
  obtain ⟨W, hW⟩ : ∃ W, ((w.alloc (.cells #[.slice a n c, .int .i64 q.room, .int .i64 q.fuse, .bool q.off, .int .i64 q.steps, .int .i64 q.read] 28)).alloc (.cells #[.int .i64 o.k, .string (bs o.nm), .string (bs o.to), .slice o.P o.lb.length o.C, .int .i64 o.n, .int .i64 o.m, .slice o.K o.ks.length o.CK] 34)) = W := ⟨_, rfl⟩
  have HW : Hid (((w.alloc (.cells #[.slice a n c, .int .i64 q.room, .int .i64 q.fuse, .bool q.off, .int .i64 q.steps, .int .i64 q.read] 28)).alloc (.cells #[.int .i64 o.k, .string (bs o.nm), .string (bs o.to), .slice o.P o.lb.length o.C, .int .i64 o.n, .int .i64 o.m, .slice o.K o.ks.length o.CK] 34)) = W) := hW
  rw [hW] at hC
  have HC : Hid (Ch2 w W (.slice a n c) q o) := hC
  have HN : Hid (X.length = n ∧ n ≤ 1000) := ⟨hn, hnl⟩
  have hnI : (n : Int) ≤ 1000 := by omega
  have hn0 : (0 : Int) ≤ (n : Int) := by omega
  have HX : Hid (FlsA w a X) := hX
  have HO : Hid (OpIn w o) := ho
  have HF : Hid (q.off = false) := hoff
  have HRN : Hid (rightS o.nm = true) := hr
  clear hoff hr
  have HK : Hid (o.k = 5) := hk
  clear hk
  have HG : Hid (getA (X.map Prod.fst) o.nm = some f) := hg
  have HM : Hid (f.l.length = m) := hm
  clear hg hm
  have hmI : (m : Int) ≤ 67108864 := by omega
  have hm0 : (0 : Int) ≤ (m : Int) := by omega
  clear hm6
  clear hW hC hn hX ho
  go_enter Try.func46, Try.ntmps46
  go_upto_region 1 with fail
  try simp only [Act.put]
  rw [HW.out]
  obtain ⟨c0, c1, c2, c3, c4, c5, c6⟩ := HC.out.op.cells
  obtain ⟨d0, d1, d2, d3, d4, d5⟩ := HC.out.rd.cells
  rw [HF.out] at d3
  rw [HK.out] at c0
  go_wp2_with (first
    | (go_at_call 27; refine (rright_any o.nm _ HO.out.nm).mono ?_; rw [HRN.out]; rintro _ x3 ⟨rfl, rfl⟩)
    | ((with_reducible refine guard_load 28 ?_); refine wpList_load_rd rfl _ rfl HC.out.rd rfl ?_)
    | (go_at_call 47; refine (rat_any W X a n c q HN.out.1 (HX.out.keep HC.out.low) (by have := HN.out.2; omega) o.nm HO.out.nm).mono ?_; rintro _ y5 ⟨z, rfl, hb5, hz⟩; obtain ⟨i, p, hi, rfl, hp, hpf⟩ : ∃ (i : Nat) (p : Fa × Value), i < n ∧ z = (i : Int) ∧ X[i]? = some p ∧ p.1 = f := at_found hz HG.out; obtain ⟨f2, bv⟩ := p; simp only at hpf; subst hpf; obtain ⟨a2, c2', e2', _, _, _⟩ := HX.out.fv (List.mem_of_getElem? hp); simp only at e2'; subst e2'; have HC5 : Hid (Ch2 w y5 (.slice a n c) q o) := HC.out.keep hb5; obtain ⟨b0, off, hab, hlt0, k0, k1, k2⟩ := (HX.out.keep HC5.out.low).at i _ hp; subst hab; simp only at k0 k1 k2; rw [HM.out] at k1; have HX5 : Hid (FlsA y5 (some ⟨b0, off, none⟩) X) := HX.out.keep HC5.out.low; have hiI : (i : Int) < (n : Int) := (by omega); have hi0 : (0 : Int) ≤ (i : Int) := (by omega); obtain ⟨e0, e1, e2, e3, e4, e5, e6⟩ := HC5.out.op.cells; obtain ⟨f0, f1, g2, f3, f4, f5⟩ := HC5.out.rd.cells; rw [HK.out] at e0; clear hb5 hz hp hlt0 k0 k2)
    | go_in)
  go_region
  obtain ⟨y6, hy6⟩ : ∃ y6, y5.drew = y6 := ⟨_, rfl⟩
  have HC6 : Hid (Ch2 w y6 (.slice (some ⟨b0, off, none⟩) n c) q o) := by rw [← hy6]; exact HC5.out.keep (Below.refl _ _).drew
  obtain ⟨e0, e1, e2, e3, e4, e5, e6⟩ := HC6.out.op.cells
  obtain ⟨f0, f1, g2, f3, f4, f5⟩ := HC6.out.rd.cells
  rw [HK.out] at e0
  rw [hy6]
  clear hy6
  go_wp2_with fail
  go_ret
  exact ⟨rfl, HC6.out.low⟩
set_option maxRecDepth 100000 in
set_option maxHeartbeats 1600000 in
theorem rbar_5high (w : World) (X : List (Fa × Value)) (a : Option Addr) (n c : Nat) (q : Rn) (hn : X.length = n) (hX : FlsA w a X) (hnl : n ≤ 1000) (o : Oa) (ho : OpIn w o) (hoff : q.off = false) (hr : rightS o.nm = true) (hk : o.k = 5) (f : Fa) (hg : getA (X.map Prod.fst) o.nm = some f) (m : Nat) (hm : f.l.length = m) (hm6 : m ≤ 67108864) (h1 : ¬ o.n < 0) (h2 : (m : Int) < o.n) :
    Calls Try.prog 46 #[rdV (.slice a n c) q, opV o] w fun r w' => r = .returned (.int .i64 1) ∧ Below w.heap.size w w' := by
  have hC := Ch2.start w (.slice a n c) q o
  obtain ⟨W, hW⟩ : ∃ W, ((w.alloc (.cells #[.slice a n c, .int .i64 q.room, .int .i64 q.fuse, .bool q.off, .int .i64 q.steps, .int .i64 q.read] 28)).alloc (.cells #[.int .i64 o.k, .string (bs o.nm), .string (bs o.to), .slice o.P o.lb.length o.C, .int .i64 o.n, .int .i64 o.m, .slice o.K o.ks.length o.CK] 34)) = W := ⟨_, rfl⟩
  have HW : Hid (((w.alloc (.cells #[.slice a n c, .int .i64 q.room, .int .i64 q.fuse, .bool q.off, .int .i64 q.steps, .int .i64 q.read] 28)).alloc (.cells #[.int .i64 o.k, .string (bs o.nm), .string (bs o.to), .slice o.P o.lb.length o.C, .int .i64 o.n, .int .i64 o.m, .slice o.K o.ks.length o.CK] 34)) = W) := hW
  rw [hW] at hC
  have HC : Hid (Ch2 w W (.slice a n c) q o) := hC
  have HN : Hid (X.length = n ∧ n ≤ 1000) := ⟨hn, hnl⟩
  have hnI : (n : Int) ≤ 1000 := by omega
  have hn0 : (0 : Int) ≤ (n : Int) := by omega
  have HX : Hid (FlsA w a X) := hX
  have HO : Hid (OpIn w o) := ho
  have HF : Hid (q.off = false) := hoff
  have HRN : Hid (rightS o.nm = true) := hr
  clear hoff hr
  have HK : Hid (o.k = 5) := hk
  clear hk
  have HG : Hid (getA (X.map Prod.fst) o.nm = some f) := hg
  have HM : Hid (f.l.length = m) := hm
  clear hg hm
  have hmI : (m : Int) ≤ 67108864 := by omega
  have hm0 : (0 : Int) ≤ (m : Int) := by omega
  clear hm6
  clear hW hC hn hX ho
  go_enter Try.func46, Try.ntmps46
  go_upto_region 1 with fail
  try simp only [Act.put]
  rw [HW.out]
  obtain ⟨c0, c1, c2, c3, c4, c5, c6⟩ := HC.out.op.cells
  obtain ⟨d0, d1, d2, d3, d4, d5⟩ := HC.out.rd.cells
  rw [HF.out] at d3
  rw [HK.out] at c0
  go_wp2_with (first
    | (go_at_call 27; refine (rright_any o.nm _ HO.out.nm).mono ?_; rw [HRN.out]; rintro _ x3 ⟨rfl, rfl⟩)
    | ((with_reducible refine guard_load 28 ?_); refine wpList_load_rd rfl _ rfl HC.out.rd rfl ?_)
    | (go_at_call 47; refine (rat_any W X a n c q HN.out.1 (HX.out.keep HC.out.low) (by have := HN.out.2; omega) o.nm HO.out.nm).mono ?_; rintro _ y5 ⟨z, rfl, hb5, hz⟩; obtain ⟨i, p, hi, rfl, hp, hpf⟩ : ∃ (i : Nat) (p : Fa × Value), i < n ∧ z = (i : Int) ∧ X[i]? = some p ∧ p.1 = f := at_found hz HG.out; obtain ⟨f2, bv⟩ := p; simp only at hpf; subst hpf; obtain ⟨a2, c2', e2', _, _, _⟩ := HX.out.fv (List.mem_of_getElem? hp); simp only at e2'; subst e2'; have HC5 : Hid (Ch2 w y5 (.slice a n c) q o) := HC.out.keep hb5; obtain ⟨b0, off, hab, hlt0, k0, k1, k2⟩ := (HX.out.keep HC5.out.low).at i _ hp; subst hab; simp only at k0 k1 k2; rw [HM.out] at k1; have HX5 : Hid (FlsA y5 (some ⟨b0, off, none⟩) X) := HX.out.keep HC5.out.low; have hiI : (i : Int) < (n : Int) := (by omega); have hi0 : (0 : Int) ≤ (i : Int) := (by omega); obtain ⟨e0, e1, e2, e3, e4, e5, e6⟩ := HC5.out.op.cells; obtain ⟨f0, f1, g2, f3, f4, f5⟩ := HC5.out.rd.cells; rw [HK.out] at e0; clear hb5 hz hp hlt0 k0 k2)
    | go_in)
  go_region
  obtain ⟨y6, hy6⟩ : ∃ y6, y5.drew = y6 := ⟨_, rfl⟩
  have HC6 : Hid (Ch2 w y6 (.slice (some ⟨b0, off, none⟩) n c) q o) := by rw [← hy6]; exact HC5.out.keep (Below.refl _ _).drew
  obtain ⟨e0, e1, e2, e3, e4, e5, e6⟩ := HC6.out.op.cells
  obtain ⟨f0, f1, g2, f3, f4, f5⟩ := HC6.out.rd.cells
  rw [HK.out] at e0
  rw [hy6]
  clear hy6
  go_wp2_with fail
  go_ret
  exact ⟨rfl, HC6.out.low⟩
set_option maxRecDepth 100000 in
set_option maxHeartbeats 1600000 in
theorem rbar_5ok (w : World) (X : List (Fa × Value)) (a : Option Addr) (n c : Nat) (q : Rn) (hn : X.length = n) (hX : FlsA w a X) (hnl : n ≤ 1000) (o : Oa) (ho : OpIn w o) (hoff : q.off = false) (hr : rightS o.nm = true) (hk : o.k = 5) (f : Fa) (hg : getA (X.map Prod.fst) o.nm = some f) (m : Nat) (hm : f.l.length = m) (hm6 : m ≤ 67108864) (h1 : ¬ o.n < 0) (h2 : ¬ (m : Int) < o.n) :
    Calls Try.prog 46 #[rdV (.slice a n c) q, opV o] w fun r w' => r = .returned (.int .i64 0) ∧ Below w.heap.size w w' := by
  have hC := Ch2.start w (.slice a n c) q o
  obtain ⟨W, hW⟩ : ∃ W, ((w.alloc (.cells #[.slice a n c, .int .i64 q.room, .int .i64 q.fuse, .bool q.off, .int .i64 q.steps, .int .i64 q.read] 28)).alloc (.cells #[.int .i64 o.k, .string (bs o.nm), .string (bs o.to), .slice o.P o.lb.length o.C, .int .i64 o.n, .int .i64 o.m, .slice o.K o.ks.length o.CK] 34)) = W := ⟨_, rfl⟩
  have HW : Hid (((w.alloc (.cells #[.slice a n c, .int .i64 q.room, .int .i64 q.fuse, .bool q.off, .int .i64 q.steps, .int .i64 q.read] 28)).alloc (.cells #[.int .i64 o.k, .string (bs o.nm), .string (bs o.to), .slice o.P o.lb.length o.C, .int .i64 o.n, .int .i64 o.m, .slice o.K o.ks.length o.CK] 34)) = W) := hW
  rw [hW] at hC
  have HC : Hid (Ch2 w W (.slice a n c) q o) := hC
  have HN : Hid (X.length = n ∧ n ≤ 1000) := ⟨hn, hnl⟩
  have hnI : (n : Int) ≤ 1000 := by omega
  have hn0 : (0 : Int) ≤ (n : Int) := by omega
  have HX : Hid (FlsA w a X) := hX
  have HO : Hid (OpIn w o) := ho
  have HF : Hid (q.off = false) := hoff
  have HRN : Hid (rightS o.nm = true) := hr
  clear hoff hr
  have HK : Hid (o.k = 5) := hk
  clear hk
  have HG : Hid (getA (X.map Prod.fst) o.nm = some f) := hg
  have HM : Hid (f.l.length = m) := hm
  clear hg hm
  have hmI : (m : Int) ≤ 67108864 := by omega
  have hm0 : (0 : Int) ≤ (m : Int) := by omega
  clear hm6
  clear hW hC hn hX ho
  go_enter Try.func46, Try.ntmps46
  go_upto_region 1 with fail
  try simp only [Act.put]
  rw [HW.out]
  obtain ⟨c0, c1, c2, c3, c4, c5, c6⟩ := HC.out.op.cells
  obtain ⟨d0, d1, d2, d3, d4, d5⟩ := HC.out.rd.cells
  rw [HF.out] at d3
  rw [HK.out] at c0
  go_wp2_with (first
    | (go_at_call 27; refine (rright_any o.nm _ HO.out.nm).mono ?_; rw [HRN.out]; rintro _ x3 ⟨rfl, rfl⟩)
    | ((with_reducible refine guard_load 28 ?_); refine wpList_load_rd rfl _ rfl HC.out.rd rfl ?_)
    | (go_at_call 47; refine (rat_any W X a n c q HN.out.1 (HX.out.keep HC.out.low) (by have := HN.out.2; omega) o.nm HO.out.nm).mono ?_; rintro _ y5 ⟨z, rfl, hb5, hz⟩; obtain ⟨i, p, hi, rfl, hp, hpf⟩ : ∃ (i : Nat) (p : Fa × Value), i < n ∧ z = (i : Int) ∧ X[i]? = some p ∧ p.1 = f := at_found hz HG.out; obtain ⟨f2, bv⟩ := p; simp only at hpf; subst hpf; obtain ⟨a2, c2', e2', _, _, _⟩ := HX.out.fv (List.mem_of_getElem? hp); simp only at e2'; subst e2'; have HC5 : Hid (Ch2 w y5 (.slice a n c) q o) := HC.out.keep hb5; obtain ⟨b0, off, hab, hlt0, k0, k1, k2⟩ := (HX.out.keep HC5.out.low).at i _ hp; subst hab; simp only at k0 k1 k2; rw [HM.out] at k1; have HX5 : Hid (FlsA y5 (some ⟨b0, off, none⟩) X) := HX.out.keep HC5.out.low; have hiI : (i : Int) < (n : Int) := (by omega); have hi0 : (0 : Int) ≤ (i : Int) := (by omega); obtain ⟨e0, e1, e2, e3, e4, e5, e6⟩ := HC5.out.op.cells; obtain ⟨f0, f1, g2, f3, f4, f5⟩ := HC5.out.rd.cells; rw [HK.out] at e0; clear hb5 hz hp hlt0 k0 k2)
    | go_in)
  go_region
  obtain ⟨y6, hy6⟩ : ∃ y6, y5.drew = y6 := ⟨_, rfl⟩
  have HC6 : Hid (Ch2 w y6 (.slice (some ⟨b0, off, none⟩) n c) q o) := by rw [← hy6]; exact HC5.out.keep (Below.refl _ _).drew
  obtain ⟨e0, e1, e2, e3, e4, e5, e6⟩ := HC6.out.op.cells
  obtain ⟨f0, f1, g2, f3, f4, f5⟩ := HC6.out.rd.cells
  rw [HK.out] at e0
  rw [hy6]
  clear hy6
  go_wp2_with fail
  go_ret
  exact ⟨rfl, HC6.out.low⟩
set_option maxRecDepth 100000 in
set_option maxHeartbeats 1600000 in
theorem rbar_6low (w : World) (X : List (Fa × Value)) (a : Option Addr) (n c : Nat) (q : Rn) (hn : X.length = n) (hX : FlsA w a X) (hnl : n ≤ 1000) (o : Oa) (ho : OpIn w o) (hoff : q.off = false) (hr : rightS o.nm = true) (hk : o.k = 6) (f : Fa) (hg : getA (X.map Prod.fst) o.nm = some f) (m : Nat) (hm : f.l.length = m) (hm6 : m ≤ 67108864) (h1 : o.n < 0) :
    Calls Try.prog 46 #[rdV (.slice a n c) q, opV o] w fun r w' => r = .returned (.int .i64 1) ∧ Below w.heap.size w w' := by
  have hC := Ch2.start w (.slice a n c) q o
  obtain ⟨W, hW⟩ : ∃ W, ((w.alloc (.cells #[.slice a n c, .int .i64 q.room, .int .i64 q.fuse, .bool q.off, .int .i64 q.steps, .int .i64 q.read] 28)).alloc (.cells #[.int .i64 o.k, .string (bs o.nm), .string (bs o.to), .slice o.P o.lb.length o.C, .int .i64 o.n, .int .i64 o.m, .slice o.K o.ks.length o.CK] 34)) = W := ⟨_, rfl⟩
  have HW : Hid (((w.alloc (.cells #[.slice a n c, .int .i64 q.room, .int .i64 q.fuse, .bool q.off, .int .i64 q.steps, .int .i64 q.read] 28)).alloc (.cells #[.int .i64 o.k, .string (bs o.nm), .string (bs o.to), .slice o.P o.lb.length o.C, .int .i64 o.n, .int .i64 o.m, .slice o.K o.ks.length o.CK] 34)) = W) := hW
  rw [hW] at hC
  have HC : Hid (Ch2 w W (.slice a n c) q o) := hC
  have HN : Hid (X.length = n ∧ n ≤ 1000) := ⟨hn, hnl⟩
  have hnI : (n : Int) ≤ 1000 := by omega
  have hn0 : (0 : Int) ≤ (n : Int) := by omega
  have HX : Hid (FlsA w a X) := hX
  have HO : Hid (OpIn w o) := ho
  have HF : Hid (q.off = false) := hoff
  have HRN : Hid (rightS o.nm = true) := hr
  clear hoff hr
  have HK : Hid (o.k = 6) := hk
  clear hk
  have HG : Hid (getA (X.map Prod.fst) o.nm = some f) := hg
  have HM : Hid (f.l.length = m) := hm
  clear hg hm
  have hmI : (m : Int) ≤ 67108864 := by omega
  have hm0 : (0 : Int) ≤ (m : Int) := by omega
  clear hm6
  clear hW hC hn hX ho
  go_enter Try.func46, Try.ntmps46
  go_upto_region 1 with fail
  try simp only [Act.put]
  rw [HW.out]
  obtain ⟨c0, c1, c2, c3, c4, c5, c6⟩ := HC.out.op.cells
  obtain ⟨d0, d1, d2, d3, d4, d5⟩ := HC.out.rd.cells
  rw [HF.out] at d3
  rw [HK.out] at c0
  go_wp2_with (first
    | (go_at_call 27; refine (rright_any o.nm _ HO.out.nm).mono ?_; rw [HRN.out]; rintro _ x3 ⟨rfl, rfl⟩)
    | ((with_reducible refine guard_load 28 ?_); refine wpList_load_rd rfl _ rfl HC.out.rd rfl ?_)
    | (go_at_call 47; refine (rat_any W X a n c q HN.out.1 (HX.out.keep HC.out.low) (by have := HN.out.2; omega) o.nm HO.out.nm).mono ?_; rintro _ y5 ⟨z, rfl, hb5, hz⟩; obtain ⟨i, p, hi, rfl, hp, hpf⟩ : ∃ (i : Nat) (p : Fa × Value), i < n ∧ z = (i : Int) ∧ X[i]? = some p ∧ p.1 = f := at_found hz HG.out; obtain ⟨f2, bv⟩ := p; simp only at hpf; subst hpf; obtain ⟨a2, c2', e2', _, _, _⟩ := HX.out.fv (List.mem_of_getElem? hp); simp only at e2'; subst e2'; have HC5 : Hid (Ch2 w y5 (.slice a n c) q o) := HC.out.keep hb5; obtain ⟨b0, off, hab, hlt0, k0, k1, k2⟩ := (HX.out.keep HC5.out.low).at i _ hp; subst hab; simp only at k0 k1 k2; rw [HM.out] at k1; have HX5 : Hid (FlsA y5 (some ⟨b0, off, none⟩) X) := HX.out.keep HC5.out.low; have hiI : (i : Int) < (n : Int) := (by omega); have hi0 : (0 : Int) ≤ (i : Int) := (by omega); obtain ⟨e0, e1, e2, e3, e4, e5, e6⟩ := HC5.out.op.cells; obtain ⟨f0, f1, g2, f3, f4, f5⟩ := HC5.out.rd.cells; rw [HK.out] at e0; clear hb5 hz hp hlt0 k0 k2)
    | go_in)
  go_region
  obtain ⟨y6, hy6⟩ : ∃ y6, y5.drew = y6 := ⟨_, rfl⟩
  have HC6 : Hid (Ch2 w y6 (.slice (some ⟨b0, off, none⟩) n c) q o) := by rw [← hy6]; exact HC5.out.keep (Below.refl _ _).drew
  obtain ⟨e0, e1, e2, e3, e4, e5, e6⟩ := HC6.out.op.cells
  obtain ⟨f0, f1, g2, f3, f4, f5⟩ := HC6.out.rd.cells
  rw [HK.out] at e0
  rw [hy6]
  clear hy6
  go_wp2_with fail
  go_ret
  exact ⟨rfl, HC6.out.low⟩
set_option maxRecDepth 100000 in
set_option maxHeartbeats 1600000 in
theorem rbar_6low2 (w : World) (X : List (Fa × Value)) (a : Option Addr) (n c : Nat) (q : Rn) (hn : X.length = n) (hX : FlsA w a X) (hnl : n ≤ 1000) (o : Oa) (ho : OpIn w o) (hoff : q.off = false) (hr : rightS o.nm = true) (hk : o.k = 6) (f : Fa) (hg : getA (X.map Prod.fst) o.nm = some f) (m : Nat) (hm : f.l.length = m) (hm6 : m ≤ 67108864) (h1 : ¬ o.n < 0) (h2 : o.m < 0) :
    Calls Try.prog 46 #[rdV (.slice a n c) q, opV o] w fun r w' => r = .returned (.int .i64 1) ∧ Below w.heap.size w w' := by
  have hC := Ch2.start w (.slice a n c) q o
  obtain ⟨W, hW⟩ : ∃ W, ((w.alloc (.cells #[.slice a n c, .int .i64 q.room, .int .i64 q.fuse, .bool q.off, .int .i64 q.steps, .int .i64 q.read] 28)).alloc (.cells #[.int .i64 o.k, .string (bs o.nm), .string (bs o.to), .slice o.P o.lb.length o.C, .int .i64 o.n, .int .i64 o.m, .slice o.K o.ks.length o.CK] 34)) = W := ⟨_, rfl⟩
  have HW : Hid (((w.alloc (.cells #[.slice a n c, .int .i64 q.room, .int .i64 q.fuse, .bool q.off, .int .i64 q.steps, .int .i64 q.read] 28)).alloc (.cells #[.int .i64 o.k, .string (bs o.nm), .string (bs o.to), .slice o.P o.lb.length o.C, .int .i64 o.n, .int .i64 o.m, .slice o.K o.ks.length o.CK] 34)) = W) := hW
  rw [hW] at hC
  have HC : Hid (Ch2 w W (.slice a n c) q o) := hC
  have HN : Hid (X.length = n ∧ n ≤ 1000) := ⟨hn, hnl⟩
  have hnI : (n : Int) ≤ 1000 := by omega
  have hn0 : (0 : Int) ≤ (n : Int) := by omega
  have HX : Hid (FlsA w a X) := hX
  have HO : Hid (OpIn w o) := ho
  have HF : Hid (q.off = false) := hoff
  have HRN : Hid (rightS o.nm = true) := hr
  clear hoff hr
  have HK : Hid (o.k = 6) := hk
  clear hk
  have HG : Hid (getA (X.map Prod.fst) o.nm = some f) := hg
  have HM : Hid (f.l.length = m) := hm
  clear hg hm
  have hmI : (m : Int) ≤ 67108864 := by omega
  have hm0 : (0 : Int) ≤ (m : Int) := by omega
  clear hm6
  clear hW hC hn hX ho
  go_enter Try.func46, Try.ntmps46
  go_upto_region 1 with fail
  try simp only [Act.put]
  rw [HW.out]
  obtain ⟨c0, c1, c2, c3, c4, c5, c6⟩ := HC.out.op.cells
  obtain ⟨d0, d1, d2, d3, d4, d5⟩ := HC.out.rd.cells
  rw [HF.out] at d3
  rw [HK.out] at c0
  go_wp2_with (first
    | (go_at_call 27; refine (rright_any o.nm _ HO.out.nm).mono ?_; rw [HRN.out]; rintro _ x3 ⟨rfl, rfl⟩)
    | ((with_reducible refine guard_load 28 ?_); refine wpList_load_rd rfl _ rfl HC.out.rd rfl ?_)
    | (go_at_call 47; refine (rat_any W X a n c q HN.out.1 (HX.out.keep HC.out.low) (by have := HN.out.2; omega) o.nm HO.out.nm).mono ?_; rintro _ y5 ⟨z, rfl, hb5, hz⟩; obtain ⟨i, p, hi, rfl, hp, hpf⟩ : ∃ (i : Nat) (p : Fa × Value), i < n ∧ z = (i : Int) ∧ X[i]? = some p ∧ p.1 = f := at_found hz HG.out; obtain ⟨f2, bv⟩ := p; simp only at hpf; subst hpf; obtain ⟨a2, c2', e2', _, _, _⟩ := HX.out.fv (List.mem_of_getElem? hp); simp only at e2'; subst e2'; have HC5 : Hid (Ch2 w y5 (.slice a n c) q o) := HC.out.keep hb5; obtain ⟨b0, off, hab, hlt0, k0, k1, k2⟩ := (HX.out.keep HC5.out.low).at i _ hp; subst hab; simp only at k0 k1 k2; rw [HM.out] at k1; have HX5 : Hid (FlsA y5 (some ⟨b0, off, none⟩) X) := HX.out.keep HC5.out.low; have hiI : (i : Int) < (n : Int) := (by omega); have hi0 : (0 : Int) ≤ (i : Int) := (by omega); obtain ⟨e0, e1, e2, e3, e4, e5, e6⟩ := HC5.out.op.cells; obtain ⟨f0, f1, g2, f3, f4, f5⟩ := HC5.out.rd.cells; rw [HK.out] at e0; clear hb5 hz hp hlt0 k0 k2)
    | go_in)
  go_region
  obtain ⟨y6, hy6⟩ : ∃ y6, y5.drew = y6 := ⟨_, rfl⟩
  have HC6 : Hid (Ch2 w y6 (.slice (some ⟨b0, off, none⟩) n c) q o) := by rw [← hy6]; exact HC5.out.keep (Below.refl _ _).drew
  obtain ⟨e0, e1, e2, e3, e4, e5, e6⟩ := HC6.out.op.cells
  obtain ⟨f0, f1, g2, f3, f4, f5⟩ := HC6.out.rd.cells
  rw [HK.out] at e0
  rw [hy6]
  clear hy6
  go_wp2_with fail
  go_ret
  exact ⟨rfl, HC6.out.low⟩
set_option maxRecDepth 100000 in
set_option maxHeartbeats 1600000 in
theorem rbar_6high (w : World) (X : List (Fa × Value)) (a : Option Addr) (n c : Nat) (q : Rn) (hn : X.length = n) (hX : FlsA w a X) (hnl : n ≤ 1000) (o : Oa) (ho : OpIn w o) (hoff : q.off = false) (hr : rightS o.nm = true) (hk : o.k = 6) (f : Fa) (hg : getA (X.map Prod.fst) o.nm = some f) (m : Nat) (hm : f.l.length = m) (hm6 : m ≤ 67108864) (h1 : ¬ o.n < 0) (h2 : ¬ o.m < 0) (h3 : (m : Int) < o.n) :
    Calls Try.prog 46 #[rdV (.slice a n c) q, opV o] w fun r w' => r = .returned (.int .i64 1) ∧ Below w.heap.size w w' := by
  have hC := Ch2.start w (.slice a n c) q o
  obtain ⟨W, hW⟩ : ∃ W, ((w.alloc (.cells #[.slice a n c, .int .i64 q.room, .int .i64 q.fuse, .bool q.off, .int .i64 q.steps, .int .i64 q.read] 28)).alloc (.cells #[.int .i64 o.k, .string (bs o.nm), .string (bs o.to), .slice o.P o.lb.length o.C, .int .i64 o.n, .int .i64 o.m, .slice o.K o.ks.length o.CK] 34)) = W := ⟨_, rfl⟩
  have HW : Hid (((w.alloc (.cells #[.slice a n c, .int .i64 q.room, .int .i64 q.fuse, .bool q.off, .int .i64 q.steps, .int .i64 q.read] 28)).alloc (.cells #[.int .i64 o.k, .string (bs o.nm), .string (bs o.to), .slice o.P o.lb.length o.C, .int .i64 o.n, .int .i64 o.m, .slice o.K o.ks.length o.CK] 34)) = W) := hW
  rw [hW] at hC
  have HC : Hid (Ch2 w W (.slice a n c) q o) := hC
  have HN : Hid (X.length = n ∧ n ≤ 1000) := ⟨hn, hnl⟩
  have hnI : (n : Int) ≤ 1000 := by omega
  have hn0 : (0 : Int) ≤ (n : Int) := by omega
  have HX : Hid (FlsA w a X) := hX
  have HO : Hid (OpIn w o) := ho
  have HF : Hid (q.off = false) := hoff
  have HRN : Hid (rightS o.nm = true) := hr
  clear hoff hr
  have HK : Hid (o.k = 6) := hk
  clear hk
  have HG : Hid (getA (X.map Prod.fst) o.nm = some f) := hg
  have HM : Hid (f.l.length = m) := hm
  clear hg hm
  have hmI : (m : Int) ≤ 67108864 := by omega
  have hm0 : (0 : Int) ≤ (m : Int) := by omega
  clear hm6
  clear hW hC hn hX ho
  go_enter Try.func46, Try.ntmps46
  go_upto_region 1 with fail
  try simp only [Act.put]
  rw [HW.out]
  obtain ⟨c0, c1, c2, c3, c4, c5, c6⟩ := HC.out.op.cells
  obtain ⟨d0, d1, d2, d3, d4, d5⟩ := HC.out.rd.cells
  rw [HF.out] at d3
  rw [HK.out] at c0
  go_wp2_with (first
    | (go_at_call 27; refine (rright_any o.nm _ HO.out.nm).mono ?_; rw [HRN.out]; rintro _ x3 ⟨rfl, rfl⟩)
    | ((with_reducible refine guard_load 28 ?_); refine wpList_load_rd rfl _ rfl HC.out.rd rfl ?_)
    | (go_at_call 47; refine (rat_any W X a n c q HN.out.1 (HX.out.keep HC.out.low) (by have := HN.out.2; omega) o.nm HO.out.nm).mono ?_; rintro _ y5 ⟨z, rfl, hb5, hz⟩; obtain ⟨i, p, hi, rfl, hp, hpf⟩ : ∃ (i : Nat) (p : Fa × Value), i < n ∧ z = (i : Int) ∧ X[i]? = some p ∧ p.1 = f := at_found hz HG.out; obtain ⟨f2, bv⟩ := p; simp only at hpf; subst hpf; obtain ⟨a2, c2', e2', _, _, _⟩ := HX.out.fv (List.mem_of_getElem? hp); simp only at e2'; subst e2'; have HC5 : Hid (Ch2 w y5 (.slice a n c) q o) := HC.out.keep hb5; obtain ⟨b0, off, hab, hlt0, k0, k1, k2⟩ := (HX.out.keep HC5.out.low).at i _ hp; subst hab; simp only at k0 k1 k2; rw [HM.out] at k1; have HX5 : Hid (FlsA y5 (some ⟨b0, off, none⟩) X) := HX.out.keep HC5.out.low; have hiI : (i : Int) < (n : Int) := (by omega); have hi0 : (0 : Int) ≤ (i : Int) := (by omega); obtain ⟨e0, e1, e2, e3, e4, e5, e6⟩ := HC5.out.op.cells; obtain ⟨f0, f1, g2, f3, f4, f5⟩ := HC5.out.rd.cells; rw [HK.out] at e0; clear hb5 hz hp hlt0 k0 k2)
    | go_in)
  go_region
  obtain ⟨y6, hy6⟩ : ∃ y6, y5.drew = y6 := ⟨_, rfl⟩
  have HC6 : Hid (Ch2 w y6 (.slice (some ⟨b0, off, none⟩) n c) q o) := by rw [← hy6]; exact HC5.out.keep (Below.refl _ _).drew
  obtain ⟨e0, e1, e2, e3, e4, e5, e6⟩ := HC6.out.op.cells
  obtain ⟨f0, f1, g2, f3, f4, f5⟩ := HC6.out.rd.cells
  rw [HK.out] at e0
  rw [hy6]
  clear hy6
  go_wp2_with fail
  go_ret
  exact ⟨rfl, HC6.out.low⟩
set_option maxRecDepth 100000 in
set_option maxHeartbeats 1600000 in
theorem rbar_6high2 (w : World) (X : List (Fa × Value)) (a : Option Addr) (n c : Nat) (q : Rn) (hn : X.length = n) (hX : FlsA w a X) (hnl : n ≤ 1000) (o : Oa) (ho : OpIn w o) (hoff : q.off = false) (hr : rightS o.nm = true) (hk : o.k = 6) (f : Fa) (hg : getA (X.map Prod.fst) o.nm = some f) (m : Nat) (hm : f.l.length = m) (hm6 : m ≤ 67108864) (h1 : ¬ o.n < 0) (h2 : ¬ o.m < 0) (h3 : ¬ (m : Int) < o.n) (h4 : (m : Int) - o.n < o.m) :
    Calls Try.prog 46 #[rdV (.slice a n c) q, opV o] w fun r w' => r = .returned (.int .i64 1) ∧ Below w.heap.size w w' := by
  have hC := Ch2.start w (.slice a n c) q o
  obtain ⟨W, hW⟩ : ∃ W, ((w.alloc (.cells #[.slice a n c, .int .i64 q.room, .int .i64 q.fuse, .bool q.off, .int .i64 q.steps, .int .i64 q.read] 28)).alloc (.cells #[.int .i64 o.k, .string (bs o.nm), .string (bs o.to), .slice o.P o.lb.length o.C, .int .i64 o.n, .int .i64 o.m, .slice o.K o.ks.length o.CK] 34)) = W := ⟨_, rfl⟩
  have HW : Hid (((w.alloc (.cells #[.slice a n c, .int .i64 q.room, .int .i64 q.fuse, .bool q.off, .int .i64 q.steps, .int .i64 q.read] 28)).alloc (.cells #[.int .i64 o.k, .string (bs o.nm), .string (bs o.to), .slice o.P o.lb.length o.C, .int .i64 o.n, .int .i64 o.m, .slice o.K o.ks.length o.CK] 34)) = W) := hW
  rw [hW] at hC
  have HC : Hid (Ch2 w W (.slice a n c) q o) := hC
  have HN : Hid (X.length = n ∧ n ≤ 1000) := ⟨hn, hnl⟩
  have hnI : (n : Int) ≤ 1000 := by omega
  have hn0 : (0 : Int) ≤ (n : Int) := by omega
  have HX : Hid (FlsA w a X) := hX
  have HO : Hid (OpIn w o) := ho
  have HF : Hid (q.off = false) := hoff
  have HRN : Hid (rightS o.nm = true) := hr
  clear hoff hr
  have HK : Hid (o.k = 6) := hk
  clear hk
  have HG : Hid (getA (X.map Prod.fst) o.nm = some f) := hg
  have HM : Hid (f.l.length = m) := hm
  clear hg hm
  have hmI : (m : Int) ≤ 67108864 := by omega
  have hm0 : (0 : Int) ≤ (m : Int) := by omega
  clear hm6
  clear hW hC hn hX ho
  go_enter Try.func46, Try.ntmps46
  go_upto_region 1 with fail
  try simp only [Act.put]
  rw [HW.out]
  obtain ⟨c0, c1, c2, c3, c4, c5, c6⟩ := HC.out.op.cells
  obtain ⟨d0, d1, d2, d3, d4, d5⟩ := HC.out.rd.cells
  rw [HF.out] at d3
  rw [HK.out] at c0
  go_wp2_with (first
    | (go_at_call 27; refine (rright_any o.nm _ HO.out.nm).mono ?_; rw [HRN.out]; rintro _ x3 ⟨rfl, rfl⟩)
    | ((with_reducible refine guard_load 28 ?_); refine wpList_load_rd rfl _ rfl HC.out.rd rfl ?_)
    | (go_at_call 47; refine (rat_any W X a n c q HN.out.1 (HX.out.keep HC.out.low) (by have := HN.out.2; omega) o.nm HO.out.nm).mono ?_; rintro _ y5 ⟨z, rfl, hb5, hz⟩; obtain ⟨i, p, hi, rfl, hp, hpf⟩ : ∃ (i : Nat) (p : Fa × Value), i < n ∧ z = (i : Int) ∧ X[i]? = some p ∧ p.1 = f := at_found hz HG.out; obtain ⟨f2, bv⟩ := p; simp only at hpf; subst hpf; obtain ⟨a2, c2', e2', _, _, _⟩ := HX.out.fv (List.mem_of_getElem? hp); simp only at e2'; subst e2'; have HC5 : Hid (Ch2 w y5 (.slice a n c) q o) := HC.out.keep hb5; obtain ⟨b0, off, hab, hlt0, k0, k1, k2⟩ := (HX.out.keep HC5.out.low).at i _ hp; subst hab; simp only at k0 k1 k2; rw [HM.out] at k1; have HX5 : Hid (FlsA y5 (some ⟨b0, off, none⟩) X) := HX.out.keep HC5.out.low; have hiI : (i : Int) < (n : Int) := (by omega); have hi0 : (0 : Int) ≤ (i : Int) := (by omega); obtain ⟨e0, e1, e2, e3, e4, e5, e6⟩ := HC5.out.op.cells; obtain ⟨f0, f1, g2, f3, f4, f5⟩ := HC5.out.rd.cells; rw [HK.out] at e0; clear hb5 hz hp hlt0 k0 k2)
    | go_in)
  go_region
  obtain ⟨y6, hy6⟩ : ∃ y6, y5.drew = y6 := ⟨_, rfl⟩
  have HC6 : Hid (Ch2 w y6 (.slice (some ⟨b0, off, none⟩) n c) q o) := by rw [← hy6]; exact HC5.out.keep (Below.refl _ _).drew
  obtain ⟨e0, e1, e2, e3, e4, e5, e6⟩ := HC6.out.op.cells
  obtain ⟨f0, f1, g2, f3, f4, f5⟩ := HC6.out.rd.cells
  rw [HK.out] at e0
  rw [hy6]
  clear hy6
  go_wp2_with fail
  go_ret
  exact ⟨rfl, HC6.out.low⟩
set_option maxRecDepth 100000 in
set_option maxHeartbeats 1600000 in
theorem rbar_6ok (w : World) (X : List (Fa × Value)) (a : Option Addr) (n c : Nat) (q : Rn) (hn : X.length = n) (hX : FlsA w a X) (hnl : n ≤ 1000) (o : Oa) (ho : OpIn w o) (hoff : q.off = false) (hr : rightS o.nm = true) (hk : o.k = 6) (f : Fa) (hg : getA (X.map Prod.fst) o.nm = some f) (m : Nat) (hm : f.l.length = m) (hm6 : m ≤ 67108864) (h1 : ¬ o.n < 0) (h2 : ¬ o.m < 0) (h3 : ¬ (m : Int) < o.n) (h4 : ¬ (m : Int) - o.n < o.m) :
    Calls Try.prog 46 #[rdV (.slice a n c) q, opV o] w fun r w' => r = .returned (.int .i64 0) ∧ Below w.heap.size w w' := by
  have hC := Ch2.start w (.slice a n c) q o
  obtain ⟨W, hW⟩ : ∃ W, ((w.alloc (.cells #[.slice a n c, .int .i64 q.room, .int .i64 q.fuse, .bool q.off, .int .i64 q.steps, .int .i64 q.read] 28)).alloc (.cells #[.int .i64 o.k, .string (bs o.nm), .string (bs o.to), .slice o.P o.lb.length o.C, .int .i64 o.n, .int .i64 o.m, .slice o.K o.ks.length o.CK] 34)) = W := ⟨_, rfl⟩
  have HW : Hid (((w.alloc (.cells #[.slice a n c, .int .i64 q.room, .int .i64 q.fuse, .bool q.off, .int .i64 q.steps, .int .i64 q.read] 28)).alloc (.cells #[.int .i64 o.k, .string (bs o.nm), .string (bs o.to), .slice o.P o.lb.length o.C, .int .i64 o.n, .int .i64 o.m, .slice o.K o.ks.length o.CK] 34)) = W) := hW
  rw [hW] at hC
  have HC : Hid (Ch2 w W (.slice a n c) q o) := hC
  have HN : Hid (X.length = n ∧ n ≤ 1000) := ⟨hn, hnl⟩
  have hnI : (n : Int) ≤ 1000 := by omega
  have hn0 : (0 : Int) ≤ (n : Int) := by omega
  have HX : Hid (FlsA w a X) := hX
  have HO : Hid (OpIn w o) := ho
  have HF : Hid (q.off = false) := hoff
  have HRN : Hid (rightS o.nm = true) := hr
  clear hoff hr
  have HK : Hid (o.k = 6) := hk
  clear hk
  have HG : Hid (getA (X.map Prod.fst) o.nm = some f) := hg
  have HM : Hid (f.l.length = m) := hm
  clear hg hm
  have hmI : (m : Int) ≤ 67108864 := by omega
  have hm0 : (0 : Int) ≤ (m : Int) := by omega
  clear hm6
  clear hW hC hn hX ho
  go_enter Try.func46, Try.ntmps46
  go_upto_region 1 with fail
  try simp only [Act.put]
  rw [HW.out]
  obtain ⟨c0, c1, c2, c3, c4, c5, c6⟩ := HC.out.op.cells
  obtain ⟨d0, d1, d2, d3, d4, d5⟩ := HC.out.rd.cells
  rw [HF.out] at d3
  rw [HK.out] at c0
  go_wp2_with (first
    | (go_at_call 27; refine (rright_any o.nm _ HO.out.nm).mono ?_; rw [HRN.out]; rintro _ x3 ⟨rfl, rfl⟩)
    | ((with_reducible refine guard_load 28 ?_); refine wpList_load_rd rfl _ rfl HC.out.rd rfl ?_)
    | (go_at_call 47; refine (rat_any W X a n c q HN.out.1 (HX.out.keep HC.out.low) (by have := HN.out.2; omega) o.nm HO.out.nm).mono ?_; rintro _ y5 ⟨z, rfl, hb5, hz⟩; obtain ⟨i, p, hi, rfl, hp, hpf⟩ : ∃ (i : Nat) (p : Fa × Value), i < n ∧ z = (i : Int) ∧ X[i]? = some p ∧ p.1 = f := at_found hz HG.out; obtain ⟨f2, bv⟩ := p; simp only at hpf; subst hpf; obtain ⟨a2, c2', e2', _, _, _⟩ := HX.out.fv (List.mem_of_getElem? hp); simp only at e2'; subst e2'; have HC5 : Hid (Ch2 w y5 (.slice a n c) q o) := HC.out.keep hb5; obtain ⟨b0, off, hab, hlt0, k0, k1, k2⟩ := (HX.out.keep HC5.out.low).at i _ hp; subst hab; simp only at k0 k1 k2; rw [HM.out] at k1; have HX5 : Hid (FlsA y5 (some ⟨b0, off, none⟩) X) := HX.out.keep HC5.out.low; have hiI : (i : Int) < (n : Int) := (by omega); have hi0 : (0 : Int) ≤ (i : Int) := (by omega); obtain ⟨e0, e1, e2, e3, e4, e5, e6⟩ := HC5.out.op.cells; obtain ⟨f0, f1, g2, f3, f4, f5⟩ := HC5.out.rd.cells; rw [HK.out] at e0; clear hb5 hz hp hlt0 k0 k2)
    | go_in)
  go_region
  obtain ⟨y6, hy6⟩ : ∃ y6, y5.drew = y6 := ⟨_, rfl⟩
  have HC6 : Hid (Ch2 w y6 (.slice (some ⟨b0, off, none⟩) n c) q o) := by rw [← hy6]; exact HC5.out.keep (Below.refl _ _).drew
  obtain ⟨e0, e1, e2, e3, e4, e5, e6⟩ := HC6.out.op.cells
  obtain ⟨f0, f1, g2, f3, f4, f5⟩ := HC6.out.rd.cells
  rw [HK.out] at e0
  rw [hy6]
  clear hy6
  go_wp2_with fail
  go_ret
  exact ⟨rfl, HC6.out.low⟩
end Go.Proofs.Ytlnhhgmdajbepaa
