/- Own texts, joined: Rbr. -/
import Derived.Test.YtlnhhgmdajbepaaK24
namespace Go.Proofs.Ytlnhhgmdajbepaa
open Go.ChangeShapes Go.WideShapes Go.ChangeAt Go.RowKit
set_option linter.unusedVariables false
set_option linter.unusedSimpArgs false
/-- the boxes of barred: the disk, the call -/
structure Ch2 (w x : World) (v : Value) (q : Rn) (o : Oa) : Prop where
  rd : RdAt x w.heap.size v q
  op : OpAt x (w.heap.size + 1) o
  low : Below w.heap.size w x
theorem Ch2.start (w : World) (v : Value) (q : Rn) (o : Oa) : Ch2 w ((w.alloc (.cells #[v, .int .i64 q.room, .int .i64 q.fuse, .bool q.off, .int .i64 q.steps, .int .i64 q.read] 28)).alloc (.cells #[.int .i64 o.k, .string (bs o.nm), .string (bs o.to), .slice o.P o.lb.length o.C, .int .i64 o.n, .int .i64 o.m, .slice o.K o.ks.length o.CK] 34)) v q o := by
  have h1 := RdAt.new w v q
  have b2 : ∀ (x : World) (c : Obj), Below x.heap.size x (x.alloc c) := fun x c => (Below.refl _ _).alloc (Nat.le_refl _) _
  refine ⟨h1.keep (b2 _ _), ?_, ((b2 _ _).alloc (by rw [World.size_alloc]; omega) _)⟩
  have h2 : OpAt ((w.alloc (.cells #[v, .int .i64 q.room, .int .i64 q.fuse, .bool q.off, .int .i64 q.steps, .int .i64 q.read] 28)).alloc (.cells (opL o).toArray 34)) _ o := heap_alloc_new _ _
  rw [World.size_alloc] at h2
  exact h2
theorem Ch2.keep {w x y : World} {v : Value} {q : Rn} {o : Oa} (h : Ch2 w x v q o) (hb : Below x.heap.size x y) : Ch2 w y v q o := ⟨h.rd.keep hb, h.op.keep hb, h.low.trans (hb.mono h.low.size)⟩
theorem at_found {X : List (Fa × Value)} {n : Nat} {nm : List UInt8} {z : Int} {f : Fa} (hz : (z = -1 ∧ getA (X.map Prod.fst) nm = none) ∨ ∃ (i : Nat) (f : Fa), z = (i : Int) ∧ i < n ∧ (X.map Prod.fst)[i]? = some f ∧ getA (X.map Prod.fst) nm = some f ∧ f.name = nm) (hg : getA (X.map Prod.fst) nm = some f) : ∃ (i : Nat) (p : Fa × Value), i < n ∧ z = (i : Int) ∧ X[i]? = some p ∧ p.1 = f := by
  rcases hz with ⟨_, h9⟩ | ⟨i, f1, h1, h2, h3, h4, _⟩
  · rw [hg] at h9; cases h9
  · rw [hg] at h4
    obtain rfl := Option.some.inj h4
    rw [List.getElem?_map] at h3
    cases hh : X[i]? with
    | none => rw [hh] at h3; cases h3
    | some p => rw [hh] at h3; exact ⟨i, p, h2, h1, hh, Option.some.inj h3⟩
set_option maxRecDepth 100000 in
set_option maxHeartbeats 1600000 in
theorem rbar_off (w : World) (X : List (Fa × Value)) (a : Option Addr) (n c : Nat) (q : Rn) (hn : X.length = n) (hX : FlsA w a X) (hnl : n ≤ 1000) (o : Oa) (ho : OpIn w o) (hoff : q.off = true) :
    Calls Try.prog 46 #[rdV (.slice a n c) q, opV o] w fun r w' => r = .returned (.int .i64 3) ∧ Below w.heap.size w w' := by
  have hC := Ch2.start w (.slice a n c) q o
  obtain ⟨W, hW⟩ : ∃ W, ((w.alloc (.cells #[.slice a n c, .int .i64 q.room, .int .i64 q.fuse, .bool q.off, .int .i64 q.steps, .int .i64 q.read] 28)).alloc (.cells #[.int .i64 o.k, .string (bs o.nm), .string (bs o.to), .slice o.P o.lb.length o.C, .int .i64 o.n, .int .i64 o.m, .slice o.K o.ks.length o.CK] 34)) = W := ⟨_, rfl⟩
  have HW : Hid (((w.alloc (.cells #[.slice a n c, .int .i64 q.room, .int .i64 q.fuse, .bool q.off, .int .i64 q.steps, .int .i64 q.read] 28)).alloc (.cells #[.int .i64 o.k, .string (bs o.nm), .string (bs o.to), .slice o.P o.lb.length o.C, .int .i64 o.n, .int .i64 o.m, .slice o.K o.ks.length o.CK] 34)) = W) := hW
  rw [hW] at hC
  have HC : Hid (Ch2 w W (.slice a n c) q o) := hC
  have HN : Hid (X.length = n ∧ n ≤ 1000) := ⟨hn, hnl⟩
  have hnI : (n : Int) ≤ 1000 := by omega
  have hn0 : (0 : Int) ≤ (n : Int) := by omega
  have HX : Hid (FlsA w a X) := hX
  have HO : Hid (OpIn w o) := ho
  have HF : Hid (q.off = true) := hoff
  clear hoff
  clear hW hC hn hX ho
  go_enter Try.func46, Try.ntmps46
  go_upto_region 1 with fail
  try simp only [Act.put]
  rw [HW.out]
  obtain ⟨c0, c1, c2, c3, c4, c5, c6⟩ := HC.out.op.cells
  obtain ⟨d0, d1, d2, d3, d4, d5⟩ := HC.out.rd.cells
  rw [HF.out] at d3
  go_wp2_with (first

    | go_in)
  go_ret
  exact ⟨rfl, HC.out.low⟩
set_option maxRecDepth 100000 in
set_option maxHeartbeats 1600000 in
theorem rbar_name (w : World) (X : List (Fa × Value)) (a : Option Addr) (n c : Nat) (q : Rn) (hn : X.length = n) (hX : FlsA w a X) (hnl : n ≤ 1000) (o : Oa) (ho : OpIn w o) (hoff : q.off = false) (hr : rightS o.nm = false) :
    Calls Try.prog 46 #[rdV (.slice a n c) q, opV o] w fun r w' => r = .returned (.int .i64 50) ∧ Below w.heap.size w w' := by
  have hC := Ch2.start w (.slice a n c) q o
  obtain ⟨W, hW⟩ : ∃ W, ((w.alloc (.cells #[.slice a n c, .int .i64 q.room, .int .i64 q.fuse, .bool q.off, .int .i64 q.steps, .int .i64 q.read] 28)).alloc (.cells #[.int .i64 o.k, .string (bs o.nm), .string (bs o.to), .slice o.P o.lb.length o.C, .int .i64 o.n, .int .i64 o.m, .slice o.K o.ks.length o.CK] 34)) = W := ⟨_, rfl⟩
  have HW : Hid (((w.alloc (.cells #[.slice a n c, .int .i64 q.room, .int .i64 q.fuse, .bool q.off, .int .i64 q.steps, .int .i64 q.read] 28)).alloc (.cells #[.int .i64 o.k, .string (bs o.nm), .string (bs o.to), .slice o.P o.lb.length o.C, .int .i64 o.n, .int .i64 o.m, .slice o.K o.ks.length o.CK] 34)) = W) := hW
  rw [hW] at hC
  have HC : Hid (Ch2 w W (.slice a n c) q o) := hC
  have HN : Hid (X.length = n ∧ n ≤ 1000) := ⟨hn, hnl⟩
  have hnI : (n : Int) ≤ 1000 := by omega
  have hn0 : (0 : Int) ≤ (n : Int) := by omega
  have HX : Hid (FlsA w a X) := hX
  have HO : Hid (OpIn w o) := ho
  have HF : Hid (q.off = false) := hoff
  have HRN : Hid (rightS o.nm = false) := hr
  clear hoff hr
  clear hW hC hn hX ho
  go_enter Try.func46, Try.ntmps46
  go_upto_region 1 with fail
  try simp only [Act.put]
  rw [HW.out]
  obtain ⟨c0, c1, c2, c3, c4, c5, c6⟩ := HC.out.op.cells
  obtain ⟨d0, d1, d2, d3, d4, d5⟩ := HC.out.rd.cells
  rw [HF.out] at d3
  go_wp2_with (first
    | (go_at_call 27; refine (rright_any o.nm _ HO.out.nm).mono ?_; rw [HRN.out]; rintro _ x3 ⟨rfl, rfl⟩)
    | go_in)
  go_ret
  exact ⟨rfl, HC.out.low⟩
set_option maxRecDepth 100000 in
set_option maxHeartbeats 1600000 in
theorem rbar_to (w : World) (X : List (Fa × Value)) (a : Option Addr) (n c : Nat) (q : Rn) (hn : X.length = n) (hX : FlsA w a X) (hnl : n ≤ 1000) (o : Oa) (ho : OpIn w o) (hoff : q.off = false) (hr : rightS o.nm = true) (hk : o.k = 3) (ht : rightS o.to = false) :
    Calls Try.prog 46 #[rdV (.slice a n c) q, opV o] w fun r w' => r = .returned (.int .i64 50) ∧ Below w.heap.size w w' := by
  have hC := Ch2.start w (.slice a n c) q o
  obtain ⟨W, hW⟩ : ∃ W, ((w.alloc (.cells #[.slice a n c, .int .i64 q.room, .int .i64 q.fuse, .bool q.off, .int .i64 q.steps, .int .i64 q.read] 28)).alloc (.cells #[.int .i64 o.k, .string (bs o.nm), .string (bs o.to), .slice o.P o.lb.length o.C, .int .i64 o.n, .int .i64 o.m, .slice o.K o.ks.length o.CK] 34)) = W := ⟨_, rfl⟩
  have HW : Hid (((w.alloc (.cells #[.slice a n c, .int .i64 q.room, .int .i64 q.fuse, .bool q.off, .int .i64 q.steps, .int .i64 q.read] 28)).alloc (.cells #[.int .i64 o.k, .string (bs o.nm), .string (bs o.to), .slice o.P o.lb.length o.C, .int .i64 o.n, .int .i64 o.m, .slice o.K o.ks.length o.CK] 34)) = W) := hW
  rw [hW] at hC
  have HC : Hid (Ch2 w W (.slice a n c) q o) := hC
  have HN : Hid (X.length = n ∧ n ≤ 1000) := ⟨hn, hnl⟩
  have hnI : (n : Int) ≤ 1000 := by omega
  have hn0 : (0 : Int) ≤ (n : Int) := by omega
  have HX : Hid (FlsA w a X) := hX
  have HO : Hid (OpIn w o) := ho
  have HF : Hid (q.off = false) := hoff
  have HRN : Hid (rightS o.nm = true) := hr
  clear hoff hr
  have HK : Hid (o.k = 3) := hk
  clear hk
  have HRT : Hid (rightS o.to = false) := ht
  clear ht
  have T1 : Hid True := trivial
  clear hW hC hn hX ho
  go_enter Try.func46, Try.ntmps46
  go_upto_region 1 with fail
  try simp only [Act.put]
  rw [HW.out]
  obtain ⟨c0, c1, c2, c3, c4, c5, c6⟩ := HC.out.op.cells
  obtain ⟨d0, d1, d2, d3, d4, d5⟩ := HC.out.rd.cells
  rw [HF.out] at d3
  rw [HK.out] at c0
  go_wp2_with (first
    | (go_at_call 27; clear T1; refine (rright_any o.nm _ HO.out.nm).mono ?_; rw [HRN.out]; rintro _ x3 ⟨rfl, rfl⟩)
    | (go_at_call 27; refine (rright_any o.to _ HO.out.to).mono ?_; rw [HRT.out]; rintro _ x3 ⟨rfl, rfl⟩)
    | go_in)
  go_ret
  exact ⟨rfl, HC.out.low⟩
set_option maxRecDepth 100000 in
set_option maxHeartbeats 1600000 in
theorem rbar_0there (w : World) (X : List (Fa × Value)) (a : Option Addr) (n c : Nat) (q : Rn) (hn : X.length = n) (hX : FlsA w a X) (hnl : n ≤ 1000) (o : Oa) (ho : OpIn w o) (hoff : q.off = false) (hr : rightS o.nm = true) (hk : o.k = 0) (f : Fa) (hg : getA (X.map Prod.fst) o.nm = some f) (m : Nat) (hm : f.l.length = m) :
    Calls Try.prog 46 #[rdV (.slice a n c) q, opV o] w fun r w' => r = .returned (.int .i64 52) ∧ Below w.heap.size w w' := by
  have hC := Ch2.start w (.slice a n c) q o
  obtain ⟨W, hW⟩ : ∃ W, ((w.alloc (.cells #[.slice a n c, .int .i64 q.room, .int .i64 q.fuse, .bool q.off, .int .i64 q.steps, .int .i64 q.read] 28)).alloc (.cells #[.int .i64 o.k, .string (bs o.nm), .string (bs o.to), .slice o.P o.lb.length o.C, .int .i64 o.n, .int .i64 o.m, .slice o.K o.ks.length o.CK] 34)) = W := ⟨_, rfl⟩
  have HW : Hid (((w.alloc (.cells #[.slice a n c, .int .i64 q.room, .int .i64 q.fuse, .bool q.off, .int .i64 q.steps, .int .i64 q.read] 28)).alloc (.cells #[.int .i64 o.k, .string (bs o.nm), .string (bs o.to), .slice o.P o.lb.length o.C, .int .i64 o.n, .int .i64 o.m, .slice o.K o.ks.length o.CK] 34)) = W) := hW
  rw [hW] at hC
  have HC : Hid (Ch2 w W (.slice a n c) q o) := hC
  have HN : Hid (X.length = n ∧ n ≤ 1000) := ⟨hn, hnl⟩
  have hnI : (n : Int) ≤ 1000 := by omega
  have hn0 : (0 : Int) ≤ (n : Int) := by omega
  have HX : Hid (FlsA w a X) := hX
  have HO : Hid (OpIn w o) := ho
  have HF : Hid (q.off = false) := hoff
  have HRN : Hid (rightS o.nm = true) := hr
  clear hoff hr
  have HK : Hid (o.k = 0) := hk
  clear hk
  have HG : Hid (getA (X.map Prod.fst) o.nm = some f) := hg
  have HM : Hid (f.l.length = m) := hm
  clear hg hm
  clear hW hC hn hX ho
  go_enter Try.func46, Try.ntmps46
  go_upto_region 1 with fail
  try simp only [Act.put]
  rw [HW.out]
  obtain ⟨c0, c1, c2, c3, c4, c5, c6⟩ := HC.out.op.cells
  obtain ⟨d0, d1, d2, d3, d4, d5⟩ := HC.out.rd.cells
  rw [HF.out] at d3
  rw [HK.out] at c0
  go_wp2_with (first
    | (go_at_call 27; refine (rright_any o.nm _ HO.out.nm).mono ?_; rw [HRN.out]; rintro _ x3 ⟨rfl, rfl⟩)
    | ((with_reducible refine guard_load 28 ?_); refine wpList_load_rd rfl _ rfl HC.out.rd rfl ?_)
    | (go_at_call 47; refine (rat_any W X a n c q HN.out.1 (HX.out.keep HC.out.low) (by have := HN.out.2; omega) o.nm HO.out.nm).mono ?_; rintro _ y5 ⟨z, rfl, hb5, hz⟩; obtain ⟨i, p, hi, rfl, hp, hpf⟩ : ∃ (i : Nat) (p : Fa × Value), i < n ∧ z = (i : Int) ∧ X[i]? = some p ∧ p.1 = f := at_found hz HG.out; obtain ⟨f2, bv⟩ := p; simp only at hpf; subst hpf; obtain ⟨a2, c2', e2', _, _, _⟩ := HX.out.fv (List.mem_of_getElem? hp); simp only at e2'; subst e2'; have HC5 : Hid (Ch2 w y5 (.slice a n c) q o) := HC.out.keep hb5; obtain ⟨b0, off, hab, hlt0, k0, k1, k2⟩ := (HX.out.keep HC5.out.low).at i _ hp; subst hab; simp only at k0 k1 k2; rw [HM.out] at k1; have HX5 : Hid (FlsA y5 (some ⟨b0, off, none⟩) X) := HX.out.keep HC5.out.low; have hiI : (i : Int) < (n : Int) := (by omega); have hi0 : (0 : Int) ≤ (i : Int) := (by omega); obtain ⟨e0, e1, e2, e3, e4, e5, e6⟩ := HC5.out.op.cells; obtain ⟨f0, f1, g2, f3, f4, f5⟩ := HC5.out.rd.cells; rw [HK.out] at e0; clear hb5 hz hp hlt0 k0 k2)
    | go_in)
  go_ret
  exact ⟨rfl, HC5.out.low⟩
set_option maxRecDepth 100000 in
set_option maxHeartbeats 1600000 in
theorem rbar_0full (w : World) (X : List (Fa × Value)) (a : Option Addr) (n c : Nat) (q : Rn) (hn : X.length = n) (hX : FlsA w a X) (hnl : n ≤ 1000) (o : Oa) (ho : OpIn w o) (hoff : q.off = false) (hr : rightS o.nm = true) (hk : o.k = 0) (hg : getA (X.map Prod.fst) o.nm = none) (h7 : 700 ≤ n) :
    Calls Try.prog 46 #[rdV (.slice a n c) q, opV o] w fun r w' => r = .returned (.int .i64 53) ∧ Below w.heap.size w w' := by
  have hC := Ch2.start w (.slice a n c) q o
  obtain ⟨W, hW⟩ : ∃ W, ((w.alloc (.cells #[.slice a n c, .int .i64 q.room, .int .i64 q.fuse, .bool q.off, .int .i64 q.steps, .int .i64 q.read] 28)).alloc (.cells #[.int .i64 o.k, .string (bs o.nm), .string (bs o.to), .slice o.P o.lb.length o.C, .int .i64 o.n, .int .i64 o.m, .slice o.K o.ks.length o.CK] 34)) = W := ⟨_, rfl⟩
  have HW : Hid (((w.alloc (.cells #[.slice a n c, .int .i64 q.room, .int .i64 q.fuse, .bool q.off, .int .i64 q.steps, .int .i64 q.read] 28)).alloc (.cells #[.int .i64 o.k, .string (bs o.nm), .string (bs o.to), .slice o.P o.lb.length o.C, .int .i64 o.n, .int .i64 o.m, .slice o.K o.ks.length o.CK] 34)) = W) := hW
  rw [hW] at hC
  have HC : Hid (Ch2 w W (.slice a n c) q o) := hC
  have HN : Hid (X.length = n ∧ n ≤ 1000) := ⟨hn, hnl⟩
  have hnI : (n : Int) ≤ 1000 := by omega
  have hn0 : (0 : Int) ≤ (n : Int) := by omega
  have HX : Hid (FlsA w a X) := hX
  have HO : Hid (OpIn w o) := ho
  have HF : Hid (q.off = false) := hoff
  have HRN : Hid (rightS o.nm = true) := hr
  clear hoff hr
  have HK : Hid (o.k = 0) := hk
  clear hk
  have HG : Hid (getA (X.map Prod.fst) o.nm = none) := hg
  clear hg
  have h7I : (700 : Int) ≤ (n : Int) := by omega
  clear h7
  clear hW hC hn hX ho
  go_enter Try.func46, Try.ntmps46
  go_upto_region 1 with fail
  try simp only [Act.put]
  rw [HW.out]
  obtain ⟨c0, c1, c2, c3, c4, c5, c6⟩ := HC.out.op.cells
  obtain ⟨d0, d1, d2, d3, d4, d5⟩ := HC.out.rd.cells
  rw [HF.out] at d3
  rw [HK.out] at c0
  go_wp2_with (first
    | (go_at_call 27; refine (rright_any o.nm _ HO.out.nm).mono ?_; rw [HRN.out]; rintro _ x3 ⟨rfl, rfl⟩)
    | ((with_reducible refine guard_load 28 ?_); refine wpList_load_rd rfl _ rfl HC.out.rd rfl ?_)
    | (go_at_call 47; refine (rat_any W X a n c q HN.out.1 (HX.out.keep HC.out.low) (by have := HN.out.2; omega) o.nm HO.out.nm).mono ?_; rintro _ y5 ⟨z, rfl, hb5, hz⟩; obtain rfl : z = -1 := (by rcases hz with ⟨h1, _⟩ | ⟨i, f1, _, _, _, h4, _⟩; exact h1; rw [HG.out] at h4; cases h4); have HC5 : Hid (Ch2 w y5 (.slice a n c) q o) := HC.out.keep hb5; obtain ⟨e0, e1, e2, e3, e4, e5, e6⟩ := HC5.out.op.cells; obtain ⟨f0, f1, f2, f3, f4, f5⟩ := HC5.out.rd.cells; rw [HK.out] at e0; clear hb5 hz)
    | go_in)
  go_ret
  exact ⟨rfl, HC5.out.low⟩
set_option maxRecDepth 100000 in
set_option maxHeartbeats 1600000 in
theorem rbar_0ok (w : World) (X : List (Fa × Value)) (a : Option Addr) (n c : Nat) (q : Rn) (hn : X.length = n) (hX : FlsA w a X) (hnl : n ≤ 1000) (o : Oa) (ho : OpIn w o) (hoff : q.off = false) (hr : rightS o.nm = true) (hk : o.k = 0) (hg : getA (X.map Prod.fst) o.nm = none) (h7 : n < 700) :
    Calls Try.prog 46 #[rdV (.slice a n c) q, opV o] w fun r w' => r = .returned (.int .i64 0) ∧ Below w.heap.size w w' := by
  have hC := Ch2.start w (.slice a n c) q o
  obtain ⟨W, hW⟩ : ∃ W, ((w.alloc (.cells #[.slice a n c, .int .i64 q.room, .int .i64 q.fuse, .bool q.off, .int .i64 q.steps, .int .i64 q.read] 28)).alloc (.cells #[.int .i64 o.k, .string (bs o.nm), .string (bs o.to), .slice o.P o.lb.length o.C, .int .i64 o.n, .int .i64 o.m, .slice o.K o.ks.length o.CK] 34)) = W := ⟨_, rfl⟩
  have HW : Hid (((w.alloc (.cells #[.slice a n c, .int .i64 q.room, .int .i64 q.fuse, .bool q.off, .int .i64 q.steps, .int .i64 q.read] 28)).alloc (.cells #[.int .i64 o.k, .string (bs o.nm), .string (bs o.to), .slice o.P o.lb.length o.C, .int .i64 o.n, .int .i64 o.m, .slice o.K o.ks.length o.CK] 34)) = W) := hW
  rw [hW] at hC
  have HC : Hid (Ch2 w W (.slice a n c) q o) := hC
  have HN : Hid (X.length = n ∧ n ≤ 1000) := ⟨hn, hnl⟩
  have hnI : (n : Int) ≤ 1000 := by omega
  have hn0 : (0 : Int) ≤ (n : Int) := by omega
  have HX : Hid (FlsA w a X) := hX
  have HO : Hid (OpIn w o) := ho
  have HF : Hid (q.off = false) := hoff
  have HRN : Hid (rightS o.nm = true) := hr
  clear hoff hr
  have HK : Hid (o.k = 0) := hk
  clear hk
  have HG : Hid (getA (X.map Prod.fst) o.nm = none) := hg
  clear hg
  have h7I : (n : Int) < 700 := by omega
  clear h7
  clear hW hC hn hX ho
  go_enter Try.func46, Try.ntmps46
  go_upto_region 1 with fail
  try simp only [Act.put]
  rw [HW.out]
  obtain ⟨c0, c1, c2, c3, c4, c5, c6⟩ := HC.out.op.cells
  obtain ⟨d0, d1, d2, d3, d4, d5⟩ := HC.out.rd.cells
  rw [HF.out] at d3
  rw [HK.out] at c0
  go_wp2_with (first
    | (go_at_call 27; refine (rright_any o.nm _ HO.out.nm).mono ?_; rw [HRN.out]; rintro _ x3 ⟨rfl, rfl⟩)
    | ((with_reducible refine guard_load 28 ?_); refine wpList_load_rd rfl _ rfl HC.out.rd rfl ?_)
    | (go_at_call 47; refine (rat_any W X a n c q HN.out.1 (HX.out.keep HC.out.low) (by have := HN.out.2; omega) o.nm HO.out.nm).mono ?_; rintro _ y5 ⟨z, rfl, hb5, hz⟩; obtain rfl : z = -1 := (by rcases hz with ⟨h1, _⟩ | ⟨i, f1, _, _, _, h4, _⟩; exact h1; rw [HG.out] at h4; cases h4); have HC5 : Hid (Ch2 w y5 (.slice a n c) q o) := HC.out.keep hb5; obtain ⟨e0, e1, e2, e3, e4, e5, e6⟩ := HC5.out.op.cells; obtain ⟨f0, f1, f2, f3, f4, f5⟩ := HC5.out.rd.cells; rw [HK.out] at e0; clear hb5 hz)
    | go_in)
  go_ret
  exact ⟨rfl, HC5.out.low⟩
set_option maxRecDepth 100000 in
set_option maxHeartbeats 1600000 in
theorem rbar_1gone (w : World) (X : List (Fa × Value)) (a : Option Addr) (n c : Nat) (q : Rn) (hn : X.length = n) (hX : FlsA w a X) (hnl : n ≤ 1000) (o : Oa) (ho : OpIn w o) (hoff : q.off = false) (hr : rightS o.nm = true) (hk : o.k = 1) (hg : getA (X.map Prod.fst) o.nm = none) :
    Calls Try.prog 46 #[rdV (.slice a n c) q, opV o] w fun r w' => r = .returned (.int .i64 51) ∧ Below w.heap.size w w' := by
  have hC := Ch2.start w (.slice a n c) q o
  obtain ⟨W, hW⟩ : ∃ W, ((w.alloc (.cells #[.slice a n c, .int .i64 q.room, .int .i64 q.fuse, .bool q.off, .int .i64 q.steps, .int .i64 q.read] 28)).alloc (.cells #[.int .i64 o.k, .string (bs o.nm), .string (bs o.to), .slice o.P o.lb.length o.C, .int .i64 o.n, .int .i64 o.m, .slice o.K o.ks.length o.CK] 34)) = W := ⟨_, rfl⟩
  have HW : Hid (((w.alloc (.cells #[.slice a n c, .int .i64 q.room, .int .i64 q.fuse, .bool q.off, .int .i64 q.steps, .int .i64 q.read] 28)).alloc (.cells #[.int .i64 o.k, .string (bs o.nm), .string (bs o.to), .slice o.P o.lb.length o.C, .int .i64 o.n, .int .i64 o.m, .slice o.K o.ks.length o.CK] 34)) = W) := hW
  rw [hW] at hC
  have HC : Hid (Ch2 w W (.slice a n c) q o) := hC
  have HN : Hid (X.length = n ∧ n ≤ 1000) := ⟨hn, hnl⟩
  have hnI : (n : Int) ≤ 1000 := by omega
  have hn0 : (0 : Int) ≤ (n : Int) := by omega
  have HX : Hid (FlsA w a X) := hX
  have HO : Hid (OpIn w o) := ho
  have HF : Hid (q.off = false) := hoff
  have HRN : Hid (rightS o.nm = true) := hr
  clear hoff hr
  have HK : Hid (o.k = 1) := hk
  clear hk
  have HG : Hid (getA (X.map Prod.fst) o.nm = none) := hg
  clear hg
  clear hW hC hn hX ho
  go_enter Try.func46, Try.ntmps46
  go_upto_region 1 with fail
  try simp only [Act.put]
  rw [HW.out]
  obtain ⟨c0, c1, c2, c3, c4, c5, c6⟩ := HC.out.op.cells
  obtain ⟨d0, d1, d2, d3, d4, d5⟩ := HC.out.rd.cells
  rw [HF.out] at d3
  rw [HK.out] at c0
  go_wp2_with (first
    | (go_at_call 27; refine (rright_any o.nm _ HO.out.nm).mono ?_; rw [HRN.out]; rintro _ x3 ⟨rfl, rfl⟩)
    | ((with_reducible refine guard_load 28 ?_); refine wpList_load_rd rfl _ rfl HC.out.rd rfl ?_)
    | (go_at_call 47; refine (rat_any W X a n c q HN.out.1 (HX.out.keep HC.out.low) (by have := HN.out.2; omega) o.nm HO.out.nm).mono ?_; rintro _ y5 ⟨z, rfl, hb5, hz⟩; obtain rfl : z = -1 := (by rcases hz with ⟨h1, _⟩ | ⟨i, f1, _, _, _, h4, _⟩; exact h1; rw [HG.out] at h4; cases h4); have HC5 : Hid (Ch2 w y5 (.slice a n c) q o) := HC.out.keep hb5; obtain ⟨e0, e1, e2, e3, e4, e5, e6⟩ := HC5.out.op.cells; obtain ⟨f0, f1, f2, f3, f4, f5⟩ := HC5.out.rd.cells; rw [HK.out] at e0; clear hb5 hz)
    | go_in)
  go_ret
  exact ⟨rfl, HC5.out.low⟩
set_option maxRecDepth 100000 in
set_option maxHeartbeats 1600000 in
theorem rbar_2gone (w : World) (X : List (Fa × Value)) (a : Option Addr) (n c : Nat) (q : Rn) (hn : X.length = n) (hX : FlsA w a X) (hnl : n ≤ 1000) (o : Oa) (ho : OpIn w o) (hoff : q.off = false) (hr : rightS o.nm = true) (hk : o.k = 2) (hg : getA (X.map Prod.fst) o.nm = none) :
    Calls Try.prog 46 #[rdV (.slice a n c) q, opV o] w fun r w' => r = .returned (.int .i64 51) ∧ Below w.heap.size w w' := by
  have hC := Ch2.start w (.slice a n c) q o
  obtain ⟨W, hW⟩ : ∃ W, ((w.alloc (.cells #[.slice a n c, .int .i64 q.room, .int .i64 q.fuse, .bool q.off, .int .i64 q.steps, .int .i64 q.read] 28)).alloc (.cells #[.int .i64 o.k, .string (bs o.nm), .string (bs o.to), .slice o.P o.lb.length o.C, .int .i64 o.n, .int .i64 o.m, .slice o.K o.ks.length o.CK] 34)) = W := ⟨_, rfl⟩
  have HW : Hid (((w.alloc (.cells #[.slice a n c, .int .i64 q.room, .int .i64 q.fuse, .bool q.off, .int .i64 q.steps, .int .i64 q.read] 28)).alloc (.cells #[.int .i64 o.k, .string (bs o.nm), .string (bs o.to), .slice o.P o.lb.length o.C, .int .i64 o.n, .int .i64 o.m, .slice o.K o.ks.length o.CK] 34)) = W) := hW
  rw [hW] at hC
  have HC : Hid (Ch2 w W (.slice a n c) q o) := hC
  have HN : Hid (X.length = n ∧ n ≤ 1000) := ⟨hn, hnl⟩
  have hnI : (n : Int) ≤ 1000 := by omega
  have hn0 : (0 : Int) ≤ (n : Int) := by omega
  have HX : Hid (FlsA w a X) := hX
  have HO : Hid (OpIn w o) := ho
  have HF : Hid (q.off = false) := hoff
  have HRN : Hid (rightS o.nm = true) := hr
  clear hoff hr
  have HK : Hid (o.k = 2) := hk
  clear hk
  have HG : Hid (getA (X.map Prod.fst) o.nm = none) := hg
  clear hg
  clear hW hC hn hX ho
  go_enter Try.func46, Try.ntmps46
  go_upto_region 1 with fail
  try simp only [Act.put]
  rw [HW.out]
  obtain ⟨c0, c1, c2, c3, c4, c5, c6⟩ := HC.out.op.cells
  obtain ⟨d0, d1, d2, d3, d4, d5⟩ := HC.out.rd.cells
  rw [HF.out] at d3
  rw [HK.out] at c0
  go_wp2_with (first
    | (go_at_call 27; refine (rright_any o.nm _ HO.out.nm).mono ?_; rw [HRN.out]; rintro _ x3 ⟨rfl, rfl⟩)
    | ((with_reducible refine guard_load 28 ?_); refine wpList_load_rd rfl _ rfl HC.out.rd rfl ?_)
    | (go_at_call 47; refine (rat_any W X a n c q HN.out.1 (HX.out.keep HC.out.low) (by have := HN.out.2; omega) o.nm HO.out.nm).mono ?_; rintro _ y5 ⟨z, rfl, hb5, hz⟩; obtain rfl : z = -1 := (by rcases hz with ⟨h1, _⟩ | ⟨i, f1, _, _, _, h4, _⟩; exact h1; rw [HG.out] at h4; cases h4); have HC5 : Hid (Ch2 w y5 (.slice a n c) q o) := HC.out.keep hb5; obtain ⟨e0, e1, e2, e3, e4, e5, e6⟩ := HC5.out.op.cells; obtain ⟨f0, f1, f2, f3, f4, f5⟩ := HC5.out.rd.cells; rw [HK.out] at e0; clear hb5 hz)
    | go_in)
  go_ret
  exact ⟨rfl, HC5.out.low⟩
set_option maxRecDepth 100000 in
set_option maxHeartbeats 1600000 in
theorem rbar_3gone (w : World) (X : List (Fa × Value)) (a : Option Addr) (n c : Nat) (q : Rn) (hn : X.length = n) (hX : FlsA w a X) (hnl : n ≤ 1000) (o : Oa) (ho : OpIn w o) (hoff : q.off = false) (hr : rightS o.nm = true) (hk : o.k = 3) (hg : getA (X.map Prod.fst) o.nm = none) (ht : rightS o.to = true) :
    Calls Try.prog 46 #[rdV (.slice a n c) q, opV o] w fun r w' => r = .returned (.int .i64 51) ∧ Below w.heap.size w w' := by
  have hC := Ch2.start w (.slice a n c) q o
  obtain ⟨W, hW⟩ : ∃ W, ((w.alloc (.cells #[.slice a n c, .int .i64 q.room, .int .i64 q.fuse, .bool q.off, .int .i64 q.steps, .int .i64 q.read] 28)).alloc (.cells #[.int .i64 o.k, .string (bs o.nm), .string (bs o.to), .slice o.P o.lb.length o.C, .int .i64 o.n, .int .i64 o.m, .slice o.K o.ks.length o.CK] 34)) = W := ⟨_, rfl⟩
  have HW : Hid (((w.alloc (.cells #[.slice a n c, .int .i64 q.room, .int .i64 q.fuse, .bool q.off, .int .i64 q.steps, .int .i64 q.read] 28)).alloc (.cells #[.int .i64 o.k, .string (bs o.nm), .string (bs o.to), .slice o.P o.lb.length o.C, .int .i64 o.n, .int .i64 o.m, .slice o.K o.ks.length o.CK] 34)) = W) := hW
  rw [hW] at hC
  have HC : Hid (Ch2 w W (.slice a n c) q o) := hC
  have HN : Hid (X.length = n ∧ n ≤ 1000) := ⟨hn, hnl⟩
  have hnI : (n : Int) ≤ 1000 := by omega
  have hn0 : (0 : Int) ≤ (n : Int) := by omega
  have HX : Hid (FlsA w a X) := hX
  have HO : Hid (OpIn w o) := ho
  have HF : Hid (q.off = false) := hoff
  have HRN : Hid (rightS o.nm = true) := hr
  clear hoff hr
  have HK : Hid (o.k = 3) := hk
  clear hk
  have HG : Hid (getA (X.map Prod.fst) o.nm = none) := hg
  clear hg
  have HRT : Hid (rightS o.to = true) := ht
  clear ht
  have T1 : Hid True := trivial
  clear hW hC hn hX ho
  go_enter Try.func46, Try.ntmps46
  go_upto_region 1 with fail
  try simp only [Act.put]
  rw [HW.out]
  obtain ⟨c0, c1, c2, c3, c4, c5, c6⟩ := HC.out.op.cells
  obtain ⟨d0, d1, d2, d3, d4, d5⟩ := HC.out.rd.cells
  rw [HF.out] at d3
  rw [HK.out] at c0
  go_wp2_with (first
    | (go_at_call 27; clear T1; refine (rright_any o.nm _ HO.out.nm).mono ?_; rw [HRN.out]; rintro _ x3 ⟨rfl, rfl⟩)
    | (go_at_call 27; refine (rright_any o.to _ HO.out.to).mono ?_; rw [HRT.out]; rintro _ x3 ⟨rfl, rfl⟩)
    | ((with_reducible refine guard_load 28 ?_); refine wpList_load_rd rfl _ rfl HC.out.rd rfl ?_)
    | (go_at_call 47; refine (rat_any W X a n c q HN.out.1 (HX.out.keep HC.out.low) (by have := HN.out.2; omega) o.nm HO.out.nm).mono ?_; rintro _ y5 ⟨z, rfl, hb5, hz⟩; obtain rfl : z = -1 := (by rcases hz with ⟨h1, _⟩ | ⟨i, f1, _, _, _, h4, _⟩; exact h1; rw [HG.out] at h4; cases h4); have HC5 : Hid (Ch2 w y5 (.slice a n c) q o) := HC.out.keep hb5; obtain ⟨e0, e1, e2, e3, e4, e5, e6⟩ := HC5.out.op.cells; obtain ⟨f0, f1, f2, f3, f4, f5⟩ := HC5.out.rd.cells; rw [HK.out] at e0; clear hb5 hz)
    | go_in)
  go_ret
  exact ⟨rfl, HC5.out.low⟩
set_option maxRecDepth 100000 in
set_option maxHeartbeats 1600000 in
theorem rbar_4gone (w : World) (X : List (Fa × Value)) (a : Option Addr) (n c : Nat) (q : Rn) (hn : X.length = n) (hX : FlsA w a X) (hnl : n ≤ 1000) (o : Oa) (ho : OpIn w o) (hoff : q.off = false) (hr : rightS o.nm = true) (hk : o.k = 4) (hg : getA (X.map Prod.fst) o.nm = none) :
    Calls Try.prog 46 #[rdV (.slice a n c) q, opV o] w fun r w' => r = .returned (.int .i64 51) ∧ Below w.heap.size w w' := by
  have hC := Ch2.start w (.slice a n c) q o
  obtain ⟨W, hW⟩ : ∃ W, ((w.alloc (.cells #[.slice a n c, .int .i64 q.room, .int .i64 q.fuse, .bool q.off, .int .i64 q.steps, .int .i64 q.read] 28)).alloc (.cells #[.int .i64 o.k, .string (bs o.nm), .string (bs o.to), .slice o.P o.lb.length o.C, .int .i64 o.n, .int .i64 o.m, .slice o.K o.ks.length o.CK] 34)) = W := ⟨_, rfl⟩
  have HW : Hid (((w.alloc (.cells #[.slice a n c, .int .i64 q.room, .int .i64 q.fuse, .bool q.off, .int .i64 q.steps, .int .i64 q.read] 28)).alloc (.cells #[.int .i64 o.k, .string (bs o.nm), .string (bs o.to), .slice o.P o.lb.length o.C, .int .i64 o.n, .int .i64 o.m, .slice o.K o.ks.length o.CK] 34)) = W) := hW
  rw [hW] at hC
  have HC : Hid (Ch2 w W (.slice a n c) q o) := hC
  have HN : Hid (X.length = n ∧ n ≤ 1000) := ⟨hn, hnl⟩
  have hnI : (n : Int) ≤ 1000 := by omega
  have hn0 : (0 : Int) ≤ (n : Int) := by omega
  have HX : Hid (FlsA w a X) := hX
  have HO : Hid (OpIn w o) := ho
  have HF : Hid (q.off = false) := hoff
  have HRN : Hid (rightS o.nm = true) := hr
  clear hoff hr
  have HK : Hid (o.k = 4) := hk
  clear hk
  have HG : Hid (getA (X.map Prod.fst) o.nm = none) := hg
  clear hg
  clear hW hC hn hX ho
  go_enter Try.func46, Try.ntmps46
  go_upto_region 1 with fail
  try simp only [Act.put]
  rw [HW.out]
  obtain ⟨c0, c1, c2, c3, c4, c5, c6⟩ := HC.out.op.cells
  obtain ⟨d0, d1, d2, d3, d4, d5⟩ := HC.out.rd.cells
  rw [HF.out] at d3
  rw [HK.out] at c0
  go_wp2_with (first
    | (go_at_call 27; refine (rright_any o.nm _ HO.out.nm).mono ?_; rw [HRN.out]; rintro _ x3 ⟨rfl, rfl⟩)
    | ((with_reducible refine guard_load 28 ?_); refine wpList_load_rd rfl _ rfl HC.out.rd rfl ?_)
    | (go_at_call 47; refine (rat_any W X a n c q HN.out.1 (HX.out.keep HC.out.low) (by have := HN.out.2; omega) o.nm HO.out.nm).mono ?_; rintro _ y5 ⟨z, rfl, hb5, hz⟩; obtain rfl : z = -1 := (by rcases hz with ⟨h1, _⟩ | ⟨i, f1, _, _, _, h4, _⟩; exact h1; rw [HG.out] at h4; cases h4); have HC5 : Hid (Ch2 w y5 (.slice a n c) q o) := HC.out.keep hb5; obtain ⟨e0, e1, e2, e3, e4, e5, e6⟩ := HC5.out.op.cells; obtain ⟨f0, f1, f2, f3, f4, f5⟩ := HC5.out.rd.cells; rw [HK.out] at e0; clear hb5 hz)
    | go_in)
  go_ret
  exact ⟨rfl, HC5.out.low⟩
set_option maxRecDepth 100000 in
set_option maxHeartbeats 1600000 in
theorem rbar_5gone (w : World) (X : List (Fa × Value)) (a : Option Addr) (n c : Nat) (q : Rn) (hn : X.length = n) (hX : FlsA w a X) (hnl : n ≤ 1000) (o : Oa) (ho : OpIn w o) (hoff : q.off = false) (hr : rightS o.nm = true) (hk : o.k = 5) (hg : getA (X.map Prod.fst) o.nm = none) :
    Calls Try.prog 46 #[rdV (.slice a n c) q, opV o] w fun r w' => r = .returned (.int .i64 51) ∧ Below w.heap.size w w' := by
  have hC := Ch2.start w (.slice a n c) q o
  obtain ⟨W, hW⟩ : ∃ W, ((w.alloc (.cells #[.slice a n c, .int .i64 q.room, .int .i64 q.fuse, .bool q.off, .int .i64 q.steps, .int .i64 q.read] 28)).alloc (.cells #[.int .i64 o.k, .string (bs o.nm), .string (bs o.to), .slice o.P o.lb.length o.C, .int .i64 o.n, .int .i64 o.m, .slice o.K o.ks.length o.CK] 34)) = W := ⟨_, rfl⟩
  have HW : Hid (((w.alloc (.cells #[.slice a n c, .int .i64 q.room, .int .i64 q.fuse, .bool q.off, .int .i64 q.steps, .int .i64 q.read] 28)).alloc (.cells #[.int .i64 o.k, .string (bs o.nm), .string (bs o.to), .slice o.P o.lb.length o.C, .int .i64 o.n, .int .i64 o.m, .slice o.K o.ks.length o.CK] 34)) = W) := hW
  rw [hW] at hC
  have HC : Hid (Ch2 w W (.slice a n c) q o) := hC
  have HN : Hid (X.length = n ∧ n ≤ 1000) := ⟨hn, hnl⟩
  have hnI : (n : Int) ≤ 1000 := by omega
  have hn0 : (0 : Int) ≤ (n : Int) := by omega
  have HX : Hid (FlsA w a X) := hX
  have HO : Hid (OpIn w o) := ho
  have HF : Hid (q.off = false) := hoff
  have HRN : Hid (rightS o.nm = true) := hr
  clear hoff hr
  have HK : Hid (o.k = 5) := hk
  clear hk
  have HG : Hid (getA (X.map Prod.fst) o.nm = none) := hg
  clear hg
  clear hW hC hn hX ho
  go_enter Try.func46, Try.ntmps46
  go_upto_region 1 with fail
  try simp only [Act.put]
  rw [HW.out]
  obtain ⟨c0, c1, c2, c3, c4, c5, c6⟩ := HC.out.op.cells
  obtain ⟨d0, d1, d2, d3, d4, d5⟩ := HC.out.rd.cells
  rw [HF.out] at d3
  rw [HK.out] at c0
  go_wp2_with (first
    | (go_at_call 27; refine (rright_any o.nm _ HO.out.nm).mono ?_; rw [HRN.out]; rintro _ x3 ⟨rfl, rfl⟩)
    | ((with_reducible refine guard_load 28 ?_); refine wpList_load_rd rfl _ rfl HC.out.rd rfl ?_)
    | (go_at_call 47; refine (rat_any W X a n c q HN.out.1 (HX.out.keep HC.out.low) (by have := HN.out.2; omega) o.nm HO.out.nm).mono ?_; rintro _ y5 ⟨z, rfl, hb5, hz⟩; obtain rfl : z = -1 := (by rcases hz with ⟨h1, _⟩ | ⟨i, f1, _, _, _, h4, _⟩; exact h1; rw [HG.out] at h4; cases h4); have HC5 : Hid (Ch2 w y5 (.slice a n c) q o) := HC.out.keep hb5; obtain ⟨e0, e1, e2, e3, e4, e5, e6⟩ := HC5.out.op.cells; obtain ⟨f0, f1, f2, f3, f4, f5⟩ := HC5.out.rd.cells; rw [HK.out] at e0; clear hb5 hz)
    | go_in)
  go_ret
  exact ⟨rfl, HC5.out.low⟩
set_option maxRecDepth 100000 in
set_option maxHeartbeats 1600000 in
theorem rbar_6gone (w : World) (X : List (Fa × Value)) (a : Option Addr) (n c : Nat) (q : Rn) (hn : X.length = n) (hX : FlsA w a X) (hnl : n ≤ 1000) (o : Oa) (ho : OpIn w o) (hoff : q.off = false) (hr : rightS o.nm = true) (hk : o.k = 6) (hg : getA (X.map Prod.fst) o.nm = none) :
    Calls Try.prog 46 #[rdV (.slice a n c) q, opV o] w fun r w' => r = .returned (.int .i64 51) ∧ Below w.heap.size w w' := by
  have hC := Ch2.start w (.slice a n c) q o
  obtain ⟨W, hW⟩ : ∃ W, ((w.alloc (.cells #[.slice a n c, .int .i64 q.room, .int .i64 q.fuse, .bool q.off, .int .i64 q.steps, .int .i64 q.read] 28)).alloc (.cells #[.int .i64 o.k, .string (bs o.nm), .string (bs o.to), .slice o.P o.lb.length o.C, .int .i64 o.n, .int .i64 o.m, .slice o.K o.ks.length o.CK] 34)) = W := ⟨_, rfl⟩
  have HW : Hid (((w.alloc (.cells #[.slice a n c, .int .i64 q.room, .int .i64 q.fuse, .bool q.off, .int .i64 q.steps, .int .i64 q.read] 28)).alloc (.cells #[.int .i64 o.k, .string (bs o.nm), .string (bs o.to), .slice o.P o.lb.length o.C, .int .i64 o.n, .int .i64 o.m, .slice o.K o.ks.length o.CK] 34)) = W) := hW
  rw [hW] at hC
  have HC : Hid (Ch2 w W (.slice a n c) q o) := hC
  have HN : Hid (X.length = n ∧ n ≤ 1000) := ⟨hn, hnl⟩
  have hnI : (n : Int) ≤ 1000 := by omega
  have hn0 : (0 : Int) ≤ (n : Int) := by omega
  have HX : Hid (FlsA w a X) := hX
  have HO : Hid (OpIn w o) := ho
  have HF : Hid (q.off = false) := hoff
  have HRN : Hid (rightS o.nm = true) := hr
  clear hoff hr
  have HK : Hid (o.k = 6) := hk
  clear hk
  have HG : Hid (getA (X.map Prod.fst) o.nm = none) := hg
  clear hg
  clear hW hC hn hX ho
  go_enter Try.func46, Try.ntmps46
  go_upto_region 1 with fail
  try simp only [Act.put]
  rw [HW.out]
  obtain ⟨c0, c1, c2, c3, c4, c5, c6⟩ := HC.out.op.cells
  obtain ⟨d0, d1, d2, d3, d4, d5⟩ := HC.out.rd.cells
  rw [HF.out] at d3
  rw [HK.out] at c0
  go_wp2_with (first
    | (go_at_call 27; refine (rright_any o.nm _ HO.out.nm).mono ?_; rw [HRN.out]; rintro _ x3 ⟨rfl, rfl⟩)
    | ((with_reducible refine guard_load 28 ?_); refine wpList_load_rd rfl _ rfl HC.out.rd rfl ?_)
    | (go_at_call 47; refine (rat_any W X a n c q HN.out.1 (HX.out.keep HC.out.low) (by have := HN.out.2; omega) o.nm HO.out.nm).mono ?_; rintro _ y5 ⟨z, rfl, hb5, hz⟩; obtain rfl : z = -1 := (by rcases hz with ⟨h1, _⟩ | ⟨i, f1, _, _, _, h4, _⟩; exact h1; rw [HG.out] at h4; cases h4); have HC5 : Hid (Ch2 w y5 (.slice a n c) q o) := HC.out.keep hb5; obtain ⟨e0, e1, e2, e3, e4, e5, e6⟩ := HC5.out.op.cells; obtain ⟨f0, f1, f2, f3, f4, f5⟩ := HC5.out.rd.cells; rw [HK.out] at e0; clear hb5 hz)
    | go_in)
  go_ret
  exact ⟨rfl, HC5.out.low⟩
set_option maxRecDepth 100000 in
set_option maxHeartbeats 1600000 in
theorem rbar_7gone (w : World) (X : List (Fa × Value)) (a : Option Addr) (n c : Nat) (q : Rn) (hn : X.length = n) (hX : FlsA w a X) (hnl : n ≤ 1000) (o : Oa) (ho : OpIn w o) (hoff : q.off = false) (hr : rightS o.nm = true) (hk : o.k = 7) (hg : getA (X.map Prod.fst) o.nm = none) :
    Calls Try.prog 46 #[rdV (.slice a n c) q, opV o] w fun r w' => r = .returned (.int .i64 51) ∧ Below w.heap.size w w' := by
  have hC := Ch2.start w (.slice a n c) q o
  obtain ⟨W, hW⟩ : ∃ W, ((w.alloc (.cells #[.slice a n c, .int .i64 q.room, .int .i64 q.fuse, .bool q.off, .int .i64 q.steps, .int .i64 q.read] 28)).alloc (.cells #[.int .i64 o.k, .string (bs o.nm), .string (bs o.to), .slice o.P o.lb.length o.C, .int .i64 o.n, .int .i64 o.m, .slice o.K o.ks.length o.CK] 34)) = W := ⟨_, rfl⟩
  have HW : Hid (((w.alloc (.cells #[.slice a n c, .int .i64 q.room, .int .i64 q.fuse, .bool q.off, .int .i64 q.steps, .int .i64 q.read] 28)).alloc (.cells #[.int .i64 o.k, .string (bs o.nm), .string (bs o.to), .slice o.P o.lb.length o.C, .int .i64 o.n, .int .i64 o.m, .slice o.K o.ks.length o.CK] 34)) = W) := hW
  rw [hW] at hC
  have HC : Hid (Ch2 w W (.slice a n c) q o) := hC
  have HN : Hid (X.length = n ∧ n ≤ 1000) := ⟨hn, hnl⟩
  have hnI : (n : Int) ≤ 1000 := by omega
  have hn0 : (0 : Int) ≤ (n : Int) := by omega
  have HX : Hid (FlsA w a X) := hX
  have HO : Hid (OpIn w o) := ho
  have HF : Hid (q.off = false) := hoff
  have HRN : Hid (rightS o.nm = true) := hr
  clear hoff hr
  have HK : Hid (o.k = 7) := hk
  clear hk
  have HG : Hid (getA (X.map Prod.fst) o.nm = none) := hg
  clear hg
  clear hW hC hn hX ho
  go_enter Try.func46, Try.ntmps46
  go_upto_region 1 with fail
  try simp only [Act.put]
  rw [HW.out]
  obtain ⟨c0, c1, c2, c3, c4, c5, c6⟩ := HC.out.op.cells
  obtain ⟨d0, d1, d2, d3, d4, d5⟩ := HC.out.rd.cells
  rw [HF.out] at d3
  rw [HK.out] at c0
  go_wp2_with (first
    | (go_at_call 27; refine (rright_any o.nm _ HO.out.nm).mono ?_; rw [HRN.out]; rintro _ x3 ⟨rfl, rfl⟩)
    | ((with_reducible refine guard_load 28 ?_); refine wpList_load_rd rfl _ rfl HC.out.rd rfl ?_)
    | (go_at_call 47; refine (rat_any W X a n c q HN.out.1 (HX.out.keep HC.out.low) (by have := HN.out.2; omega) o.nm HO.out.nm).mono ?_; rintro _ y5 ⟨z, rfl, hb5, hz⟩; obtain rfl : z = -1 := (by rcases hz with ⟨h1, _⟩ | ⟨i, f1, _, _, _, h4, _⟩; exact h1; rw [HG.out] at h4; cases h4); have HC5 : Hid (Ch2 w y5 (.slice a n c) q o) := HC.out.keep hb5; obtain ⟨e0, e1, e2, e3, e4, e5, e6⟩ := HC5.out.op.cells; obtain ⟨f0, f1, f2, f3, f4, f5⟩ := HC5.out.rd.cells; rw [HK.out] at e0; clear hb5 hz)
    | go_in)
  go_ret
  exact ⟨rfl, HC5.out.low⟩
end Go.Proofs.Ytlnhhgmdajbepaa
