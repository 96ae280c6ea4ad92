/- For every text and whatever is said of a segment: segment.Closing answers as the document says. -/
import Derived.Test.YtfnkhpijcbpeoaaDoorK48
import Derived.Test.YtfnkhpijcbpeoaaDoorK53
import Derived.Test.YtfnkhpijcbpeoaaDoorK54
import Derived.Test.YtfnkhpijcbpeoaaDoorK51
import Derived.Test.YtfnkhpijcbpeoaaDoorK18
import Derived.SizedLaws
import Derived.ChangeOld
namespace Go.Proofs.YtfnkhpijcbpeoaaDoor.segmentCloses
open Go.ChangeShapes Go.WideShapes Go.ChangeAt Go.RowKit
set_option linter.unusedVariables false
theorem exec_load_seg {o : Oper} {a : Act} {w : World} (x : Operand) (ho : o.op = .load 24 x) {b : Nat} {num first count foot : Int} (hx : a.eval x = .pointer (some ⟨b, 0, none⟩)) (hL : SeAt w b num first count foot) : (execOp a.eval o).run Tryd.prog w = .ok (.value (SeV num first count foot)) w := by
  unfold execOp
  simp only [ho, hx, Sem.run_bind, Sem.run_pure, Result.andThen_ok, hL.load]
theorem box4 (w : World) (num first count foot : Int) : ∃ W, ((((w.alloc (.cells #[.int .i64 num, .int .i64 first, .int .i64 count, .int .i64 foot] 24)).alloc (.cells #[.int .u8 0] 5)).alloc (.cells #[.int .u8 0] 5)).alloc (.cells #[.int .u8 0] 5)).alloc (.cells #[.slice (some ⟨w.heap.size + 1, 0, none⟩) 1 1, .slice (some ⟨w.heap.size + 1 + 1, 0, none⟩) 1 1, .slice (some ⟨w.heap.size + 1 + 1 + 1, 0, none⟩) 1 1] 22) = W ∧ SeAt W w.heap.size num first count foot ∧ W.heap[w.heap.size + 1 + 1 + 1 + 1]? = some (.cells #[.slice (some ⟨w.heap.size + 1, 0, none⟩) 1 1, .slice (some ⟨w.heap.size + 1 + 1, 0, none⟩) 1 1, .slice (some ⟨w.heap.size + 1 + 1 + 1, 0, none⟩) 1 1] 22) ∧ Bytes W (some ⟨w.heap.size + 1, 0, none⟩) [0] ∧ Bytes W (some ⟨w.heap.size + 1 + 1, 0, none⟩) [0] ∧ Bytes W (some ⟨w.heap.size + 1 + 1 + 1, 0, none⟩) [0] ∧ Below w.heap.size w W := by
  have own1 : ∀ x : World, Bytes (x.alloc (.cells #[.int .u8 0] 5)) (some ⟨x.heap.size, 0, none⟩) [0] := fun x => by
    obtain ⟨a2, c2, hv, _, _, hb, _⟩ := (own_lit x [0] (getD_lt (by simp)) (by simp [maxLen])).shape
    injection hv with h1
    rw [← h1] at hb
    exact hb
  have al : ∀ (x : World) (o : Obj), Below x.heap.size x (x.alloc o) := fun x o => (Below.refl _ _).alloc (Nat.le_refl _) _
  refine ⟨_, rfl, ?_, ?_, ?_, ?_, ?_, ?_⟩
  · exact ((((show SeAt (w.alloc (.cells #[.int .i64 num, .int .i64 first, .int .i64 count, .int .i64 foot] 24)) w.heap.size num first count foot from heap_alloc_new w _).keep (al _ _)).keep (al _ _)).keep (al _ _)).keep (al _ _)
  · have h := heap_alloc_new ((((w.alloc (.cells #[.int .i64 num, .int .i64 first, .int .i64 count, .int .i64 foot] 24)).alloc (.cells #[.int .u8 0] 5)).alloc (.cells #[.int .u8 0] 5)).alloc (.cells #[.int .u8 0] 5)) (.cells #[.slice (some ⟨w.heap.size + 1, 0, none⟩) 1 1, .slice (some ⟨w.heap.size + 1 + 1, 0, none⟩) 1 1, .slice (some ⟨w.heap.size + 1 + 1 + 1, 0, none⟩) 1 1] 22)
    simpa using h
  · have h := (((own1 (w.alloc (.cells #[.int .i64 num, .int .i64 first, .int .i64 count, .int .i64 foot] 24))).keep (al _ (.cells #[.int .u8 0] 5))).keep (al _ (.cells #[.int .u8 0] 5))).keep (al _ (.cells #[.slice (some ⟨w.heap.size + 1, 0, none⟩) 1 1, .slice (some ⟨w.heap.size + 1 + 1, 0, none⟩) 1 1, .slice (some ⟨w.heap.size + 1 + 1 + 1, 0, none⟩) 1 1] 22))
    simpa using h
  · have h := ((own1 ((w.alloc (.cells #[.int .i64 num, .int .i64 first, .int .i64 count, .int .i64 foot] 24)).alloc (.cells #[.int .u8 0] 5))).keep (al _ (.cells #[.int .u8 0] 5))).keep (al _ (.cells #[.slice (some ⟨w.heap.size + 1, 0, none⟩) 1 1, .slice (some ⟨w.heap.size + 1 + 1, 0, none⟩) 1 1, .slice (some ⟨w.heap.size + 1 + 1 + 1, 0, none⟩) 1 1] 22))
    simpa using h
  · have h := (own1 (((w.alloc (.cells #[.int .i64 num, .int .i64 first, .int .i64 count, .int .i64 foot] 24)).alloc (.cells #[.int .u8 0] 5)).alloc (.cells #[.int .u8 0] 5))).keep (al _ (.cells #[.slice (some ⟨w.heap.size + 1, 0, none⟩) 1 1, .slice (some ⟨w.heap.size + 1 + 1, 0, none⟩) 1 1, .slice (some ⟨w.heap.size + 1 + 1 + 1, 0, none⟩) 1 1] 22))
    simpa using h
  · exact (((((Below.refl w.heap.size w).alloc (Nat.le_refl _) _).alloc (by simp) _).alloc (by simp <;> omega) _).alloc (by simp <;> omega) _).alloc (by simp <;> omega) _
set_option maxRecDepth 20000 in
set_option maxHeartbeats 4000000 in
theorem walk (l : List Nat) (a : Option Addr) (cap : Nat) (num first count foot : Int) (w : World) (hb : Bytes w a l) (hc : Came w a l.length cap 1) (i1 : inW num) (i2 : inW first) (i3 : inW count) (i4 : inW foot) (ht : Tab w) :
    Calls Tryd.prog 3 #[.slice a l.length cap, .agg #[.int .i64 num, .int .i64 first, .int .i64 count, .int .i64 foot]] w fun e w' => e = .returned (.bool true) ∧ Below w.heap.size w w' := by
  obtain ⟨hf, hr, hnn⟩ := hc
  obtain ⟨n, hN⟩ : ∃ n, l.length = n := ⟨_, rfl⟩
  rw [hN] at hf ⊢
  have hl : n ≤ 140737488351232 := by omega
  have HN : Hid (l.length = n) := hN
  have HB : Hid (Bytes w a l) := hb
  have HT : Hid (Tab w) := ht
  obtain ⟨W, hW, q1, q2, q3, q4, q5, q6⟩ := box4 w num first count foot
  have HW : Hid (((((w.alloc (.cells #[.int .i64 num, .int .i64 first, .int .i64 count, .int .i64 foot] 24)).alloc (.cells #[.int .u8 0] 5)).alloc (.cells #[.int .u8 0] 5)).alloc (.cells #[.int .u8 0] 5)).alloc (.cells #[.slice (some ⟨w.heap.size + 1, 0, none⟩) 1 1, .slice (some ⟨w.heap.size + 1 + 1, 0, none⟩) 1 1, .slice (some ⟨w.heap.size + 1 + 1 + 1, 0, none⟩) 1 1] 22) = W) := hW
  have HS : Hid (SeAt W w.heap.size num first count foot) := q1
  have HLY : Hid (Calls Tryd.prog 5 #[.int .i64 1, .int .i64 1, .slice (some ⟨w.heap.size + 1 + 1 + 1 + 1, 0, none⟩) 3 3, .int .i64 0] W fun e w' => ∃ v, e = .returned v ∧ Own w' W.heap.size v (lay3 3) ∧ Below W.heap.size W w') := rlay3_any W (w.heap.size + 1 + 1 + 1 + 1) ⟨w.heap.size + 1, 0, none⟩ ⟨w.heap.size + 1 + 1, 0, none⟩ ⟨w.heap.size + 1 + 1 + 1, 0, none⟩ q2 q3 q4 q5
  have HBW : Hid (Below w.heap.size w W) := q6
  obtain ⟨m3, hm3⟩ : ∃ m3, f3.length = m3 := ⟨_, rfl⟩
  have HF3 : Hid (f3.length = m3) := hm3
  have hm3b : m3 ≤ 1000 := by rw [← hm3]; exact f3_len
  obtain ⟨e1, e2, e3⟩ := cl_some f3_cl
  have HC3 : Hid (clE f3 1 1 3 85 = 0 ∧ clS f3 1 1 3 85 = 2 ∧ clM f3 1 1 3 85 = [(1, 22), (3, 64)]) := ⟨e1, e2, e3⟩
  obtain ⟨MK, hK⟩ : ∃ MK, clM l num first count foot = MK := ⟨_, rfl⟩
  have HCM : Hid (clM l num first count foot = MK) := hK
  obtain ⟨ce, hce⟩ : ∃ x, clE l num first count foot = x := ⟨_, rfl⟩
  have HCE : Hid (clE l num first count foot = ce) := hce
  obtain ⟨cs, hcs⟩ : ∃ x, clS l num first count foot = x := ⟨_, rfl⟩
  have HCS : Hid (clS l num first count foot = cs) := hcs
  obtain ⟨kk, hkk⟩ : ∃ x, MK.length = x := ⟨_, rfl⟩
  have HKL : Hid (MK.length = kk) := hkk
  have COPY : Hid (∀ x, Below w.heap.size w x → Calls Tryd.prog 8 #[.slice a n cap] x fun e w' => ∃ a2 c2, e = .returned (.slice a2 n c2) ∧ n ≤ c2 ∧ Bytes w' a2 l ∧ Below x.heap.size x w') := fun x hx => by
    rw [← hN]
    refine (copy_any l a cap x (hb.keep hx) (by omega)).mono ?_
    rintro _ w' ⟨v, rfl, ho, hbb⟩
    obtain ⟨a2, c2, hv, hcc, _, hy, _⟩ := ho.shape
    exact ⟨a2, c2, by rw [hv], hcc, hy, hbb⟩
  have HE3 : Hid (ftE (lay3 3) 2 = 0 ∧ ftV (lay3 3) 2 = f3) := ⟨l3_e, rfl⟩
  clear hb ht hN hW q1 q2 q3 q4 q5 q6 hm3 e1 e2 e3 hK hce hcs hkk i1 i2 i3 i4
  go_enter Tryd.func3, Tryd.ntmps3
  go_wp2_with (first
    | (go_at_call 5; go_loud (rw [HW.out]; refine HLY.out.mono ?_; rintro _ x1 ⟨v1, rfl, ho1, hb1⟩; obtain ⟨a1, c1, hv1, hc1, _, hy1, _⟩ := ho1.shape; rw [l3_len] at hv1 hc1; subst hv1; have HY1 : Hid (Bytes x1 a1 (lay3 3)) := hy1; have HB1 : Hid (Below w.heap.size w x1) := below_next HBW.out hb1; have HS1 : Hid (SeAt x1 w.heap.size num first count foot) := HS.out.keep hb1; clear ho1 hb1 hy1))
    | (go_at_call 4; refine (footer14_any (lay3 3) 85 a1 c1 2 _ l3_len HY1.out hc1 (by omega) (HT.out.keep HB1.out)).mono ?_; rw [HE3.out.1, HE3.out.2]; rintro _ x2 ⟨v2, rfl, ho2, hb2⟩; obtain ⟨a2, c2, hv2, hc2, _, hy2, _⟩ := ho2.shape; rw [HF3.out] at hv2 hc2; subst hv2; have HY2 : Hid (Bytes x2 a2 f3) := hy2; have HB2 : Hid (Below w.heap.size w x2) := below_next HB1.out hb2; have HS2 : Hid (SeAt x2 w.heap.size num first count foot) := HS1.out.keep hb2; clear ho2 hb2 hy2)
    | (go_at_call 6; refine (closing_any f3 1 1 3 85 m3 a2 c2 _ HF3.out HY2.out hc2 (by omega) (HT.out.keep HB2.out)).mono ?_; rw [HC3.out.1, HC3.out.2.1, HC3.out.2.2]; rintro _ x3 ⟨v3, rfl, ho3, hb3⟩; obtain ⟨a3, c3, hv3, _, _, _, _⟩ := ho3.shape; simp only [List.length_cons, List.length_nil] at hv3; subst hv3; have HB3 : Hid (Below w.heap.size w x3) := below_next HB2.out hb3; have HS3 : Hid (SeAt x3 w.heap.size num first count foot) := HS2.out.keep hb3; clear ho3 hb3)
    | ((with_reducible refine frm_load 24 ?_); refine wpList_load_seg4g rfl _ rfl HS3.out rfl ?_)
    | (go_at_call 7; refine (rclosing_any l num first count foot n a cap _ HN.out (HB.out.keep HB3.out) hf hl).mono ?_; rw [HCS.out, HCE.out, HCM.out]; rintro _ x4 ⟨v4, rfl, ho4, hb4⟩; obtain ⟨a4, c4, hv4, hle4, hc4, hm4, _⟩ := ho4.shape; rw [HKL.out] at hv4 hle4; subst hv4; have HM4 : Hid (Marks x4 a4 MK) := hm4; have HB4 : Hid (Below w.heap.size w x4) := below_next HB3.out hb4; have HS4 : Hid (SeAt x4 w.heap.size num first count foot) := HS3.out.keep hb4; clear ho4 hb4 hm4))
  refine wp_region_held (S := (fun y => SeAt y w.heap.size num first count foot)) (by kernel_rfl) ?_
  change wpAnyH _ _ _ _ _ _ _ _ (World.drew _)
  obtain ⟨D, hD⟩ : ∃ D, x4.drew = D := ⟨_, rfl⟩
  have HB5 : Hid (Below x4.heap.size x4 D) := by rw [← hD]; exact (Below.refl _ _).drew
  rw [hD]
  clear hD
  have HS5 : Hid (SeAt D w.heap.size num first count foot) := HS4.out.keep HB5.out
  have HBD : Hid (Below w.heap.size w D) := below_next HB4.out HB5.out
  have HM5 : Hid (Marks D a4 MK) := HM4.out.keep HB5.out
  refine wpAnyH_take (i := 0) (oi := { dst := some 52, op := Op.move (Operand.tmp 0), type := 22, pos := "law.go:75", after := #[], guard := none }) (v := ?_) rfl (by kernel_rfl) (by kernel_rfl) (by kernel_rfl) (fun _ _ _ h => h) (Or.inl ⟨by rfl, ?_⟩) HS5.out ?_
  rotate_left
  · (intro y hy; go_simp; try (with_reducible rfl))
  simp only [Act.put, List.setIfInBounds_toArray, List.set_cons_zero, List.set_cons_succ]
  refine wpAnyH_take (i := 2) (oi := { dst := some 54, op := Op.load 24 (Operand.tmp 3), type := 24, pos := "law.go:75", after := #[], guard := none }) (v := SeV num first count foot) rfl (by kernel_rfl) (by kernel_rfl) (by kernel_rfl) (fun _ _ _ h => h) (Or.inl ⟨by rfl, fun y hy => exec_load_seg (.tmp 3) rfl rfl hy⟩) HS5.out ?_
  simp only [Act.put, List.setIfInBounds_toArray, List.set_cons_zero, List.set_cons_succ]
  refine wpAnyH_ready (rs := [1]) (by kernel_rfl) (by simp) ?_
  refine AllReadyH.cons (o := { dst := some 53, op := Op.call { callee := Callee.value (Operand.func 8), args := #[Operand.tmp 52], argTypes := #[22] }, type := 22, pos := "law.go:75", after := #[{ on := 0, ground := Ground.data }], guard := none }) rfl (fun K hK => ?_) AllReadyH.nil
  go_simp
  refine (COPY.out D HBD.out).mono ?_
  rintro _ x6 ⟨a6, c6, rfl, hc6, hy6, hb6⟩
  have HY6 : Hid (Bytes x6 a6 l) := hy6
  have HS6 : Hid (SeAt x6 w.heap.size num first count foot) := HS5.out.keep hb6
  have HB6 : Hid (Below w.heap.size w x6) := below_next HBD.out hb6
  have HM6 : Hid (Marks x6 a4 MK) := HM5.out.keep hb6
  clear hy6 hb6
  (refine hK _ _ HS6.out ?_; clear hK K; intro _)
  try simp only [Act.put, List.setIfInBounds_toArray, List.set_cons_zero, List.set_cons_succ]
  refine wpAnyH_ready (rs := [3]) (by kernel_rfl) (by simp) ?_
  refine AllReadyH.cons (o := { dst := some 55, op := Op.call { callee := Callee.value (Operand.func 6), args := #[Operand.tmp 53, Operand.tmp 54], argTypes := #[22, 24] }, type := 31, pos := "law.go:75", after := #[{ on := 1, ground := Ground.data }, { on := 2, ground := Ground.data }, { on := 1, ground := Ground.chain }], guard := none }) rfl (fun K hK => ?_) AllReadyH.nil
  go_simp
  refine (closing_any l num first count foot n a6 c6 _ HN.out HY6.out hc6 hl (HT.out.keep HB6.out)).mono ?_
  rw [HCS.out, HCE.out, HCM.out]
  rintro _ x7 ⟨v7, rfl, ho7, hb7⟩
  obtain ⟨a7, c7, hv7, _, _, hm7, _⟩ := ho7.shape
  rw [HKL.out] at hv7
  subst hv7
  have HM7 : Hid (Marks x7 a7 MK) := hm7
  have HS7 : Hid (SeAt x7 w.heap.size num first count foot) := HS6.out.keep hb7
  have HB7 : Hid (Below w.heap.size w x7) := below_next HB6.out hb7
  have HW7 : Hid (Marks x7 a4 MK) := HM6.out.keep hb7
  clear ho7 hb7 hm7
  (refine hK _ _ HS7.out ?_; clear hK K; intro _)
  try simp only [Act.put, List.setIfInBounds_toArray, List.set_cons_zero, List.set_cons_succ]
  refine wpAnyH_take (i := 4) (oi := { dst := some 51, op := Op.move (Operand.tmp 55), type := 31, pos := "law.go:75", after := #[{ on := 3, ground := Ground.data }], guard := none }) (v := ?_) rfl (by kernel_rfl) (by kernel_rfl) (by kernel_rfl) (fun _ _ _ h => h) (Or.inl ⟨by rfl, ?_⟩) HS7.out ?_
  rotate_left
  · (intro y hy; go_simp; try (with_reducible rfl))
  simp only [Act.put, List.setIfInBounds_toArray, List.set_cons_zero, List.set_cons_succ]
  refine wpAnyH_take (i := 5) (oi := { dst := some 56, op := Op.extract (Operand.tmp 51) 0, type := 30, pos := "law.go:75", after := #[{ on := 4, ground := Ground.data }], guard := none }) (v := ?_) rfl (by kernel_rfl) (by kernel_rfl) (by kernel_rfl) (fun _ _ _ h => h) (Or.inl ⟨by rfl, ?_⟩) HS7.out ?_
  rotate_left
  · (intro y hy; go_simp; try (with_reducible rfl))
  simp only [Act.put, List.setIfInBounds_toArray, List.set_cons_zero, List.set_cons_succ]
  refine wpAnyH_take (i := 6) (oi := { dst := some 57, op := Op.extract (Operand.tmp 51) 1, type := 3, pos := "law.go:75", after := #[{ on := 4, ground := Ground.data }, { on := 8, ground := Ground.gcOnly Departure.lateStores }], guard := none }) (v := ?_) rfl (by kernel_rfl) (by kernel_rfl) (by kernel_rfl) (fun _ _ _ h => h) (Or.inl ⟨by rfl, ?_⟩) HS7.out ?_
  rotate_left
  · (intro y hy; go_simp; try (with_reducible rfl))
  simp only [Act.put, List.setIfInBounds_toArray, List.set_cons_zero, List.set_cons_succ]
  refine wpAnyH_take (i := 7) (oi := { dst := some 58, op := Op.extract (Operand.tmp 51) 2, type := 25, pos := "law.go:75", after := #[{ on := 4, ground := Ground.data }, { on := 9, ground := Ground.gcOnly Departure.lateStores }], guard := none }) (v := ?_) rfl (by kernel_rfl) (by kernel_rfl) (by kernel_rfl) (fun _ _ _ h => h) (Or.inl ⟨by rfl, ?_⟩) HS7.out ?_
  rotate_left
  · (intro y hy; go_simp; try (with_reducible rfl))
  simp only [Act.put, List.setIfInBounds_toArray, List.set_cons_zero, List.set_cons_succ]
  refine wpAnyH_take (i := 8) (oi := { dst := some 7, op := Op.assign (Operand.tmp 56), type := 30, pos := "law.go:75", after := #[{ on := 5, ground := Ground.data }, { on := 3, ground := Ground.chain }, { on := 0, ground := Ground.phase }, { on := 1, ground := Ground.phase }, { on := 2, ground := Ground.phase }, { on := 3, ground := Ground.phase }, { on := 4, ground := Ground.phase }, { on := 5, ground := Ground.phase }, { on := 6, ground := Ground.textOnly Departure.lateStores }, { on := 7, ground := Ground.textOnly Departure.lateStores }], guard := none }) (v := ?_) rfl (by kernel_rfl) (by kernel_rfl) (by kernel_rfl) (fun _ _ _ h => h) (Or.inl ⟨by rfl, ?_⟩) HS7.out ?_
  rotate_left
  · (intro y hy; go_simp; try (with_reducible rfl))
  simp only [Act.put, List.setIfInBounds_toArray, List.set_cons_zero, List.set_cons_succ]
  refine wpAnyH_take (i := 9) (oi := { dst := some 8, op := Op.assign (Operand.tmp 57), type := 3, pos := "law.go:75", after := #[{ on := 6, ground := Ground.data }, { on := 8, ground := Ground.chain }, { on := 0, ground := Ground.phase }, { on := 1, ground := Ground.phase }, { on := 2, ground := Ground.phase }, { on := 3, ground := Ground.phase }, { on := 4, ground := Ground.phase }, { on := 5, ground := Ground.phase }, { on := 6, ground := Ground.phase }, { on := 7, ground := Ground.textOnly Departure.lateStores }, { on := 8, ground := Ground.phase }], guard := none }) (v := ?_) rfl (by kernel_rfl) (by kernel_rfl) (by kernel_rfl) (fun _ _ _ h => h) (Or.inl ⟨by rfl, ?_⟩) HS7.out ?_
  rotate_left
  · (intro y hy; go_simp; try (with_reducible rfl))
  simp only [Act.put, List.setIfInBounds_toArray, List.set_cons_zero, List.set_cons_succ]
  refine wpAnyH_take (i := 10) (oi := { dst := some 9, op := Op.assign (Operand.tmp 58), type := 25, pos := "law.go:75", after := #[{ on := 7, ground := Ground.data }, { on := 9, ground := Ground.chain }, { on := 0, ground := Ground.phase }, { on := 1, ground := Ground.phase }, { on := 2, ground := Ground.phase }, { on := 3, ground := Ground.phase }, { on := 4, ground := Ground.phase }, { on := 5, ground := Ground.phase }, { on := 6, ground := Ground.phase }, { on := 7, ground := Ground.phase }, { on := 8, ground := Ground.phase }, { on := 9, ground := Ground.phase }], guard := none }) (v := ?_) rfl (by kernel_rfl) (by kernel_rfl) (by kernel_rfl) (fun _ _ _ h => h) (Or.inl ⟨by rfl, ?_⟩) HS7.out ?_
  rotate_left
  · (intro y hy; go_simp; try (with_reducible rfl))
  simp only [Act.put, List.setIfInBounds_toArray, List.set_cons_zero, List.set_cons_succ]
  refine wpAnyH_done (by kernel_rfl) ?_ _
  have hkm : kk ≤ maxLen := by omega
  go_wp2_with (go_at_call 9; refine (msame_any MK MK kk kk a7 a4 c7 c4 _ HKL.out HKL.out HM7.out HW7.out hkm hkm).mono ?_; rw [decide_eq_true rfl]; rintro _ x8 ⟨rfl, hb8⟩; have HB8 : Hid (Below w.heap.size w x8) := below_next HB7.out hb8; clear hb8)
  go_ret
  exact ⟨rfl, HB8.out⟩
theorem own : ownKnob Tryd.prog.godebug = none := by kernel_rfl
theorem laidOut : laidOutB Tryd.prog = true := by kernel_rfl
set_option maxRecDepth 100000 in
theorem contract (H : Type) (enc : TypeId × Value → H) (W : World) (base : Nat) (args : Array Value) (ds gs : List (DataW H)) (before : List MemPlace)
    (hval : ∀ (j : Nat) t v, Tryd.f3.params[j]? = some t → args[j]? = some v → Value.okWide Tryd.prog W .any base t v)
    (hW : DataW.Whole enc Tryd.prog Tryd.f3.params.toList Rows.segmentClosesSpec.vars false W args.toList ds gs before)
    (hsz : (DataW.weightsEach Tryd.prog (Tryd.f3.params.toList ++ Rows.segmentClosesSpec.plain.varTypes Tryd.prog) (ds ++ gs)).all (· ≤ reachBytes) = true) (hL : laidMetH Tryd.prog ([("daybook/crc.halves", Rows.laid_daybook_crc_halves)]) W) :
    Calls Tryd.prog 3 args W fun e W' => ∃ v, e = .returned v ∧ Rows.segmentClosesSpec.post enc Tryd.prog Tryd.f3 false true false false W args v W' := by
  have hW' := hW
  obtain ⟨p, q, hA0, hV, rfl, hfz, hnd⟩ := hW
  have hA : DataW.TrodAll enc Tryd.prog W 0 (fun _ => true) true Tryd.f3.params.toList args.toList ds p := hA0
  rw [Tryd.params3] at hA hval hsz
  obtain ⟨v0, vs0, d0, ds0, p0, q0, hargs, rfl, rfl, h0, r0⟩ := trodAll_cons hA
  obtain ⟨v1, vs1, d1, ds1, p1, q1, rfl, rfl, rfl, h1, r1⟩ := trodAll_cons r0
  obtain ⟨rfl, rfl, rfl⟩ := trodAll_nil r1
  obtain rfl : args = #[v0, v1] := by cases args; simp_all
  obtain ⟨rfl, rfl⟩ := trodVars_none hV
  obtain ⟨a0, len0, cap0, rfl⟩ := okWide_slice Tryd.underlying22 (hval 0 22 v0 rfl rfl)
  have k0 := h0
  have lt0 : ∀ x ∈ p0, x.block < W.heap.size := by obtain ⟨m, hm⟩ := k0; exact DataW.trod_lt m _ _ _ hm
  obtain ⟨l0, hlen0, w0, c0⟩ : ∃ l : List Nat, l.length = len0 ∧ Bytes W a0 l ∧ Came W a0 len0 cap0 1 := by
    obtain ⟨fuel, hf⟩ := h0
    rcases open_ints Tryd.underlying22 Tryd.underlying5 (by kernel_rfl) hf with ⟨hcs, hx⟩ | ⟨x, l, c, zs, hcs, _, hl, hm, hz, hx, hcell, hwz⟩
    · simp [Value.cells] at hcs
      obtain ⟨rfl, rfl, rfl⟩ := hcs
      exact ⟨[], rfl, ⟨by simp, .inl rfl⟩, ⟨Nat.le_refl _, by simp, fun _ => rfl⟩⟩
    · simp [Value.cells] at hcs
      obtain ⟨rfl, rfl, rfl⟩ := hcs
      have hz2 : zs.length = cap0 := by simpa using hz
      obtain ⟨ll, e1, e2, e3⟩ := row_nats .u8 256 (by decide) wf_u8 W x zs len0 (by omega) hcell hwz
      have hd : d0 = .slice (lits .u8 (zs.take len0)) (lits .u8 (zs.drop len0)) := (Prod.mk.inj hx).1
      have hreach : cap0 * 1 ≤ 140737488351232 := by
        have := sized_slice hsz (j := 0) (t := 22) (e := 5) rfl (by rw [hd]; rfl) Tryd.underlying22
        rw [show Tryd.prog.bytesOf 5 = 1 from by kernel_rfl] at this
        simp only [lits, List.length_map, List.length_take, List.length_drop, reachBytes] at this
        have hmin : min len0 zs.length = len0 := Nat.min_eq_left (by omega)
        rw [hmin] at this
        have hcap : len0 + (zs.length - len0) = cap0 := by omega
        rw [hcap] at this
        exact this
      exact ⟨ll, e1, ⟨e2, e3⟩, ⟨hl, hreach, fun h => by cases h⟩⟩
  subst hlen0
  have k1 := h1
  have lt1 : ∀ x ∈ p1, x.block < W.heap.size := by obtain ⟨m, hm⟩ := k1; exact DataW.trod_lt m _ _ _ hm
  obtain ⟨a1, b1, c1, e1, rfl, _, wa1, wb1, wc1, we1⟩ := open_seg Tryd.underlying24 (by kernel_rfl) (by kernel_rfl) (by kernel_rfl) (by kernel_rfl) (by kernel_rfl) (by kernel_rfl) (hval 1 24 v1 rfl rfl) h1
  clear hA0
  refine (walk l0 a0 cap0 a1 b1 c1 e1 W w0 c0 wa1 wb1 wc1 we1 (tab_of hL)).mono fun e W' ⟨he, bel⟩ => ?_
  subst he
  exact ⟨_, rfl, _, _, _, [], _, [], hW', trodAll_mk1 (shut_bool Tryd.underlying4 _), (trodAll_cons_mk (Below.trod laidOut (by kernel_rfl) (of_decide_eq_true (by kernel_rfl)) k0 bel lt0) (trodAll_cons_mk (Below.trod laidOut (by kernel_rfl) (of_decide_eq_true (by kernel_rfl)) k1 bel lt1) trodAll_mk0)), rfl, bel.frame _, fun h => by cases h⟩
set_option maxRecDepth 100000 in
theorem start (os : Os) : ∃ w0 : World, w0.os = os ∧ (w0.forCall (fun _ _ => 0) ⟨#[], #[.slice none 0 0, .agg #[.int .i64 0, .int .i64 0, .int .i64 0, .int .i64 0]], []⟩).variablesB Tryd.prog = true ∧
    ((w0.forCall (fun _ _ => 0) ⟨#[], #[.slice none 0 0, .agg #[.int .i64 0, .int .i64 0, .int .i64 0, .int .i64 0]], []⟩).heap.toList.drop Tryd.prog.globals.size).take ((begin Tryd.prog (fun _ _ => 0) default).world.heap.size - Tryd.prog.globals.size) = (begin Tryd.prog (fun _ _ => 0) default).world.heap.toList.drop Tryd.prog.globals.size ∧
    Input.okWideB Tryd.prog (w0.forCall (fun _ _ => 0) ⟨#[], #[.slice none 0 0, .agg #[.int .i64 0, .int .i64 0, .int .i64 0, .int .i64 0]], []⟩) 3 ⟨#[], #[.slice none 0 0, .agg #[.int .i64 0, .int .i64 0, .int .i64 0, .int .i64 0]], []⟩ = true ∧
    laidMet Tryd.prog Rows.segmentClosesRow.laid (w0.forCall (fun _ _ => 0) ⟨#[], #[.slice none 0 0, .agg #[.int .i64 0, .int .i64 0, .int .i64 0, .int .i64 0]], []⟩).memory ∧
    ∀ (H : Type) (enc : TypeId × Value → H), DataW.whole enc Tryd.prog (w0.forCall (fun _ _ => 0) ⟨#[], #[.slice none 0 0, .agg #[.int .i64 0, .int .i64 0, .int .i64 0, .int .i64 0]], []⟩).memory Tryd.f3.params.toList Rows.segmentClosesSpec.vars false (#[.slice none 0 0, .agg #[.int .i64 0, .int .i64 0, .int .i64 0, .int .i64 0]] : Array Value).toList 8 = some ([.nil, .agg [.lit (.int .i64 0), .lit (.int .i64 0), .lit (.int .i64 0), .lit (.int .i64 0)]], [], []) :=
  ⟨{ World.holding Tryd.prog os ⟨#[], #[], []⟩ with heap := (World.holding Tryd.prog os ⟨#[], #[], []⟩).heap.modify 0 fun
      | .cells _ t frozen => .cells #[.int .u32 0, .int .u32 498536548, .int .u32 997073096, .int .u32 651767980, .int .u32 1994146192, .int .u32 1802195444, .int .u32 1303535960, .int .u32 1342533948, .int .u32 3988292384, .int .u32 4027552580, .int .u32 3604390888, .int .u32 3412177804, .int .u32 2607071920, .int .u32 2262029012, .int .u32 2685067896, .int .u32 3183342108] t frozen
      | o => o }, rfl, by kernel_rfl, by kernel_rfl, by kernel_rfl, laidMet_of_run' 8 (by kernel_rfl) (by kernel_rfl), fun _ _ => by kernel_rfl⟩
set_option maxRecDepth 100000 in
theorem lifted (os : Os) (started : os.Started) (H : Type) (enc : TypeId × Value → H) (F : Stop.Interp) :
    ReturnsInHanded {} Tryd.checked os 3 .any ((OpenSpec.ofChange Rows.segmentClosesSpec).preRow enc Tryd.prog Tryd.f3 Rows.segmentClosesRow.domain false Rows.segmentClosesRow.laid) (((OpenSpec.ofChange Rows.segmentClosesSpec).at F).post enc Tryd.prog Tryd.f3 false true false false) := by
  obtain ⟨w0, h1, h2, h3, h4, h5, h6⟩ := start os
  refine returnsInHanded_of_row (C := Tryd.checked) (s := OpenSpec.ofChange Rows.segmentClosesSpec) own started (by kernel_rfl) Tryd.func3
    (witness_row_at (enc := enc) (C := Tryd.checked) false w0 #[.slice none 0 0, .agg #[.int .i64 0, .int .i64 0, .int .i64 0, .int .i64 0]] h1 h2 h3 h4
      (OpenSpec.preRow_of_cond 8 (h6 H enc) (by kernel_rfl) (fun k hk => by cases hk) (by kernel_rfl) h5)) ?_
  intro W base args ds gs before hval hW _ hcond hsz hL _ _
  exact contract H enc W base args ds gs before hval hW hsz hL
theorem said : Rows.SegmentClosesSaid :=
  OpenClaim.holds_of_cond 3 Tryd.f3 rfl rfl rfl rfl rfl rfl rfl ⟨rfl, rfl, rfl, rfl, rfl⟩ rfl rfl rfl rfl rfl (by kernel_rfl) Tryd.func3 (by kernel_rfl)
    (of_decide_eq_true (by kernel_rfl)) (by unfold Func.isWrapper; first | (rw [if_pos (by decide +kernel)]; kernel_rfl) | (rw [if_neg (by decide +kernel)]; exact ⟨rfl, rfl⟩))
    (fun os started H enc _ F => by rw [OpenClaim.pre_eq_preRow]; exact lifted os started H enc F)
theorem plain (f : FuncId) (fn : Func) (hf : Tryd.pinned.checked.prog.funcNamed "daybook/daybooklaw14.SegmentCloses" = some f) (hfn : Tryd.pinned.checked.prog.funcs[f]? = some fn) :
    false = Tryd.pinned.checked.prog.looks [] ∧ ∀ (j : Nat) t, fn.params[j]? = some t → Tryd.pinned.checked.prog.wantsStandIn t = false := by
  obtain rfl : f = 3 := Option.some.inj ((show Tryd.prog.funcNamed "daybook/daybooklaw14.SegmentCloses" = some 3 by kernel_rfl).symm.trans hf) |>.symm
  obtain rfl : fn = Tryd.f3 := (Option.some.inj (Tryd.func3.symm.trans hfn)).symm
  refine ⟨by kernel_rfl, fun j t ht => ?_⟩
  rw [Tryd.params3] at ht
  have hm := Array.mem_of_getElem? ht
  have hall : ∀ t ∈ (#[22, 24] : Array TypeId), Tryd.prog.wantsStandIn t = false := by
    intro t ht
    simp only [List.mem_toArray, List.mem_cons, List.not_mem_nil, or_false] at ht
    rcases ht with rfl | rfl <;> kernel_rfl
  exact hall t hm
theorem card : Rows.SegmentClosesCardSaid :=
  Claim7.holds_tied_plain_at .later [] _ _ _ _ said (fun _ h => by cases h) (by kernel_rfl) (fun _ h => by cases h) segmentCloses_row_tie rfl ⟨rfl, rfl⟩ (by kernel_rfl) rfl plain (by kernel_rfl)
end Go.Proofs.YtfnkhpijcbpeoaaDoor.segmentCloses
