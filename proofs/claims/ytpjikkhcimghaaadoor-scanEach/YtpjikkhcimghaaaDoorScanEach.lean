/- For every text and every number: scan.Each's iterator, left early, and gone through again whole. Condition: the arguments hold together at most 1048576 values and letters (the second form). -/
import Derived.Test.YtpjikkhcimghaaaDoorCrcTie
import Derived.Test.YtpjikkhcimghaaaDoorSc12
import Derived.Test.YtpjikkhcimghaaaDoorSc17
import Derived.Test.YtpjikkhcimghaaaDoorCopy
import Derived.Test.YtpjikkhcimghaaaDoorBulk
import Derived.Test.YtpjikkhcimghaaaDoorRir
import Derived.Stop.RegionWithIn
import Derived.Deep.CondSized
import Derived.SizedLaws
import Derived.ChangeOld
namespace Go.Proofs.YtpjikkhcimghaaaDoor.scanEach
open Go.ChangeShapes Go.WideShapes Go.ChangeAt Go.RowKit Go.Shelf
set_option linter.unusedVariables false
attribute [local go_sem] Oper.semAt_some seq2_eq
set_option maxRecDepth 100000 in
set_option maxHeartbeats 8000000 in
theorem walk (l : List Nat) (a : Option Addr) (cap : Nat) (stop : Int) (w : World) (hb : Bytes w a l) (hc : Came w a l.length cap 1) (w1 : (Lit.int .i64 stop).wf = true) (hsum : cap ≤ 1048576) (ht : Tab w) :
    Calls Tryd.prog 3 #[.slice a l.length cap, .int .i64 stop] w fun e w' => e = .returned (.bool true) ∧ Below w.heap.size w w' := by
  obtain ⟨hf, hr, hn⟩ := hc
  have HB : Hid (Bytes w a l) := hb
  have HT : Hid (Tab w) := ht
  obtain ⟨n, hN⟩ : ∃ n, l.length = n := ⟨_, rfl⟩
  have HN : Hid (l.length = n) := hN
  have HCP : Hid (∀ w1, Below w.heap.size w w1 → Calls Tryd.prog 7 #[.slice a n cap] w1 fun e w' => ∃ v, e = .returned v ∧ Own w' w1.heap.size v l ∧ Below w1.heap.size w1 w') := fun w1 hb1 => by
    have := copy_any l a cap w1 (hb.keep hb1) (by omega)
    rw [hN] at this
    exact this
  rw [hN] at hf ⊢
  have hn2 : n ≤ 1048576 := by omega
  have HNC : Hid (n ≤ cap) := hf
  obtain ⟨EZ, hEZ⟩ : ∃ x, endZ 0 (scanL l) = x := ⟨_, rfl⟩
  obtain ⟨AE, hAE⟩ : ∃ x, allE l = x := ⟨_, rfl⟩
  have HE : Hid (endZ 0 (scanL l) = EZ ∧ allE l = AE) := ⟨hEZ, hAE⟩
  obtain ⟨N, hNN⟩ : ∃ N, (scanL l).length = N := ⟨_, rfl⟩
  have hN20 : 20 * N ≤ n := by have := scanL_count l; omega
  have HNN : Hid (∀ zs : List It, zs.map It.fm = scanL l → zs.length = N) := fun zs h => by rw [← hNN, ← h, List.length_map]
  have HBA : Hid (Below w.heap.size w ((w.alloc (.cells #[.int .i64 stop] 3)).alloc (.cells #[.bool false] 4))) := ((Below.refl _ w).alloc (Nat.le_refl _) _).alloc (by simp) _
  have hbS : Boxed ((w.alloc (.cells #[.int .i64 stop] 3)).alloc (.cells #[.bool false] 4)) w.heap.size 3 (.int .i64 stop) := (Boxed.new w _ _).alloc _
  have hbR : Boxed ((w.alloc (.cells #[.int .i64 stop] 3)).alloc (.cells #[.bool false] 4)) (w.heap.size + 1) 4 (.bool false) := by
    have h := Boxed.new (w.alloc (.cells #[.int .i64 stop] 3)) 4 (.bool false)
    rw [World.size_alloc] at h
    exact h
  have HBX : Hid (Boxed ((w.alloc (.cells #[.int .i64 stop] 3)).alloc (.cells #[.bool false] 4)) w.heap.size 3 (.int .i64 stop) ∧ Boxed ((w.alloc (.cells #[.int .i64 stop] 3)).alloc (.cells #[.bool false] 4)) (w.heap.size + 1) 4 (.bool false)) := ⟨hbS, hbR⟩
  clear hb ht hN hn hr hf hEZ hAE hNN hbS hbR w1
  have f9 : Fence.wide.fn 4 := trivial
  have f11 : Fence.wide.fn 5 := trivial
  have f10 : Fence.wide.fn 7 := trivial
  have f15 : Fence.wide.fn 6 := trivial
  have f16 : Fence.wide.fn 8 := trivial
  refine (callsIn_wide (n := 5)).1 ?_
  refine callsIn_of_wp_marks Tryd.func3 rfl trivial ?_ rfl
  simp only [Tryd.ntmps3, List.size_toArray, List.length_cons, List.length_nil, Nat.reduceAdd, Nat.reduceSub, Array.replicate_succ, Array.replicate_zero, List.push_toArray, List.append_toArray, List.nil_append, List.cons_append]
  gi_wp2_with (first
    | (gi_at_call 4; refine (callsIn_wide.2 (head12_any _ (HT.out.keep HBA.out))).mono ?_; rintro e w1 ⟨rfl, hb1⟩; have HB1 : Hid (Below w.heap.size w w1) := below_next HBA.out hb1; have HX1 : Hid (Boxed w1 w.heap.size 3 (.int .i64 stop) ∧ Boxed w1 (w.heap.size + 1) 4 (.bool false)) := ⟨(hb1.block _ HBX.out.1.lt).trans HBX.out.1, (hb1.block _ HBX.out.2.lt).trans HBX.out.2⟩; clear hb1)
    | (gi_at_call 5; refine (callsIn_wide.2 (rall_any l n a cap _ HN.out (HB.out.keep HB1.out) HNC.out (by omega))).mono ?_; rw [HE.out.1, HE.out.2]; rintro e w2 ⟨xs, v2, rfl, hx2, hp2, hb2⟩; obtain ⟨a2, c2, rfl⟩ := hp2.shape; have hl2 := HNN.out xs hx2; rw [hl2] at hp2 ⊢; have HB2 : Hid (Below w1.heap.size w1 (w2.alloc (.cells #[.slice a2 N c2] 24))) := hb2.alloc hb2.size _; have HX2 : Hid (xs.map It.fm = scanL l ∧ OwnP w2 w1.heap.size (.slice a2 N c2) xs ∧ xs.length = N) := ⟨hx2, hp2, hl2⟩; clear hx2 hp2 hb2 hl2)
    | (gi_at_call 7; refine (callsIn_wide.2 (HCP.out _ (below_next HB1.out HB2.out))).mono ?_; rintro r w3 ⟨v3, rfl, ho3, hb3⟩; obtain ⟨a3, c3, hv3, hc3, _, hy3, _⟩ := ho3.shape; rw [HN.out] at hv3 hc3; subst hv3; have HB3 : Hid (Below (w2.alloc (.cells #[.slice a2 N c2] 24)).heap.size (w2.alloc (.cells #[.slice a2 N c2] 24)) w3) := hb3; have HY3 : Hid (Bytes w3 a3 l ∧ n ≤ c3) := ⟨hy3, hc3⟩; clear ho3 hb3 hy3 hc3)
    | (gi_at_call 6; refine (each_in _ _ _ _ _).mono ?_; rintro e w' ⟨rfl, rfl⟩))
  have HBW : Hid (Below w.heap.size w w3) := below_next (below_next HB1.out HB2.out) HB3.out
  have HS3 : Hid ((Boxed w3 w.heap.size 3 (.int .i64 stop) ∧ Boxed w3 (w.heap.size + 1) 4 (.bool false)) ∧ Boxed w3 w2.heap.size 24 (.slice a2 N c2) ∧ PlcA w3 a2 xs) := by
    have h1 := HX1.out
    refine ⟨⟨?_, ?_⟩, ?_, ?_⟩
    · exact (HB3.out.block _ (by have := h1.1.lt; have := HB2.out.size; omega)).trans ((HB2.out.block _ h1.1.lt).trans h1.1)
    · exact (HB3.out.block _ (by have := h1.2.lt; have := HB2.out.size; omega)).trans ((HB2.out.block _ h1.2.lt).trans h1.2)
    · exact (HB3.out.block _ (by simp)).trans (Boxed.new w2 _ _)
    · exact ((plc_of' HX2.out.2.1 HX2.out.2.2).keep ((Below.refl _ _).alloc (Nat.le_refl _) _)).keep HB3.out
  obtain ⟨W0, hW0⟩ : ∃ W0, (w3.alloc (.cells #[.slice a3 n c3] 22)).alloc (.cells #[.int .i64 0] 3) = W0 := ⟨_, rfl⟩
  have q0 : Boxed W0 w3.heap.size 22 (.slice a3 n c3) := by rw [← hW0]; exact (Boxed.new w3 _ _).alloc _
  have q1 : Boxed W0 (w3.heap.size + 1) 3 (.int .i64 0) := by
    have h := Boxed.new (w3.alloc (.cells #[.slice a3 n c3] 22)) 3 (.int .i64 0)
    rw [World.size_alloc] at h
    rw [← hW0]; exact h
  have hB0 : Below w3.heap.size w3 W0 := by rw [← hW0]; exact ((Below.refl _ w3).alloc (Nat.le_refl _) _).alloc (by simp) _
  have hsz : W0.heap.size = w3.heap.size + 2 := by rw [← hW0]; simp
  rw [hW0]
  clear hW0
  refine range_w rfl (by omega) (gf := 13) (lb := #[.pointer (some ⟨w3.heap.size, 0, none⟩)]) rfl trivial (enters_of Tryd.func13 (by kernel_rfl) rfl)
    (each_stops _ (by omega) l n w3.heap.size a3 c3 w3 W0 HN.out HY3.out.1 HY3.out.2 (by omega) (HT.out.keep HBW.out) (Nat.le_refl _) q0 hB0) (fun _ => rfl) KB.trans (fun W lp o o' hlp h _ _ => KB.put W lp o o' (by omega) (by omega) h)
    (EI w3 stop #[.slice a3 n c3]) (EX w3 stop #[.slice a3 n c3]) (EI.own w3 stop _ _ (by omega)) (fun c => EX.own w3 stop _ c _ (by omega))
    ⟨hB0, q0, q1, fun j h1 h2 => by simp at h2; omega⟩
    (fun pre x a' W => ∃ (Bx : Nat) (a4 : Option Addr) (c4 : Nat), x.bv = .slice a4 x.fm.body.length c4 ∧ FrmAt W Bx (x.fm.kind : Int) (x.fm.seq : Int) x.bv ∧ Own W w3.heap.size x.bv x.fm.body ∧ (pre ++ [x]).map It.fm <+: scanL l ∧ a' = { tmps := #[.slice a n cap, .int .i64 stop, undef, .pointer (some ⟨w.heap.size, 0, none⟩), .pointer (some ⟨w.heap.size + 1, 0, none⟩), .pointer (some ⟨w2.heap.size, 0, none⟩), .int .i64 (EZ : Int), .int .i64 (AE : Int), .func (.func 13) #[] #[.pointer (some ⟨w3.heap.size, 0, none⟩)], .pointer (some ⟨w3.heap.size + 1, 0, none⟩), .int .i64 (x.fm.pos : Int), .pointer (some ⟨Bx, 0, none⟩), undef, undef, .bool true, .bool false, .tuple #[.slice a2 N c2, .int .i64 (EZ : Int), .int .i64 (AE : Int)], .slice a n cap, .tuple #[.slice a2 N c2, .int .i64 (EZ : Int), .int .i64 (AE : Int)], .slice a2 N c2, .int .i64 (EZ : Int), .int .i64 (AE : Int), .slice a n cap, .slice a3 n c3, .func (.func 13) #[] #[.pointer (some ⟨w3.heap.size, 0, none⟩)], .func (.func 13) #[] #[.pointer (some ⟨w3.heap.size, 0, none⟩)], .bool false, .func (.func 13) #[] #[.pointer (some ⟨w3.heap.size, 0, none⟩)], .int .i64 (x.fm.pos : Int), FrV (x.fm.kind : Int) (x.fm.seq : Int) x.bv, undef, undef, undef, undef, undef, undef, undef, undef, undef, undef, undef, undef, undef, undef, undef, undef, undef, undef, undef, undef, undef, undef, undef, undef, undef, undef, undef, undef, undef, undef, undef, undef, undef, undef, undef, undef, undef, undef, undef, undef, undef, undef, undef, undef, undef, undef, undef, undef, undef, undef, undef, undef, undef, undef, undef, undef, undef, undef, undef, undef, undef, undef, undef], defers := [] })
    ?hax ?assign ?body ?done ?stop
  case hax =>
    rintro pre x a' _ X Y row ⟨Bx, a4, c4, h1, h2, h3, h4, h5⟩ hg hr
    have hr2 : ∀ r, row = some r → ∃ o : Obj, X.heap[r]? = some o ∧ o.isCells = false := fun r e => (hr r e).2
    exact ⟨Bx, a4, c4, h1, cells_kept h2 hg hr2, ⟨h3.1, row_kept h3.2 hg hr2⟩, h4, h5⟩
  case assign =>
    rintro lp pre ⟨⟨pos, kind, seq, body⟩, bv⟩ W K hI ⟨hX1, hX2⟩ hK
    obtain ⟨a4, c4, hv2, _⟩ := hX2.shape
    simp only at hv2 hX2
    subst hv2
    clear HBX HX1 HX2 HB1 HB2 HB3 HCP HB
    gi_wp2
    exact hK _ _ ((KeepsOthers.alloc _ _).from _) (KB.below hI.bel.size ((Below.refl _ W).alloc (Nat.le_refl _) _)) (hI.below ((Below.refl _ W).alloc (Nat.le_refl _) _)) ⟨W.heap.size, a4, c4, rfl, FrmAt.new W _ _ _, ⟨hX2.1, World.ownsRow.alloc hX2.2 _⟩, hX1, rfl⟩
  case body =>
    rintro lp pre ⟨⟨pos, kind, seq, body⟩, bv⟩ a' W hI ⟨Bx, a4, c4, h1, h2, h3, h4, rfl⟩
    simp only at h1 h2 h3 h4
    subst h1
    obtain ⟨g0, g1, g2⟩ := h2.cells
    obtain ⟨k, hk⟩ : ∃ k, pre.length = k := ⟨_, rfl⟩
    have hkN : k < N := by
      have q1 := h4.length_le
      have q2 := HX2.out.2.2
      have q3 := congrArg List.length HX2.out.1
      simp at q1 q3
      omega
    obtain ⟨⟨fm', bv'⟩, hp'⟩ := lt_get (L := xs) (k := k) (by rw [HX2.out.2.2]; exact hkN)
    have hfm : fm' = ⟨pos, kind, seq, body⟩ := by
      obtain ⟨r, hr⟩ := h4
      have h := congrArg (fun L => L[k]?) (HX2.out.1.trans hr.symm)
      simp only [List.getElem?_map, hp', Option.map_some] at h
      rw [List.map_append, List.append_assoc, List.getElem?_append_right (by simp; omega)] at h
      simp [hk] at h
      exact h
    subst hfm
    obtain ⟨b, off, hab, hlt, c0, c1, c2x, c3x, c4'⟩ := (HS3.out.2.2.keep hI.bel).at k _ hp'
    obtain ⟨a5, s5, e5, hy5, hm5⟩ := (HS3.out.2.2.keep hI.bel).byt _ (List.mem_of_getElem? hp')
    simp only at c0 c1 c2x c3x c4' e5 hy5 hm5
    subst e5
    obtain ⟨_, _, hv4, _, hm4, hy4, _⟩ := h3.shape
    cases hv4
    obtain ⟨L, hL⟩ : ∃ L, body.length = L := ⟨_, rfl⟩
    rw [hL] at c1 c4' g2 hm5
    have HSM : Hid (∀ w', Below W.heap.size W w' → Calls Tryd.prog 8 #[FrV (kind : Int) (seq : Int) (.slice a4 L c4), FrV (kind : Int) (seq : Int) (.slice a5 L s5)] w' fun e w'' => e = .returned (.bool true) ∧ Below w'.heap.size w' w'') := fun w' hw' => (fsame_any kind seq kind seq body body L L a4 a5 c4 s5 w' hL hL (hy4.keep hw') (hy5.keep hw') hm5 hm5 rfl rfl).mono (by rintro e w'' ⟨rfl, h⟩; exact ⟨by simp, h⟩)
    have HI : Hid (EI w3 stop #[.slice a3 n c3] pre W ∧ pre.length = k) := ⟨hI, hk⟩
    have hcn := hI.cnt
    rw [hk] at hcn
    have z0 := hcn.cell
    have z1 : W.cell? ⟨w.heap.size, 0, none⟩ = some (.int .i64 stop) := (hI.bel.cell (p := ⟨w.heap.size, 0, none⟩) HS3.out.1.1.lt).trans HS3.out.1.1.cell
    have z2 : W.cell? ⟨w2.heap.size, 0, none⟩ = some (.slice a2 N c2) := (hI.bel.cell (p := ⟨w2.heap.size, 0, none⟩) HS3.out.2.1.lt).trans HS3.out.2.1.cell
    subst hab
    have HLT : Hid (w.heap.size < W.heap.size ∧ w2.heap.size < W.heap.size ∧ w3.heap.size + 1 < W.heap.size ∧ b < W.heap.size) := ⟨Nat.lt_of_lt_of_le HS3.out.1.1.lt hI.bel.size, Nat.lt_of_lt_of_le HS3.out.2.1.lt hI.bel.size, hcn.lt, hlt⟩
    have HCN : Hid (Boxed W (w3.heap.size + 1) 3 (.int .i64 (k : Int))) := hcn
    have hkI : (k : Int) < (N : Int) := by omega
    have hNI : (N : Int) ≤ 1048576 := by omega
    have hd1 : decide ((N : Int) ≤ (k : Int)) = false := by simp; omega
    clear h2 h3 h4 hI hp' hy4 hy5 hm5 hm4 hcn hlt hk q0 q1 hB0 HBX HX1 HB1 HB2 HB3 HCP HB HNN HE HNC
    have HCL : Hid (∀ y, Below W.heap.size W y → y.cell? ⟨w3.heap.size + 1, 0, none⟩ = some (.int .i64 (k : Int)) ∧ y.cell? ⟨w2.heap.size, 0, none⟩ = some (.slice (some ⟨b, off, none⟩) N c2) ∧ y.cell? ⟨Bx, 0, none⟩ = some (.int .i64 (kind : Int)) ∧ y.cell? ⟨Bx, 1, none⟩ = some (.int .i64 (seq : Int)) ∧ y.cell? ⟨Bx, 2, none⟩ = some (.slice a4 L c4) ∧ y.cell? ⟨b, off + k * 5, none⟩ = some (.int .i64 (pos : Int)) ∧ y.cell? ⟨b, off + k * 5 + 2, none⟩ = some (.int .i64 (kind : Int)) ∧ y.cell? ⟨b, off + k * 5 + 3, none⟩ = some (.int .i64 (seq : Int)) ∧ y.cell? ⟨b, off + k * 5 + 4, none⟩ = some (.slice a5 L s5) ∧ True) := fun y hy => ⟨(hy.cell (p := ⟨w3.heap.size + 1, 0, none⟩) HLT.out.2.2.1).trans z0, (hy.cell (p := ⟨w2.heap.size, 0, none⟩) HLT.out.2.1).trans z2, (hy.cell (p := ⟨Bx, 0, none⟩) (World.block_lt_of_cell? _ _ g0)).trans g0, (hy.cell (p := ⟨Bx, 1, none⟩) (World.block_lt_of_cell? _ _ g1)).trans g1, (hy.cell (p := ⟨Bx, 2, none⟩) (World.block_lt_of_cell? _ _ g2)).trans g2, (hy.cell (p := ⟨b, off + k * 5, none⟩) HLT.out.2.2.2).trans c0, (hy.cell (p := ⟨b, off + k * 5 + 2, none⟩) HLT.out.2.2.2).trans c2x, (hy.cell (p := ⟨b, off + k * 5 + 3, none⟩) HLT.out.2.2.2).trans c3x, (hy.cell (p := ⟨b, off + k * 5 + 4, none⟩) HLT.out.2.2.2).trans c4', trivial⟩
    gi_wp2
    refine wpIn_region_round (by kernel_rfl) (by kernel_rfl) (fun _ _ h => h) ?_
    refine wpAny_of_held (S := fun y => Below W.heap.size W y) _ _ _ _ ?_
    refine wpAnyH_take (i := 0) (oi := { dst := some 30, op := Op.load 3 (Operand.tmp 9), type := 3, pos := "law.go:57", after := #[], guard := none }) (v := ?_) rfl (by kernel_rfl) (by kernel_rfl) (by kernel_rfl) (fun _ _ _ h => h) (Or.inl ⟨by rfl, ?_⟩) (Below.refl _ _).drew ?_
    rotate_left
    · (intro y hy; obtain ⟨e0, e1, e2, e3, e4, e5, e6, e7, e8, e9⟩ := HCL.out y hy; go_simp; try (with_reducible rfl))
    simp only [Act.put, List.setIfInBounds_toArray, List.set_cons_zero, List.set_cons_succ]
    refine wpAnyH_take (i := 1) (oi := { dst := some 31, op := Op.load 24 (Operand.tmp 5), type := 24, pos := "law.go:57", after := #[], guard := none }) (v := ?_) rfl (by kernel_rfl) (by kernel_rfl) (by kernel_rfl) (fun _ _ _ h => h) (Or.inl ⟨by rfl, ?_⟩) (Below.refl _ _).drew ?_
    rotate_left
    · (intro y hy; obtain ⟨e0, e1, e2, e3, e4, e5, e6, e7, e8, e9⟩ := HCL.out y hy; go_simp; try (with_reducible rfl))
    simp only [Act.put, List.setIfInBounds_toArray, List.set_cons_zero, List.set_cons_succ]
    refine wpAnyH_take (i := 2) (oi := { dst := some 32, op := Op.call { callee := Callee.builtin Builtin.len, args := #[Operand.tmp 31], argTypes := #[24] }, type := 3, pos := "law.go:57", after := #[{ on := 1, ground := Ground.data }], guard := none }) (v := ?_) rfl (by kernel_rfl) (by kernel_rfl) (by kernel_rfl) (fun _ _ _ h => h) (Or.inl ⟨by rfl, ?_⟩) (Below.refl _ _).drew ?_
    rotate_left
    · (intro y hy; obtain ⟨e0, e1, e2, e3, e4, e5, e6, e7, e8, e9⟩ := HCL.out y hy; go_simp; try (with_reducible rfl))
    simp only [Act.put, List.setIfInBounds_toArray, List.set_cons_zero, List.set_cons_succ]
    refine wpAnyH_take (i := 3) (oi := { dst := some 33, op := Op.binOp BinOp.geq 3 (Operand.tmp 30) (Operand.tmp 32) 3, type := 4, pos := "law.go:57", after := #[{ on := 0, ground := Ground.data }, { on := 2, ground := Ground.data }], guard := none }) (v := .bool false) rfl (by kernel_rfl) (by kernel_rfl) (by kernel_rfl) (fun _ _ _ h => h) (Or.inl ⟨by rfl, ?_⟩) (Below.refl _ _).drew ?_
    · (intro y hy; go_simp)
    simp only [Act.put, List.setIfInBounds_toArray, List.set_cons_zero, List.set_cons_succ]
    refine wpAnyH_take (i := 4) (oi := { dst := some 34, op := Op.move (Operand.tmp 33), type := 4, pos := "law.go:57", after := #[{ on := 3, ground := Ground.data }], guard := none }) (v := .bool false) rfl (by kernel_rfl) (by kernel_rfl) (by kernel_rfl) (fun _ _ _ h => h) (Or.inl ⟨by rfl, ?_⟩) (Below.refl _ _).drew ?_
    · (intro y hy; go_simp)
    simp only [Act.put, List.setIfInBounds_toArray, List.set_cons_zero, List.set_cons_succ]
    refine wpAnyH_take (i := 5) (oi := { dst := some 35, op := Op.move (Operand.tmp 10), type := 3, pos := "law.go:57", after := #[{ on := 4, ground := Ground.guard }], guard := some (4, false) }) (v := ?_) rfl (by kernel_rfl) (by kernel_rfl) (by kernel_rfl) (fun _ _ _ h => h) (Or.inl ⟨by rfl, ?_⟩) (Below.refl _ _).drew ?_
    rotate_left
    · (intro y hy; obtain ⟨e0, e1, e2, e3, e4, e5, e6, e7, e8, e9⟩ := HCL.out y hy; go_simp; try (with_reducible rfl))
    simp only [Act.put, List.setIfInBounds_toArray, List.set_cons_zero, List.set_cons_succ]
    refine wpAnyH_take (i := 6) (oi := { dst := some 36, op := Op.load 24 (Operand.tmp 5), type := 24, pos := "law.go:57", after := #[{ on := 4, ground := Ground.guard }], guard := some (4, false) }) (v := ?_) rfl (by kernel_rfl) (by kernel_rfl) (by kernel_rfl) (fun _ _ _ h => h) (Or.inl ⟨by rfl, ?_⟩) (Below.refl _ _).drew ?_
    rotate_left
    · (intro y hy; obtain ⟨e0, e1, e2, e3, e4, e5, e6, e7, e8, e9⟩ := HCL.out y hy; go_simp; try (with_reducible rfl))
    simp only [Act.put, List.setIfInBounds_toArray, List.set_cons_zero, List.set_cons_succ]
    refine wpAnyH_take (i := 7) (oi := { dst := some 37, op := Op.load 3 (Operand.tmp 9), type := 3, pos := "law.go:57", after := #[{ on := 4, ground := Ground.guard }], guard := some (4, false) }) (v := ?_) rfl (by kernel_rfl) (by kernel_rfl) (by kernel_rfl) (fun _ _ _ h => h) (Or.inl ⟨by rfl, ?_⟩) (Below.refl _ _).drew ?_
    rotate_left
    · (intro y hy; obtain ⟨e0, e1, e2, e3, e4, e5, e6, e7, e8, e9⟩ := HCL.out y hy; go_simp; try (with_reducible rfl))
    simp only [Act.put, List.setIfInBounds_toArray, List.set_cons_zero, List.set_cons_succ]
    refine wpAnyH_take (i := 8) (oi := { dst := some 38, op := Op.indexAddr 24 (Operand.tmp 36) (Operand.tmp 37), type := 0, pos := "law.go:57", after := #[{ on := 6, ground := Ground.data }, { on := 7, ground := Ground.data }, { on := 4, ground := Ground.guard }], guard := some (4, false) }) (v := ?_) rfl (by kernel_rfl) (by kernel_rfl) (by kernel_rfl) (fun _ _ _ h => h) (Or.inl ⟨by rfl, ?_⟩) (Below.refl _ _).drew ?_
    rotate_left
    · (intro y hy; obtain ⟨e0, e1, e2, e3, e4, e5, e6, e7, e8, e9⟩ := HCL.out y hy; go_simp; try (with_reducible rfl))
    simp only [Act.put, List.setIfInBounds_toArray, List.set_cons_zero, List.set_cons_succ]
    refine wpAnyH_take (i := 9) (oi := { dst := some 39, op := Op.fieldAddr 34 (Operand.tmp 38) 0, type := 0, pos := "law.go:57", after := #[{ on := 8, ground := Ground.data }, { on := 4, ground := Ground.guard }], guard := some (4, false) }) (v := ?_) rfl (by kernel_rfl) (by kernel_rfl) (by kernel_rfl) (fun _ _ _ h => h) (Or.inl ⟨by rfl, ?_⟩) (Below.refl _ _).drew ?_
    rotate_left
    · (intro y hy; obtain ⟨e0, e1, e2, e3, e4, e5, e6, e7, e8, e9⟩ := HCL.out y hy; go_simp; try (with_reducible rfl))
    simp only [Act.put, List.setIfInBounds_toArray, List.set_cons_zero, List.set_cons_succ]
    refine wpAnyH_take (i := 10) (oi := { dst := some 40, op := Op.load 3 (Operand.tmp 39), type := 3, pos := "law.go:57", after := #[{ on := 9, ground := Ground.data }, { on := 4, ground := Ground.guard }], guard := some (4, false) }) (v := ?_) rfl (by kernel_rfl) (by kernel_rfl) (by kernel_rfl) (fun _ _ _ h => h) (Or.inl ⟨by rfl, ?_⟩) (Below.refl _ _).drew ?_
    rotate_left
    · (intro y hy; obtain ⟨e0, e1, e2, e3, e4, e5, e6, e7, e8, e9⟩ := HCL.out y hy; go_simp; try (with_reducible rfl))
    simp only [Act.put, List.setIfInBounds_toArray, List.set_cons_zero, List.set_cons_succ]
    refine wpAnyH_take (i := 11) (oi := { dst := some 41, op := Op.binOp BinOp.neq 3 (Operand.tmp 35) (Operand.tmp 40) 3, type := 4, pos := "law.go:57", after := #[{ on := 5, ground := Ground.data }, { on := 10, ground := Ground.data }, { on := 4, ground := Ground.guard }], guard := some (4, false) }) (v := .bool false) rfl (by kernel_rfl) (by kernel_rfl) (by kernel_rfl) (fun _ _ _ h => h) (Or.inl ⟨by rfl, ?_⟩) (Below.refl _ _).drew ?_
    · (intro y hy; go_simp)
    simp only [Act.put, List.setIfInBounds_toArray, List.set_cons_zero, List.set_cons_succ]
    refine wpAnyH_take (i := 12) (oi := { dst := some 42, op := Op.pick (Operand.tmp 34) (Operand.const (Value.bool true)) (Operand.tmp 41), type := 4, pos := "law.go:57", after := #[{ on := 4, ground := Ground.data }, { on := 11, ground := Ground.data }], guard := none }) (v := .bool false) rfl (by kernel_rfl) (by kernel_rfl) (by kernel_rfl) (fun _ _ _ h => h) (Or.inl ⟨by rfl, ?_⟩) (Below.refl _ _).drew ?_
    · (intro y hy; go_simp)
    simp only [Act.put, List.setIfInBounds_toArray, List.set_cons_zero, List.set_cons_succ]
    refine wpAnyH_take (i := 13) (oi := { dst := some 43, op := Op.move (Operand.tmp 42), type := 4, pos := "law.go:57", after := #[{ on := 12, ground := Ground.data }, { on := 4, ground := Ground.chain }], guard := none }) (v := .bool false) rfl (by kernel_rfl) (by kernel_rfl) (by kernel_rfl) (fun _ _ _ h => h) (Or.inl ⟨by rfl, ?_⟩) (Below.refl _ _).drew ?_
    · (intro y hy; go_simp)
    simp only [Act.put, List.setIfInBounds_toArray, List.set_cons_zero, List.set_cons_succ]
    refine wpAnyH_take (i := 14) (oi := { dst := some 44, op := Op.load 32 (Operand.tmp 11), type := 32, pos := "law.go:57", after := #[{ on := 13, ground := Ground.guard }], guard := some (13, false) }) (v := ?_) rfl (by kernel_rfl) (by kernel_rfl) (by kernel_rfl) (fun _ _ _ h => h) (Or.inl ⟨by rfl, ?_⟩) (Below.refl _ _).drew ?_
    rotate_left
    · (intro y hy; obtain ⟨e0, e1, e2, e3, e4, e5, e6, e7, e8, e9⟩ := HCL.out y hy; go_simp; try (with_reducible rfl))
    simp only [Act.put, List.setIfInBounds_toArray, List.set_cons_zero, List.set_cons_succ]
    refine wpAnyH_take (i := 15) (oi := { dst := some 45, op := Op.load 24 (Operand.tmp 5), type := 24, pos := "law.go:57", after := #[{ on := 13, ground := Ground.guard }], guard := some (13, false) }) (v := ?_) rfl (by kernel_rfl) (by kernel_rfl) (by kernel_rfl) (fun _ _ _ h => h) (Or.inl ⟨by rfl, ?_⟩) (Below.refl _ _).drew ?_
    rotate_left
    · (intro y hy; obtain ⟨e0, e1, e2, e3, e4, e5, e6, e7, e8, e9⟩ := HCL.out y hy; go_simp; try (with_reducible rfl))
    simp only [Act.put, List.setIfInBounds_toArray, List.set_cons_zero, List.set_cons_succ]
    refine wpAnyH_take (i := 16) (oi := { dst := some 46, op := Op.load 3 (Operand.tmp 9), type := 3, pos := "law.go:57", after := #[{ on := 13, ground := Ground.guard }], guard := some (13, false) }) (v := ?_) rfl (by kernel_rfl) (by kernel_rfl) (by kernel_rfl) (fun _ _ _ h => h) (Or.inl ⟨by rfl, ?_⟩) (Below.refl _ _).drew ?_
    rotate_left
    · (intro y hy; obtain ⟨e0, e1, e2, e3, e4, e5, e6, e7, e8, e9⟩ := HCL.out y hy; go_simp; try (with_reducible rfl))
    simp only [Act.put, List.setIfInBounds_toArray, List.set_cons_zero, List.set_cons_succ]
    refine wpAnyH_take (i := 17) (oi := { dst := some 47, op := Op.indexAddr 24 (Operand.tmp 45) (Operand.tmp 46), type := 0, pos := "law.go:57", after := #[{ on := 15, ground := Ground.data }, { on := 16, ground := Ground.data }, { on := 13, ground := Ground.guard }], guard := some (13, false) }) (v := ?_) rfl (by kernel_rfl) (by kernel_rfl) (by kernel_rfl) (fun _ _ _ h => h) (Or.inl ⟨by rfl, ?_⟩) (Below.refl _ _).drew ?_
    rotate_left
    · (intro y hy; obtain ⟨e0, e1, e2, e3, e4, e5, e6, e7, e8, e9⟩ := HCL.out y hy; go_simp; try (with_reducible rfl))
    simp only [Act.put, List.setIfInBounds_toArray, List.set_cons_zero, List.set_cons_succ]
    refine wpAnyH_take (i := 18) (oi := { dst := some 48, op := Op.fieldAddr 34 (Operand.tmp 47) 2, type := 0, pos := "law.go:57", after := #[{ on := 17, ground := Ground.data }, { on := 13, ground := Ground.guard }], guard := some (13, false) }) (v := ?_) rfl (by kernel_rfl) (by kernel_rfl) (by kernel_rfl) (fun _ _ _ h => h) (Or.inl ⟨by rfl, ?_⟩) (Below.refl _ _).drew ?_
    rotate_left
    · (intro y hy; obtain ⟨e0, e1, e2, e3, e4, e5, e6, e7, e8, e9⟩ := HCL.out y hy; go_simp; try (with_reducible rfl))
    simp only [Act.put, List.setIfInBounds_toArray, List.set_cons_zero, List.set_cons_succ]
    refine wpAnyH_take (i := 19) (oi := { dst := some 49, op := Op.load 32 (Operand.tmp 48), type := 32, pos := "law.go:57", after := #[{ on := 18, ground := Ground.data }, { on := 13, ground := Ground.guard }], guard := some (13, false) }) (v := ?_) rfl (by kernel_rfl) (by kernel_rfl) (by kernel_rfl) (fun _ _ _ h => h) (Or.inl ⟨by rfl, ?_⟩) (Below.refl _ _).drew ?_
    rotate_left
    · (intro y hy; obtain ⟨e0, e1, e2, e3, e4, e5, e6, e7, e8, e9⟩ := HCL.out y hy; go_simp; try (with_reducible rfl))
    simp only [Act.put, List.setIfInBounds_toArray, List.set_cons_zero, List.set_cons_succ]
    refine wpAnyH_ready (rs := [20]) (by kernel_rfl) (by simp) ?_
    refine AllReadyH.cons (o := { dst := some 50, op := Op.call { callee := Callee.value (Operand.func 8), args := #[Operand.tmp 44, Operand.tmp 49], argTypes := #[32, 32] }, type := 4, pos := "law.go:57", after := #[{ on := 14, ground := Ground.data }, { on := 19, ground := Ground.data }, { on := 13, ground := Ground.chain }, { on := 13, ground := Ground.guard }], guard := some (13, false) }) rfl (fun K hK => ?_) AllReadyH.nil
    go_simp
    refine (HSM.out _ (Below.refl _ _).drew).mono ?_
    rintro _ w4 ⟨rfl, hb4⟩
    have HB4 : Hid (Below W.heap.size W w4) := ((Below.refl W.heap.size W).drew).trans hb4
    clear hb4
    (refine hK _ _ HB4.out ?_; clear hK K; intro _)
    try simp only [Act.put, List.setIfInBounds_toArray, List.set_cons_zero, List.set_cons_succ]
    refine wpAnyH_take (i := 21) (oi := { dst := some 51, op := Op.unOp UnOp.not 4 (Operand.tmp 50), type := 4, pos := "law.go:57", after := #[{ on := 20, ground := Ground.data }, { on := 13, ground := Ground.guard }], guard := some (13, false) }) (v := .bool false) rfl (by kernel_rfl) (by kernel_rfl) (by kernel_rfl) (fun _ _ _ h => h) (Or.inl ⟨by rfl, ?_⟩) HB4.out ?_
    · (intro y hy; go_simp)
    simp only [Act.put, List.setIfInBounds_toArray, List.set_cons_zero, List.set_cons_succ]
    refine wpAnyH_take (i := 22) (oi := { dst := some 52, op := Op.pick (Operand.tmp 43) (Operand.const (Value.bool true)) (Operand.tmp 51), type := 4, pos := "law.go:57", after := #[{ on := 13, ground := Ground.data }, { on := 21, ground := Ground.data }], guard := none }) (v := .bool false) rfl (by kernel_rfl) (by kernel_rfl) (by kernel_rfl) (fun _ _ _ h => h) (Or.inl ⟨by rfl, ?_⟩) HB4.out ?_
    · (intro y hy; go_simp)
    simp only [Act.put, List.setIfInBounds_toArray, List.set_cons_zero, List.set_cons_succ]
    refine wpAnyH_done (by kernel_rfl) ?_ _
    have y0 : Boxed w4 (w3.heap.size + 1) 3 (.int .i64 (k : Int)) := (HB4.out.block _ HLT.out.2.2.1).trans HCN.out
    have y1 := y0.cell
    have y2 := y0.frozen
    have y3 := y0.lt
    have y4 : w4.cell? ⟨w.heap.size, 0, none⟩ = some (.int .i64 stop) := (HB4.out.cell (p := ⟨w.heap.size, 0, none⟩) HLT.out.1).trans z1
    have hst := EI.step (x := (⟨⟨pos, kind, seq, body⟩, .slice a4 body.length c4⟩ : It)) (u := (k : Int) + 1) HI.out.1 HB4.out (by rw [HI.out.2]) W0.heap.size
    have HST : Hid (_) := hst
    clear hst
    have hlt0 := HS3.out.1.1.lt
    have y5 : ∀ v : Value, (w4.setCell ⟨w3.heap.size + 1, 0, none⟩ v).cell? ⟨w.heap.size, 0, none⟩ = some (.int .i64 stop) := fun v => by rw [← y4]; unfold World.cell?; rw [heap_setCell_other _ ⟨w3.heap.size + 1, 0, none⟩ w.heap.size v (by show w.heap.size ≠ w3.heap.size + 1; omega)]
    by_cases hq : ((k : Int) + 1) = stop
    · have HQ : Hid (((k : Int) + 1) = stop) := hq
      have hq1 : (((k : Int) + 1) == stop) = true := by simp [hq]
      clear hq
      gi_wp2
      exact ⟨HST.out.1, ⟨rfl, by simp, by rw [List.length_append, HI.out.2]; simpa using HQ.out⟩, HST.out.2.2⟩
    · have hq1 : (((k : Int) + 1) == stop) = false := by simp [hq]
      gi_wp2
      exact ⟨HST.out.1, HST.out.2.1, HST.out.2.2.1, HST.out.2.2.2.1, HST.out.2.2.2.2, fun j j1 j2 => by rw [List.length_append, HI.out.2] at j2; simp at j2; by_cases hj : j ≤ k; exact HI.out.1.no j j1 (by rw [HI.out.2]; exact hj); (have : j = k + 1 := by omega); subst this; simpa using hq⟩
  case done =>
    rintro D ys W hD hS hI hK
    have HNW : Hid (ys.map It.fm = scanL l ∧ ys.length = N) := ⟨hS, HNN.out ys hS⟩
    have hcn := hI.cnt
    rw [HNW.out.2] at hcn
    have hbel := hI.bel
    have hbox := hI.box
    have z0 := hcn.cell
    have z0f := hcn.frozen
    have z0l := hcn.lt
    have z1 : W.cell? ⟨w.heap.size, 0, none⟩ = some (.int .i64 stop) := (hbel.cell (p := ⟨w.heap.size, 0, none⟩) HS3.out.1.1.lt).trans HS3.out.1.1.cell
    have z2 : W.cell? ⟨w2.heap.size, 0, none⟩ = some (.slice a2 N c2) := (hbel.cell (p := ⟨w2.heap.size, 0, none⟩) HS3.out.2.1.lt).trans HS3.out.2.1.cell
    have HJ0 : Hid (EJ w3 #[.slice a3 n c3] D [] (W.setCell ⟨w3.heap.size + 1, 0, none⟩ (.int .i64 0))) := EJ.start hbel hbox hcn hK (by omega)
    have HDD : Hid (W0.heap.size ≤ D) := hD
    have hnoN : ¬ (0 < stop ∧ stop ≤ (N : Int)) := fun h => hI.no stop.toNat (by omega) (by rw [HNW.out.2]; omega) (by omega)
    clear hK hcn hbox hbel HCP HB HBX HX1 HB1 HB2 HB3 q0 q1 hB0 hD hS hI
    by_cases hp : 0 < stop
    · have hp2 : decide (stop < (N : Int)) = false := by simp; omega
      clear hnoN
      gi_wp2
      obtain ⟨W1, hW1⟩ : ∃ W1, W.setCell ⟨w3.heap.size + 1, 0, none⟩ (.int .i64 0) = W1 := ⟨_, rfl⟩
      have HJ : Hid (EJ w3 #[.slice a3 n c3] D [] W1) := by rw [← hW1]; exact HJ0.out
      rw [hW1]
      clear hW1 z0 z0f z0l z1 z2 HJ0
      have hl1 : w3.heap.size + 1 < W1.heap.size := HJ.out.1.cnt.lt
      have hdl : D < W1.heap.size := lt_of_heap HJ.out.2
      have hDne : D ≠ w3.heap.size + 1 := by have := HDD.out; omega
      refine range_w rfl (by omega) (gf := 13) (lb := #[.pointer (some ⟨w3.heap.size, 0, none⟩)]) rfl trivial (enters_of Tryd.func13 (by kernel_rfl) rfl)
        (each_stops _ (by omega) l n w3.heap.size a3 c3 w3 W1 HN.out HY3.out.1 HY3.out.2 (by omega) (HT.out.keep HBW.out) (Nat.le_refl _) HJ.out.1.box HJ.out.1.bel) (fun _ => rfl) KB.trans (fun W lp o o' hlp h _ _ => KB.put W lp o o' (by omega) (by omega) h)
        (EJ w3 #[.slice a3 n c3] D) (fun _ _ _ => False) (EJ.own w3 _ D _ (by omega) hdl) (fun _ _ _ _ _ hs _ _ => hs) HJ.out
        (fun pre x a' W => (pre ++ [x]).map It.fm <+: scanL l ∧ a' = { tmps := #[Value.slice a n cap, Value.int IntKind.i64 stop, undef, Value.pointer (some { block := w.heap.size, off := 0 }), Value.pointer (some { block := w.heap.size + 1, off := 0 }), Value.pointer (some { block := w2.heap.size, off := 0 }), Value.int IntKind.i64 ↑EZ, Value.int IntKind.i64 ↑AE, Value.func (Fn.func 13) #[] #[Value.pointer (some { block := w3.heap.size, off := 0 })], Value.pointer (some { block := w3.heap.size + 1, off := 0 }), undef, undef, Value.int IntKind.i64 ↑N, .int .i64 (x.fm.pos : Int), Value.bool true, Value.bool false, Value.tuple #[Value.slice a2 N c2, Value.int IntKind.i64 ↑EZ, Value.int IntKind.i64 ↑AE], Value.slice a n cap, Value.tuple #[Value.slice a2 N c2, Value.int IntKind.i64 ↑EZ, Value.int IntKind.i64 ↑AE], Value.slice a2 N c2, Value.int IntKind.i64 ↑EZ, Value.int IntKind.i64 ↑AE, Value.slice a n cap, Value.slice a3 n c3, Value.func (Fn.func 13) #[] #[Value.pointer (some { block := w3.heap.size, off := 0 })], Value.func (Fn.func 13) #[] #[Value.pointer (some { block := w3.heap.size, off := 0 })], Value.bool false, Value.func (Fn.func 13) #[] #[Value.pointer (some { block := w3.heap.size, off := 0 })], undef, undef, undef, undef, undef, undef, undef, undef, undef, undef, undef, undef, undef, undef, undef, undef, undef, undef, undef, undef, undef, undef, undef, undef, undef, undef, undef, undef, undef, undef, Value.slice a2 N c2, Value.int IntKind.i64 ↑N, Value.int IntKind.i64 stop, Value.bool true, Value.bool true, Value.int IntKind.i64 stop, Value.int IntKind.i64 ↑N, Value.bool false, Value.bool false, undef, Value.int IntKind.i64 ↑N, Value.int IntKind.i64 ↑N, Value.bool false, Value.func (Fn.func 13) #[] #[Value.pointer (some { block := w3.heap.size, off := 0 })], .int .i64 (x.fm.pos : Int), FrV (x.fm.kind : Int) (x.fm.seq : Int) x.bv, undef, undef, undef, undef, undef, undef, undef, undef, undef, undef, undef, undef, undef, undef, undef, undef, undef, undef, undef], defers := [] }) ?hx0 ?as0 ?bo0 ?do0 ?st0
      case hx0 =>
        rintro pre x a' _ X Y row h hg hr
        exact h
      case as0 =>
        rintro lp pre ⟨⟨pos, kind, seq, body⟩, bv⟩ W2 K hI2 ⟨hX1, hX2⟩ hK2
        gi_wp2
        exact hK2 _ _ ((KeepsOthers.refl _).from _) (KB.below hI2.1.bel.size (Below.refl _ W2)) hI2 ⟨hX1, rfl⟩
      case bo0 =>
        rintro lp pre ⟨⟨pos, kind, seq, body⟩, bv⟩ a' W2 hI2 ⟨h4, rfl⟩
        try simp only at h4
        obtain ⟨k, hk⟩ : ∃ k, pre.length = k := ⟨_, rfl⟩
        have hkN : k < N := by
          have q1 := h4.length_le
          have q2 := HX2.out.2.2
          have q3 := congrArg List.length HX2.out.1
          simp at q1 q3
          omega
        obtain ⟨⟨fm', bv'⟩, hp'⟩ := lt_get (L := xs) (k := k) (by rw [HX2.out.2.2]; exact hkN)
        have hfm : fm' = ⟨pos, kind, seq, body⟩ := by
          obtain ⟨r, hr⟩ := h4
          have h := congrArg (fun L => L[k]?) (HX2.out.1.trans hr.symm)
          simp only [List.getElem?_map, hp', Option.map_some] at h
          rw [List.map_append, List.append_assoc, List.getElem?_append_right (by simp; omega)] at h
          simp [hk] at h
          exact h
        subst hfm
        obtain ⟨b, off, hab, hlt2, c0, c1, c2x, c3x, c4'⟩ := (HS3.out.2.2.keep hI2.1.bel).at k _ hp'
        try simp only at c0
        have HI2 : Hid (EJ w3 #[.slice a3 n c3] D pre W2 ∧ pre.length = k) := ⟨hI2, hk⟩
        have hcn2 := hI2.1.cnt
        rw [hk] at hcn2
        have u0 := hcn2.cell
        have u0f := hcn2.frozen
        have u0l := hcn2.lt
        have u2 : W2.cell? ⟨w2.heap.size, 0, none⟩ = some (.slice a2 N c2) := (hI2.1.bel.cell (p := ⟨w2.heap.size, 0, none⟩) HS3.out.2.1.lt).trans HS3.out.2.1.cell
        subst hab
        have hkI : (k : Int) < (N : Int) := by omega
        have hNI : (N : Int) ≤ 1048576 := by omega
        have hd1 : decide ((N : Int) ≤ (k : Int)) = false := by simp; omega
        clear hI2 hcn2 hp' h4 hk c1 c2x c3x c4'
        gi_wp2
        have hst := EI.step (x := (⟨⟨pos, kind, seq, body⟩, bv⟩ : It)) (u := (k : Int) + 1) HI2.out.1.1 (Below.refl _ _) (by rw [HI2.out.2]) W1.heap.size
        exact ⟨hst.1, hst.2.1, ⟨hst.2.2.1, hst.2.2.2.1, hst.2.2.2.2, fun j j1 _ => by omega⟩, by rw [heap_setCell_other _ ⟨w3.heap.size + 1, 0, none⟩ D _ (by simpa using hDne)]; exact HI2.out.1.2⟩
      case do0 =>
        rintro D2 zs W2 hD2 hS2 hI2 hK2
        have hz := HNN.out zs hS2
        have hcn2 := hI2.1.cnt
        rw [hz] at hcn2
        have u0 := hcn2.cell
        have u2 : W2.cell? ⟨w2.heap.size, 0, none⟩ = some (.slice a2 N c2) := (hI2.1.bel.cell (p := ⟨w2.heap.size, 0, none⟩) HS3.out.2.1.lt).trans HS3.out.2.1.cell
        have hbr : Boxed W2 (w.heap.size + 1) 4 (.bool false) := (hI2.1.bel.block _ HS3.out.1.2.lt).trans HS3.out.1.2
        have u3 := hbr.cell
        have u3f := hbr.frozen
        have u3l := hbr.lt
        have HE2 : Hid (EJ w3 #[.slice a3 n c3] D zs W2 ∧ W2.heap[D2]? = some (.deferred (some [])) ∧ W1.heap.size ≤ D2 ∧ Boxed W2 (w.heap.size + 1) 4 (.bool false)) := ⟨hI2, hK2, hD2, hbr⟩
        clear hS2 hI2 hK2 hcn2 hbr
        gi_wp2
        have hl5 := HS3.out.1.2.lt
        obtain ⟨p1, p2, p3, p4⟩ := each_end HBW.out HE2.out.1.1.bel HE2.out.2.2.2 HE2.out.2.1 HE2.out.1.2 (by have := HE2.out.2.2.1; omega) (by have := HDD.out; omega) (by have := HE2.out.2.2.1; omega)
        refine ⟨by simp, .inl ⟨_, _, rfl, run_takeDeferred p1, ?_⟩⟩
        refine ⟨by simp, .inl ⟨_, _, rfl, run_takeDeferred p2, ?_⟩⟩
        exact ⟨_, results_cellE rfl _ _ _ _ rfl (box_loadE p3), rfl, p4⟩
      case st0 =>
        rintro D2 c zs W2 _ _ hX9 _
        exact hX9.elim
    · have hp2 : decide (0 < stop) = false := by simp; omega
      clear hnoN
      gi_wp2
      obtain ⟨W1, hW1⟩ : ∃ W1, W.setCell ⟨w3.heap.size + 1, 0, none⟩ (.int .i64 0) = W1 := ⟨_, rfl⟩
      have HJ : Hid (EJ w3 #[.slice a3 n c3] D [] W1) := by rw [← hW1]; exact HJ0.out
      rw [hW1]
      clear hW1 z0 z0f z0l z1 z2 HJ0
      have hl1 : w3.heap.size + 1 < W1.heap.size := HJ.out.1.cnt.lt
      have hdl : D < W1.heap.size := lt_of_heap HJ.out.2
      have hDne : D ≠ w3.heap.size + 1 := by have := HDD.out; omega
      refine range_w rfl (by omega) (gf := 13) (lb := #[.pointer (some ⟨w3.heap.size, 0, none⟩)]) rfl trivial (enters_of Tryd.func13 (by kernel_rfl) rfl)
        (each_stops _ (by omega) l n w3.heap.size a3 c3 w3 W1 HN.out HY3.out.1 HY3.out.2 (by omega) (HT.out.keep HBW.out) (Nat.le_refl _) HJ.out.1.box HJ.out.1.bel) (fun _ => rfl) KB.trans (fun W lp o o' hlp h _ _ => KB.put W lp o o' (by omega) (by omega) h)
        (EJ w3 #[.slice a3 n c3] D) (fun _ _ _ => False) (EJ.own w3 _ D _ (by omega) hdl) (fun _ _ _ _ _ hs _ _ => hs) HJ.out
        (fun pre x a' W => (pre ++ [x]).map It.fm <+: scanL l ∧ a' = { tmps := #[Value.slice a n cap, Value.int IntKind.i64 stop, undef, Value.pointer (some { block := w.heap.size, off := 0 }), Value.pointer (some { block := w.heap.size + 1, off := 0 }), Value.pointer (some { block := w2.heap.size, off := 0 }), Value.int IntKind.i64 ↑EZ, Value.int IntKind.i64 ↑AE, Value.func (Fn.func 13) #[] #[Value.pointer (some { block := w3.heap.size, off := 0 })], Value.pointer (some { block := w3.heap.size + 1, off := 0 }), undef, undef, Value.int IntKind.i64 ↑N, .int .i64 (x.fm.pos : Int), Value.bool true, Value.bool false, Value.tuple #[Value.slice a2 N c2, Value.int IntKind.i64 ↑EZ, Value.int IntKind.i64 ↑AE], Value.slice a n cap, Value.tuple #[Value.slice a2 N c2, Value.int IntKind.i64 ↑EZ, Value.int IntKind.i64 ↑AE], Value.slice a2 N c2, Value.int IntKind.i64 ↑EZ, Value.int IntKind.i64 ↑AE, Value.slice a n cap, Value.slice a3 n c3, Value.func (Fn.func 13) #[] #[Value.pointer (some { block := w3.heap.size, off := 0 })], Value.func (Fn.func 13) #[] #[Value.pointer (some { block := w3.heap.size, off := 0 })], Value.bool false, Value.func (Fn.func 13) #[] #[Value.pointer (some { block := w3.heap.size, off := 0 })], undef, undef, undef, undef, undef, undef, undef, undef, undef, undef, undef, undef, undef, undef, undef, undef, undef, undef, undef, undef, undef, undef, undef, undef, undef, undef, undef, undef, undef, undef, Value.slice a2 N c2, Value.int IntKind.i64 ↑N, Value.int IntKind.i64 stop, Value.bool false, Value.bool false, undef, undef, undef, Value.bool false, undef, Value.int IntKind.i64 ↑N, Value.int IntKind.i64 ↑N, Value.bool false, Value.func (Fn.func 13) #[] #[Value.pointer (some { block := w3.heap.size, off := 0 })], .int .i64 (x.fm.pos : Int), FrV (x.fm.kind : Int) (x.fm.seq : Int) x.bv, undef, undef, undef, undef, undef, undef, undef, undef, undef, undef, undef, undef, undef, undef, undef, undef, undef, undef, undef], defers := [] }) ?hx1 ?as1 ?bo1 ?do1 ?st1
      case hx1 =>
        rintro pre x a' _ X Y row h hg hr
        exact h
      case as1 =>
        rintro lp pre ⟨⟨pos, kind, seq, body⟩, bv⟩ W2 K hI2 ⟨hX1, hX2⟩ hK2
        gi_wp2
        exact hK2 _ _ ((KeepsOthers.refl _).from _) (KB.below hI2.1.bel.size (Below.refl _ W2)) hI2 ⟨hX1, rfl⟩
      case bo1 =>
        rintro lp pre ⟨⟨pos, kind, seq, body⟩, bv⟩ a' W2 hI2 ⟨h4, rfl⟩
        try simp only at h4
        obtain ⟨k, hk⟩ : ∃ k, pre.length = k := ⟨_, rfl⟩
        have hkN : k < N := by
          have q1 := h4.length_le
          have q2 := HX2.out.2.2
          have q3 := congrArg List.length HX2.out.1
          simp at q1 q3
          omega
        obtain ⟨⟨fm', bv'⟩, hp'⟩ := lt_get (L := xs) (k := k) (by rw [HX2.out.2.2]; exact hkN)
        have hfm : fm' = ⟨pos, kind, seq, body⟩ := by
          obtain ⟨r, hr⟩ := h4
          have h := congrArg (fun L => L[k]?) (HX2.out.1.trans hr.symm)
          simp only [List.getElem?_map, hp', Option.map_some] at h
          rw [List.map_append, List.append_assoc, List.getElem?_append_right (by simp; omega)] at h
          simp [hk] at h
          exact h
        subst hfm
        obtain ⟨b, off, hab, hlt2, c0, c1, c2x, c3x, c4'⟩ := (HS3.out.2.2.keep hI2.1.bel).at k _ hp'
        try simp only at c0
        have HI2 : Hid (EJ w3 #[.slice a3 n c3] D pre W2 ∧ pre.length = k) := ⟨hI2, hk⟩
        have hcn2 := hI2.1.cnt
        rw [hk] at hcn2
        have u0 := hcn2.cell
        have u0f := hcn2.frozen
        have u0l := hcn2.lt
        have u2 : W2.cell? ⟨w2.heap.size, 0, none⟩ = some (.slice a2 N c2) := (hI2.1.bel.cell (p := ⟨w2.heap.size, 0, none⟩) HS3.out.2.1.lt).trans HS3.out.2.1.cell
        subst hab
        have hkI : (k : Int) < (N : Int) := by omega
        have hNI : (N : Int) ≤ 1048576 := by omega
        have hd1 : decide ((N : Int) ≤ (k : Int)) = false := by simp; omega
        clear hI2 hcn2 hp' h4 hk c1 c2x c3x c4'
        gi_wp2
        have hst := EI.step (x := (⟨⟨pos, kind, seq, body⟩, bv⟩ : It)) (u := (k : Int) + 1) HI2.out.1.1 (Below.refl _ _) (by rw [HI2.out.2]) W1.heap.size
        exact ⟨hst.1, hst.2.1, ⟨hst.2.2.1, hst.2.2.2.1, hst.2.2.2.2, fun j j1 _ => by omega⟩, by rw [heap_setCell_other _ ⟨w3.heap.size + 1, 0, none⟩ D _ (by simpa using hDne)]; exact HI2.out.1.2⟩
      case do1 =>
        rintro D2 zs W2 hD2 hS2 hI2 hK2
        have hz := HNN.out zs hS2
        have hcn2 := hI2.1.cnt
        rw [hz] at hcn2
        have u0 := hcn2.cell
        have u2 : W2.cell? ⟨w2.heap.size, 0, none⟩ = some (.slice a2 N c2) := (hI2.1.bel.cell (p := ⟨w2.heap.size, 0, none⟩) HS3.out.2.1.lt).trans HS3.out.2.1.cell
        have hbr : Boxed W2 (w.heap.size + 1) 4 (.bool false) := (hI2.1.bel.block _ HS3.out.1.2.lt).trans HS3.out.1.2
        have u3 := hbr.cell
        have u3f := hbr.frozen
        have u3l := hbr.lt
        have HE2 : Hid (EJ w3 #[.slice a3 n c3] D zs W2 ∧ W2.heap[D2]? = some (.deferred (some [])) ∧ W1.heap.size ≤ D2 ∧ Boxed W2 (w.heap.size + 1) 4 (.bool false)) := ⟨hI2, hK2, hD2, hbr⟩
        clear hS2 hI2 hK2 hcn2 hbr
        gi_wp2
        have hl5 := HS3.out.1.2.lt
        obtain ⟨p1, p2, p3, p4⟩ := each_end HBW.out HE2.out.1.1.bel HE2.out.2.2.2 HE2.out.2.1 HE2.out.1.2 (by have := HE2.out.2.2.1; omega) (by have := HDD.out; omega) (by have := HE2.out.2.2.1; omega)
        refine ⟨by simp, .inl ⟨_, _, rfl, run_takeDeferred p1, ?_⟩⟩
        refine ⟨by simp, .inl ⟨_, _, rfl, run_takeDeferred p2, ?_⟩⟩
        exact ⟨_, results_cellE rfl _ _ _ _ rfl (box_loadE p3), rfl, p4⟩
      case st1 =>
        rintro D2 c zs W2 _ _ hX9 _
        exact hX9.elim
  case stop =>
    rintro D c ys W hD hS hX hK
    obtain ⟨⟨rfl, hne, hst⟩, hbel, hbox, hcn⟩ := hX
    have hyl : ys.length ≤ N := by
      have q1 := hS.length_le
      have q2 := congrArg List.length HX2.out.1
      have q3 := HX2.out.2.2
      simp at q1 q2
      omega
    have hy0 : 0 < ys.length := List.length_pos_iff.2 hne
    rw [hst] at hcn
    have hp : 0 < stop := by omega
    have z0 := hcn.cell
    have z0f := hcn.frozen
    have z0l := hcn.lt
    have z1 : W.cell? ⟨w.heap.size, 0, none⟩ = some (.int .i64 stop) := (hbel.cell (p := ⟨w.heap.size, 0, none⟩) HS3.out.1.1.lt).trans HS3.out.1.1.cell
    have z2 : W.cell? ⟨w2.heap.size, 0, none⟩ = some (.slice a2 N c2) := (hbel.cell (p := ⟨w2.heap.size, 0, none⟩) HS3.out.2.1.lt).trans HS3.out.2.1.cell
    have HJ0 : Hid (EJ w3 #[.slice a3 n c3] D [] (W.setCell ⟨w3.heap.size + 1, 0, none⟩ (.int .i64 0))) := EJ.start hbel hbox hcn hK (by omega)
    have HDD : Hid (W0.heap.size ≤ D) := hD
    clear hK hcn hbox hbel HCP HB HBX HX1 HB1 HB2 HB3 q0 q1 hB0 hD hS hne
    by_cases hlt : stop < (N : Int)
    · gi_wp2
      obtain ⟨W1, hW1⟩ : ∃ W1, W.setCell ⟨w3.heap.size + 1, 0, none⟩ (.int .i64 0) = W1 := ⟨_, rfl⟩
      have HJ : Hid (EJ w3 #[.slice a3 n c3] D [] W1) := by rw [← hW1]; exact HJ0.out
      rw [hW1]
      clear hW1 z0 z0f z0l z1 z2 HJ0
      have hl1 : w3.heap.size + 1 < W1.heap.size := HJ.out.1.cnt.lt
      have hdl : D < W1.heap.size := lt_of_heap HJ.out.2
      have hDne : D ≠ w3.heap.size + 1 := by have := HDD.out; omega
      refine range_w rfl (by omega) (gf := 13) (lb := #[.pointer (some ⟨w3.heap.size, 0, none⟩)]) rfl trivial (enters_of Tryd.func13 (by kernel_rfl) rfl)
        (each_stops _ (by omega) l n w3.heap.size a3 c3 w3 W1 HN.out HY3.out.1 HY3.out.2 (by omega) (HT.out.keep HBW.out) (Nat.le_refl _) HJ.out.1.box HJ.out.1.bel) (fun _ => rfl) KB.trans (fun W lp o o' hlp h _ _ => KB.put W lp o o' (by omega) (by omega) h)
        (EJ w3 #[.slice a3 n c3] D) (fun _ _ _ => False) (EJ.own w3 _ D _ (by omega) hdl) (fun _ _ _ _ _ hs _ _ => hs) HJ.out
        (fun pre x a' W => (pre ++ [x]).map It.fm <+: scanL l ∧ a' = { tmps := #[Value.slice a n cap, Value.int IntKind.i64 stop, undef, Value.pointer (some { block := w.heap.size, off := 0 }), Value.pointer (some { block := w.heap.size + 1, off := 0 }), Value.pointer (some { block := w2.heap.size, off := 0 }), Value.int IntKind.i64 ↑EZ, Value.int IntKind.i64 ↑AE, Value.func (Fn.func 13) #[] #[Value.pointer (some { block := w3.heap.size, off := 0 })], Value.pointer (some { block := w3.heap.size + 1, off := 0 }), undef, undef, Value.int IntKind.i64 stop, .int .i64 (x.fm.pos : Int), Value.bool true, Value.bool false, Value.tuple #[Value.slice a2 N c2, Value.int IntKind.i64 ↑EZ, Value.int IntKind.i64 ↑AE], Value.slice a n cap, Value.tuple #[Value.slice a2 N c2, Value.int IntKind.i64 ↑EZ, Value.int IntKind.i64 ↑AE], Value.slice a2 N c2, Value.int IntKind.i64 ↑EZ, Value.int IntKind.i64 ↑AE, Value.slice a n cap, Value.slice a3 n c3, Value.func (Fn.func 13) #[] #[Value.pointer (some { block := w3.heap.size, off := 0 })], Value.func (Fn.func 13) #[] #[Value.pointer (some { block := w3.heap.size, off := 0 })], Value.bool false, Value.func (Fn.func 13) #[] #[Value.pointer (some { block := w3.heap.size, off := 0 })], undef, undef, undef, undef, undef, undef, undef, undef, undef, undef, undef, undef, undef, undef, undef, undef, undef, undef, undef, undef, undef, undef, undef, undef, undef, undef, undef, undef, undef, undef, Value.slice a2 N c2, Value.int IntKind.i64 ↑N, Value.int IntKind.i64 stop, Value.bool true, Value.bool true, Value.int IntKind.i64 stop, Value.int IntKind.i64 ↑N, Value.bool true, Value.bool true, Value.int IntKind.i64 stop, Value.int IntKind.i64 stop, Value.int IntKind.i64 stop, Value.bool false, Value.func (Fn.func 13) #[] #[Value.pointer (some { block := w3.heap.size, off := 0 })], .int .i64 (x.fm.pos : Int), FrV (x.fm.kind : Int) (x.fm.seq : Int) x.bv, undef, undef, undef, undef, undef, undef, undef, undef, undef, undef, undef, undef, undef, undef, undef, undef, undef, undef, undef], defers := [] }) ?hx2 ?as2 ?bo2 ?do2 ?st2
      case hx2 =>
        rintro pre x a' _ X Y row h hg hr
        exact h
      case as2 =>
        rintro lp pre ⟨⟨pos, kind, seq, body⟩, bv⟩ W2 K hI2 ⟨hX1, hX2⟩ hK2
        gi_wp2
        exact hK2 _ _ ((KeepsOthers.refl _).from _) (KB.below hI2.1.bel.size (Below.refl _ W2)) hI2 ⟨hX1, rfl⟩
      case bo2 =>
        rintro lp pre ⟨⟨pos, kind, seq, body⟩, bv⟩ a' W2 hI2 ⟨h4, rfl⟩
        try simp only at h4
        obtain ⟨k, hk⟩ : ∃ k, pre.length = k := ⟨_, rfl⟩
        have hkN : k < N := by
          have q1 := h4.length_le
          have q2 := HX2.out.2.2
          have q3 := congrArg List.length HX2.out.1
          simp at q1 q3
          omega
        obtain ⟨⟨fm', bv'⟩, hp'⟩ := lt_get (L := xs) (k := k) (by rw [HX2.out.2.2]; exact hkN)
        have hfm : fm' = ⟨pos, kind, seq, body⟩ := by
          obtain ⟨r, hr⟩ := h4
          have h := congrArg (fun L => L[k]?) (HX2.out.1.trans hr.symm)
          simp only [List.getElem?_map, hp', Option.map_some] at h
          rw [List.map_append, List.append_assoc, List.getElem?_append_right (by simp; omega)] at h
          simp [hk] at h
          exact h
        subst hfm
        obtain ⟨b, off, hab, hlt2, c0, c1, c2x, c3x, c4'⟩ := (HS3.out.2.2.keep hI2.1.bel).at k _ hp'
        try simp only at c0
        have HI2 : Hid (EJ w3 #[.slice a3 n c3] D pre W2 ∧ pre.length = k) := ⟨hI2, hk⟩
        have hcn2 := hI2.1.cnt
        rw [hk] at hcn2
        have u0 := hcn2.cell
        have u0f := hcn2.frozen
        have u0l := hcn2.lt
        have u2 : W2.cell? ⟨w2.heap.size, 0, none⟩ = some (.slice a2 N c2) := (hI2.1.bel.cell (p := ⟨w2.heap.size, 0, none⟩) HS3.out.2.1.lt).trans HS3.out.2.1.cell
        subst hab
        have hkI : (k : Int) < (N : Int) := by omega
        have hNI : (N : Int) ≤ 1048576 := by omega
        have hd1 : decide ((N : Int) ≤ (k : Int)) = false := by simp; omega
        clear hI2 hcn2 hp' h4 hk c1 c2x c3x c4'
        gi_wp2
        have hst := EI.step (x := (⟨⟨pos, kind, seq, body⟩, bv⟩ : It)) (u := (k : Int) + 1) HI2.out.1.1 (Below.refl _ _) (by rw [HI2.out.2]) W1.heap.size
        exact ⟨hst.1, hst.2.1, ⟨hst.2.2.1, hst.2.2.2.1, hst.2.2.2.2, fun j j1 _ => by omega⟩, by rw [heap_setCell_other _ ⟨w3.heap.size + 1, 0, none⟩ D _ (by simpa using hDne)]; exact HI2.out.1.2⟩
      case do2 =>
        rintro D2 zs W2 hD2 hS2 hI2 hK2
        have hz := HNN.out zs hS2
        have hcn2 := hI2.1.cnt
        rw [hz] at hcn2
        have u0 := hcn2.cell
        have u2 : W2.cell? ⟨w2.heap.size, 0, none⟩ = some (.slice a2 N c2) := (hI2.1.bel.cell (p := ⟨w2.heap.size, 0, none⟩) HS3.out.2.1.lt).trans HS3.out.2.1.cell
        have hbr : Boxed W2 (w.heap.size + 1) 4 (.bool false) := (hI2.1.bel.block _ HS3.out.1.2.lt).trans HS3.out.1.2
        have u3 := hbr.cell
        have u3f := hbr.frozen
        have u3l := hbr.lt
        have HE2 : Hid (EJ w3 #[.slice a3 n c3] D zs W2 ∧ W2.heap[D2]? = some (.deferred (some [])) ∧ W1.heap.size ≤ D2 ∧ Boxed W2 (w.heap.size + 1) 4 (.bool false)) := ⟨hI2, hK2, hD2, hbr⟩
        clear hS2 hI2 hK2 hcn2 hbr
        gi_wp2
        have hl5 := HS3.out.1.2.lt
        obtain ⟨p1, p2, p3, p4⟩ := each_end HBW.out HE2.out.1.1.bel HE2.out.2.2.2 HE2.out.2.1 HE2.out.1.2 (by have := HE2.out.2.2.1; omega) (by have := HDD.out; omega) (by have := HE2.out.2.2.1; omega)
        refine ⟨by simp, .inl ⟨_, _, rfl, run_takeDeferred p1, ?_⟩⟩
        refine ⟨by simp, .inl ⟨_, _, rfl, run_takeDeferred p2, ?_⟩⟩
        exact ⟨_, results_cellE rfl _ _ _ _ rfl (box_loadE p3), rfl, p4⟩
      case st2 =>
        rintro D2 c zs W2 _ _ hX9 _
        exact hX9.elim
    · have hp2 : decide (stop < (N : Int)) = false := by simp; omega
      have hq : (stop != (N : Int)) = false := by simp; omega
      clear hlt
      gi_wp2
      obtain ⟨W1, hW1⟩ : ∃ W1, W.setCell ⟨w3.heap.size + 1, 0, none⟩ (.int .i64 0) = W1 := ⟨_, rfl⟩
      have HJ : Hid (EJ w3 #[.slice a3 n c3] D [] W1) := by rw [← hW1]; exact HJ0.out
      rw [hW1]
      clear hW1 z0 z0f z0l z1 z2 HJ0
      have hl1 : w3.heap.size + 1 < W1.heap.size := HJ.out.1.cnt.lt
      have hdl : D < W1.heap.size := lt_of_heap HJ.out.2
      have hDne : D ≠ w3.heap.size + 1 := by have := HDD.out; omega
      refine range_w rfl (by omega) (gf := 13) (lb := #[.pointer (some ⟨w3.heap.size, 0, none⟩)]) rfl trivial (enters_of Tryd.func13 (by kernel_rfl) rfl)
        (each_stops _ (by omega) l n w3.heap.size a3 c3 w3 W1 HN.out HY3.out.1 HY3.out.2 (by omega) (HT.out.keep HBW.out) (Nat.le_refl _) HJ.out.1.box HJ.out.1.bel) (fun _ => rfl) KB.trans (fun W lp o o' hlp h _ _ => KB.put W lp o o' (by omega) (by omega) h)
        (EJ w3 #[.slice a3 n c3] D) (fun _ _ _ => False) (EJ.own w3 _ D _ (by omega) hdl) (fun _ _ _ _ _ hs _ _ => hs) HJ.out
        (fun pre x a' W => (pre ++ [x]).map It.fm <+: scanL l ∧ a' = { tmps := #[Value.slice a n cap, Value.int IntKind.i64 stop, undef, Value.pointer (some { block := w.heap.size, off := 0 }), Value.pointer (some { block := w.heap.size + 1, off := 0 }), Value.pointer (some { block := w2.heap.size, off := 0 }), Value.int IntKind.i64 ↑EZ, Value.int IntKind.i64 ↑AE, Value.func (Fn.func 13) #[] #[Value.pointer (some { block := w3.heap.size, off := 0 })], Value.pointer (some { block := w3.heap.size + 1, off := 0 }), undef, undef, Value.int IntKind.i64 ↑N, .int .i64 (x.fm.pos : Int), Value.bool true, Value.bool false, Value.tuple #[Value.slice a2 N c2, Value.int IntKind.i64 ↑EZ, Value.int IntKind.i64 ↑AE], Value.slice a n cap, Value.tuple #[Value.slice a2 N c2, Value.int IntKind.i64 ↑EZ, Value.int IntKind.i64 ↑AE], Value.slice a2 N c2, Value.int IntKind.i64 ↑EZ, Value.int IntKind.i64 ↑AE, Value.slice a n cap, Value.slice a3 n c3, Value.func (Fn.func 13) #[] #[Value.pointer (some { block := w3.heap.size, off := 0 })], Value.func (Fn.func 13) #[] #[Value.pointer (some { block := w3.heap.size, off := 0 })], Value.bool false, Value.func (Fn.func 13) #[] #[Value.pointer (some { block := w3.heap.size, off := 0 })], undef, undef, undef, undef, undef, undef, undef, undef, undef, undef, undef, undef, undef, undef, undef, undef, undef, undef, undef, undef, undef, undef, undef, undef, undef, undef, undef, undef, undef, undef, Value.slice a2 N c2, Value.int IntKind.i64 ↑N, Value.int IntKind.i64 stop, Value.bool true, Value.bool true, Value.int IntKind.i64 stop, Value.int IntKind.i64 ↑N, Value.bool false, Value.bool false, undef, Value.int IntKind.i64 stop, Value.int IntKind.i64 ↑N, Value.bool false, Value.func (Fn.func 13) #[] #[Value.pointer (some { block := w3.heap.size, off := 0 })], .int .i64 (x.fm.pos : Int), FrV (x.fm.kind : Int) (x.fm.seq : Int) x.bv, undef, undef, undef, undef, undef, undef, undef, undef, undef, undef, undef, undef, undef, undef, undef, undef, undef, undef, undef], defers := [] }) ?hx3 ?as3 ?bo3 ?do3 ?st3
      case hx3 =>
        rintro pre x a' _ X Y row h hg hr
        exact h
      case as3 =>
        rintro lp pre ⟨⟨pos, kind, seq, body⟩, bv⟩ W2 K hI2 ⟨hX1, hX2⟩ hK2
        gi_wp2
        exact hK2 _ _ ((KeepsOthers.refl _).from _) (KB.below hI2.1.bel.size (Below.refl _ W2)) hI2 ⟨hX1, rfl⟩
      case bo3 =>
        rintro lp pre ⟨⟨pos, kind, seq, body⟩, bv⟩ a' W2 hI2 ⟨h4, rfl⟩
        try simp only at h4
        obtain ⟨k, hk⟩ : ∃ k, pre.length = k := ⟨_, rfl⟩
        have hkN : k < N := by
          have q1 := h4.length_le
          have q2 := HX2.out.2.2
          have q3 := congrArg List.length HX2.out.1
          simp at q1 q3
          omega
        obtain ⟨⟨fm', bv'⟩, hp'⟩ := lt_get (L := xs) (k := k) (by rw [HX2.out.2.2]; exact hkN)
        have hfm : fm' = ⟨pos, kind, seq, body⟩ := by
          obtain ⟨r, hr⟩ := h4
          have h := congrArg (fun L => L[k]?) (HX2.out.1.trans hr.symm)
          simp only [List.getElem?_map, hp', Option.map_some] at h
          rw [List.map_append, List.append_assoc, List.getElem?_append_right (by simp; omega)] at h
          simp [hk] at h
          exact h
        subst hfm
        obtain ⟨b, off, hab, hlt2, c0, c1, c2x, c3x, c4'⟩ := (HS3.out.2.2.keep hI2.1.bel).at k _ hp'
        try simp only at c0
        have HI2 : Hid (EJ w3 #[.slice a3 n c3] D pre W2 ∧ pre.length = k) := ⟨hI2, hk⟩
        have hcn2 := hI2.1.cnt
        rw [hk] at hcn2
        have u0 := hcn2.cell
        have u0f := hcn2.frozen
        have u0l := hcn2.lt
        have u2 : W2.cell? ⟨w2.heap.size, 0, none⟩ = some (.slice a2 N c2) := (hI2.1.bel.cell (p := ⟨w2.heap.size, 0, none⟩) HS3.out.2.1.lt).trans HS3.out.2.1.cell
        subst hab
        have hkI : (k : Int) < (N : Int) := by omega
        have hNI : (N : Int) ≤ 1048576 := by omega
        have hd1 : decide ((N : Int) ≤ (k : Int)) = false := by simp; omega
        clear hI2 hcn2 hp' h4 hk c1 c2x c3x c4'
        gi_wp2
        have hst := EI.step (x := (⟨⟨pos, kind, seq, body⟩, bv⟩ : It)) (u := (k : Int) + 1) HI2.out.1.1 (Below.refl _ _) (by rw [HI2.out.2]) W1.heap.size
        exact ⟨hst.1, hst.2.1, ⟨hst.2.2.1, hst.2.2.2.1, hst.2.2.2.2, fun j j1 _ => by omega⟩, by rw [heap_setCell_other _ ⟨w3.heap.size + 1, 0, none⟩ D _ (by simpa using hDne)]; exact HI2.out.1.2⟩
      case do3 =>
        rintro D2 zs W2 hD2 hS2 hI2 hK2
        have hz := HNN.out zs hS2
        have hcn2 := hI2.1.cnt
        rw [hz] at hcn2
        have u0 := hcn2.cell
        have u2 : W2.cell? ⟨w2.heap.size, 0, none⟩ = some (.slice a2 N c2) := (hI2.1.bel.cell (p := ⟨w2.heap.size, 0, none⟩) HS3.out.2.1.lt).trans HS3.out.2.1.cell
        have hbr : Boxed W2 (w.heap.size + 1) 4 (.bool false) := (hI2.1.bel.block _ HS3.out.1.2.lt).trans HS3.out.1.2
        have u3 := hbr.cell
        have u3f := hbr.frozen
        have u3l := hbr.lt
        have HE2 : Hid (EJ w3 #[.slice a3 n c3] D zs W2 ∧ W2.heap[D2]? = some (.deferred (some [])) ∧ W1.heap.size ≤ D2 ∧ Boxed W2 (w.heap.size + 1) 4 (.bool false)) := ⟨hI2, hK2, hD2, hbr⟩
        clear hS2 hI2 hK2 hcn2 hbr
        gi_wp2
        have hl5 := HS3.out.1.2.lt
        obtain ⟨p1, p2, p3, p4⟩ := each_end HBW.out HE2.out.1.1.bel HE2.out.2.2.2 HE2.out.2.1 HE2.out.1.2 (by have := HE2.out.2.2.1; omega) (by have := HDD.out; omega) (by have := HE2.out.2.2.1; omega)
        refine ⟨by simp, .inl ⟨_, _, rfl, run_takeDeferred p1, ?_⟩⟩
        refine ⟨by simp, .inl ⟨_, _, rfl, run_takeDeferred p2, ?_⟩⟩
        exact ⟨_, results_cellE rfl _ _ _ _ rfl (box_loadE p3), rfl, p4⟩
      case st3 =>
        rintro D2 c zs W2 _ _ hX9 _
        exact hX9.elim
theorem own : ownKnob Tryd.prog.godebug = none := by kernel_rfl
theorem laidOut : laidOutB Tryd.prog = true := by kernel_rfl
set_option maxRecDepth 100000 in
theorem contract (H : Type) (enc : TypeId × Value → H) (W : World) (base : Nat) (args : Array Value) (ds gs : List (DataW H)) (before : List MemPlace)
    (hval : ∀ (j : Nat) t v, Tryd.f3.params[j]? = some t → args[j]? = some v → Value.okWide Tryd.prog W .any base t v)
    (hW : DataW.Whole enc Tryd.prog Tryd.f3.params.toList Rows.scanEachSpec.vars false W args.toList ds gs before)
    (hsz : (DataW.weightsEach Tryd.prog (Tryd.f3.params.toList ++ Rows.scanEachSpec.plain.varTypes Tryd.prog) (ds ++ gs)).all (· ≤ reachBytes) = true) (hk : Rows.uptoSmall H (ds ++ gs) = true) (hL : laidMetH Tryd.prog ([("daybook/crc.halves", Rows.laid_daybook_crc_halves)]) W) :
    Calls Tryd.prog 3 args W fun e W' => ∃ v, e = .returned v ∧ Rows.scanEachSpec.post enc Tryd.prog Tryd.f3 false true false false W args v W' := by
  have hW' := hW
  obtain ⟨p, q, hA0, hV, rfl, hfz, hnd⟩ := hW
  have hA : DataW.TrodAll enc Tryd.prog W 0 (fun _ => true) true Tryd.f3.params.toList args.toList ds p := hA0
  rw [Tryd.params3] at hA hval hsz
  obtain ⟨v0, vs0, d0, ds0, p0, q0, hargs, rfl, rfl, h0, r0⟩ := trodAll_cons hA
  obtain ⟨v1, vs1, d1, ds1, p1, q1, rfl, rfl, rfl, h1, r1⟩ := trodAll_cons r0
  obtain ⟨rfl, rfl, rfl⟩ := trodAll_nil r1
  obtain rfl : args = #[v0, v1] := by cases args; simp_all
  obtain ⟨rfl, rfl⟩ := trodVars_none hV
  obtain ⟨a0, len0, cap0, rfl⟩ := okWide_slice Tryd.underlying22 (hval 0 22 v0 rfl rfl)
  have k0 := h0
  have lt0 : ∀ x ∈ p0, x.block < W.heap.size := by obtain ⟨m, hm⟩ := k0; exact DataW.trod_lt m _ _ _ hm
  obtain ⟨l0, hlen0, w0, c0, u0⟩ : ∃ l : List Nat, l.length = len0 ∧ Bytes W a0 l ∧ Came W a0 len0 cap0 1 ∧ cap0 + 1 ≤ Rows.uptoBulk d0 := by
    obtain ⟨fuel, hf⟩ := h0
    rcases open_ints Tryd.underlying22 Tryd.underlying5 (by kernel_rfl) hf with ⟨hcs, hx⟩ | ⟨x, l, c, zs, hcs, _, hl, hm, hz, hx, hcell, hwz⟩
    · simp [Value.cells] at hcs
      obtain ⟨rfl, rfl, rfl⟩ := hcs
      obtain ⟨rfl, rfl⟩ := Prod.mk.inj hx
      exact ⟨[], rfl, ⟨by simp, .inl rfl⟩, ⟨Nat.le_refl _, by simp, fun _ => rfl⟩, by simp [Rows.uptoBulk]⟩
    · simp [Value.cells] at hcs
      obtain ⟨rfl, rfl, rfl⟩ := hcs
      have hz2 : zs.length = cap0 := by simpa using hz
      obtain ⟨ll, e1, e2, e3⟩ := row_nats .u8 256 (by decide) wf_u8 W x zs len0 (by omega) hcell hwz
      have hd : d0 = .slice (lits .u8 (zs.take len0)) (lits .u8 (zs.drop len0)) := (Prod.mk.inj hx).1
      have hreach : cap0 * 1 ≤ 140737488351232 := by
        have := sized_slice hsz (j := 0) (t := 22) (e := 5) rfl (by rw [hd]; rfl) Tryd.underlying22
        rw [show Tryd.prog.bytesOf 5 = 1 from by kernel_rfl] at this
        simp only [lits, List.length_map, List.length_take, List.length_drop, reachBytes] at this
        have hmin : min len0 zs.length = len0 := Nat.min_eq_left (by omega)
        rw [hmin] at this
        have hcap : len0 + (zs.length - len0) = cap0 := by omega
        rw [hcap] at this
        exact this
      refine ⟨ll, e1, ⟨e2, e3⟩, ⟨hl, hreach, fun h => by cases h⟩, ?_⟩
      rw [hd]
      have := bulks.slice_le (lits (H := H) .u8 (zs.take len0)) (lits .u8 (zs.drop len0))
      simp only [lits, List.length_map, List.length_take, List.length_drop] at this ⊢
      omega
  subst hlen0
  obtain ⟨a1, rfl, rfl, rfl, w1⟩ := open_int Tryd.underlying3 (hval 1 3 v1 rfl rfl) h1
  have hbk := bulks.bound hk
  simp only [List.append_nil, Rows.uptoBulkAll] at hbk
  have hsum : cap0 ≤ 1048576 := by omega
  clear hA0
  refine (walk l0 a0 cap0 a1 W w0 c0 w1 hsum (tab_of hL)).mono fun e W' ⟨he, bel⟩ => ?_
  subst he
  exact ⟨_, rfl, _, _, _, [], _, [], hW', trodAll_mk1 (shut_bool Tryd.underlying4 _), (trodAll_cons_mk (Below.trod laidOut (by kernel_rfl) (of_decide_eq_true (by kernel_rfl)) k0 bel lt0) (trodAll_cons_mk (shut_int Tryd.underlying3 w1) trodAll_mk0)), rfl, bel.frame _, fun h => by cases h⟩
set_option maxRecDepth 100000 in
theorem start (os : Os) : ∃ w0 : World, w0.os = os ∧ (w0.forCall (fun _ _ => 0) ⟨#[], #[.slice none 0 0, .int .i64 0], []⟩).variablesB Tryd.prog = true ∧
    ((w0.forCall (fun _ _ => 0) ⟨#[], #[.slice none 0 0, .int .i64 0], []⟩).heap.toList.drop Tryd.prog.globals.size).take ((begin Tryd.prog (fun _ _ => 0) default).world.heap.size - Tryd.prog.globals.size) = (begin Tryd.prog (fun _ _ => 0) default).world.heap.toList.drop Tryd.prog.globals.size ∧
    Input.okWideB Tryd.prog (w0.forCall (fun _ _ => 0) ⟨#[], #[.slice none 0 0, .int .i64 0], []⟩) 3 ⟨#[], #[.slice none 0 0, .int .i64 0], []⟩ = true ∧
    laidMet Tryd.prog Rows.scanEachUptoRow.laid (w0.forCall (fun _ _ => 0) ⟨#[], #[.slice none 0 0, .int .i64 0], []⟩).memory ∧
    ∀ (H : Type) (enc : TypeId × Value → H), DataW.whole enc Tryd.prog (w0.forCall (fun _ _ => 0) ⟨#[], #[.slice none 0 0, .int .i64 0], []⟩).memory Tryd.f3.params.toList Rows.scanEachSpec.vars false (#[.slice none 0 0, .int .i64 0] : Array Value).toList 8 = some ([.nil, .lit (.int .i64 0)], [], []) :=
  ⟨{ World.holding Tryd.prog os ⟨#[], #[], []⟩ with heap := (World.holding Tryd.prog os ⟨#[], #[], []⟩).heap.modify 0 fun
      | .cells _ t frozen => .cells #[.int .u32 0, .int .u32 498536548, .int .u32 997073096, .int .u32 651767980, .int .u32 1994146192, .int .u32 1802195444, .int .u32 1303535960, .int .u32 1342533948, .int .u32 3988292384, .int .u32 4027552580, .int .u32 3604390888, .int .u32 3412177804, .int .u32 2607071920, .int .u32 2262029012, .int .u32 2685067896, .int .u32 3183342108] t frozen
      | o => o }, rfl, by kernel_rfl, by kernel_rfl, by kernel_rfl, laidMet_of_run' 8 (by kernel_rfl) (by kernel_rfl), fun _ _ => by kernel_rfl⟩
set_option maxRecDepth 100000 in
theorem lifted (os : Os) (started : os.Started) (H : Type) (enc : TypeId × Value → H) (F : Stop.Interp) :
    ReturnsInHanded {} Tryd.checked os 3 .any ((Rows.OpenSpec.upto Rows.scanEachSpec).preRow enc Tryd.prog Tryd.f3 Rows.scanEachUptoRow.domain false Rows.scanEachUptoRow.laid) (((Rows.OpenSpec.upto Rows.scanEachSpec).at F).post enc Tryd.prog Tryd.f3 false true false false) := by
  obtain ⟨w0, h1, h2, h3, h4, h5, h6⟩ := start os
  refine returnsInHanded_of_row (C := Tryd.checked) (s := Rows.OpenSpec.upto Rows.scanEachSpec) own started (by kernel_rfl) Tryd.func3
    (witness_row_at (enc := enc) (C := Tryd.checked) false w0 #[.slice none 0 0, .int .i64 0] h1 h2 h3 h4
      (OpenSpec.preRow_of_cond 8 (h6 H enc) (by kernel_rfl) (fun k hk => by cases hk; kernel_rfl) (by kernel_rfl) h5)) ?_
  intro W base args ds gs before hval hW _ hcond hsz hL _ _
  exact contract H enc W base args ds gs before hval hW hsz (hcond _ rfl) hL
theorem said : Rows.ScanEachUptoSaid :=
  OpenClaim.holds_of_cond 3 Tryd.f3 rfl rfl rfl rfl rfl rfl rfl ⟨rfl, rfl, rfl, rfl, rfl⟩ rfl rfl rfl rfl rfl (by kernel_rfl) Tryd.func3 (by kernel_rfl)
    (of_decide_eq_true (by kernel_rfl)) (by unfold Func.isWrapper; first | (rw [if_pos (by decide +kernel)]; kernel_rfl) | (rw [if_neg (by decide +kernel)]; exact ⟨rfl, rfl⟩))
    (fun os started H enc _ F => by rw [OpenClaim.pre_eq_preRow]; exact lifted os started H enc F)
theorem plain (f : FuncId) (fn : Func) (hf : Tryd.pinned.checked.prog.funcNamed "daybook/daybooklaw12.ScanEach" = some f) (hfn : Tryd.pinned.checked.prog.funcs[f]? = some fn) :
    false = Tryd.pinned.checked.prog.looks [] ∧ ∀ (j : Nat) t, fn.params[j]? = some t → Tryd.pinned.checked.prog.wantsStandIn t = false := by
  obtain rfl : f = 3 := Option.some.inj ((show Tryd.prog.funcNamed "daybook/daybooklaw12.ScanEach" = some 3 by kernel_rfl).symm.trans hf) |>.symm
  obtain rfl : fn = Tryd.f3 := (Option.some.inj (Tryd.func3.symm.trans hfn)).symm
  refine ⟨by kernel_rfl, fun j t ht => ?_⟩
  rw [Tryd.params3] at ht
  have hm := Array.mem_of_getElem? ht
  have hall : ∀ t ∈ (#[22, 3] : Array TypeId), Tryd.prog.wantsStandIn t = false := by
    intro t ht
    simp only [List.mem_toArray, List.mem_cons, List.not_mem_nil, or_false] at ht
    rcases ht with rfl | rfl <;> kernel_rfl
  exact hall t hm
theorem card : Rows.ScanEachUptoCardSaid :=
  Claim7.holds_tied_plain_at .later [] _ _ _ _ said (fun _ h => by cases h) (by kernel_rfl) (fun _ h => by cases h) scanEachUpto_row_tie rfl ⟨rfl, rfl⟩ (by kernel_rfl) rfl plain (by kernel_rfl)
end Go.Proofs.YtpjikkhcimghaaaDoor.scanEach
