/- Own texts, joined: Rre. -/
import Derived.Test.YtlnhhgmdajbepaaK28
namespace Go.Proofs.Ytlnhhgmdajbepaa
open Go.ChangeShapes Go.WideShapes Go.ChangeAt Go.RowKit Go.Maps Go.Sort
set_option linter.unusedVariables false
set_option linter.unusedSimpArgs false
theorem row_turn {x y : World} {base e sz : Nat} {v : Value} {n : Nat} {xs : List Value} (h : x.ownsRow base e sz v n xs) (hs : ∀ k, base ≤ k → k < x.heap.size → y.heap[k]? = x.heap[k]?) : y.ownsRow base e sz v n xs := by
  refine ⟨h.1, ?_⟩
  rcases h.2 with h1 | ⟨g, cap, cur, h1, h2, h3, h4⟩
  · exact .inl h1
  · exact .inr ⟨g, cap, cur, h1, h2, (hs g h2 (lt_of_heap h3)).trans h3, h4⟩
theorem OwnIm.turn {x y : World} {base : Nat} {v : Value} {Y : List (Fa × Value)} (h : OwnIm x base v Y) (hs : ∀ k, base ≤ k → k < x.heap.size → y.heap[k]? = x.heap[k]?) : OwnIm y base v Y :=
  ⟨row_turn h.1 hs, fun p hp => (h.2 p hp).turn (Nat.le_refl _) hs⟩
theorem OwnIm.flsB {w w' : World} {base : Nat} {a : Option Addr} {m c : Nat} {X Y : List (Fa × Value)} (h : OwnIm w' base (.slice a m c) Y) (hb : w.heap.size ≤ base) : FlsB X w w' a Y := by
  refine ⟨imf h, ?_, fun e he => .inr (fun g hg => Nat.le_trans hb (Own.vblk (h.2 e he) g hg))⟩
  rcases h.1.2 with ⟨h1, h2⟩ | ⟨g, cap, cur, h1, h3, h4, h5⟩
  · exact .inl (List.length_eq_zero_iff.1 h2)
  · injection h1 with e1 e2 e3
    refine .inr ⟨g, e1, Nat.le_trans hb h3, lt_of_heap h4, fun j hj => ?_⟩
    have h9 := h.1
    rw [e1, e2] at h9
    exact h9.cellAt j hj
theorem keep_small (f : Fa) (z : Int) (hz : ¬ 0 < z) : keepN f z = f.s := by
  unfold keepN
  by_cases h : z < 0
  · rw [if_pos h]; rfl
  · rw [if_neg h, show z = 0 from by omega]; simp
/-- k files are left of a loss of power -/
structure RrR (w wr : World) (X : List (Fa × Value)) (ks : List Int) (q : Rn) (a : Option Addr) (n c : Nat) (k : Nat) (v : Value) (Y : List (Fa × Value)) : Prop where
  im : OwnIm wr (w.heap.size + 1 + 1) v Y
  len : Y.length = k
  ab : Y.map Prod.fst = (loseA (X.map Prod.fst) ks).take k
  rd : RdAt wr w.heap.size (.slice a n c) q
  rz : RdAt wr (w.heap.size + 1) (.slice none 0 0) ⟨0, 0, false, 0, 0⟩
  low : Below w.heap.size w wr
theorem rr_step {w wr x5 x6 : World} {X : List (Fa × Value)} {ks : List Int} {q : Rn} {a : Option Addr} {n c k : Nat} {v v6 v4 : Value} {Y : List (Fa × Value)} {nm : List UInt8} {l : List Nat} {s : Nat} (h : RrR w wr X ks q a n c k v Y) (hb : Below wr.heap.size wr x5) (hf : (loseA (X.map Prod.fst) ks)[k]? = some ⟨nm, l, s⟩) (ho : Own x5 (w.heap.size + 1 + 1) v4 l)
    (hr : x6.ownsRow (w.heap.size + 1 + 1) 49 3 v6 (k + 1) (imfl Y ++ [.string (bs nm), v4, .int .i64 (s : Int)])) (hg : x5.grownBy x6 v.ownBlock) : RrR w x6 X ks q a n c (k + 1) v6 (Y ++ [(⟨nm, l, s⟩, v4)]) := by
  have h5 := h.im.keep hb
  have hne : ∀ (u : Value) (l : List Nat), Own x5 (w.heap.size + 1 + 1) u l → ∀ g, u.ownBlock = some g → v.ownBlock ≠ some g := by
    intro u l hu g h1 h2
    obtain ⟨c1, e1⟩ := own_type hu h1
    obtain ⟨c2, e2⟩ := row_type h5.1 h2
    rw [e1] at e2
    injection e2 with e3
    injection e3 with _ e4
    cases e4
  have hlt : ∀ g, v.ownBlock = some g → w.heap.size + 1 + 1 ≤ g := fun g hg => (h5.1.lt g hg).1
  refine ⟨⟨?_, fun p hp => ?_⟩, ?_, ?_, ?_, ?_, ?_⟩
  · rw [List.length_append, h.len, imfl_app]
    exact hr
  · rcases List.mem_append.1 hp with h1 | h1
    · exact own_grown (h5.2 p h1) hg (hne _ _ (h5.2 p h1))
    · rw [List.mem_singleton.1 h1]
      exact own_grown (l := l) ho hg (hne _ _ ho)
  · rw [List.length_append, h.len]; rfl
  · rw [List.map_append, h.ab]
    have hkl : k < (loseA (X.map Prod.fst) ks).length := (List.getElem?_eq_some_iff.1 hf).1
    rw [List.take_succ_eq_append_getElem hkl, (List.getElem?_eq_some_iff.1 hf).2]
    rfl
  · have h1 := h.rd.keep hb
    exact (hg.block _ (lt_of_heap h1) (fun e => by have := hlt _ e.symm; omega)).trans h1
  · have h1 := h.rz.keep hb
    exact (hg.block _ (lt_of_heap h1) (fun e => by have := hlt _ e.symm; omega)).trans h1
  · exact (h.low.trans (hb.mono h.low.size)).grown hg (Nat.le_trans h.low.size hb.size) (fun j hj => by have := hlt j hj; omega)
set_option maxRecDepth 100000 in
set_option maxHeartbeats 4000000 in
theorem rrestart_any (w : World) (X : List (Fa × Value)) (a : Option Addr) (n c : Nat) (q : Rn) (hn : X.length = n) (hX : FlsA w a X) (hnl : n ≤ 1000) (hsf : ∀ f ∈ X.map Prod.fst, f.s ≤ f.l.length ∧ f.l.length ≤ 67108864) (K : Option Addr) (CK nk : Nat) (ks : List Int) (hkn : ks.length = nk) (hks : Ints w K ks) (hkl : (nk : Int) ≤ 281474976710656) :
    Calls Try.prog 45 #[rdV (.slice a n c) q, .slice K nk CK] w fun r w' => ∃ a' c' Y, r = .returned (rdV (.slice a' n c') { q with fuse := 0, off := false }) ∧ FlsB X w w' a' Y ∧ Y.length = n ∧ Y.map Prod.fst = loseA (X.map Prod.fst) ks ∧ Below w.heap.size w w' := by
  obtain ⟨qr, qf, qo, qs, qd⟩ := q
  obtain ⟨q, hq⟩ : ∃ q : Rn, (⟨qr, qf, qo, qs, qd⟩ : Rn) = q := ⟨_, rfl⟩
  have HQ : Hid ((⟨qr, qf, qo, qs, qd⟩ : Rn) = q) := hq
  clear hq
  obtain ⟨i0, hi, hz0, hz1, hz2⟩ := info_parts Try.infoFl
  have HX : Hid (FlsA w a X) := hX
  have HN : Hid (X.length = n ∧ n ≤ 1000) := ⟨hn, hnl⟩
  have HSF : Hid (∀ f ∈ X.map Prod.fst, f.s ≤ f.l.length ∧ f.l.length ≤ 67108864) := hsf
  have HKS : Hid (Ints w K ks ∧ ks.length = nk) := ⟨hks, hkn⟩
  have hnI : (n : Int) ≤ 1000 := by omega
  have hn0 : (0 : Int) ≤ (n : Int) := by omega
  have hnk0 : (0 : Int) ≤ (nk : Int) := by omega
  have h0 := RdAt.new w (.slice a n c) ⟨qr, qf, qo, qs, qd⟩
  have b2 : ∀ (x : World) (c : Obj), Below x.heap.size x (x.alloc c) := fun x c => (Below.refl _ _).alloc (Nat.le_refl _) _
  have d0 := h0.cells.1
  have HR1 : Hid (RrR w (((w.alloc (.cells #[.slice a n c, .int .i64 qr, .int .i64 qf, .bool qo, .int .i64 qs, .int .i64 qd] 28)).alloc (.cells #[.slice none 0 0, .int .i64 0, .int .i64 0, .bool false, .int .i64 0, .int .i64 0] 28)).alloc (.cells #[] 49)) X ks q a n c 0 (.slice (some ⟨w.heap.size + 1 + 1, 0, none⟩) 0 0) []) := by
    have h1 := RdAt.new (w.alloc (.cells #[.slice a n c, .int .i64 qr, .int .i64 qf, .bool qo, .int .i64 qs, .int .i64 qd] 28)) (.slice none 0 0) ⟨0, 0, false, 0, 0⟩
    have h2 := World.ownsRow_lit (size := 3) ((w.alloc (.cells #[.slice a n c, .int .i64 qr, .int .i64 qf, .bool qo, .int .i64 qs, .int .i64 qd] 28)).alloc (.cells #[.slice none 0 0, .int .i64 0, .int .i64 0, .bool false, .int .i64 0, .int .i64 0] 28)) (base := w.heap.size + 1 + 1) (e := 49) #[] 0 (by simp) (by simp) rfl
    simp only [World.size_alloc] at h1 h2
    exact ⟨⟨h2, fun p hp => by cases hp⟩, rfl, rfl, by rw [← HQ.out]; exact (h0.keep (b2 _ _)).keep (b2 _ _), h1.keep (b2 _ _), ((b2 _ _).alloc (by simp) _).alloc (by simp; omega) _⟩
  clear h0 b2 hn hX hsf hks hkn hnl
  go_enter Try.func45, Try.ntmps45
  go_wp2
  go_loopw [5, 13] (fun v5 v13 wr => ∃ (k : Nat) (Y : List (Fa × Value)) (g5 : Option Addr) (c5 : Nat), v13 = .int .i64 (k : Int) ∧ v5 = .slice g5 k c5 ∧ k ≤ n ∧ Hid (RrR w wr X ks q a n c k (.slice g5 k c5) Y)) (fun _ v13 _ => n - (intOf v13).toNat)
  case atStart => exact ⟨0, [], _, _, rfl, rfl, Nat.zero_le _, HR1.out⟩
  case round =>
    obtain ⟨k, Y, g5, c5, rfl, rfl, hk, HRR⟩ := hrel
    have cr0 := HRR.out.rd.cells.1
    by_cases hkn : k < n
    · obtain ⟨⟨⟨fn, fl, S⟩, bv⟩, hp⟩ : ∃ p, X[k]? = some p := ⟨_, List.getElem?_eq_getElem (by rw [HN.out.1]; exact hkn)⟩
      have hf : (X.map Prod.fst)[k]? = some ⟨fn, fl, S⟩ := by rw [List.getElem?_map, hp]; rfl
      obtain ⟨hs1, hs2⟩ := HSF.out _ (List.mem_of_getElem? hf)
      simp only at hs1 hs2
      obtain ⟨b, off, rfl, hlt, hrg⟩ := (HX.out.keep HRR.out.low).range hp
      obtain ⟨a2, c2, e2, hby, _, hr2, _⟩ := HX.out.fv (List.mem_of_getElem? hp)
      simp only at e2 hby hr2
      subst e2
      have hls := lose_at (X.map Prod.fst) ks k _ hf
      obtain ⟨m, hm⟩ : ∃ m, fl.length = m := ⟨_, rfl⟩
      obtain ⟨N, hN⟩ : ∃ N, keepN ⟨fn, fl, S⟩ (kAt ks k) = N := ⟨_, rfl⟩
      obtain ⟨LT, hLT⟩ : ∃ LT, fl.take N = LT := ⟨_, rfl⟩
      rw [hm] at hrg hr2 hs1 hs2
      have hNm : N ≤ m := by rw [← hN, ← hm]; unfold keepN; simp only; split <;> omega
      have HLT : Hid (fl.take N = LT ∧ LT.length = N) := ⟨hLT, by rw [← hLT, List.length_take]; omega⟩
      have HLS : Hid ((loseA (X.map Prod.fst) ks)[k]? = some ⟨fn, LT, N⟩) := by
        show _ = _
        rw [hls]
        unfold lostA
        rw [hN, ← hLT]
      have HBY : Hid (Bytes wr a2 LT) := by show Bytes _ _ _; rw [← hLT]; exact (hby.keep HRR.out.low).take N
      have HKN : Hid (keepN ⟨fn, fl, S⟩ (kAt ks k) = N ∧ fl.length = m) := ⟨hN, hm⟩
      have HRG : Hid (wr.rangeAt b (off + k * 3) [.string (bs fn), .slice a2 m c2, .int .i64 (S : Int)]) := hrg
      have HZ : Hid (FlAt (wr.alloc (.cells #[.string (bs []), .slice none 0 0, .int .i64 0] 49)) wr.heap.size [] (.slice none 0 0) 0 ∧ Below wr.heap.size wr (wr.alloc (.cells #[.string (bs []), .slice none 0 0, .int .i64 0] 49))) := ⟨FlAt.new _ _ _ _, (Below.refl _ _).alloc (Nat.le_refl _) _⟩
      have HLO : Hid (w.heap.size + 1 + 1 ≤ wr.heap.size) := HRR.out.rz.lt
      have hkI : (k : Int) < (n : Int) := by omega
      have hk0 : (0 : Int) ≤ (k : Int) := by omega
      have hSm : (S : Int) ≤ (m : Int) := by omega
      have hS0 : (0 : Int) ≤ (S : Int) := by omega
      have hm6 : (m : Int) ≤ 67108864 := by omega
      have hN6 : (N : Int) ≤ 140737488351232 := by omega
      have hN0 : (0 : Int) ≤ (N : Int) := by omega
      have hNc : (N : Int) ≤ (c2 : Int) := by omega
      clear hp hf hs1 hs2 hls hby hlt hrg hLT hN hm hNm hr2
      go_upto_region 7 with (first
        | ((with_reducible refine guard_load 49 ?_); refine wpList_load_flr rfl _ rfl HRG.out rfl ?_)
        | ((with_reducible refine guard_store 49 ?_); refine wpList_store_fl rfl _ _ rfl rfl HZ.out.1 (slice_one _ _ _) rfl rfl (nm2 := fn) (v2 := .slice a2 m c2) (s2 := (S : Int)) ?_; intro x5 hf5 hb5; have HF5 : Hid (FlAt x5 wr.heap.size fn (.slice a2 m c2) (S : Int) ∧ Below wr.heap.size wr x5) := ⟨hf5, hb5 _ _ HZ.out.2 (Nat.le_refl _)⟩; obtain ⟨q0, q1, q2⟩ := HF5.out.1.cells; clear hf5 hb5)
        | go_in)
      try simp only [Act.put]
      clear cr0 q0
      by_cases hkk : k < nk
      · have hkkI : (k : Int) < (nk : Int) := by omega
        have hdk : decide (k < nk) = true := by simpa using hkk
        obtain ⟨bK, oK, z, rfl, hcl, hcc, hzi, hkz⟩ : ∃ bK oK z, K = some ⟨bK, oK, none⟩ ∧ bK < w.heap.size ∧ w.cell? ⟨bK, oK + k, none⟩ = some (.int .i64 z) ∧ inI z ∧ kAt ks k = z := by
          rcases HKS.out.1.2 with h1 | ⟨bK, oK, h1, h2, h3⟩
          · rw [h1] at HKS; have := HKS.out.2; simp at this; omega
          · have h4 := h3 k (by rw [HKS.out.2]; exact hkk)
            have h5 : k < ks.length := by rw [HKS.out.2]; exact hkk
            refine ⟨bK, oK, _, h1, h2, h4, HKS.out.1.1 _ (by rw [List.getD_eq_getElem?_getD, List.getElem?_eq_getElem h5]; exact List.getElem_mem h5), ?_⟩
            unfold kAt
            rw [List.getD_eq_getElem?_getD]
        have HCZ : Hid (∀ y : World, Below w.heap.size w y → y.cell? ⟨bK, oK + k, none⟩ = some (.int .i64 z)) := fun y hy => (hy.cell (p := ⟨bK, oK + k, none⟩) hcl).trans hcc
        have hz5 := HCZ.out x5 (HRR.out.low.trans (HF5.out.2.mono HRR.out.low.size))
        have hzA := hzi.1
        have hzB := hzi.2
        clear hcl hcc hzi
        by_cases hzz : 0 < z
        · have hdz : decide (0 < z) = true := by simpa using hzz
          obtain ⟨x6, hx6⟩ : ∃ x6, x5.drew = x6 := ⟨_, rfl⟩
          have HF6 : Hid (FlAt x6 wr.heap.size fn (.slice a2 m c2) (S : Int) ∧ Below wr.heap.size wr x6) := by rw [← hx6]; exact ⟨HF5.out.1.keep (Below.refl _ _).drew, HF5.out.2.drew⟩
          by_cases hzm : (m : Int) - (S : Int) < z
          · have HNN : Hid (N = m) := by
              have h1 := HKN.out.1
              unfold keepN at h1
              simp only [hkz, HKN.out.2] at h1
              rw [if_neg (by omega)] at h1
              show _ = _
              omega
            obtain rfl : m = N := HNN.out.symm
            clear HNN hkz
            obtain ⟨p0, p1, p2⟩ := HF6.out.1.cells
            have hz6 := HCZ.out x6 (HRR.out.low.trans (HF6.out.2.mono HRR.out.low.size))
            go_wp2_with fail
            go_region
            try rw [hx6]
            go_wp2_with fail
            refine wp_region_held (S := (fun y => FlAt y wr.heap.size fn (.slice a2 m c2) (S : Int))) (by kernel_rfl) ?_
            change wpAnyH _ _ _ _ _ _ _ _ (World.drew _)
            obtain ⟨xd, hxd⟩ : ∃ xd, x6.drew = xd := ⟨_, rfl⟩
            have HB3D : Hid (Below wr.heap.size wr xd) := by rw [← hxd]; exact (HF6.out.2.drew)
            have HP3 : Hid ((fun y => FlAt y wr.heap.size fn (.slice a2 m c2) (S : Int)) xd) := by rw [← hxd]; exact HF6.out.1.keep (Below.refl _ _).drew
            rw [hxd]
            clear hxd
            refine wpAnyH_take (i := 0) (oi := { dst := some 55, op := Op.move (Operand.tmp 5), type := 26, pos := "ref.go:176", after := #[], guard := none }) (v := ?_) rfl (by kernel_rfl) (by kernel_rfl) (by kernel_rfl) (fun _ _ _ h => h) (Or.inl ⟨by rfl, ?_⟩) HP3.out ?_
            rotate_left
            · (intro y hy; go_simp; try (with_reducible rfl))
            simp only [Act.put, List.setIfInBounds_toArray, List.set_cons_zero, List.set_cons_succ]
            refine wpAnyH_take (i := 1) (oi := { dst := some 56, op := Op.fieldAddr 49 (Operand.tmp 7) 0, type := 0, pos := "ref.go:176", after := #[], guard := none }) (v := ?_) rfl (by kernel_rfl) (by kernel_rfl) (by kernel_rfl) (fun _ _ _ h => h) (Or.inl ⟨by rfl, ?_⟩) HP3.out ?_
            rotate_left
            · (intro y hy; go_simp; try (with_reducible rfl))
            simp only [Act.put, List.setIfInBounds_toArray, List.set_cons_zero, List.set_cons_succ]
            refine wpAnyH_take (i := 2) (oi := { dst := some 57, op := Op.load 9 (Operand.tmp 56), type := 9, pos := "ref.go:176", after := #[{ on := 1, ground := Ground.data }], guard := none }) (v := .string (bs fn)) rfl (by kernel_rfl) (by kernel_rfl) (by kernel_rfl) (fun _ _ _ h => h) (Or.inl ⟨by rfl, ?_⟩) HP3.out ?_
            · (intro y hy; have h0 := hy.cells.1; go_simp)
            simp only [Act.put, List.setIfInBounds_toArray, List.set_cons_zero, List.set_cons_succ]
            refine wpAnyH_take (i := 3) (oi := { dst := some 58, op := Op.fieldAddr 49 (Operand.tmp 7) 1, type := 0, pos := "ref.go:176", after := #[], guard := none }) (v := ?_) rfl (by kernel_rfl) (by kernel_rfl) (by kernel_rfl) (fun _ _ _ h => h) (Or.inl ⟨by rfl, ?_⟩) HP3.out ?_
            rotate_left
            · (intro y hy; go_simp; try (with_reducible rfl))
            simp only [Act.put, List.setIfInBounds_toArray, List.set_cons_zero, List.set_cons_succ]
            refine wpAnyH_take (i := 4) (oi := { dst := some 59, op := Op.load 31 (Operand.tmp 58), type := 31, pos := "ref.go:176", after := #[{ on := 3, ground := Ground.data }], guard := none }) (v := .slice a2 m c2) rfl (by kernel_rfl) (by kernel_rfl) (by kernel_rfl) (fun _ _ _ h => h) (Or.inl ⟨by rfl, ?_⟩) HP3.out ?_
            · (intro y hy; have h0 := hy.cells.2.1; go_simp)
            simp only [Act.put, List.setIfInBounds_toArray, List.set_cons_zero, List.set_cons_succ]
            refine wpAnyH_take (i := 5) (oi := { dst := some 60, op := Op.move (Operand.tmp 8), type := 3, pos := "ref.go:176", after := #[], guard := none }) (v := ?_) rfl (by kernel_rfl) (by kernel_rfl) (by kernel_rfl) (fun _ _ _ h => h) (Or.inl ⟨by rfl, ?_⟩) HP3.out ?_
            rotate_left
            · (intro y hy; go_simp; try (with_reducible rfl))
            simp only [Act.put, List.setIfInBounds_toArray, List.set_cons_zero, List.set_cons_succ]
            refine wpAnyH_take (i := 6) (oi := { dst := some 61, op := Op.slice 31 (Operand.tmp 59) none (some (Operand.tmp 60)) none, type := 31, pos := "ref.go:176", after := #[{ on := 4, ground := Ground.data }, { on := 5, ground := Ground.data }], guard := none }) (v := .slice a2 m c2) rfl (by kernel_rfl) (by kernel_rfl) (by kernel_rfl) (fun _ _ _ h => h) (Or.inl ⟨by rfl, ?_⟩) HP3.out ?_
            · (intro y hy; have h0 := hNc; go_simp)
            simp only [Act.put, List.setIfInBounds_toArray, List.set_cons_zero, List.set_cons_succ]
            refine wpAnyH_take (i := 8) (oi := { dst := some 63, op := Op.move (Operand.tmp 8), type := 3, pos := "ref.go:176", after := #[], guard := none }) (v := ?_) rfl (by kernel_rfl) (by kernel_rfl) (by kernel_rfl) (fun _ _ _ h => h) (Or.inl ⟨by rfl, ?_⟩) HP3.out ?_
            rotate_left
            · (intro y hy; go_simp; try (with_reducible rfl))
            simp only [Act.put, List.setIfInBounds_toArray, List.set_cons_zero, List.set_cons_succ]
            refine wpAnyH_ready (rs := [7]) (by kernel_rfl) (by simp) ?_
            refine AllReadyH.cons (o := { dst := some 62, op := Op.call { callee := Callee.value (Operand.func 29), args := #[Operand.tmp 61], argTypes := #[31] }, type := 31, pos := "ref.go:176", after := #[{ on := 6, ground := Ground.data }], guard := none }) rfl (fun K hK => ?_) AllReadyH.nil
            go_simp
            refine (copy_m LT m HLT.out.2 a2 c2 _ (HBY.out.keep HB3D.out) hN6).mono ?_
            rintro _ x4 ⟨v40, rfl, ho4, hb4⟩
            obtain ⟨a4, c4, hv4⟩ : ∃ a4 c4, v40 = .slice a4 m c4 := by obtain ⟨a4, c4, e4⟩ := row_shape ho4.2; exact ⟨a4, c4, by rw [e4, HLT.out.2]⟩
            subst hv4
            have HO4 : Hid (Own x4 (w.heap.size + 1 + 1) (.slice a4 m c4) LT) := ho4.lower (Nat.le_trans HLO.out HB3D.out.size)
            have HB4 : Hid (Below wr.heap.size wr x4) := HB3D.out.trans (hb4.mono HB3D.out.size)
            have HP4 : Hid ((fun y => FlAt y wr.heap.size fn (.slice a2 m c2) (S : Int)) x4) := HP3.out.keep hb4
            have H1 : Hid ((Value.slice a4 m c4).oneCell' = true) := own_one ho4
            clear ho4 hb4
            (refine hK _ _ HP4.out ?_; clear hK K; intro _)
            try simp only [Act.put, List.setIfInBounds_toArray, List.set_cons_zero, List.set_cons_succ]
            refine wpAnyH_take (i := 9) (oi := { dst := some 64, op := Op.build 49 #[(0, Operand.tmp 57), (1, Operand.tmp 62), (2, Operand.tmp 63)], type := 49, pos := "ref.go:176", after := #[{ on := 2, ground := Ground.data }, { on := 7, ground := Ground.data }, { on := 8, ground := Ground.data }], guard := none }) (v := ?_) rfl (by kernel_rfl) (by kernel_rfl) (by kernel_rfl) (fun _ _ _ h => h) (Or.inl ⟨by rfl, ?_⟩) HP4.out ?_
            rotate_left
            · (intro y hy; go_simp; try (with_reducible rfl))
            simp only [Act.put, List.setIfInBounds_toArray, List.set_cons_zero, List.set_cons_succ]
            refine wpAnyH_ready (rs := [10]) (by kernel_rfl) (by simp) ?_
            refine AllReadyH.cons (o := { dst := some 65, op := Op.buildSlice 26 1 #[(0, Operand.tmp 64)], type := 26, pos := "ref.go:176", after := #[{ on := 9, ground := Ground.data }], guard := none }) rfl (fun K hK => ?_) AllReadyH.nil
            go_simp
            have hn5 := heap_alloc_new x4 (.cells #[.string (bs fn), .slice a4 m c4, .int .i64 (m : Int)] 49)
            obtain ⟨x5, hx5⟩ : ∃ x5, x4.alloc (.cells #[.string (bs fn), .slice a4 m c4, .int .i64 (m : Int)] 49) = x5 := ⟨_, rfl⟩
            rw [hx5]
            have hb5 : Below x4.heap.size x4 x5 := by rw [← hx5]; exact (Below.refl _ _).alloc (Nat.le_refl _) _
            have HN5 : Hid (x5.heap[x4.heap.size]? = some (.cells #[.string (bs fn), .slice a4 m c4, .int .i64 (m : Int)] 49)) := by rw [← hx5]; exact hn5
            have HB5 : Hid (Below wr.heap.size wr x5) := HB4.out.trans (hb5.mono HB4.out.size)
            have HO5 : Hid (Own x5 (w.heap.size + 1 + 1) (.slice a4 m c4) LT) := HO4.out.keep' hb5
            have HP5 : Hid ((fun y => FlAt y wr.heap.size fn (.slice a2 m c2) (S : Int)) x5) := HP4.out.keep hb5
            clear hx5 hb5 hn5
            (refine hK _ _ HP5.out ?_; clear hK K; intro _)
            try simp only [Act.put, List.setIfInBounds_toArray, List.set_cons_zero, List.set_cons_succ]
            refine wpAnyH_ready (rs := [11]) (by kernel_rfl) (by simp) ?_
            refine AllReadyH.cons (o := { dst := some 66, op := Op.call { callee := Callee.builtin Builtin.append, args := #[Operand.tmp 55, Operand.tmp 65], argTypes := #[26, 26] }, type := 26, pos := "ref.go:176", after := #[{ on := 0, ground := Ground.data }, { on := 10, ground := Ground.data }, { on := 7, ground := Ground.chain }], guard := none }) rfl (fun K hK => ?_) AllReadyH.nil
            refine step_append_own rfl _ _ _ rfl (w.heap.size + 1 + 1) 49 i0 zF 3 48 Try.underlying26 hi hz0 hz1 hz2 rfl (by decide) (.slice g5 k c5) k (imfl Y) rfl (by have h9 := (HRR.out.im.keep HB5.out).1; rw [HRR.out.len] at h9; exact h9) ⟨x4.heap.size, 0, none⟩ 1 1 [.string (bs fn), .slice a4 m c4, .int .i64 (m : Int)] rfl rfl (im_cells HN5.out) (im_one H1.out) (by unfold maxLen; omega) (by omega) (Nat.le_trans HLO.out HB5.out.size) ?_
            intro v6 x6 ho6 hg6 hn6
            have HIM : Hid (RrR w x6 X ks q (some ⟨b, off, none⟩) n c (k + 1) v6 (Y ++ [(⟨fn, LT, m⟩, .slice a4 m c4)])) := rr_step HRR.out HB5.out HLS.out HO5.out ho6 hg6
            have HP6 : Hid ((fun y => FlAt y wr.heap.size fn (.slice a2 m c2) (S : Int)) x6) := (hg6.block wr.heap.size (lt_of_heap HP5.out) (fun e => by have := (HRR.out.im.1.lt wr.heap.size e.symm).2; omega)).trans HP5.out
            obtain ⟨g6, c6, hv6⟩ : ∃ g6 c6, v6 = .slice g6 (k + 1) c6 := row_shape ho6
            subst hv6
            clear ho6 hg6 hn6
            (refine hK _ _ HP6.out ?_; clear hK K; intro _)
            try simp only [Act.put, List.setIfInBounds_toArray, List.set_cons_zero, List.set_cons_succ]
            refine wpAnyH_ready (rs := [12]) (by kernel_rfl) (by simp) ?_
            refine AllReadyH.cons (o := { dst := some 5, op := Op.assign (Operand.tmp 66), type := 26, pos := "ref.go:176", after := #[{ on := 11, ground := Ground.data }, { on := 11, ground := Ground.chain }, { on := 0, ground := Ground.phase }, { on := 1, ground := Ground.phase }, { on := 2, ground := Ground.phase }, { on := 3, ground := Ground.phase }, { on := 4, ground := Ground.phase }, { on := 5, ground := Ground.phase }, { on := 6, ground := Ground.phase }, { on := 7, ground := Ground.phase }, { on := 8, ground := Ground.phase }, { on := 9, ground := Ground.phase }, { on := 10, ground := Ground.phase }, { on := 11, ground := Ground.phase }], guard := none }) rfl (fun K hK => ?_) AllReadyH.nil
            go_simp
            (refine hK _ _ HP6.out ?_; clear hK K; intro _)
            try simp only [Act.put, List.setIfInBounds_toArray, List.set_cons_zero, List.set_cons_succ]
            refine wpAnyH_done (by kernel_rfl) ?_ _
            go_wp2
            go_roundw
            case rel => exact ⟨k + 1, Y ++ [(⟨fn, LT, m⟩, .slice a4 m c4)], g6, c6, by go_num, rfl, by omega, HIM⟩
            case measure => simp [intOf]; omega
          · have HNN : Hid (N = S + z.toNat) := by
              have h1 := HKN.out.1
              unfold keepN at h1
              simp only [hkz, HKN.out.2] at h1
              rw [if_neg (by omega)] at h1
              show _ = _
              omega
            have hnn : (S : Int) + z = (N : Int) := by rw [HNN.out]; omega
            have hwn : IntKind.i64.wrap ((S : Int) + z) = (N : Int) := by rw [wrap_i64, hnn]; omega
            obtain ⟨x7, hx7⟩ : ∃ x7, x6.drew = x7 := ⟨_, rfl⟩
            have HF7 : Hid (FlAt x7 wr.heap.size fn (.slice a2 m c2) (S : Int) ∧ Below wr.heap.size wr x7) := by rw [← hx7]; exact ⟨HF6.out.1.keep (Below.refl _ _).drew, HF6.out.2.drew⟩
            have HNI : Hid ((S : Int) + z = (N : Int)) := hnn
            have hz6 := HCZ.out x6 (HRR.out.low.trans (HF6.out.2.mono HRR.out.low.size))
            clear hkz
            obtain ⟨p0, p1, p2⟩ := HF6.out.1.cells
            obtain ⟨r0, r1, r2⟩ := HF7.out.1.cells
            have hz7 := HCZ.out x7 (HRR.out.low.trans (HF7.out.2.mono HRR.out.low.size))
            go_wp2_with fail
            go_region
            try rw [hx6]
            go_wp2_with fail
            go_region
            try rw [hx7]
            go_wp2_with fail
            try rw [HNI.out]
            refine wp_region_held (S := (fun y => FlAt y wr.heap.size fn (.slice a2 m c2) (S : Int))) (by kernel_rfl) ?_
            change wpAnyH _ _ _ _ _ _ _ _ (World.drew _)
            obtain ⟨xd, hxd⟩ : ∃ xd, x7.drew = xd := ⟨_, rfl⟩
            have HB3D : Hid (Below wr.heap.size wr xd) := by rw [← hxd]; exact (HF7.out.2.drew)
            have HP3 : Hid ((fun y => FlAt y wr.heap.size fn (.slice a2 m c2) (S : Int)) xd) := by rw [← hxd]; exact HF7.out.1.keep (Below.refl _ _).drew
            rw [hxd]
            clear hxd
            refine wpAnyH_take (i := 0) (oi := { dst := some 55, op := Op.move (Operand.tmp 5), type := 26, pos := "ref.go:176", after := #[], guard := none }) (v := ?_) rfl (by kernel_rfl) (by kernel_rfl) (by kernel_rfl) (fun _ _ _ h => h) (Or.inl ⟨by rfl, ?_⟩) HP3.out ?_
            rotate_left
            · (intro y hy; go_simp; try (with_reducible rfl))
            simp only [Act.put, List.setIfInBounds_toArray, List.set_cons_zero, List.set_cons_succ]
            refine wpAnyH_take (i := 1) (oi := { dst := some 56, op := Op.fieldAddr 49 (Operand.tmp 7) 0, type := 0, pos := "ref.go:176", after := #[], guard := none }) (v := ?_) rfl (by kernel_rfl) (by kernel_rfl) (by kernel_rfl) (fun _ _ _ h => h) (Or.inl ⟨by rfl, ?_⟩) HP3.out ?_
            rotate_left
            · (intro y hy; go_simp; try (with_reducible rfl))
            simp only [Act.put, List.setIfInBounds_toArray, List.set_cons_zero, List.set_cons_succ]
            refine wpAnyH_take (i := 2) (oi := { dst := some 57, op := Op.load 9 (Operand.tmp 56), type := 9, pos := "ref.go:176", after := #[{ on := 1, ground := Ground.data }], guard := none }) (v := .string (bs fn)) rfl (by kernel_rfl) (by kernel_rfl) (by kernel_rfl) (fun _ _ _ h => h) (Or.inl ⟨by rfl, ?_⟩) HP3.out ?_
            · (intro y hy; have h0 := hy.cells.1; go_simp)
            simp only [Act.put, List.setIfInBounds_toArray, List.set_cons_zero, List.set_cons_succ]
            refine wpAnyH_take (i := 3) (oi := { dst := some 58, op := Op.fieldAddr 49 (Operand.tmp 7) 1, type := 0, pos := "ref.go:176", after := #[], guard := none }) (v := ?_) rfl (by kernel_rfl) (by kernel_rfl) (by kernel_rfl) (fun _ _ _ h => h) (Or.inl ⟨by rfl, ?_⟩) HP3.out ?_
            rotate_left
            · (intro y hy; go_simp; try (with_reducible rfl))
            simp only [Act.put, List.setIfInBounds_toArray, List.set_cons_zero, List.set_cons_succ]
            refine wpAnyH_take (i := 4) (oi := { dst := some 59, op := Op.load 31 (Operand.tmp 58), type := 31, pos := "ref.go:176", after := #[{ on := 3, ground := Ground.data }], guard := none }) (v := .slice a2 m c2) rfl (by kernel_rfl) (by kernel_rfl) (by kernel_rfl) (fun _ _ _ h => h) (Or.inl ⟨by rfl, ?_⟩) HP3.out ?_
            · (intro y hy; have h0 := hy.cells.2.1; go_simp)
            simp only [Act.put, List.setIfInBounds_toArray, List.set_cons_zero, List.set_cons_succ]
            refine wpAnyH_take (i := 5) (oi := { dst := some 60, op := Op.move (Operand.tmp 8), type := 3, pos := "ref.go:176", after := #[], guard := none }) (v := ?_) rfl (by kernel_rfl) (by kernel_rfl) (by kernel_rfl) (fun _ _ _ h => h) (Or.inl ⟨by rfl, ?_⟩) HP3.out ?_
            rotate_left
            · (intro y hy; go_simp; try (with_reducible rfl))
            simp only [Act.put, List.setIfInBounds_toArray, List.set_cons_zero, List.set_cons_succ]
            refine wpAnyH_take (i := 6) (oi := { dst := some 61, op := Op.slice 31 (Operand.tmp 59) none (some (Operand.tmp 60)) none, type := 31, pos := "ref.go:176", after := #[{ on := 4, ground := Ground.data }, { on := 5, ground := Ground.data }], guard := none }) (v := .slice a2 N c2) rfl (by kernel_rfl) (by kernel_rfl) (by kernel_rfl) (fun _ _ _ h => h) (Or.inl ⟨by rfl, ?_⟩) HP3.out ?_
            · (intro y hy; have h0 := hNc; go_simp)
            simp only [Act.put, List.setIfInBounds_toArray, List.set_cons_zero, List.set_cons_succ]
            refine wpAnyH_take (i := 8) (oi := { dst := some 63, op := Op.move (Operand.tmp 8), type := 3, pos := "ref.go:176", after := #[], guard := none }) (v := ?_) rfl (by kernel_rfl) (by kernel_rfl) (by kernel_rfl) (fun _ _ _ h => h) (Or.inl ⟨by rfl, ?_⟩) HP3.out ?_
            rotate_left
            · (intro y hy; go_simp; try (with_reducible rfl))
            simp only [Act.put, List.setIfInBounds_toArray, List.set_cons_zero, List.set_cons_succ]
            refine wpAnyH_ready (rs := [7]) (by kernel_rfl) (by simp) ?_
            refine AllReadyH.cons (o := { dst := some 62, op := Op.call { callee := Callee.value (Operand.func 29), args := #[Operand.tmp 61], argTypes := #[31] }, type := 31, pos := "ref.go:176", after := #[{ on := 6, ground := Ground.data }], guard := none }) rfl (fun K hK => ?_) AllReadyH.nil
            go_simp
            refine (copy_m LT N HLT.out.2 a2 c2 _ (HBY.out.keep HB3D.out) hN6).mono ?_
            rintro _ x4 ⟨v40, rfl, ho4, hb4⟩
            obtain ⟨a4, c4, hv4⟩ : ∃ a4 c4, v40 = .slice a4 N c4 := by obtain ⟨a4, c4, e4⟩ := row_shape ho4.2; exact ⟨a4, c4, by rw [e4, HLT.out.2]⟩
            subst hv4
            have HO4 : Hid (Own x4 (w.heap.size + 1 + 1) (.slice a4 N c4) LT) := ho4.lower (Nat.le_trans HLO.out HB3D.out.size)
            have HB4 : Hid (Below wr.heap.size wr x4) := HB3D.out.trans (hb4.mono HB3D.out.size)
            have HP4 : Hid ((fun y => FlAt y wr.heap.size fn (.slice a2 m c2) (S : Int)) x4) := HP3.out.keep hb4
            have H1 : Hid ((Value.slice a4 N c4).oneCell' = true) := own_one ho4
            clear ho4 hb4
            (refine hK _ _ HP4.out ?_; clear hK K; intro _)
            try simp only [Act.put, List.setIfInBounds_toArray, List.set_cons_zero, List.set_cons_succ]
            refine wpAnyH_take (i := 9) (oi := { dst := some 64, op := Op.build 49 #[(0, Operand.tmp 57), (1, Operand.tmp 62), (2, Operand.tmp 63)], type := 49, pos := "ref.go:176", after := #[{ on := 2, ground := Ground.data }, { on := 7, ground := Ground.data }, { on := 8, ground := Ground.data }], guard := none }) (v := ?_) rfl (by kernel_rfl) (by kernel_rfl) (by kernel_rfl) (fun _ _ _ h => h) (Or.inl ⟨by rfl, ?_⟩) HP4.out ?_
            rotate_left
            · (intro y hy; go_simp; try (with_reducible rfl))
            simp only [Act.put, List.setIfInBounds_toArray, List.set_cons_zero, List.set_cons_succ]
            refine wpAnyH_ready (rs := [10]) (by kernel_rfl) (by simp) ?_
            refine AllReadyH.cons (o := { dst := some 65, op := Op.buildSlice 26 1 #[(0, Operand.tmp 64)], type := 26, pos := "ref.go:176", after := #[{ on := 9, ground := Ground.data }], guard := none }) rfl (fun K hK => ?_) AllReadyH.nil
            go_simp
            have hn5 := heap_alloc_new x4 (.cells #[.string (bs fn), .slice a4 N c4, .int .i64 (N : Int)] 49)
            obtain ⟨x5, hx5⟩ : ∃ x5, x4.alloc (.cells #[.string (bs fn), .slice a4 N c4, .int .i64 (N : Int)] 49) = x5 := ⟨_, rfl⟩
            rw [hx5]
            have hb5 : Below x4.heap.size x4 x5 := by rw [← hx5]; exact (Below.refl _ _).alloc (Nat.le_refl _) _
            have HN5 : Hid (x5.heap[x4.heap.size]? = some (.cells #[.string (bs fn), .slice a4 N c4, .int .i64 (N : Int)] 49)) := by rw [← hx5]; exact hn5
            have HB5 : Hid (Below wr.heap.size wr x5) := HB4.out.trans (hb5.mono HB4.out.size)
            have HO5 : Hid (Own x5 (w.heap.size + 1 + 1) (.slice a4 N c4) LT) := HO4.out.keep' hb5
            have HP5 : Hid ((fun y => FlAt y wr.heap.size fn (.slice a2 m c2) (S : Int)) x5) := HP4.out.keep hb5
            clear hx5 hb5 hn5
            (refine hK _ _ HP5.out ?_; clear hK K; intro _)
            try simp only [Act.put, List.setIfInBounds_toArray, List.set_cons_zero, List.set_cons_succ]
            refine wpAnyH_ready (rs := [11]) (by kernel_rfl) (by simp) ?_
            refine AllReadyH.cons (o := { dst := some 66, op := Op.call { callee := Callee.builtin Builtin.append, args := #[Operand.tmp 55, Operand.tmp 65], argTypes := #[26, 26] }, type := 26, pos := "ref.go:176", after := #[{ on := 0, ground := Ground.data }, { on := 10, ground := Ground.data }, { on := 7, ground := Ground.chain }], guard := none }) rfl (fun K hK => ?_) AllReadyH.nil
            refine step_append_own rfl _ _ _ rfl (w.heap.size + 1 + 1) 49 i0 zF 3 48 Try.underlying26 hi hz0 hz1 hz2 rfl (by decide) (.slice g5 k c5) k (imfl Y) rfl (by have h9 := (HRR.out.im.keep HB5.out).1; rw [HRR.out.len] at h9; exact h9) ⟨x4.heap.size, 0, none⟩ 1 1 [.string (bs fn), .slice a4 N c4, .int .i64 (N : Int)] rfl rfl (im_cells HN5.out) (im_one H1.out) (by unfold maxLen; omega) (by omega) (Nat.le_trans HLO.out HB5.out.size) ?_
            intro v6 x6 ho6 hg6 hn6
            have HIM : Hid (RrR w x6 X ks q (some ⟨b, off, none⟩) n c (k + 1) v6 (Y ++ [(⟨fn, LT, N⟩, .slice a4 N c4)])) := rr_step HRR.out HB5.out HLS.out HO5.out ho6 hg6
            have HP6 : Hid ((fun y => FlAt y wr.heap.size fn (.slice a2 m c2) (S : Int)) x6) := (hg6.block wr.heap.size (lt_of_heap HP5.out) (fun e => by have := (HRR.out.im.1.lt wr.heap.size e.symm).2; omega)).trans HP5.out
            obtain ⟨g6, c6, hv6⟩ : ∃ g6 c6, v6 = .slice g6 (k + 1) c6 := row_shape ho6
            subst hv6
            clear ho6 hg6 hn6
            (refine hK _ _ HP6.out ?_; clear hK K; intro _)
            try simp only [Act.put, List.setIfInBounds_toArray, List.set_cons_zero, List.set_cons_succ]
            refine wpAnyH_ready (rs := [12]) (by kernel_rfl) (by simp) ?_
            refine AllReadyH.cons (o := { dst := some 5, op := Op.assign (Operand.tmp 66), type := 26, pos := "ref.go:176", after := #[{ on := 11, ground := Ground.data }, { on := 11, ground := Ground.chain }, { on := 0, ground := Ground.phase }, { on := 1, ground := Ground.phase }, { on := 2, ground := Ground.phase }, { on := 3, ground := Ground.phase }, { on := 4, ground := Ground.phase }, { on := 5, ground := Ground.phase }, { on := 6, ground := Ground.phase }, { on := 7, ground := Ground.phase }, { on := 8, ground := Ground.phase }, { on := 9, ground := Ground.phase }, { on := 10, ground := Ground.phase }, { on := 11, ground := Ground.phase }], guard := none }) rfl (fun K hK => ?_) AllReadyH.nil
            go_simp
            (refine hK _ _ HP6.out ?_; clear hK K; intro _)
            try simp only [Act.put, List.setIfInBounds_toArray, List.set_cons_zero, List.set_cons_succ]
            refine wpAnyH_done (by kernel_rfl) ?_ _
            go_wp2
            go_roundw
            case rel => exact ⟨k + 1, Y ++ [(⟨fn, LT, N⟩, .slice a4 N c4)], g6, c6, by go_num, rfl, by omega, HIM⟩
            case measure => simp [intOf]; omega
        · have hdz : decide (0 < z) = false := by simpa using hzz
          have HNN : Hid (N = S) := by
            have h1 := HKN.out.1
            rw [hkz, keep_small _ _ hzz] at h1
            exact h1.symm
          have hnn : (N : Int) = (S : Int) := by rw [HNN.out]
          clear hkz
          obtain rfl : S = N := HNN.out.symm
          clear HNN hnn
          go_wp2_with fail
          refine wp_region_held (S := (fun y => FlAt y wr.heap.size fn (.slice a2 m c2) (S : Int))) (by kernel_rfl) ?_
          change wpAnyH _ _ _ _ _ _ _ _ (World.drew _)
          obtain ⟨xd, hxd⟩ : ∃ xd, x5.drew = xd := ⟨_, rfl⟩
          have HB3D : Hid (Below wr.heap.size wr xd) := by rw [← hxd]; exact (HF5.out.2.drew)
          have HP3 : Hid ((fun y => FlAt y wr.heap.size fn (.slice a2 m c2) (S : Int)) xd) := by rw [← hxd]; exact HF5.out.1.keep (Below.refl _ _).drew
          rw [hxd]
          clear hxd
          refine wpAnyH_take (i := 0) (oi := { dst := some 55, op := Op.move (Operand.tmp 5), type := 26, pos := "ref.go:176", after := #[], guard := none }) (v := ?_) rfl (by kernel_rfl) (by kernel_rfl) (by kernel_rfl) (fun _ _ _ h => h) (Or.inl ⟨by rfl, ?_⟩) HP3.out ?_
          rotate_left
          · (intro y hy; go_simp; try (with_reducible rfl))
          simp only [Act.put, List.setIfInBounds_toArray, List.set_cons_zero, List.set_cons_succ]
          refine wpAnyH_take (i := 1) (oi := { dst := some 56, op := Op.fieldAddr 49 (Operand.tmp 7) 0, type := 0, pos := "ref.go:176", after := #[], guard := none }) (v := ?_) rfl (by kernel_rfl) (by kernel_rfl) (by kernel_rfl) (fun _ _ _ h => h) (Or.inl ⟨by rfl, ?_⟩) HP3.out ?_
          rotate_left
          · (intro y hy; go_simp; try (with_reducible rfl))
          simp only [Act.put, List.setIfInBounds_toArray, List.set_cons_zero, List.set_cons_succ]
          refine wpAnyH_take (i := 2) (oi := { dst := some 57, op := Op.load 9 (Operand.tmp 56), type := 9, pos := "ref.go:176", after := #[{ on := 1, ground := Ground.data }], guard := none }) (v := .string (bs fn)) rfl (by kernel_rfl) (by kernel_rfl) (by kernel_rfl) (fun _ _ _ h => h) (Or.inl ⟨by rfl, ?_⟩) HP3.out ?_
          · (intro y hy; have h0 := hy.cells.1; go_simp)
          simp only [Act.put, List.setIfInBounds_toArray, List.set_cons_zero, List.set_cons_succ]
          refine wpAnyH_take (i := 3) (oi := { dst := some 58, op := Op.fieldAddr 49 (Operand.tmp 7) 1, type := 0, pos := "ref.go:176", after := #[], guard := none }) (v := ?_) rfl (by kernel_rfl) (by kernel_rfl) (by kernel_rfl) (fun _ _ _ h => h) (Or.inl ⟨by rfl, ?_⟩) HP3.out ?_
          rotate_left
          · (intro y hy; go_simp; try (with_reducible rfl))
          simp only [Act.put, List.setIfInBounds_toArray, List.set_cons_zero, List.set_cons_succ]
          refine wpAnyH_take (i := 4) (oi := { dst := some 59, op := Op.load 31 (Operand.tmp 58), type := 31, pos := "ref.go:176", after := #[{ on := 3, ground := Ground.data }], guard := none }) (v := .slice a2 m c2) rfl (by kernel_rfl) (by kernel_rfl) (by kernel_rfl) (fun _ _ _ h => h) (Or.inl ⟨by rfl, ?_⟩) HP3.out ?_
          · (intro y hy; have h0 := hy.cells.2.1; go_simp)
          simp only [Act.put, List.setIfInBounds_toArray, List.set_cons_zero, List.set_cons_succ]
          refine wpAnyH_take (i := 5) (oi := { dst := some 60, op := Op.move (Operand.tmp 8), type := 3, pos := "ref.go:176", after := #[], guard := none }) (v := ?_) rfl (by kernel_rfl) (by kernel_rfl) (by kernel_rfl) (fun _ _ _ h => h) (Or.inl ⟨by rfl, ?_⟩) HP3.out ?_
          rotate_left
          · (intro y hy; go_simp; try (with_reducible rfl))
          simp only [Act.put, List.setIfInBounds_toArray, List.set_cons_zero, List.set_cons_succ]
          refine wpAnyH_take (i := 6) (oi := { dst := some 61, op := Op.slice 31 (Operand.tmp 59) none (some (Operand.tmp 60)) none, type := 31, pos := "ref.go:176", after := #[{ on := 4, ground := Ground.data }, { on := 5, ground := Ground.data }], guard := none }) (v := .slice a2 S c2) rfl (by kernel_rfl) (by kernel_rfl) (by kernel_rfl) (fun _ _ _ h => h) (Or.inl ⟨by rfl, ?_⟩) HP3.out ?_
          · (intro y hy; have h0 := hNc; go_simp)
          simp only [Act.put, List.setIfInBounds_toArray, List.set_cons_zero, List.set_cons_succ]
          refine wpAnyH_take (i := 8) (oi := { dst := some 63, op := Op.move (Operand.tmp 8), type := 3, pos := "ref.go:176", after := #[], guard := none }) (v := ?_) rfl (by kernel_rfl) (by kernel_rfl) (by kernel_rfl) (fun _ _ _ h => h) (Or.inl ⟨by rfl, ?_⟩) HP3.out ?_
          rotate_left
          · (intro y hy; go_simp; try (with_reducible rfl))
          simp only [Act.put, List.setIfInBounds_toArray, List.set_cons_zero, List.set_cons_succ]
          refine wpAnyH_ready (rs := [7]) (by kernel_rfl) (by simp) ?_
          refine AllReadyH.cons (o := { dst := some 62, op := Op.call { callee := Callee.value (Operand.func 29), args := #[Operand.tmp 61], argTypes := #[31] }, type := 31, pos := "ref.go:176", after := #[{ on := 6, ground := Ground.data }], guard := none }) rfl (fun K hK => ?_) AllReadyH.nil
          go_simp
          refine (copy_m LT S HLT.out.2 a2 c2 _ (HBY.out.keep HB3D.out) hN6).mono ?_
          rintro _ x4 ⟨v40, rfl, ho4, hb4⟩
          obtain ⟨a4, c4, hv4⟩ : ∃ a4 c4, v40 = .slice a4 S c4 := by obtain ⟨a4, c4, e4⟩ := row_shape ho4.2; exact ⟨a4, c4, by rw [e4, HLT.out.2]⟩
          subst hv4
          have HO4 : Hid (Own x4 (w.heap.size + 1 + 1) (.slice a4 S c4) LT) := ho4.lower (Nat.le_trans HLO.out HB3D.out.size)
          have HB4 : Hid (Below wr.heap.size wr x4) := HB3D.out.trans (hb4.mono HB3D.out.size)
          have HP4 : Hid ((fun y => FlAt y wr.heap.size fn (.slice a2 m c2) (S : Int)) x4) := HP3.out.keep hb4
          have H1 : Hid ((Value.slice a4 S c4).oneCell' = true) := own_one ho4
          clear ho4 hb4
          (refine hK _ _ HP4.out ?_; clear hK K; intro _)
          try simp only [Act.put, List.setIfInBounds_toArray, List.set_cons_zero, List.set_cons_succ]
          refine wpAnyH_take (i := 9) (oi := { dst := some 64, op := Op.build 49 #[(0, Operand.tmp 57), (1, Operand.tmp 62), (2, Operand.tmp 63)], type := 49, pos := "ref.go:176", after := #[{ on := 2, ground := Ground.data }, { on := 7, ground := Ground.data }, { on := 8, ground := Ground.data }], guard := none }) (v := ?_) rfl (by kernel_rfl) (by kernel_rfl) (by kernel_rfl) (fun _ _ _ h => h) (Or.inl ⟨by rfl, ?_⟩) HP4.out ?_
          rotate_left
          · (intro y hy; go_simp; try (with_reducible rfl))
          simp only [Act.put, List.setIfInBounds_toArray, List.set_cons_zero, List.set_cons_succ]
          refine wpAnyH_ready (rs := [10]) (by kernel_rfl) (by simp) ?_
          refine AllReadyH.cons (o := { dst := some 65, op := Op.buildSlice 26 1 #[(0, Operand.tmp 64)], type := 26, pos := "ref.go:176", after := #[{ on := 9, ground := Ground.data }], guard := none }) rfl (fun K hK => ?_) AllReadyH.nil
          go_simp
          have hn5 := heap_alloc_new x4 (.cells #[.string (bs fn), .slice a4 S c4, .int .i64 (S : Int)] 49)
          obtain ⟨x5, hx5⟩ : ∃ x5, x4.alloc (.cells #[.string (bs fn), .slice a4 S c4, .int .i64 (S : Int)] 49) = x5 := ⟨_, rfl⟩
          rw [hx5]
          have hb5 : Below x4.heap.size x4 x5 := by rw [← hx5]; exact (Below.refl _ _).alloc (Nat.le_refl _) _
          have HN5 : Hid (x5.heap[x4.heap.size]? = some (.cells #[.string (bs fn), .slice a4 S c4, .int .i64 (S : Int)] 49)) := by rw [← hx5]; exact hn5
          have HB5 : Hid (Below wr.heap.size wr x5) := HB4.out.trans (hb5.mono HB4.out.size)
          have HO5 : Hid (Own x5 (w.heap.size + 1 + 1) (.slice a4 S c4) LT) := HO4.out.keep' hb5
          have HP5 : Hid ((fun y => FlAt y wr.heap.size fn (.slice a2 m c2) (S : Int)) x5) := HP4.out.keep hb5
          clear hx5 hb5 hn5
          (refine hK _ _ HP5.out ?_; clear hK K; intro _)
          try simp only [Act.put, List.setIfInBounds_toArray, List.set_cons_zero, List.set_cons_succ]
          refine wpAnyH_ready (rs := [11]) (by kernel_rfl) (by simp) ?_
          refine AllReadyH.cons (o := { dst := some 66, op := Op.call { callee := Callee.builtin Builtin.append, args := #[Operand.tmp 55, Operand.tmp 65], argTypes := #[26, 26] }, type := 26, pos := "ref.go:176", after := #[{ on := 0, ground := Ground.data }, { on := 10, ground := Ground.data }, { on := 7, ground := Ground.chain }], guard := none }) rfl (fun K hK => ?_) AllReadyH.nil
          refine step_append_own rfl _ _ _ rfl (w.heap.size + 1 + 1) 49 i0 zF 3 48 Try.underlying26 hi hz0 hz1 hz2 rfl (by decide) (.slice g5 k c5) k (imfl Y) rfl (by have h9 := (HRR.out.im.keep HB5.out).1; rw [HRR.out.len] at h9; exact h9) ⟨x4.heap.size, 0, none⟩ 1 1 [.string (bs fn), .slice a4 S c4, .int .i64 (S : Int)] rfl rfl (im_cells HN5.out) (im_one H1.out) (by unfold maxLen; omega) (by omega) (Nat.le_trans HLO.out HB5.out.size) ?_
          intro v6 x6 ho6 hg6 hn6
          have HIM : Hid (RrR w x6 X ks q (some ⟨b, off, none⟩) n c (k + 1) v6 (Y ++ [(⟨fn, LT, S⟩, .slice a4 S c4)])) := rr_step HRR.out HB5.out HLS.out HO5.out ho6 hg6
          have HP6 : Hid ((fun y => FlAt y wr.heap.size fn (.slice a2 m c2) (S : Int)) x6) := (hg6.block wr.heap.size (lt_of_heap HP5.out) (fun e => by have := (HRR.out.im.1.lt wr.heap.size e.symm).2; omega)).trans HP5.out
          obtain ⟨g6, c6, hv6⟩ : ∃ g6 c6, v6 = .slice g6 (k + 1) c6 := row_shape ho6
          subst hv6
          clear ho6 hg6 hn6
          (refine hK _ _ HP6.out ?_; clear hK K; intro _)
          try simp only [Act.put, List.setIfInBounds_toArray, List.set_cons_zero, List.set_cons_succ]
          refine wpAnyH_ready (rs := [12]) (by kernel_rfl) (by simp) ?_
          refine AllReadyH.cons (o := { dst := some 5, op := Op.assign (Operand.tmp 66), type := 26, pos := "ref.go:176", after := #[{ on := 11, ground := Ground.data }, { on := 11, ground := Ground.chain }, { on := 0, ground := Ground.phase }, { on := 1, ground := Ground.phase }, { on := 2, ground := Ground.phase }, { on := 3, ground := Ground.phase }, { on := 4, ground := Ground.phase }, { on := 5, ground := Ground.phase }, { on := 6, ground := Ground.phase }, { on := 7, ground := Ground.phase }, { on := 8, ground := Ground.phase }, { on := 9, ground := Ground.phase }, { on := 10, ground := Ground.phase }, { on := 11, ground := Ground.phase }], guard := none }) rfl (fun K hK => ?_) AllReadyH.nil
          go_simp
          (refine hK _ _ HP6.out ?_; clear hK K; intro _)
          try simp only [Act.put, List.setIfInBounds_toArray, List.set_cons_zero, List.set_cons_succ]
          refine wpAnyH_done (by kernel_rfl) ?_ _
          go_wp2
          go_roundw
          case rel => exact ⟨k + 1, Y ++ [(⟨fn, LT, S⟩, .slice a4 S c4)], g6, c6, by go_num, rfl, by omega, HIM⟩
          case measure => simp [intOf]; omega
      · have hkkI : ¬ (k : Int) < (nk : Int) := by omega
        have hdk : decide (k < nk) = false := by simpa using hkk
        have HNN : Hid (N = S) := by
          have h1 := HKN.out.1
          have h2 : kAt ks k = 0 := by unfold kAt; rw [List.getElem?_eq_none (by rw [HKS.out.2]; omega)]; rfl
          rw [h2, keep_small _ _ (by omega)] at h1
          exact h1.symm
        obtain rfl : S = N := HNN.out.symm
        clear HNN
        go_wp2_with fail
        refine wp_region_held (S := (fun y => FlAt y wr.heap.size fn (.slice a2 m c2) (S : Int))) (by kernel_rfl) ?_
        change wpAnyH _ _ _ _ _ _ _ _ (World.drew _)
        obtain ⟨xd, hxd⟩ : ∃ xd, x5.drew = xd := ⟨_, rfl⟩
        have HB3D : Hid (Below wr.heap.size wr xd) := by rw [← hxd]; exact (HF5.out.2.drew)
        have HP3 : Hid ((fun y => FlAt y wr.heap.size fn (.slice a2 m c2) (S : Int)) xd) := by rw [← hxd]; exact HF5.out.1.keep (Below.refl _ _).drew
        rw [hxd]
        clear hxd
        refine wpAnyH_take (i := 0) (oi := { dst := some 55, op := Op.move (Operand.tmp 5), type := 26, pos := "ref.go:176", after := #[], guard := none }) (v := ?_) rfl (by kernel_rfl) (by kernel_rfl) (by kernel_rfl) (fun _ _ _ h => h) (Or.inl ⟨by rfl, ?_⟩) HP3.out ?_
        rotate_left
        · (intro y hy; go_simp; try (with_reducible rfl))
        simp only [Act.put, List.setIfInBounds_toArray, List.set_cons_zero, List.set_cons_succ]
        refine wpAnyH_take (i := 1) (oi := { dst := some 56, op := Op.fieldAddr 49 (Operand.tmp 7) 0, type := 0, pos := "ref.go:176", after := #[], guard := none }) (v := ?_) rfl (by kernel_rfl) (by kernel_rfl) (by kernel_rfl) (fun _ _ _ h => h) (Or.inl ⟨by rfl, ?_⟩) HP3.out ?_
        rotate_left
        · (intro y hy; go_simp; try (with_reducible rfl))
        simp only [Act.put, List.setIfInBounds_toArray, List.set_cons_zero, List.set_cons_succ]
        refine wpAnyH_take (i := 2) (oi := { dst := some 57, op := Op.load 9 (Operand.tmp 56), type := 9, pos := "ref.go:176", after := #[{ on := 1, ground := Ground.data }], guard := none }) (v := .string (bs fn)) rfl (by kernel_rfl) (by kernel_rfl) (by kernel_rfl) (fun _ _ _ h => h) (Or.inl ⟨by rfl, ?_⟩) HP3.out ?_
        · (intro y hy; have h0 := hy.cells.1; go_simp)
        simp only [Act.put, List.setIfInBounds_toArray, List.set_cons_zero, List.set_cons_succ]
        refine wpAnyH_take (i := 3) (oi := { dst := some 58, op := Op.fieldAddr 49 (Operand.tmp 7) 1, type := 0, pos := "ref.go:176", after := #[], guard := none }) (v := ?_) rfl (by kernel_rfl) (by kernel_rfl) (by kernel_rfl) (fun _ _ _ h => h) (Or.inl ⟨by rfl, ?_⟩) HP3.out ?_
        rotate_left
        · (intro y hy; go_simp; try (with_reducible rfl))
        simp only [Act.put, List.setIfInBounds_toArray, List.set_cons_zero, List.set_cons_succ]
        refine wpAnyH_take (i := 4) (oi := { dst := some 59, op := Op.load 31 (Operand.tmp 58), type := 31, pos := "ref.go:176", after := #[{ on := 3, ground := Ground.data }], guard := none }) (v := .slice a2 m c2) rfl (by kernel_rfl) (by kernel_rfl) (by kernel_rfl) (fun _ _ _ h => h) (Or.inl ⟨by rfl, ?_⟩) HP3.out ?_
        · (intro y hy; have h0 := hy.cells.2.1; go_simp)
        simp only [Act.put, List.setIfInBounds_toArray, List.set_cons_zero, List.set_cons_succ]
        refine wpAnyH_take (i := 5) (oi := { dst := some 60, op := Op.move (Operand.tmp 8), type := 3, pos := "ref.go:176", after := #[], guard := none }) (v := ?_) rfl (by kernel_rfl) (by kernel_rfl) (by kernel_rfl) (fun _ _ _ h => h) (Or.inl ⟨by rfl, ?_⟩) HP3.out ?_
        rotate_left
        · (intro y hy; go_simp; try (with_reducible rfl))
        simp only [Act.put, List.setIfInBounds_toArray, List.set_cons_zero, List.set_cons_succ]
        refine wpAnyH_take (i := 6) (oi := { dst := some 61, op := Op.slice 31 (Operand.tmp 59) none (some (Operand.tmp 60)) none, type := 31, pos := "ref.go:176", after := #[{ on := 4, ground := Ground.data }, { on := 5, ground := Ground.data }], guard := none }) (v := .slice a2 S c2) rfl (by kernel_rfl) (by kernel_rfl) (by kernel_rfl) (fun _ _ _ h => h) (Or.inl ⟨by rfl, ?_⟩) HP3.out ?_
        · (intro y hy; have h0 := hNc; go_simp)
        simp only [Act.put, List.setIfInBounds_toArray, List.set_cons_zero, List.set_cons_succ]
        refine wpAnyH_take (i := 8) (oi := { dst := some 63, op := Op.move (Operand.tmp 8), type := 3, pos := "ref.go:176", after := #[], guard := none }) (v := ?_) rfl (by kernel_rfl) (by kernel_rfl) (by kernel_rfl) (fun _ _ _ h => h) (Or.inl ⟨by rfl, ?_⟩) HP3.out ?_
        rotate_left
        · (intro y hy; go_simp; try (with_reducible rfl))
        simp only [Act.put, List.setIfInBounds_toArray, List.set_cons_zero, List.set_cons_succ]
        refine wpAnyH_ready (rs := [7]) (by kernel_rfl) (by simp) ?_
        refine AllReadyH.cons (o := { dst := some 62, op := Op.call { callee := Callee.value (Operand.func 29), args := #[Operand.tmp 61], argTypes := #[31] }, type := 31, pos := "ref.go:176", after := #[{ on := 6, ground := Ground.data }], guard := none }) rfl (fun K hK => ?_) AllReadyH.nil
        go_simp
        refine (copy_m LT S HLT.out.2 a2 c2 _ (HBY.out.keep HB3D.out) hN6).mono ?_
        rintro _ x4 ⟨v40, rfl, ho4, hb4⟩
        obtain ⟨a4, c4, hv4⟩ : ∃ a4 c4, v40 = .slice a4 S c4 := by obtain ⟨a4, c4, e4⟩ := row_shape ho4.2; exact ⟨a4, c4, by rw [e4, HLT.out.2]⟩
        subst hv4
        have HO4 : Hid (Own x4 (w.heap.size + 1 + 1) (.slice a4 S c4) LT) := ho4.lower (Nat.le_trans HLO.out HB3D.out.size)
        have HB4 : Hid (Below wr.heap.size wr x4) := HB3D.out.trans (hb4.mono HB3D.out.size)
        have HP4 : Hid ((fun y => FlAt y wr.heap.size fn (.slice a2 m c2) (S : Int)) x4) := HP3.out.keep hb4
        have H1 : Hid ((Value.slice a4 S c4).oneCell' = true) := own_one ho4
        clear ho4 hb4
        (refine hK _ _ HP4.out ?_; clear hK K; intro _)
        try simp only [Act.put, List.setIfInBounds_toArray, List.set_cons_zero, List.set_cons_succ]
        refine wpAnyH_take (i := 9) (oi := { dst := some 64, op := Op.build 49 #[(0, Operand.tmp 57), (1, Operand.tmp 62), (2, Operand.tmp 63)], type := 49, pos := "ref.go:176", after := #[{ on := 2, ground := Ground.data }, { on := 7, ground := Ground.data }, { on := 8, ground := Ground.data }], guard := none }) (v := ?_) rfl (by kernel_rfl) (by kernel_rfl) (by kernel_rfl) (fun _ _ _ h => h) (Or.inl ⟨by rfl, ?_⟩) HP4.out ?_
        rotate_left
        · (intro y hy; go_simp; try (with_reducible rfl))
        simp only [Act.put, List.setIfInBounds_toArray, List.set_cons_zero, List.set_cons_succ]
        refine wpAnyH_ready (rs := [10]) (by kernel_rfl) (by simp) ?_
        refine AllReadyH.cons (o := { dst := some 65, op := Op.buildSlice 26 1 #[(0, Operand.tmp 64)], type := 26, pos := "ref.go:176", after := #[{ on := 9, ground := Ground.data }], guard := none }) rfl (fun K hK => ?_) AllReadyH.nil
        go_simp
        have hn5 := heap_alloc_new x4 (.cells #[.string (bs fn), .slice a4 S c4, .int .i64 (S : Int)] 49)
        obtain ⟨x5, hx5⟩ : ∃ x5, x4.alloc (.cells #[.string (bs fn), .slice a4 S c4, .int .i64 (S : Int)] 49) = x5 := ⟨_, rfl⟩
        rw [hx5]
        have hb5 : Below x4.heap.size x4 x5 := by rw [← hx5]; exact (Below.refl _ _).alloc (Nat.le_refl _) _
        have HN5 : Hid (x5.heap[x4.heap.size]? = some (.cells #[.string (bs fn), .slice a4 S c4, .int .i64 (S : Int)] 49)) := by rw [← hx5]; exact hn5
        have HB5 : Hid (Below wr.heap.size wr x5) := HB4.out.trans (hb5.mono HB4.out.size)
        have HO5 : Hid (Own x5 (w.heap.size + 1 + 1) (.slice a4 S c4) LT) := HO4.out.keep' hb5
        have HP5 : Hid ((fun y => FlAt y wr.heap.size fn (.slice a2 m c2) (S : Int)) x5) := HP4.out.keep hb5
        clear hx5 hb5 hn5
        (refine hK _ _ HP5.out ?_; clear hK K; intro _)
        try simp only [Act.put, List.setIfInBounds_toArray, List.set_cons_zero, List.set_cons_succ]
        refine wpAnyH_ready (rs := [11]) (by kernel_rfl) (by simp) ?_
        refine AllReadyH.cons (o := { dst := some 66, op := Op.call { callee := Callee.builtin Builtin.append, args := #[Operand.tmp 55, Operand.tmp 65], argTypes := #[26, 26] }, type := 26, pos := "ref.go:176", after := #[{ on := 0, ground := Ground.data }, { on := 10, ground := Ground.data }, { on := 7, ground := Ground.chain }], guard := none }) rfl (fun K hK => ?_) AllReadyH.nil
        refine step_append_own rfl _ _ _ rfl (w.heap.size + 1 + 1) 49 i0 zF 3 48 Try.underlying26 hi hz0 hz1 hz2 rfl (by decide) (.slice g5 k c5) k (imfl Y) rfl (by have h9 := (HRR.out.im.keep HB5.out).1; rw [HRR.out.len] at h9; exact h9) ⟨x4.heap.size, 0, none⟩ 1 1 [.string (bs fn), .slice a4 S c4, .int .i64 (S : Int)] rfl rfl (im_cells HN5.out) (im_one H1.out) (by unfold maxLen; omega) (by omega) (Nat.le_trans HLO.out HB5.out.size) ?_
        intro v6 x6 ho6 hg6 hn6
        have HIM : Hid (RrR w x6 X ks q (some ⟨b, off, none⟩) n c (k + 1) v6 (Y ++ [(⟨fn, LT, S⟩, .slice a4 S c4)])) := rr_step HRR.out HB5.out HLS.out HO5.out ho6 hg6
        have HP6 : Hid ((fun y => FlAt y wr.heap.size fn (.slice a2 m c2) (S : Int)) x6) := (hg6.block wr.heap.size (lt_of_heap HP5.out) (fun e => by have := (HRR.out.im.1.lt wr.heap.size e.symm).2; omega)).trans HP5.out
        obtain ⟨g6, c6, hv6⟩ : ∃ g6 c6, v6 = .slice g6 (k + 1) c6 := row_shape ho6
        subst hv6
        clear ho6 hg6 hn6
        (refine hK _ _ HP6.out ?_; clear hK K; intro _)
        try simp only [Act.put, List.setIfInBounds_toArray, List.set_cons_zero, List.set_cons_succ]
        refine wpAnyH_ready (rs := [12]) (by kernel_rfl) (by simp) ?_
        refine AllReadyH.cons (o := { dst := some 5, op := Op.assign (Operand.tmp 66), type := 26, pos := "ref.go:176", after := #[{ on := 11, ground := Ground.data }, { on := 11, ground := Ground.chain }, { on := 0, ground := Ground.phase }, { on := 1, ground := Ground.phase }, { on := 2, ground := Ground.phase }, { on := 3, ground := Ground.phase }, { on := 4, ground := Ground.phase }, { on := 5, ground := Ground.phase }, { on := 6, ground := Ground.phase }, { on := 7, ground := Ground.phase }, { on := 8, ground := Ground.phase }, { on := 9, ground := Ground.phase }, { on := 10, ground := Ground.phase }, { on := 11, ground := Ground.phase }], guard := none }) rfl (fun K hK => ?_) AllReadyH.nil
        go_simp
        (refine hK _ _ HP6.out ?_; clear hK K; intro _)
        try simp only [Act.put, List.setIfInBounds_toArray, List.set_cons_zero, List.set_cons_succ]
        refine wpAnyH_done (by kernel_rfl) ?_ _
        go_wp2
        go_roundw
        case rel => exact ⟨k + 1, Y ++ [(⟨fn, LT, S⟩, .slice a4 S c4)], g6, c6, by go_num, rfl, by omega, HIM⟩
        case measure => simp [intOf]; omega
    · obtain rfl : k = n := by omega
      have HFIN : Hid (Y.map Prod.fst = loseA (X.map Prod.fst) ks) := by
        show _ = _
        rw [HRR.out.ab]
        exact List.take_of_length_le (by rw [lose_len, List.length_map, HN.out.1]; exact Nat.le_refl _)
      obtain ⟨_, cr1, cr2, cr3, cr4, cr5⟩ := HRR.out.rd.cells
      have FZ0 := HRR.out.rd.froz 0
      have FW3 := HRR.out.rd.froz 3
      have FW2 := HRR.out.rd.froz 2
      have FZ3 := (HRR.out.rd.set0 (.slice g5 k c5)).froz 3
      have FZ2 := ((HRR.out.rd.set0 (.slice g5 k c5)).set3 false).froz 2
      have HS : Hid (RdAt (((wr.setCell ⟨w.heap.size, 0, none⟩ (.slice g5 k c5)).setCell ⟨w.heap.size, 3, none⟩ (.bool false)).setCell ⟨w.heap.size, 2, none⟩ (.int .i64 0)) w.heap.size (.slice g5 k c5) { q with fuse := 0, off := false } ∧ RdAt (((wr.setCell ⟨w.heap.size, 0, none⟩ (.slice g5 k c5)).setCell ⟨w.heap.size, 3, none⟩ (.bool false)).setCell ⟨w.heap.size, 2, none⟩ (.int .i64 0)) (w.heap.size + 1) (.slice none 0 0) ⟨0, 0, false, 0, 0⟩ ∧ Below w.heap.size w (((wr.setCell ⟨w.heap.size, 0, none⟩ (.slice g5 k c5)).setCell ⟨w.heap.size, 3, none⟩ (.bool false)).setCell ⟨w.heap.size, 2, none⟩ (.int .i64 0)) ∧ (∀ j, j ≠ w.heap.size → (((wr.setCell ⟨w.heap.size, 0, none⟩ (.slice g5 k c5)).setCell ⟨w.heap.size, 3, none⟩ (.bool false)).setCell ⟨w.heap.size, 2, none⟩ (.int .i64 0)).heap[j]? = wr.heap[j]?)) := by
        have hh : ∀ j, j ≠ w.heap.size → (((wr.setCell ⟨w.heap.size, 0, none⟩ (.slice g5 k c5)).setCell ⟨w.heap.size, 3, none⟩ (.bool false)).setCell ⟨w.heap.size, 2, none⟩ (.int .i64 0)).heap[j]? = wr.heap[j]? := fun j hj =>
          (heap_setCell_other _ ⟨w.heap.size, 2, none⟩ j _ hj).trans ((heap_setCell_other _ ⟨w.heap.size, 3, none⟩ j _ hj).trans (heap_setCell_other _ ⟨w.heap.size, 0, none⟩ j _ hj))
        exact ⟨((HRR.out.rd.set0 _).set3 false).set2 0, (hh _ (by omega)).trans HRR.out.rz, ((HRR.out.low.setCell (Nat.le_refl _) _).setCell (Nat.le_refl _) _).setCell (Nat.le_refl _) _, hh⟩
      clear hkn hk
      go_wp2_with (first
        | ((with_reducible refine guard_load 28 ?_); refine wpList_load_rd rfl _ rfl HS.out.1 rfl ?_)
        | ((with_reducible refine guard_store 28 ?_); refine wpList_store_rd rfl _ _ rfl rfl HS.out.2.1 (slice_one _ _ _) rfl rfl (v2 := .slice g5 k c5) (q2 := { q with fuse := 0, off := false }) ?_; intro x9 hr9 hb9 hh9 hs9; have HR9 : Hid (RdAt x9 (w.heap.size + 1) (.slice g5 k c5) { q with fuse := 0, off := false } ∧ Below w.heap.size w x9 ∧ ∀ j, w.heap.size + 1 + 1 ≤ j → x9.heap[j]? = wr.heap[j]?) := ⟨hr9, hb9 _ _ HS.out.2.2.1 (by omega), fun j hj => (hh9 j (by omega)).trans (HS.out.2.2.2 j (by omega))⟩; clear hr9 hb9 hh9 hs9)
        | go_in)
      have hfin : FlsB X w x9 g5 Y := (HRR.out.im.turn (fun j hj _ => HR9.out.2.2 j hj)).flsB (by omega)
      exact bodyPost_ret (results_rd1 rfl _ _ _ rfl HR9.out.1) rfl ⟨g5, c5, Y, by rw [← HQ.out], hfin, HRR.out.len, HFIN.out, HR9.out.2.1⟩
end Go.Proofs.Ytlnhhgmdajbepaa
