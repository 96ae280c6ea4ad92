/- Own texts, joined: Opc, Pcz. -/
import Derived.Test.YtlnhhgmdajbepaaK19
import Derived.Test.YtlnhhgmdajbepaaK15
import Derived.Deep.Matrix
namespace Go.Proofs.Ytlnhhgmdajbepaa
open Go.ChangeShapes Go.WideShapes Go.ChangeAt Go.RowKit Go.Maps Go.Sort
set_option linter.unusedVariables false
set_option linter.unusedSimpArgs false
/-- the three cells of a file -/
def FrAt (y : World) (g p : Nat) (nm : List UInt8) (v : Value) (s : Int) : Prop := y.cell? ⟨g, p, none⟩ = some (.string (bs nm)) ∧ y.cell? ⟨g, p + 1, none⟩ = some v ∧ y.cell? ⟨g, p + 2, none⟩ = some (.int .i64 s)
def fefl (X : List (Fe × Value)) : List Value := X.flatMap feL
theorem fefl_app (X Y : List (Fe × Value)) : fefl (X ++ Y) = fefl X ++ fefl Y := by unfold fefl; rw [List.flatMap_append]
theorem fefl_get : ∀ (xs : List (Fe × Value)) (k : Nat) (x : Fe × Value), xs[k]? = some x → ∀ j v, (feL x)[j]? = some v → (fefl xs)[k * 3 + j]? = some v
  | [], k, x, h, _, _, _ => by simp at h
  | y :: r, 0, x, h, j, v, hj => by
    simp at h; subst h
    have hj3 : j < (feL y).length := (List.getElem?_eq_some_iff.1 hj).1
    show (feL y ++ fefl r)[0 * 3 + j]? = some v
    rw [Nat.zero_mul, Nat.zero_add, List.getElem?_append_left hj3]
    exact hj
  | y :: r, k + 1, x, h, j, v, hj => by
    have := fefl_get r k x (by simpa using h) j v hj
    show (feL y ++ fefl r)[(k + 1) * 3 + j]? = some v
    rw [List.getElem?_append_right (by rw [feL_len]; omega), feL_len, show (k + 1) * 3 + j - 3 = k * 3 + j from by omega]
    exact this
/-- a row of files of one's own, their bytes too -/
def OwnFe (w : World) (base : Nat) (v : Value) (X : List (Fe × Value)) : Prop := w.ownsRow base 49 3 v X.length (fefl X) ∧ ∀ p ∈ X, Own w base p.2 p.1.l
theorem OwnFe.keep {w w' : World} {base : Nat} {v : Value} {X : List (Fe × Value)} (h : OwnFe w base v X) (hb : Below w.heap.size w w') : OwnFe w' base v X := ⟨ownRow_keep h.1 hb, fun p hp => (h.2 p hp).keep' hb⟩
theorem OwnFe.files {w : World} {base : Nat} {a : Option Addr} {m c : Nat} {X : List (Fe × Value)} (h : OwnFe w base (.slice a m c) X) (hn : ∀ p ∈ X, p.1.name.length ≤ 281474976710656 ∧ p.1.l.length ≤ 140737488351232 ∧ inI p.1.s) : FilesAt w a X := by
  have hby : ∀ p ∈ X, ∃ a2 c2, p.2 = .slice a2 p.1.l.length c2 ∧ Bytes w a2 p.1.l ∧ p.1.l.length ≤ c2 ∧ (a2 = none → c2 = 0) := fun p hp => by
    obtain ⟨A, C, e, h1, h2, h3⟩ := (h.2 p hp).ready
    exact ⟨A, C, e, h1, h2, h3⟩
  refine ⟨⟨?_, fun p hp => ?_⟩, hby⟩
  · rcases h.1.2 with ⟨h1, h2⟩ | ⟨g, cap, cur, h1, h3, h4, h5⟩
    · exact .inl (List.length_eq_zero_iff.1 h2)
    · injection h1 with e1 e2 e3
      refine .inr ⟨g, 0, e1, lt_of_heap h4, fun k p hp j v hj => ?_⟩
      have hg := h.1
      rw [e1, e2] at hg
      have h9 := fefl_get X k p hp j v hj
      have hkl : k * 3 + j < X.length * 3 := by
        have h1 := (List.getElem?_eq_some_iff.1 hp).1
        have h2 := (List.getElem?_eq_some_iff.1 hj).1
        rw [show [Value.string (bs p.1.name), p.2, Value.int .i64 p.1.s].length = 3 from rfl] at h2
        omega
      have h8 := hg.cellAt (k * 3 + j) hkl
      rw [Nat.zero_add]
      exact h8.trans h9
  · obtain ⟨a2, c2, h1, h2, _⟩ := hby p hp
    exact ⟨⟨a2, c2, h1, h2⟩, hn p hp⟩
theorem copy_m (l : List Nat) (m : Nat) (hm : l.length = m) (a : Option Addr) (cap : Nat) (w : World) (hb : Bytes w a l) (hl : (m : Int) ≤ 140737488351232) :
    Calls Try.prog 29 #[.slice a m cap] w fun e w' => ∃ v, e = .returned v ∧ Own w' w.heap.size v l ∧ Below w.heap.size w w' := by
  subst hm
  exact copy_any l a cap w hb (by omega)
/-- k files are copied -/
structure CpR (w wr : World) (Y : List (Fe × Value)) (k : Nat) (v : Value) (X : List (Fe × Value)) : Prop where
  im : OwnFe wr w.heap.size v X
  len : X.length = k
  ab : X.map Prod.fst = (Y.map Prod.fst).take k
  low : Below w.heap.size w wr
theorem cp_step {w wr x5 x6 : World} {Y : List (Fe × Value)} {k : Nat} {v v6 v4 v0 : Value} {X : List (Fe × Value)} {nm : List UInt8} {fl : List Nat} {s : Int} (h : CpR w wr Y k v X) (hb : Below wr.heap.size wr x5) (hf : Y[k]? = some (⟨nm, fl, s⟩, v0)) (ho : Own x5 w.heap.size v4 fl)
    (hr : x6.ownsRow w.heap.size 49 3 v6 (k + 1) (fefl X ++ [.string (bs nm), v4, .int .i64 s])) (hg : x5.grownBy x6 v.ownBlock) : CpR w x6 Y (k + 1) v6 (X ++ [(⟨nm, fl, s⟩, v4)]) := by
  have h5 := h.im.keep hb
  have hne : ∀ (u : Value) (l : List Nat), Own x5 w.heap.size u l → ∀ g, u.ownBlock = some g → v.ownBlock ≠ some g := by
    intro u l hu g h1 h2
    obtain ⟨c1, e1⟩ := own_type hu h1
    obtain ⟨c2, e2⟩ := row_type h5.1 h2
    rw [e1] at e2
    injection e2 with e3
    injection e3 with _ e4
    cases e4
  refine ⟨⟨?_, fun p hp => ?_⟩, ?_, ?_, ?_⟩
  · rw [List.length_append, h.len, fefl_app]
    exact hr
  · rcases List.mem_append.1 hp with h1 | h1
    · exact own_grown (h5.2 p h1) hg (hne _ _ (h5.2 p h1))
    · rw [List.mem_singleton.1 h1]
      exact own_grown (l := fl) ho hg (hne _ _ ho)
  · rw [List.length_append, h.len]; rfl
  · rw [List.map_append, h.ab]
    have hkl : k < (Y.map Prod.fst).length := by rw [List.length_map]; exact (List.getElem?_eq_some_iff.1 hf).1
    rw [List.take_succ_eq_append_getElem hkl, List.getElem_map, (List.getElem?_eq_some_iff.1 hf).2]
    rfl
  · exact (h.low.trans (hb.mono h.low.size)).grown hg (Nat.le_trans h.low.size hb.size) (fun j hj => (h5.1.lt j hj).1)
set_option maxRecDepth 100000 in
set_option maxHeartbeats 8000000 in
theorem copy_files (w : World) (Y : List (Fe × Value)) (ad : Option Addr) (n C : Nat) (hn : Y.length = n) (hY : FilesAt w ad Y) (hnl : (n : Int) * 48 ≤ 140737488351232) :
    Calls Try.prog 20 #[.slice ad n C] w fun r w' => ∃ a c X, r = .returned (.slice a n c) ∧ OwnFe w' w.heap.size (.slice a n c) X ∧ X.map Prod.fst = Y.map Prod.fst ∧ Below w.heap.size w w' := by
  obtain ⟨i0, hi, hz0, hz1, hz2⟩ := info_parts Try.infoFl
  have hn0 : (0 : Int) ≤ (n : Int) := by omega
  have HN : Hid (Y.length = n) := hn
  have HY : Hid (FilesAt w ad Y) := hY
  have HR1 : Hid (CpR w (w.alloc (.cells #[] 49)) Y 0 (.slice (some ⟨w.heap.size, 0, none⟩) 0 0) []) := ⟨⟨World.ownsRow_lit w #[] 0 (Nat.le_refl _) (by simp) rfl, fun p hp => by cases hp⟩, rfl, rfl, (Below.refl _ _).alloc (Nat.le_refl _) _⟩
  clear hn hY
  go_enter Try.func20, Try.ntmps20
  go_wp2
  go_loopw [3, 8] (fun v3 v8 wr => ∃ (k : Nat) (X : List (Fe × Value)) (g3 : Option Addr) (c3 : Nat), v8 = .int .i64 (k : Int) ∧ v3 = .slice g3 k c3 ∧ k ≤ n ∧ Hid (CpR w wr Y k (.slice g3 k c3) X)) (fun _ v8 _ => n - (intOf v8).toNat)
  case atStart => exact ⟨0, [], _, _, rfl, rfl, Nat.zero_le _, HR1.out⟩
  case round =>
    obtain ⟨k, X, g3, c3, rfl, rfl, hk, HRR⟩ := hrel
    by_cases hkn : k < n
    · obtain ⟨⟨⟨nm, fl, s⟩, v0⟩, hp⟩ : ∃ p, Y[k]? = some p := ⟨_, List.getElem?_eq_getElem (by rw [HN.out]; exact hkn)⟩
      obtain ⟨a, c, e0, hby, hc1, hc2⟩ := HY.out.byt _ (List.mem_of_getElem? hp)
      simp only at e0 hby hc1
      subst e0
      have hb := HY.out.fe.byt _ (List.mem_of_getElem? hp)
      obtain ⟨m, hm⟩ : ∃ m, fl.length = m := ⟨_, rfl⟩
      have HM2 : Hid (fl.length = m) := hm
      have hmI : (m : Int) ≤ 140737488351232 := by have := hb.2.2.1; simp only at this; omega
      obtain ⟨b0, off, rfl, hb0, hrg⟩ : ∃ b0 off, ad = some ⟨b0, off, none⟩ ∧ b0 < w.heap.size ∧ w.rangeAt b0 (off + k * 3) [.string (bs nm), .slice a fl.length c, .int .i64 s] := by
        rcases HY.out.fe.lie with h1 | ⟨b0, off, h1, h2, h3⟩
        · rw [h1] at hp; simp at hp
        · exact ⟨b0, off, h1, h2, h3 k _ hp⟩
      rw [hm] at hrg
      have HFR : Hid (∀ y : World, Below w.heap.size w y → FrAt y b0 (off + k * 3) nm (.slice a m c) s) := fun y hy =>
        ⟨(hy.cell (p := ⟨b0, off + k * 3, none⟩) hb0).trans (hrg 0 _ rfl), (hy.cell (p := ⟨b0, off + k * 3 + 1, none⟩) hb0).trans (hrg 1 _ rfl), (hy.cell (p := ⟨b0, off + k * 3 + 2, none⟩) hb0).trans (hrg 2 _ rfl)⟩
      have HBY : Hid (Bytes wr a fl) := hby.keep HRR.out.low
      rw [hm] at hp
      have HPY : Hid (Y[k]? = some (⟨nm, fl, s⟩, .slice a m c)) := hp
      have hkI : (k : Int) < (n : Int) := by omega
      have hk0 : (0 : Int) ≤ (k : Int) := by omega
      clear hp hby hc1 hc2 hb hm hrg
      go_wp2
      refine wp_region_held (S := (fun y => FrAt y b0 (off + k * 3) nm (.slice a m c) s)) (by kernel_rfl) ?_
      change wpAnyH _ _ _ _ _ _ _ _ (World.drew _)
      obtain ⟨xd, hxd⟩ : ∃ xd, wr.drew = xd := ⟨_, rfl⟩
      have HB3D : Hid (Below wr.heap.size wr xd) := by rw [← hxd]; exact ((Below.refl _ wr).drew)
      have HP3 : Hid (FrAt xd b0 (off + k * 3) nm (.slice a m c) s) := HFR.out xd (HRR.out.low.trans (HB3D.out.mono HRR.out.low.size))
      rw [hxd]
      clear hxd
      refine wpAnyH_take (i := 0) (oi := { dst := some 11, op := Op.move (Operand.tmp 3), type := 26, pos := "ref.go:271", after := #[], guard := none }) (v := ?_) rfl (by kernel_rfl) (by kernel_rfl) (by kernel_rfl) (fun _ _ _ h => h) (Or.inl ⟨by rfl, ?_⟩) HP3.out ?_
      rotate_left
      · (intro y hy; go_simp; try (with_reducible rfl))
      simp only [Act.put, List.setIfInBounds_toArray, List.set_cons_zero, List.set_cons_succ]
      refine wpAnyH_take (i := 1) (oi := { dst := some 12, op := Op.move (Operand.tmp 0), type := 26, pos := "ref.go:271", after := #[], guard := none }) (v := ?_) rfl (by kernel_rfl) (by kernel_rfl) (by kernel_rfl) (fun _ _ _ h => h) (Or.inl ⟨by rfl, ?_⟩) HP3.out ?_
      rotate_left
      · (intro y hy; go_simp; try (with_reducible rfl))
      simp only [Act.put, List.setIfInBounds_toArray, List.set_cons_zero, List.set_cons_succ]
      refine wpAnyH_take (i := 2) (oi := { dst := some 13, op := Op.move (Operand.tmp 4), type := 3, pos := "ref.go:271", after := #[], guard := none }) (v := ?_) rfl (by kernel_rfl) (by kernel_rfl) (by kernel_rfl) (fun _ _ _ h => h) (Or.inl ⟨by rfl, ?_⟩) HP3.out ?_
      rotate_left
      · (intro y hy; go_simp; try (with_reducible rfl))
      simp only [Act.put, List.setIfInBounds_toArray, List.set_cons_zero, List.set_cons_succ]
      refine wpAnyH_take (i := 3) (oi := { dst := some 14, op := Op.indexAddr 26 (Operand.tmp 12) (Operand.tmp 13), type := 0, pos := "ref.go:271", after := #[{ on := 1, ground := Ground.data }, { on := 2, ground := Ground.data }], guard := none }) (v := ?_) rfl (by kernel_rfl) (by kernel_rfl) (by kernel_rfl) (fun _ _ _ h => h) (Or.inl ⟨by rfl, ?_⟩) HP3.out ?_
      rotate_left
      · (intro y hy; go_simp; try (with_reducible rfl))
      simp only [Act.put, List.setIfInBounds_toArray, List.set_cons_zero, List.set_cons_succ]
      refine wpAnyH_take (i := 4) (oi := { dst := some 15, op := Op.fieldAddr 49 (Operand.tmp 14) 0, type := 0, pos := "ref.go:271", after := #[{ on := 3, ground := Ground.data }], guard := none }) (v := ?_) rfl (by kernel_rfl) (by kernel_rfl) (by kernel_rfl) (fun _ _ _ h => h) (Or.inl ⟨by rfl, ?_⟩) HP3.out ?_
      rotate_left
      · (intro y hy; go_simp; try (with_reducible rfl))
      simp only [Act.put, List.setIfInBounds_toArray, List.set_cons_zero, List.set_cons_succ]
      refine wpAnyH_take (i := 5) (oi := { dst := some 16, op := Op.load 9 (Operand.tmp 15), type := 9, pos := "ref.go:271", after := #[{ on := 4, ground := Ground.data }], guard := none }) (v := .string (bs nm)) rfl (by kernel_rfl) (by kernel_rfl) (by kernel_rfl) (fun _ _ _ h => h) (Or.inl ⟨by rfl, ?_⟩) HP3.out ?_
      · (intro y hy; have h0 := hy.1; go_simp)
      simp only [Act.put, List.setIfInBounds_toArray, List.set_cons_zero, List.set_cons_succ]
      refine wpAnyH_take (i := 6) (oi := { dst := some 17, op := Op.move (Operand.tmp 0), type := 26, pos := "ref.go:271", after := #[], guard := none }) (v := ?_) rfl (by kernel_rfl) (by kernel_rfl) (by kernel_rfl) (fun _ _ _ h => h) (Or.inl ⟨by rfl, ?_⟩) HP3.out ?_
      rotate_left
      · (intro y hy; go_simp; try (with_reducible rfl))
      simp only [Act.put, List.setIfInBounds_toArray, List.set_cons_zero, List.set_cons_succ]
      refine wpAnyH_take (i := 7) (oi := { dst := some 18, op := Op.move (Operand.tmp 4), type := 3, pos := "ref.go:271", after := #[], guard := none }) (v := ?_) rfl (by kernel_rfl) (by kernel_rfl) (by kernel_rfl) (fun _ _ _ h => h) (Or.inl ⟨by rfl, ?_⟩) HP3.out ?_
      rotate_left
      · (intro y hy; go_simp; try (with_reducible rfl))
      simp only [Act.put, List.setIfInBounds_toArray, List.set_cons_zero, List.set_cons_succ]
      refine wpAnyH_take (i := 8) (oi := { dst := some 19, op := Op.indexAddr 26 (Operand.tmp 17) (Operand.tmp 18), type := 0, pos := "ref.go:271", after := #[{ on := 6, ground := Ground.data }, { on := 7, ground := Ground.data }], guard := none }) (v := ?_) rfl (by kernel_rfl) (by kernel_rfl) (by kernel_rfl) (fun _ _ _ h => h) (Or.inl ⟨by rfl, ?_⟩) HP3.out ?_
      rotate_left
      · (intro y hy; go_simp; try (with_reducible rfl))
      simp only [Act.put, List.setIfInBounds_toArray, List.set_cons_zero, List.set_cons_succ]
      refine wpAnyH_take (i := 9) (oi := { dst := some 20, op := Op.fieldAddr 49 (Operand.tmp 19) 1, type := 0, pos := "ref.go:271", after := #[{ on := 8, ground := Ground.data }], guard := none }) (v := ?_) rfl (by kernel_rfl) (by kernel_rfl) (by kernel_rfl) (fun _ _ _ h => h) (Or.inl ⟨by rfl, ?_⟩) HP3.out ?_
      rotate_left
      · (intro y hy; go_simp; try (with_reducible rfl))
      simp only [Act.put, List.setIfInBounds_toArray, List.set_cons_zero, List.set_cons_succ]
      refine wpAnyH_take (i := 10) (oi := { dst := some 21, op := Op.load 31 (Operand.tmp 20), type := 31, pos := "ref.go:271", after := #[{ on := 9, ground := Ground.data }], guard := none }) (v := .slice a m c) rfl (by kernel_rfl) (by kernel_rfl) (by kernel_rfl) (fun _ _ _ h => h) (Or.inl ⟨by rfl, ?_⟩) HP3.out ?_
      · (intro y hy; have h0 := hy.2.1; go_simp)
      simp only [Act.put, List.setIfInBounds_toArray, List.set_cons_zero, List.set_cons_succ]
      refine wpAnyH_take (i := 12) (oi := { dst := some 23, op := Op.move (Operand.tmp 0), type := 26, pos := "ref.go:271", after := #[], guard := none }) (v := ?_) rfl (by kernel_rfl) (by kernel_rfl) (by kernel_rfl) (fun _ _ _ h => h) (Or.inl ⟨by rfl, ?_⟩) HP3.out ?_
      rotate_left
      · (intro y hy; go_simp; try (with_reducible rfl))
      simp only [Act.put, List.setIfInBounds_toArray, List.set_cons_zero, List.set_cons_succ]
      refine wpAnyH_take (i := 13) (oi := { dst := some 24, op := Op.move (Operand.tmp 4), type := 3, pos := "ref.go:271", after := #[], guard := none }) (v := ?_) rfl (by kernel_rfl) (by kernel_rfl) (by kernel_rfl) (fun _ _ _ h => h) (Or.inl ⟨by rfl, ?_⟩) HP3.out ?_
      rotate_left
      · (intro y hy; go_simp; try (with_reducible rfl))
      simp only [Act.put, List.setIfInBounds_toArray, List.set_cons_zero, List.set_cons_succ]
      refine wpAnyH_take (i := 14) (oi := { dst := some 25, op := Op.indexAddr 26 (Operand.tmp 23) (Operand.tmp 24), type := 0, pos := "ref.go:271", after := #[{ on := 12, ground := Ground.data }, { on := 13, ground := Ground.data }], guard := none }) (v := ?_) rfl (by kernel_rfl) (by kernel_rfl) (by kernel_rfl) (fun _ _ _ h => h) (Or.inl ⟨by rfl, ?_⟩) HP3.out ?_
      rotate_left
      · (intro y hy; go_simp; try (with_reducible rfl))
      simp only [Act.put, List.setIfInBounds_toArray, List.set_cons_zero, List.set_cons_succ]
      refine wpAnyH_take (i := 15) (oi := { dst := some 26, op := Op.fieldAddr 49 (Operand.tmp 25) 2, type := 0, pos := "ref.go:271", after := #[{ on := 14, ground := Ground.data }], guard := none }) (v := ?_) rfl (by kernel_rfl) (by kernel_rfl) (by kernel_rfl) (fun _ _ _ h => h) (Or.inl ⟨by rfl, ?_⟩) HP3.out ?_
      rotate_left
      · (intro y hy; go_simp; try (with_reducible rfl))
      simp only [Act.put, List.setIfInBounds_toArray, List.set_cons_zero, List.set_cons_succ]
      refine wpAnyH_take (i := 16) (oi := { dst := some 27, op := Op.load 3 (Operand.tmp 26), type := 3, pos := "ref.go:271", after := #[{ on := 15, ground := Ground.data }], guard := none }) (v := .int .i64 s) rfl (by kernel_rfl) (by kernel_rfl) (by kernel_rfl) (fun _ _ _ h => h) (Or.inl ⟨by rfl, ?_⟩) HP3.out ?_
      · (intro y hy; have h0 := hy.2.2; go_simp)
      simp only [Act.put, List.setIfInBounds_toArray, List.set_cons_zero, List.set_cons_succ]
      refine wpAnyH_ready (rs := [11]) (by kernel_rfl) (by simp) ?_
      refine AllReadyH.cons (o := { dst := some 22, op := Op.call { callee := Callee.value (Operand.func 29), args := #[Operand.tmp 21], argTypes := #[31] }, type := 31, pos := "ref.go:271", after := #[{ on := 10, ground := Ground.data }], guard := none }) rfl (fun K hK => ?_) AllReadyH.nil
      go_simp
      refine (copy_m fl m HM2.out a c _ (HBY.out.keep HB3D.out) hmI).mono ?_
      rintro _ x4 ⟨v40, rfl, ho4, hb4⟩
      obtain ⟨a4, c4, hv4⟩ : ∃ a4 c4, v40 = .slice a4 m c4 := by obtain ⟨a4, c4, e4⟩ := row_shape ho4.2; exact ⟨a4, c4, by rw [e4, HM2.out]⟩
      subst hv4
      have HO4 : Hid (Own x4 w.heap.size (.slice a4 m c4) fl) := ho4.lower (Nat.le_trans HRR.out.low.size HB3D.out.size)
      have HB4 : Hid (Below wr.heap.size wr x4) := HB3D.out.trans (hb4.mono HB3D.out.size)
      have HP4 : Hid (FrAt x4 b0 (off + k * 3) nm (.slice a m c) s) := HFR.out x4 (HRR.out.low.trans (HB4.out.mono HRR.out.low.size))
      have H1 : Hid ((Value.slice a4 m c4).oneCell' = true) := own_one ho4
      clear ho4 hb4
      (refine hK _ _ HP4.out ?_; clear hK K; intro _)
      try simp only [Act.put, List.setIfInBounds_toArray, List.set_cons_zero, List.set_cons_succ]
      refine wpAnyH_take (i := 17) (oi := { dst := some 28, op := Op.build 49 #[(0, Operand.tmp 16), (1, Operand.tmp 22), (2, Operand.tmp 27)], type := 49, pos := "ref.go:271", after := #[{ on := 5, ground := Ground.data }, { on := 11, ground := Ground.data }, { on := 16, ground := Ground.data }], guard := none }) (v := ?_) rfl (by kernel_rfl) (by kernel_rfl) (by kernel_rfl) (fun _ _ _ h => h) (Or.inl ⟨by rfl, ?_⟩) HP4.out ?_
      rotate_left
      · (intro y hy; go_simp; try (with_reducible rfl))
      simp only [Act.put, List.setIfInBounds_toArray, List.set_cons_zero, List.set_cons_succ]
      refine wpAnyH_ready (rs := [18]) (by kernel_rfl) (by simp) ?_
      refine AllReadyH.cons (o := { dst := some 29, op := Op.buildSlice 26 1 #[(0, Operand.tmp 28)], type := 26, pos := "ref.go:271", after := #[{ on := 17, ground := Ground.data }], guard := none }) rfl (fun K hK => ?_) AllReadyH.nil
      go_simp
      have hn5 := heap_alloc_new x4 (.cells #[.string (bs nm), .slice a4 m c4, .int .i64 s] 49)
      obtain ⟨x5, hx5⟩ : ∃ x5, x4.alloc (.cells #[.string (bs nm), .slice a4 m c4, .int .i64 s] 49) = x5 := ⟨_, rfl⟩
      rw [hx5]
      have hb5 : Below x4.heap.size x4 x5 := by rw [← hx5]; exact (Below.refl _ _).alloc (Nat.le_refl _) _
      have HN5 : Hid (x5.heap[x4.heap.size]? = some (.cells #[.string (bs nm), .slice a4 m c4, .int .i64 s] 49)) := by rw [← hx5]; exact hn5
      have HB5 : Hid (Below wr.heap.size wr x5) := HB4.out.trans (hb5.mono HB4.out.size)
      have HO5 : Hid (Own x5 w.heap.size (.slice a4 m c4) fl) := HO4.out.keep' hb5
      have HP5 : Hid (FrAt x5 b0 (off + k * 3) nm (.slice a m c) s) := HFR.out x5 (HRR.out.low.trans (HB5.out.mono HRR.out.low.size))
      clear hx5 hb5 hn5
      (refine hK _ _ HP5.out ?_; clear hK K; intro _)
      try simp only [Act.put, List.setIfInBounds_toArray, List.set_cons_zero, List.set_cons_succ]
      refine wpAnyH_ready (rs := [19]) (by kernel_rfl) (by simp) ?_
      refine AllReadyH.cons (o := { dst := some 30, op := Op.call { callee := Callee.builtin Builtin.append, args := #[Operand.tmp 11, Operand.tmp 29], argTypes := #[26, 26] }, type := 26, pos := "ref.go:271", after := #[{ on := 0, ground := Ground.data }, { on := 18, ground := Ground.data }, { on := 11, ground := Ground.chain }], guard := none }) rfl (fun K hK => ?_) AllReadyH.nil
      refine step_append_own rfl _ _ _ rfl w.heap.size 49 i0 zF 3 48 Try.underlying26 hi hz0 hz1 hz2 rfl (by decide) (.slice g3 k c3) k (fefl X) rfl (by have h9 := (HRR.out.im.keep HB5.out).1; rw [HRR.out.len] at h9; exact h9) ⟨x4.heap.size, 0, none⟩ 1 1 [.string (bs nm), .slice a4 m c4, .int .i64 s] rfl rfl (im_cells HN5.out) (im_one H1.out) (by unfold maxLen; omega) (by omega) (Nat.le_trans HRR.out.low.size HB5.out.size) ?_
      intro v6 x6 ho6 hg6 hn6
      have HIM : Hid (CpR w x6 Y (k + 1) v6 (X ++ [(⟨nm, fl, s⟩, .slice a4 m c4)])) := cp_step HRR.out HB5.out HPY.out HO5.out ho6 hg6
      have HP6 : Hid (FrAt x6 b0 (off + k * 3) nm (.slice a m c) s) := HFR.out x6 HIM.out.low
      obtain ⟨g6, c6, hv6⟩ : ∃ g6 c6, v6 = .slice g6 (k + 1) c6 := row_shape ho6
      subst hv6
      clear ho6 hg6 hn6
      (refine hK _ _ HP6.out ?_; clear hK K; intro _)
      try simp only [Act.put, List.setIfInBounds_toArray, List.set_cons_zero, List.set_cons_succ]
      refine wpAnyH_ready (rs := [20]) (by kernel_rfl) (by simp) ?_
      refine AllReadyH.cons (o := { dst := some 3, op := Op.assign (Operand.tmp 30), type := 26, pos := "ref.go:271", after := #[{ on := 19, ground := Ground.data }, { on := 19, ground := Ground.chain }, { on := 0, ground := Ground.phase }, { on := 1, ground := Ground.phase }, { on := 2, ground := Ground.phase }, { on := 3, ground := Ground.phase }, { on := 4, ground := Ground.phase }, { on := 5, ground := Ground.phase }, { on := 6, ground := Ground.phase }, { on := 7, ground := Ground.phase }, { on := 8, ground := Ground.phase }, { on := 9, ground := Ground.phase }, { on := 10, ground := Ground.phase }, { on := 11, ground := Ground.phase }, { on := 12, ground := Ground.phase }, { on := 13, ground := Ground.phase }, { on := 14, ground := Ground.phase }, { on := 15, ground := Ground.phase }, { on := 16, ground := Ground.phase }, { on := 17, ground := Ground.phase }, { on := 18, ground := Ground.phase }, { on := 19, ground := Ground.phase }], guard := none }) rfl (fun K hK => ?_) AllReadyH.nil
      go_simp
      (refine hK _ _ HP6.out ?_; clear hK K; intro _)
      try simp only [Act.put, List.setIfInBounds_toArray, List.set_cons_zero, List.set_cons_succ]
      refine wpAnyH_done (by kernel_rfl) ?_ _
      go_wp2
      go_roundw
      case rel => exact ⟨k + 1, X ++ [(⟨nm, fl, s⟩, .slice a4 m c4)], g6, c6, by go_num, rfl, by omega, HIM⟩
      case measure => simp [intOf]; omega
    · obtain rfl : k = n := by omega
      have HFIN : Hid (X.map Prod.fst = Y.map Prod.fst) := by
        show _ = _
        rw [HRR.out.ab]
        exact List.take_of_length_le (by rw [List.length_map, HN.out]; exact Nat.le_refl _)
      clear hkn hk
      go_wp2
      go_ret
      exact ⟨_, _, X, rfl, HRR.out.im, HFIN.out, HRR.out.low⟩
end Go.Proofs.Ytlnhhgmdajbepaa
namespace Go.Proofs.Ytlnhhgmdajbepaa
open Go.ChangeShapes Go.WideShapes Go.ChangeAt Go.RowKit Go.Deep
set_option linter.unusedVariables false
def PzB (w : World) (a : Option Addr) (n : Nat) (A : Nat → Option Addr) (L : Nat → List Nat) (C : Nat → Nat) : Prop :=
  (n = 0 ∨ ∃ b off, a = some ⟨b, off, none⟩ ∧ b < w.heap.size ∧ ∀ r, r < n → w.cell? ⟨b, off + r, none⟩ = some (.slice (A r) (L r).length (C r))) ∧ ∀ r, r < n → Bytes w (A r) (L r) ∧ (L r).length ≤ C r ∧ (A r = none → C r = 0) ∧ (L r).length ≤ 140737488351232
def PzI (w : World) (a : Option Addr) (n : Nat) (A : Nat → Option Addr) (L : Nat → List Int) (C : Nat → Nat) : Prop :=
  (n = 0 ∨ ∃ b off, a = some ⟨b, off, none⟩ ∧ b < w.heap.size ∧ ∀ r, r < n → w.cell? ⟨b, off + r, none⟩ = some (.slice (A r) (L r).length (C r))) ∧ ∀ r, r < n → Ints w (A r) (L r) ∧ (L r).length ≤ C r ∧ (A r = none → C r = 0) ∧ (L r).length * 8 ≤ 140737488351232
theorem PzB.keep {w w' : World} {a : Option Addr} {n : Nat} {A : Nat → Option Addr} {L : Nat → List Nat} {C : Nat → Nat} (h : PzB w a n A L C) (hb : Below w.heap.size w w') : PzB w' a n A L C := by
  refine ⟨?_, fun r hr => ⟨(h.2 r hr).1.keep hb, (h.2 r hr).2⟩⟩
  rcases h.1 with h | ⟨b, off, rfl, hlt, hc⟩
  · exact .inl h
  · exact .inr ⟨b, off, rfl, Nat.lt_of_lt_of_le hlt hb.size, fun i hi => (hb.cell (p := ⟨b, off + i, none⟩) hlt).trans (hc i hi)⟩
theorem PzI.keep {w w' : World} {a : Option Addr} {n : Nat} {A : Nat → Option Addr} {L : Nat → List Int} {C : Nat → Nat} (h : PzI w a n A L C) (hb : Below w.heap.size w w') : PzI w' a n A L C := by
  refine ⟨?_, fun r hr => ⟨(h.2 r hr).1.keep hb, (h.2 r hr).2⟩⟩
  rcases h.1 with h | ⟨b, off, rfl, hlt, hc⟩
  · exact .inl h
  · exact .inr ⟨b, off, rfl, Nat.lt_of_lt_of_le hlt hb.size, fun i hi => (hb.cell (p := ⟨b, off + i, none⟩) hlt).trans (hc i hi)⟩
theorem rows_at {W : World} {x : Addr} {len : Nat} {A : Nat → Option Addr} {L C : Nat → Nat} (h : ∀ r, r < len → W.cell? (x.add r) = some (.slice (A r) (L r) (C r))) : len = 0 ∨ ∃ b off, some x = some (⟨b, off, none⟩ : Addr) ∧ b < W.heap.size ∧ ∀ r, r < len → W.cell? ⟨b, off + r, none⟩ = some (.slice (A r) (L r) (C r)) := by
  by_cases h0 : len = 0
  · exact .inl h0
  · right
    obtain ⟨b, off, spot⟩ := x
    have hc0 := h 0 (by omega)
    have hspot : spot = none := by simpa [Addr.add] using World.cell?_spot hc0
    subst hspot
    refine ⟨b, off, rfl, World.block_lt_of_cell? _ _ hc0, fun r hr => ?_⟩
    have := h r hr
    rw [show (⟨b, off, none⟩ : Addr).add r = ⟨b, off + r, none⟩ from by simp [Addr.add]] at this
    exact this
section
variable {H : Type}
theorem sized_rows {ts : List TypeId} {ds : List (DataW H)} (h : (DataW.weightsEach Try.prog ts ds).all (· ≤ reachBytes) = true) {j len : Nat} {T E q : TypeId} {k : IntKind} {A : Nat → Option Addr} {L C : Nat → Nat} {Z : Nat → List Int} {sp : List (DataW H)} (ht : ts[j]? = some T)
    (hd : ds[j]? = some (.slice ((List.range len).map fun r => intRow k (A r) (L r) (Z r)) sp)) (hu : Try.prog.underlying T = some (.slice E)) (hE : Try.prog.underlying E = some (.slice q)) (hZ : ∀ r, r < len → (Z r).length = C r ∧ (A r = none → C r = 0) ∧ L r ≤ C r) : ∀ r, r < len → C r * Try.prog.bytesOf q ≤ reachBytes := by
  intro r hr
  obtain ⟨z1, z2, z3⟩ := hZ r hr
  cases hA : A r with
  | none => rw [z2 hA]; simp
  | some a =>
    have hm : intRow (H := H) k (A r) (L r) (Z r) ∈ (List.range len).map (fun r => intRow (H := H) k (A r) (L r) (Z r)) := List.mem_map.2 ⟨r, List.mem_range.2 hr, rfl⟩
    have hw : C r * Try.prog.bytesOf q ∈ (intRow (H := H) k (A r) (L r) (Z r)).weights Try.prog E := by
      rw [hA]
      simp only [intRow, DataW.weights, hE, lits, List.length_map, List.length_take, List.length_drop]
      rw [show min (L r) (Z r).length + ((Z r).length - L r) = C r from by rw [z1]; omega]
      simp
    have := List.all_eq_true.1 h _ (DataW.weights_mem_each ht hd _ (by
      simp only [DataW.weights, hu, List.mem_cons, List.mem_append]
      exact .inr (.inl (weights_all_memO hm _ hw))))
    exact of_decide_eq_true this
end
theorem pzb_of {W : World} (x : Addr) (len cap : Nat) (A : Nat → Option Addr) (L C : Nat → Nat) (Z : Nat → List Int) (hl : len ≤ cap) (hsz : ∀ r, r < len → C r * 1 ≤ reachBytes)
    (hr : ∀ r, r < cap → W.cell? (x.add r) = some (.slice (A r) (L r) (C r)) ∧ L r ≤ C r ∧ C r ≤ maxLen ∧ (Z r).length = C r ∧ (∀ n ∈ Z r, (Lit.int .u8 n).wf = true) ∧ (A r = none → C r = 0) ∧
        ∀ a', A r = some a' → 0 ≤ a'.block ∧ ∀ c, c < C r → W.cell? (a'.add c) = some (.int .u8 ((Z r).getD c 0))) :
    ∃ ll : Nat → List Nat, PzB W (some x) len A ll C := by
  have each : ∀ r, r < len → ∃ l : List Nat, l.length = L r ∧ Bytes W (A r) l := by
    intro r hlt
    obtain ⟨h1, h2, h3, h4, h5, h6, h7⟩ := hr r (by omega)
    cases hA : A r with
    | none =>
      have := h6 hA
      exact ⟨[], by simp; omega, by simp, .inl rfl⟩
    | some a' =>
      obtain ⟨_, hc⟩ := h7 a' hA
      obtain ⟨ll, e1, e2, e3⟩ := row_nats .u8 256 (by decide) wf_u8 W a' (Z r) (L r) (by omega) (by rw [h4]; exact hc) h5
      exact ⟨ll, e1, e2, e3⟩
  obtain ⟨ll, hll⟩ := choose_lt each
  refine ⟨ll, ?_, fun r h => ⟨(hll r h).2, by rw [(hll r h).1]; exact (hr r (by omega)).2.1, (hr r (by omega)).2.2.2.2.2.1, ?_⟩⟩
  · rcases rows_at (fun r h => (hr r (by omega : r < cap)).1) (len := len) with h | ⟨b, off, h1, h2, h3⟩
    · exact .inl h
    · exact .inr ⟨b, off, h1, h2, fun r h => by rw [h3 r h, (hll r h).1]⟩
  · have h1 := hsz r h
    have h2 := (hr r (by omega)).2.1
    rw [(hll r h).1]
    simp only [reachBytes] at h1
    omega
theorem pzi_of {W : World} (x : Addr) (len cap : Nat) (A : Nat → Option Addr) (L C : Nat → Nat) (Z : Nat → List Int) (hl : len ≤ cap) (hsz : ∀ r, r < len → C r * 8 ≤ reachBytes)
    (hr : ∀ r, r < cap → W.cell? (x.add r) = some (.slice (A r) (L r) (C r)) ∧ L r ≤ C r ∧ C r ≤ maxLen ∧ (Z r).length = C r ∧ (∀ n ∈ Z r, (Lit.int .i64 n).wf = true) ∧ (A r = none → C r = 0) ∧
        ∀ a', A r = some a' → 0 ≤ a'.block ∧ ∀ c, c < C r → W.cell? (a'.add c) = some (.int .i64 ((Z r).getD c 0))) :
    ∃ ll : Nat → List Int, PzI W (some x) len A ll C := by
  have each : ∀ r, r < len → ∃ l : List Int, l.length = L r ∧ Ints W (A r) l := by
    intro r hlt
    obtain ⟨h1, h2, h3, h4, h5, h6, h7⟩ := hr r (by omega)
    cases hA : A r with
    | none =>
      have := h6 hA
      exact ⟨[], by simp; omega, by simp, .inl rfl⟩
    | some a' =>
      obtain ⟨_, hc⟩ := h7 a' hA
      obtain ⟨ll, e1, e2, e3⟩ := row_ints W a' (Z r) (L r) (by omega) (by rw [h4]; exact hc) h5
      exact ⟨ll, e1, e2, e3⟩
  obtain ⟨ll, hll⟩ := choose_lt each
  refine ⟨ll, ?_, fun r h => ⟨(hll r h).2, by rw [(hll r h).1]; exact (hr r (by omega)).2.1, (hr r (by omega)).2.2.2.2.2.1, ?_⟩⟩
  · rcases rows_at (fun r h => (hr r (by omega : r < cap)).1) (len := len) with h | ⟨b, off, h1, h2, h3⟩
    · exact .inl h
    · exact .inr ⟨b, off, h1, h2, fun r h => by rw [h3 r h, (hll r h).1]⟩
  · have h1 := hsz r h
    have h2 := (hr r (by omega)).2.1
    rw [(hll r h).1]
    simp only [reachBytes] at h1
    omega
end Go.Proofs.Ytlnhhgmdajbepaa
