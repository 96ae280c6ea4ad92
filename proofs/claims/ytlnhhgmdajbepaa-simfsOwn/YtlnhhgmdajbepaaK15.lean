/- Own texts, joined: Fsi, Opn. -/
import Derived.Test.YtlnhhgmdajbepaaK13
import Derived.Test.YtlnhhgmdajbepaaK14
import Derived.Deep.Slices
import Derived.Deep.MidRow
import Derived.ChangeSame
import Derived.SizedLaws
import Derived.ChangeSlices
namespace Go.Proofs.Ytlnhhgmdajbepaa
open Go.ChangeShapes Go.WideShapes Go.ChangeAt Go.RowKit Go.Maps Go.Sort
set_option linter.unusedVariables false
set_option linter.unusedSimpArgs false
theorem step_append_own {P : Program} {w : World} {ops : Array Oper} {o : Oper} {a : Act} {K : Act → World → Prop} {Q : Exit → Act → World → Prop} {E : Prop} (hg : o.guard = none) (s x : Operand) (t : TypeId)
    (ho : o.op = .call { callee := .builtin .append, args := #[s, x], argTypes := #[t, t] })
    (base : Nat) (e : TypeId) (i : TypeInfo) (z : Value) (size bytes : Nat) (ht : P.underlying t = some (.slice e)) (hi : P.info? e = some i) (hz : i.zero = some z)
    (hsize : i.size = size) (hby : i.bytes = bytes) (hzs : z.cells.size = size) (hsz : 0 < size)
    (v : Value) (n : Nat) (xs : List Value) (hs : a.eval s = v) (hown : w.ownsRow base e size v n xs)
    (ad : Addr) (m c : Nat) (news : List Value) (hx : a.eval x = .slice (some ad) m c) (hl : news.length = m * size) (hnews : ∀ j u, news[j]? = some u → w.cell? (ad.add j) = some u) (h1 : ∀ u ∈ news, u.oneCell' = true)
    (h63 : n + m ≤ maxLen) (hbytes : (n + m) * bytes ≤ 140737488355328) (hbase : base ≤ w.heap.size)
    (h : ∀ v' w', w'.ownsRow base e size v' (n + m) (xs ++ news) → w.grownBy w' v.ownBlock → (v' = .slice none 0 0 ↔ v = .slice none 0 0 ∧ m = 0) → K (a.put o.dst v') w') :
    if Region.wanted o (yielded ops a.tmps) = true then Oper.wp P o a w K Q else E := by
  have hw : Region.wanted o (yielded ops a.tmps) = true := by simp [Region.wanted, hg]
  rw [if_pos hw]
  exact wp_append_own w s x t ho base e i z size bytes ht hi hz hsize hby hzs hsz v n xs hs hown ad m c news hx hl hnews h1 h63 hbytes hbase h
theorem own_one {w : World} {b : Nat} {v : Value} {l : List Nat} (h : Own w b v l) : v.oneCell' = true := by
  obtain ⟨A, C, e, _⟩ := h.ready
  rw [e]; cases A <;> rfl
theorem Own.keep' {w w' : World} {b : Nat} {v : Value} {l : List Nat} (h : Own w b v l) (hb : Below w.heap.size w w') : Own w' b v l := by
  refine ⟨h.1, h.2.1, ?_⟩
  rcases h.2.2 with h1 | ⟨g, cap, cur, h1, h2, h3, h4⟩
  · exact .inl h1
  · exact .inr ⟨g, cap, cur, h1, h2, (hb.block g (lt_of_heap h3)).trans h3, h4⟩
def imfl (X : List (Fa × Value)) : List Value := X.flatMap (fun p => [Value.string (bs p.1.name), p.2, Value.int .i64 (p.1.s : Int)])
theorem imfl_app (X Y : List (Fa × Value)) : imfl (X ++ Y) = imfl X ++ imfl Y := by unfold imfl; rw [List.flatMap_append]
theorem imfl_len (X : List (Fa × Value)) : (imfl X).length = X.length * 3 := by
  induction X with
  | nil => rfl
  | cons p r ih => simp only [imfl, List.flatMap_cons, List.length_append, List.length_cons, List.length_nil] at ih ⊢; omega
/-- a row of files of one's own, their bytes too -/
def OwnIm (w : World) (base : Nat) (v : Value) (X : List (Fa × Value)) : Prop := w.ownsRow base 49 3 v X.length (imfl X) ∧ ∀ p ∈ X, Own w base p.2 p.1.l
theorem ownRow_keep {w w' : World} {base e sz : Nat} {v : Value} {n : Nat} {xs : List Value} (h : w.ownsRow base e sz v n xs) (hb : Below w.heap.size w w') : w'.ownsRow base e sz v n xs := by
  refine ⟨h.1, ?_⟩
  rcases h.2 with h1 | ⟨g, cap, cur, h1, h2, h3, h4⟩
  · exact .inl h1
  · exact .inr ⟨g, cap, cur, h1, h2, (hb.block g (lt_of_heap h3)).trans h3, h4⟩
theorem OwnIm.keep {w w' : World} {base : Nat} {v : Value} {X : List (Fa × Value)} (h : OwnIm w base v X) (hb : Below w.heap.size w w') : OwnIm w' base v X := ⟨ownRow_keep h.1 hb, fun p hp => (h.2 p hp).keep' hb⟩
theorem im_cells {x : World} {k : Nat} {u v s : Value} (h : x.heap[k]? = some (.cells #[u, v, s] 49)) : ∀ j z, [u, v, s][j]? = some z → x.cell? ((⟨k, 0, none⟩ : Addr).add j) = some z := by
  intro j z hj
  rw [show (⟨k, 0, none⟩ : Addr).add j = ⟨k, j, none⟩ from by simp only [Addr.add, Nat.zero_add]; split <;> simp_all, cell_of_row _ _ j _ _ _ h, ← hj]
  simp
theorem im_one {v : Value} (h : v.oneCell' = true) {nm : List UInt8} {s : Int} : ∀ u ∈ [Value.string (bs nm), v, Value.int .i64 s], u.oneCell' = true := by
  intro u hu
  rcases List.mem_cons.1 hu with rfl | hu
  · rfl
  · rcases List.mem_cons.1 hu with rfl | hu
    · exact h
    · rw [List.mem_singleton.1 hu]; rfl
theorem Try.infoFl : (Try.prog.info? 49).map (fun i => (i.zero, i.size, i.bytes)) = some (some (.agg #[.string ⟨#[]⟩, .slice none 0 0, .int .i64 0]), 3, 48) := by kernel_rfl
abbrev zF : Value := .agg #[.string ⟨#[]⟩, .slice none 0 0, .int .i64 0]
theorem row_shape {w : World} {base e sz : Nat} {v : Value} {n : Nat} {xs : List Value} (h : w.ownsRow base e sz v n xs) : ∃ g c, v = .slice g n c := by
  rcases h.2 with ⟨h1, h2⟩ | ⟨g, cap, cur, h1, _⟩
  · exact ⟨none, 0, by rw [h1, h2]⟩
  · exact ⟨_, _, h1⟩
/-- k files are in the image -/
structure ImR (w wr : World) (D : Dk) (k : Nat) (v : Value) (X : List (Fa × Value)) (nv : Value) : Prop where
  im : OwnIm wr w.heap.size v X
  len : X.length = k
  ab : X.map Prod.fst = D.ab.fs.take k
  low : Below w.heap.size w wr
  row : OwnT wr w.heap.size nv (namesN D.fs)
theorem own_type {w : World} {b : Nat} {v : Value} {l : List Nat} (h : Own w b v l) {g : Nat} (hg : v.ownBlock = some g) : ∃ c, w.heap[g]? = some (.cells c 5) := by
  rcases h.2.2 with ⟨h1, _⟩ | ⟨g', cap, cur, h1, h2, h3, h4⟩
  · rw [h1] at hg; simp [Value.ownBlock] at hg
  · rw [h1] at hg
    have : g' = g := by simpa [Value.ownBlock] using hg
    subst this
    exact ⟨_, h3⟩
theorem row_type {w : World} {base e sz : Nat} {v : Value} {n : Nat} {xs : List Value} (h : w.ownsRow base e sz v n xs) {g : Nat} (hg : v.ownBlock = some g) : ∃ c, w.heap[g]? = some (.cells c e) := by
  rcases h.2 with ⟨h1, _⟩ | ⟨g', cap, cur, h1, h2, h3, h4⟩
  · rw [h1] at hg; simp [Value.ownBlock] at hg
  · rw [h1] at hg
    have : g' = g := by simpa [Value.ownBlock] using hg
    subst this
    exact ⟨_, h3⟩
theorem own_grown {x y : World} {b : Nat} {v u : Value} {l : List Nat} (h : Own x b u l) (hg : x.grownBy y v.ownBlock) (hne : ∀ g, u.ownBlock = some g → v.ownBlock ≠ some g) : Own y b u l := by
  refine ⟨h.1, h.2.1, ?_⟩
  rcases h.2.2 with h1 | ⟨g, cap, cur, h1, h2, h3, h4⟩
  · exact .inl h1
  · exact .inr ⟨g, cap, cur, h1, h2, (hg.block g (lt_of_heap h3) (fun e => hne g (by rw [h1]; rfl) e.symm)).trans h3, h4⟩
theorem im_step {w wr x5 x6 : World} {D : Dk} {k : Nat} {v v6 v4 nv : Value} {X : List (Fa × Value)} {f : Fi} {nm : List UInt8} {s : Nat} (h : ImR w wr D k v X nv) (hk : k < D.fs.length ∧ D.fs.length ≤ 700) (hb : Below wr.heap.size wr x5) (hf : D.ab.fs[k]? = some f.ab) (hn : f.name = nm ∧ f.s = s) (ho : Own x5 w.heap.size v4 f.l)
    (hr : x6.ownsRow w.heap.size 49 3 v6 (k + 1) (imfl X ++ [.string (bs nm), v4, .int .i64 (s : Int)])) (hg : x5.grownBy x6 v.ownBlock) : ImR w x6 D (k + 1) v6 (X ++ [(f.ab, v4)]) nv := by
  have h5 := h.im.keep hb
  have hne : ∀ (u : Value) (l : List Nat), Own x5 w.heap.size u l → ∀ g, u.ownBlock = some g → v.ownBlock ≠ some g := by
    intro u l hu g h1 h2
    obtain ⟨c1, e1⟩ := own_type hu h1
    obtain ⟨c2, e2⟩ := row_type h5.1 h2
    rw [e1] at e2
    injection e2 with e3
    injection e3 with _ e4
    cases e4
  refine ⟨⟨?_, fun p hp => ?_⟩, ?_, ?_, ?_, ?_⟩
  · rw [List.length_append, h.len, imfl_app]
    have : imfl [(f.ab, v4)] = [.string (bs nm), v4, .int .i64 (s : Int)] := by
      show [Value.string (bs f.name), v4, Value.int .i64 (f.s : Int)] = _
      rw [hn.1, hn.2]
    rw [this]
    exact hr
  · rcases List.mem_append.1 hp with h1 | h1
    · exact own_grown (h5.2 p h1) hg (hne _ _ (h5.2 p h1))
    · rw [List.mem_singleton.1 h1]
      exact own_grown (l := f.l) ho hg (hne _ _ ho)
  · rw [List.length_append, h.len]; rfl
  · rw [List.map_append, h.ab]
    have hkl : k < D.ab.fs.length := by have := List.getElem?_eq_some_iff.1 hf; exact this.1
    rw [List.take_succ_eq_append_getElem hkl]
    have := (List.getElem?_eq_some_iff.1 hf).2
    rw [this]
    rfl
  · exact (h.low.trans (hb.mono h.low.size)).grown hg (Nat.le_trans h.low.size hb.size) (fun j hj => (h5.1.lt j hj).1)
  · have h1 := h.row.keep hb
    refine ⟨h1.1, ?_⟩
    rcases h1.2 with h2 | ⟨g, cap, cur, h2, h3, h4, h6⟩
    · exact .inl h2
    · refine .inr ⟨g, cap, cur, h2, h3, (hg.block g (lt_of_heap h4) (fun e => ?_)).trans h4, h6⟩
      obtain ⟨c2, e2⟩ := row_type h5.1 e.symm
      rw [h4] at e2
      injection e2 with e3
      injection e3 with _ e4
      cases e4
set_option maxRecDepth 100000 in
set_option maxHeartbeats 8000000 in
theorem image_any (w : World) (base q b : Nat) (D : Dk) (h : DkAt w base q b D) (ho : DkOk D) :
    Calls Try.prog 24 #[.pointer (some ⟨q, 0, none⟩)] w fun r w' => ∃ v X, r = .returned v ∧ OwnIm w' w.heap.size v X ∧ X.map Prod.fst = D.ab.fs ∧ Below w.heap.size w w' := by
  obtain ⟨i0, hi, hz0, hz1, hz2⟩ := info_parts Try.infoFl
  have HC : Hid (Calls Try.prog 53 #[.pointer (some ⟨q, 0, none⟩)] w fun r w' => ∃ v, r = .returned v ∧ OwnT w' w.heap.size v (namesN D.fs) ∧ Below w.heap.size w w') := sorted_any w base q b D h ho.few
  obtain ⟨n, hn⟩ : ∃ n, D.fs.length = n := ⟨_, rfl⟩
  have HN : Hid (D.fs.length = n ∧ n ≤ 700) := ⟨hn, by rw [← hn]; exact ho.few⟩
  have HNL : Hid ((namesN D.fs).length = n) := by show _ = _; unfold namesN; rw [List.length_map, hn]
  have hn0 : (0 : Int) ≤ (n : Int) := by omega
  have hn7 : (n : Int) ≤ 700 := by have := HN.out.2; omega
  have HD : Hid (DkAt w base q b D) := h
  have HO : Hid (DkOk D) := ho
  clear h ho hn
  go_enter Try.func24, Try.ntmps24
  go_wp2_with (go_at_call 53; refine HC.out.mono ?_; rintro _ x1 ⟨v, rfl, ho1, hb1⟩; obtain ⟨g1, c1, hv⟩ : ∃ g1 c1, v = .slice g1 n c1 := (by rcases ownT_slice ho1 with ⟨e1, e2⟩ | ⟨g, cp, e1, _⟩; have h0 := HNL.out; rw [e2] at h0; exact ⟨none, 0, by rw [e1, ← h0]; rfl⟩; exact ⟨some ⟨g, 0, none⟩, cp, by rw [e1, HNL.out]⟩); subst hv; have HR1 : Hid (ImR w x1 D 0 (.slice none 0 0) [] (.slice g1 n c1)) := ⟨⟨⟨rfl, .inl ⟨rfl, rfl⟩⟩, fun p hp => by cases hp⟩, rfl, rfl, hb1, ho1⟩; clear ho1 hb1)
  go_loopw [3, 12] (fun v3 v12 wr => ∃ (k : Nat) (X : List (Fa × Value)) (g3 : Option Addr) (c3 : Nat), v12 = .int .i64 (k : Int) ∧ v3 = .slice g3 k c3 ∧ k ≤ n ∧ Hid (ImR w wr D k (.slice g3 k c3) X (.slice g1 n c1))) (fun _ v12 _ => n - (intOf v12).toNat)
  case atStart => exact ⟨0, [], none, 0, rfl, rfl, Nat.zero_le _, HR1.out⟩
  case round =>
    obtain ⟨k, X, g3, c3, rfl, rfl, hk, HRR⟩ := hrel
    by_cases hkn : k < n
    · have HKN : Hid (k < D.fs.length ∧ D.fs.length ≤ 700) := ⟨by rw [HN.out.1]; exact hkn, by rw [HN.out.1]; exact HN.out.2⟩
      obtain ⟨g, rfl⟩ : ∃ g, g1 = some ⟨g, 0, none⟩ := by
        rcases ownT_slice HRR.out.row with ⟨e1, e2⟩ | ⟨g, cp, e1, _⟩
        · have h0 := HNL.out; rw [e2] at h0; simp at h0; omega
        · injection e1 with e2; exact ⟨g, e2⟩
      obtain ⟨f, hf0⟩ : ∃ f, D.fs[k]? = some f := ⟨_, List.getElem?_eq_getElem HKN.out.1⟩
      obtain ⟨hkl, hfe⟩ := List.getElem?_eq_some_iff.1 hf0
      have hfm : f ∈ D.fs := List.mem_of_getElem? hf0
      have hfa : D.ab.fs[k]? = some f.ab := by show (D.fs.map Fi.ab)[k]? = _; rw [List.getElem?_map, hf0]; rfl
      obtain ⟨nm, hnm⟩ : ∃ nm, f.name = nm := ⟨_, rfl⟩
      obtain ⟨s, hs⟩ : ∃ s, f.s = s := ⟨_, rfl⟩
      have hnm0 : f.name = nm ∧ f.s = s := ⟨hnm, hs⟩
      have HFA : Hid (D.ab.fs[k]? = some f.ab) := hfa
      have HNM0 : Hid (f.name = nm ∧ f.s = s) := hnm0
      have hcell := ownT_at HRR.out.row HNL.out k (by rw [HNL.out]; exact hkn)
      have hcell2 : wr.cell? ⟨g, k, none⟩ = some (.string (bs nm)) := by
        rw [hcell]
        unfold namesN
        rw [List.getElem_map, hfe, hnm]
      clear hcell
      have hlen : nm.length ≤ 281474976710656 := by have := HO.out.name f hfm; rw [hnm] at this; omega
      have HDK : Hid (DkAt wr base q b D) := HD.out.keep HRR.out.low
      have cq1 := HDK.out.cells.2.1
      obtain ⟨M, hm, hr⟩ := HDK.out.map
      have hgn : getN D.fs nm = some f := by
        rw [← hnm]
        cases hg : getN D.fs f.name with
        | none => exact absurd rfl (getN_none.1 hg f hfm)
        | some f2 => obtain ⟨m1, m2⟩ := getN_mem hg; rw [sort_eq HDK.out.srt hfm m1 m2]
      have hlk := lookS1 hm hr hlen hgn
      obtain ⟨a, c, hv, hc1, hc2, hby, hnil, hone⟩ := (HDK.out.dat f hfm).bytes
      obtain ⟨m, hm2⟩ : ∃ m, f.l.length = m := ⟨_, rfl⟩
      have hmI : (m : Int) ≤ 67108864 := by
        have h1 := usedN_mem hfm
        have h2 := HO.out.used
        have h3 := HO.out.room
        rw [hm2] at h1
        omega
      rw [hm2] at hv hc1
      have HM2 : Hid (f.l.length = m) := hm2
      have HBY : Hid (Bytes wr a f.l) := hby
      have HVS : Hid (FiV f = fiV (.slice a m c) (s : Int)) := by show Value.agg #[f.v, _] = _; rw [hv, hs]
      have HONE : Hid ((Value.slice a m c).oneCell' = true) := by show _ = _; rw [← hv]; exact hone
      rw [HVS.out] at hlk
      have HF1 : Hid (FiAt (wr.alloc (.cells #[.slice none 0 0, .int .i64 0] 85)) wr.heap.size (.slice none 0 0) 0) := FiAt.new wr _ _
      have hkI : (k : Int) < (n : Int) := by omega
      have hk0 : (0 : Int) ≤ (k : Int) := by omega
      obtain ⟨nv, hnv⟩ : ∃ nv, Value.slice (some ⟨g, 0, none⟩) n c1 = nv := ⟨_, rfl⟩
      have HNV : Hid (Value.slice (some ⟨g, 0, none⟩) n c1 = nv) := hnv
      clear hf0 hkl hfe hfa hnm hs hnm0 hlen hm hr hgn hv hc1 hc2 hby hnil hone hm2 hfm hnv
      go_wp2_with (first
        | (at_lookup; refine wpList_lookS1 rfl _ _ rfl rfl rfl hlk ?_)
        | ((with_reducible refine guard_store 85 ?_); refine wpList_store_fi rfl _ _ rfl rfl HF1.out HONE.out rfl rfl (v2 := .slice a m c) (s2 := (s : Int)) ?_; intro x3 hf ho hh hs; have HB3 : Hid (Below wr.heap.size wr x3) := ho _ _ ((Below.refl _ _).alloc (Nat.le_refl _) _) (Nat.le_refl _); have HF3 : Hid (FiAt x3 wr.heap.size (.slice a m c) (s : Int)) := hf; clear hf ho hh hs)
        | go_in)
      refine wp_region_held (S := (fun y => FiAt y wr.heap.size (.slice a m c) (s : Int))) (by kernel_rfl) ?_
      change wpAnyH _ _ _ _ _ _ _ _ (World.drew _)
      obtain ⟨xd, hxd⟩ : ∃ xd, x3.drew = xd := ⟨_, rfl⟩
      have HB3D : Hid (Below wr.heap.size wr xd) := by rw [← hxd]; exact HB3.out.trans ((Below.refl _ x3).drew)
      have HP3 : Hid (FiAt xd wr.heap.size (.slice a m c) (s : Int)) := by rw [← hxd]; exact HF3.out
      rw [hxd]
      clear hxd
      refine wpAnyH_take (i := 0) (oi := { dst := some 22, op := Op.move (Operand.tmp 3), type := 26, pos := "simfs.go:190", after := #[], guard := none }) (v := ?_) rfl (by kernel_rfl) (by kernel_rfl) (by kernel_rfl) (fun _ _ _ h => h) (Or.inl ⟨by rfl, ?_⟩) HP3.out ?_
      rotate_left
      · (intro y hy; go_simp; try (with_reducible rfl))
      simp only [Act.put, List.setIfInBounds_toArray, List.set_cons_zero, List.set_cons_succ]
      refine wpAnyH_take (i := 1) (oi := { dst := some 23, op := Op.move (Operand.tmp 5), type := 9, pos := "simfs.go:190", after := #[], guard := none }) (v := ?_) rfl (by kernel_rfl) (by kernel_rfl) (by kernel_rfl) (fun _ _ _ h => h) (Or.inl ⟨by rfl, ?_⟩) HP3.out ?_
      rotate_left
      · (intro y hy; go_simp; try (with_reducible rfl))
      simp only [Act.put, List.setIfInBounds_toArray, List.set_cons_zero, List.set_cons_succ]
      refine wpAnyH_take (i := 2) (oi := { dst := some 24, op := Op.fieldAddr 85 (Operand.tmp 6) 0, type := 0, pos := "simfs.go:190", after := #[], guard := none }) (v := ?_) rfl (by kernel_rfl) (by kernel_rfl) (by kernel_rfl) (fun _ _ _ h => h) (Or.inl ⟨by rfl, ?_⟩) HP3.out ?_
      rotate_left
      · (intro y hy; go_simp; try (with_reducible rfl))
      simp only [Act.put, List.setIfInBounds_toArray, List.set_cons_zero, List.set_cons_succ]
      refine wpAnyH_take (i := 3) (oi := { dst := some 25, op := Op.load 31 (Operand.tmp 24), type := 31, pos := "simfs.go:190", after := #[{ on := 2, ground := Ground.data }], guard := none }) (v := .slice a m c) rfl (by kernel_rfl) (by kernel_rfl) (by kernel_rfl) (fun _ _ _ h => h) (Or.inl ⟨by rfl, ?_⟩) HP3.out ?_
      · (intro y hy; have h0 := (FiAt.cells hy).1; go_simp)
      simp only [Act.put, List.setIfInBounds_toArray, List.set_cons_zero, List.set_cons_succ]
      refine wpAnyH_take (i := 5) (oi := { dst := some 27, op := Op.fieldAddr 85 (Operand.tmp 6) 1, type := 0, pos := "simfs.go:190", after := #[], guard := none }) (v := ?_) rfl (by kernel_rfl) (by kernel_rfl) (by kernel_rfl) (fun _ _ _ h => h) (Or.inl ⟨by rfl, ?_⟩) HP3.out ?_
      rotate_left
      · (intro y hy; go_simp; try (with_reducible rfl))
      simp only [Act.put, List.setIfInBounds_toArray, List.set_cons_zero, List.set_cons_succ]
      refine wpAnyH_take (i := 6) (oi := { dst := some 28, op := Op.load 3 (Operand.tmp 27), type := 3, pos := "simfs.go:190", after := #[{ on := 5, ground := Ground.data }], guard := none }) (v := .int .i64 (s : Int)) rfl (by kernel_rfl) (by kernel_rfl) (by kernel_rfl) (fun _ _ _ h => h) (Or.inl ⟨by rfl, ?_⟩) HP3.out ?_
      · (intro y hy; have h0 := (FiAt.cells hy).2; go_simp)
      simp only [Act.put, List.setIfInBounds_toArray, List.set_cons_zero, List.set_cons_succ]
      refine wpAnyH_ready (rs := [4]) (by kernel_rfl) (by simp) ?_
      refine AllReadyH.cons (o := { dst := some 26, op := Op.call { callee := Callee.value (Operand.func 52), args := #[Operand.tmp 25], argTypes := #[31] }, type := 31, pos := "simfs.go:190", after := #[{ on := 3, ground := Ground.data }], guard := none }) rfl (fun K hK => ?_) AllReadyH.nil
      go_simp
      refine (copied_any f.l m HM2.out a c _ (HBY.out.keep HB3D.out) hmI).mono ?_
      rintro _ x4 ⟨v40, rfl, ho4, hb4⟩
      obtain ⟨a4, c4, hv4⟩ : ∃ a4 c4, v40 = .slice a4 m c4 := by obtain ⟨a4, c4, e4⟩ := row_shape ho4.2; exact ⟨a4, c4, by rw [e4, HM2.out]⟩
      subst hv4
      have HO4 : Hid (Own x4 w.heap.size (.slice a4 m c4) f.l) := ho4.lower (Nat.le_trans HRR.out.low.size HB3D.out.size)
      have HB4 : Hid (Below wr.heap.size wr x4) := HB3D.out.trans (hb4.mono HB3D.out.size)
      have HP4 : Hid (FiAt x4 wr.heap.size (.slice a m c) (s : Int)) := HP3.out.keep hb4
      have H1 : Hid ((Value.slice a4 m c4).oneCell' = true) := own_one ho4
      clear ho4 hb4
      (refine hK _ _ HP4.out ?_; clear hK K; intro _)
      try simp only [Act.put, List.setIfInBounds_toArray, List.set_cons_zero, List.set_cons_succ]
      refine wpAnyH_take (i := 7) (oi := { dst := some 29, op := Op.build 49 #[(0, Operand.tmp 23), (1, Operand.tmp 26), (2, Operand.tmp 28)], type := 49, pos := "simfs.go:190", after := #[{ on := 1, ground := Ground.data }, { on := 4, ground := Ground.data }, { on := 6, ground := Ground.data }], guard := none }) (v := ?_) rfl (by kernel_rfl) (by kernel_rfl) (by kernel_rfl) (fun _ _ _ h => h) (Or.inl ⟨by rfl, ?_⟩) HP4.out ?_
      rotate_left
      · (intro y hy; go_simp; try (with_reducible rfl))
      simp only [Act.put, List.setIfInBounds_toArray, List.set_cons_zero, List.set_cons_succ]
      refine wpAnyH_ready (rs := [8]) (by kernel_rfl) (by simp) ?_
      refine AllReadyH.cons (o := { dst := some 30, op := Op.buildSlice 26 1 #[(0, Operand.tmp 29)], type := 26, pos := "simfs.go:190", after := #[{ on := 7, ground := Ground.data }], guard := none }) rfl (fun K hK => ?_) AllReadyH.nil
      go_simp
      have hn5 := heap_alloc_new x4 (.cells #[.string (bs nm), .slice a4 m c4, .int .i64 (s : Int)] 49)
      obtain ⟨x5, hx5⟩ : ∃ x5, x4.alloc (.cells #[.string (bs nm), .slice a4 m c4, .int .i64 (s : Int)] 49) = x5 := ⟨_, rfl⟩
      rw [hx5]
      have hb5 : Below x4.heap.size x4 x5 := by rw [← hx5]; exact (Below.refl _ _).alloc (Nat.le_refl _) _
      have HN5 : Hid (x5.heap[x4.heap.size]? = some (.cells #[.string (bs nm), .slice a4 m c4, .int .i64 (s : Int)] 49)) := by rw [← hx5]; exact hn5
      have HB5 : Hid (Below wr.heap.size wr x5) := HB4.out.trans (hb5.mono HB4.out.size)
      have HO5 : Hid (Own x5 w.heap.size (.slice a4 m c4) f.l) := HO4.out.keep' hb5
      have HP5 : Hid (FiAt x5 wr.heap.size (.slice a m c) (s : Int)) := HP4.out.keep hb5
      clear hx5 hb5 hn5
      (refine hK _ _ HP5.out ?_; clear hK K; intro _)
      try simp only [Act.put, List.setIfInBounds_toArray, List.set_cons_zero, List.set_cons_succ]
      refine wpAnyH_ready (rs := [9]) (by kernel_rfl) (by simp) ?_
      refine AllReadyH.cons (o := { dst := some 31, op := Op.call { callee := Callee.builtin Builtin.append, args := #[Operand.tmp 22, Operand.tmp 30], argTypes := #[26, 26] }, type := 26, pos := "simfs.go:190", after := #[{ on := 0, ground := Ground.data }, { on := 8, ground := Ground.data }, { on := 4, ground := Ground.chain }], guard := none }) rfl (fun K hK => ?_) AllReadyH.nil
      refine step_append_own rfl _ _ _ rfl w.heap.size 49 i0 zF 3 48 Try.underlying26 hi hz0 hz1 hz2 rfl (by decide) (.slice g3 k c3) k (imfl X) rfl (by have h9 := (HRR.out.im.keep HB5.out).1; rw [HRR.out.len] at h9; exact h9) ⟨x4.heap.size, 0, none⟩ 1 1 [.string (bs nm), .slice a4 m c4, .int .i64 (s : Int)] rfl rfl (im_cells HN5.out) (im_one H1.out) (by have := HKN.out; unfold maxLen; omega) (by have := HKN.out; omega) (Nat.le_trans HRR.out.low.size HB5.out.size) ?_
      intro v6 x6 ho6 hg6 hn6
      have HIM : Hid (ImR w x6 D (k + 1) v6 (X ++ [(f.ab, .slice a4 m c4)]) (.slice (some ⟨g, 0, none⟩) n c1)) := im_step HRR.out HKN.out HB5.out HFA.out HNM0.out HO5.out ho6 hg6
      have HP6 : Hid (FiAt x6 wr.heap.size (.slice a m c) (s : Int)) := (hg6.block _ (lt_of_heap HP5.out) (fun e => by have h8 := (HRR.out.im.1.lt _ e.symm).2; omega)).trans HP5.out
      obtain ⟨g6, c6, hv6⟩ : ∃ g6 c6, v6 = .slice g6 (k + 1) c6 := row_shape ho6
      subst hv6
      clear ho6 hg6 hn6
      (refine hK _ _ HP6.out ?_; clear hK K; intro _)
      try simp only [Act.put, List.setIfInBounds_toArray, List.set_cons_zero, List.set_cons_succ]
      refine wpAnyH_ready (rs := [10]) (by kernel_rfl) (by simp) ?_
      refine AllReadyH.cons (o := { dst := some 3, op := Op.assign (Operand.tmp 31), type := 26, pos := "simfs.go:190", after := #[{ on := 9, ground := Ground.data }, { on := 9, ground := Ground.chain }, { on := 0, ground := Ground.phase }, { on := 1, ground := Ground.phase }, { on := 2, ground := Ground.phase }, { on := 3, ground := Ground.phase }, { on := 4, ground := Ground.phase }, { on := 5, ground := Ground.phase }, { on := 6, ground := Ground.phase }, { on := 7, ground := Ground.phase }, { on := 8, ground := Ground.phase }, { on := 9, ground := Ground.phase }], guard := none }) rfl (fun K hK => ?_) AllReadyH.nil
      go_simp
      (refine hK _ _ HP6.out ?_; clear hK K; intro _)
      try simp only [Act.put, List.setIfInBounds_toArray, List.set_cons_zero, List.set_cons_succ]
      refine wpAnyH_done (by kernel_rfl) ?_ _
      go_wp2
      go_roundw
      case rel => exact ⟨k + 1, X ++ [(f.ab, .slice a4 m c4)], g6, c6, by go_num, rfl, by omega, HIM⟩
      case measure => simp [intOf]; omega
    · obtain rfl : k = n := by omega
      have HFIN : Hid (X.map Prod.fst = D.ab.fs) := by
        show _ = _
        rw [HRR.out.ab]
        exact List.take_of_length_le (by show (D.fs.map Fi.ab).length ≤ _; rw [List.length_map, HN.out.1]; exact Nat.le_refl _)
      clear hkn hk
      go_wp2
      go_ret
      exact ⟨_, X, rfl, HRR.out.im, HFIN.out, HRR.out.low⟩
end Go.Proofs.Ytlnhhgmdajbepaa
namespace Go.Proofs.Ytlnhhgmdajbepaa
open Go.ChangeShapes Go.WideShapes Go.ChangeAt Go.RowKit Go.Deep
set_option linter.unusedVariables false
def opL (o : Oa) : List Value := [.int .i64 o.k, .string (bs o.nm), .string (bs o.to), .slice o.P o.lb.length o.C, .int .i64 o.n, .int .i64 o.m, .slice o.K o.ks.length o.CK]
theorem opL_len (o : Oa) : (opL o).length = 7 := rfl
/-- a call without its bounds -/
structure OpRaw (w : World) (o : Oa) : Prop where
  k : inI o.k
  b : Bytes w o.P o.lb
  bc : o.lb.length ≤ o.C
  bn : o.P = none → o.C = 0
  n : inI o.n
  m : inI o.m
  ks : Ints w o.K o.ks
  kc : o.ks.length ≤ o.CK
  kn : o.K = none → o.CK = 0
/-- the calls L lie from address a on -/
def OpsAt (w : World) (a : Option Addr) (L : List Oa) : Prop := (L = [] ∨ ∃ b off, a = some ⟨b, off, none⟩ ∧ b < w.heap.size ∧ ∀ k o, L[k]? = some o → w.rangeAt b (off + k * 7) (opL o)) ∧ ∀ o ∈ L, OpIn w o
theorem range_keep {w w' : World} {b off : Nat} {xs : List Value} (h : w.rangeAt b off xs) (hlt : b < w.heap.size) (hb : Below w.heap.size w w') : w'.rangeAt b off xs := by
  intro j v hj
  exact (hb.cell (p := ⟨b, off + j, none⟩) hlt).trans (h j v hj)
theorem OpsAt.keep {w w' : World} {a : Option Addr} {L : List Oa} (h : OpsAt w a L) (hb : Below w.heap.size w w') : OpsAt w' a L := by
  refine ⟨?_, fun o ho => (h.2 o ho).keep hb⟩
  rcases h.1 with h1 | ⟨b, off, h1, h2, h3⟩
  · exact .inl h1
  · exact .inr ⟨b, off, h1, Nat.lt_of_lt_of_le h2 hb.size, fun k o ho => range_keep (h3 k o ho) h2 hb⟩
section
variable {H : Type} {enc : TypeId × Value → H} {w : World} {base : Nat} {spare : Nat → Bool} {held : Bool}
theorem weights_all_memO {P : Program} {e : TypeId} : ∀ {ds : List (DataW H)} {d : DataW H}, d ∈ ds → ∀ n ∈ d.weights P e, n ∈ DataW.weightsAll P e ds
  | d0 :: r, d, hd, n, hn => by
    simp only [DataW.weightsAll, List.mem_append]
    rcases List.mem_cons.1 hd with rfl | hd
    · exact .inl hn
    · exact .inr (weights_all_memO hd n hn)
/-- what the datum of a call tells of its sizes -/
def OpD (o : Oa) (d : DataW H) : Prop := ∃ (X0 Yb X4 X5 Yk : DataW H), d = .agg [X0, .lit (.string o.nm), .lit (.string o.to), Yb, X4, X5, Yk] ∧ (o.lb = [] ∨ ∃ e s : List (DataW H), Yb = .slice e s ∧ o.lb.length ≤ e.length + s.length) ∧ (o.ks = [] ∨ ∃ e s : List (DataW H), Yk = .slice e s ∧ o.ks.length ≤ e.length + s.length)
theorem open_op {fuel : Nat} {c0 c1 c2 c3 c4 c5 c6 : Value} {x : DataW H × List MemPlace} (h : DataW.trod enc Try.prog w base (fun _ => true) held fuel 34 [c0, c1, c2, c3, c4, c5, c6] = some x) :
    ∃ o : Oa, [c0, c1, c2, c3, c4, c5, c6] = opL o ∧ OpRaw w o ∧ OpD o x.1 := by
  obtain ⟨xs, n, _, hxy, _, hlen, hf⟩ := DataW.trod_struct Try.underlying34 h
  match xs, hlen with
  | [y0, y1, y2, y3, y4, y5, y6], _ =>
    have k0 : Try.prog.cellsOf 3 = 1 := by kernel_rfl
    have k1 : Try.prog.cellsOf 9 = 1 := by kernel_rfl
    have k3 : Try.prog.cellsOf 31 = 1 := by kernel_rfl
    have k6 : Try.prog.cellsOf 32 = 1 := by kernel_rfl
    have g0 : DataW.trod enc Try.prog w base (fun _ => true) held n 3 [c0] = some y0 := by have := hf 0 _ rfl; simpa [k0] using this
    have g1 : DataW.trod enc Try.prog w base (fun _ => true) held n 9 [c1] = some y1 := by have := hf 1 _ rfl; simpa [k0, k1] using this
    have g2 : DataW.trod enc Try.prog w base (fun _ => true) held n 9 [c2] = some y2 := by have := hf 2 _ rfl; simpa [k0, k1] using this
    have g3 : DataW.trod enc Try.prog w base (fun _ => true) held n 31 [c3] = some y3 := by have := hf 3 _ rfl; simpa [k0, k1, k3] using this
    have g4 : DataW.trod enc Try.prog w base (fun _ => true) held n 3 [c4] = some y4 := by have := hf 4 _ rfl; simpa [k0, k1, k3] using this
    have g5 : DataW.trod enc Try.prog w base (fun _ => true) held n 3 [c5] = some y5 := by have := hf 5 _ rfl; simpa [k0, k1, k3] using this
    have g6 : DataW.trod enc Try.prog w base (fun _ => true) held n 32 [c6] = some y6 := by have := hf 6 _ rfl; simpa [k0, k1, k3, k6] using this
    obtain ⟨t0, e0, rfl, w0⟩ := DataW.trod_int Try.underlying3 g0
    obtain ⟨s1, e1, rfl, _⟩ := DataW.trod_string Try.underlying9 g1
    obtain ⟨s2, e2, rfl, _⟩ := DataW.trod_string Try.underlying9 g2
    obtain ⟨t4, e4, rfl, w4⟩ := DataW.trod_int Try.underlying3 g4
    obtain ⟨t5, e5, rfl, w5⟩ := DataW.trod_int Try.underlying3 g5
    simp only [List.cons.injEq, and_true] at e0 e1 e2 e4 e5
    subst e0 e1 e2 e4 e5
    obtain ⟨P, C, lb, rfl, hb, hbc, hbn, hbd⟩ : ∃ (P : Option Addr) (C : Nat) (lb : List Nat), c3 = .slice P lb.length C ∧ Bytes w P lb ∧ lb.length ≤ C ∧ (P = none → C = 0) ∧ (lb = [] ∨ ∃ e s : List (DataW H), y3.1 = .slice e s ∧ lb.length ≤ e.length + s.length) := by
      rcases open_ints Try.underlying31 Try.underlying5 (by kernel_rfl) g3 with ⟨hcs, rfl⟩ | ⟨a, len, cap, zs, hcs, _, hl, hm, hz, rfl, hcell, hwz⟩
      · simp only [List.cons.injEq, and_true] at hcs
        subst hcs
        exact ⟨none, 0, [], rfl, Bytes.none _ _, Nat.le_refl _, fun _ => rfl, .inl rfl⟩
      · simp only [List.cons.injEq, and_true] at hcs
        subst hcs
        have hz2 : zs.length = cap := by simpa using hz
        obtain ⟨ll, e1, e2, e3⟩ := row_nats .u8 256 (by decide) wf_u8 w a zs len (by omega) hcell hwz
        subst e1
        refine ⟨some a, cap, ll, rfl, ⟨e2, e3⟩, hl, (fun h => by cases h), .inr ⟨_, _, rfl, ?_⟩⟩
        simp only [lits, List.length_map, List.length_take, List.length_drop]
        omega
    obtain ⟨K, CK, ks, rfl, hk, hkc, hkn, hkd⟩ : ∃ (K : Option Addr) (CK : Nat) (ks : List Int), c6 = .slice K ks.length CK ∧ Ints w K ks ∧ ks.length ≤ CK ∧ (K = none → CK = 0) ∧ (ks = [] ∨ ∃ e s : List (DataW H), y6.1 = .slice e s ∧ ks.length ≤ e.length + s.length) := by
      rcases open_ints Try.underlying32 Try.underlying3 (by kernel_rfl) g6 with ⟨hcs, rfl⟩ | ⟨a, len, cap, zs, hcs, _, hl, hm, hz, rfl, hcell, hwz⟩
      · simp only [List.cons.injEq, and_true] at hcs
        subst hcs
        exact ⟨none, 0, [], rfl, ⟨by simp, .inl rfl⟩, Nat.le_refl _, fun _ => rfl, .inl rfl⟩
      · simp only [List.cons.injEq, and_true] at hcs
        subst hcs
        have hz2 : zs.length = cap := by simpa using hz
        obtain ⟨ll, e1, e2, e3⟩ := row_ints w a zs len (by omega) hcell hwz
        subst e1
        refine ⟨some a, cap, ll, rfl, ⟨e2, e3⟩, hl, (fun h => by cases h), .inr ⟨_, _, rfl, ?_⟩⟩
        simp only [lits, List.length_map, List.length_take, List.length_drop]
        omega
    have b1 : bs s1.data.toList = s1 := by simp
    have b2 : bs s2.data.toList = s2 := by simp
    refine ⟨⟨t0, s1.data.toList, s2.data.toList, P, C, lb, t4, t5, K, CK, ks⟩, by unfold opL; simp only [b1, b2], ⟨wf_i64 _ w0, hb, hbc, hbn, wf_i64 _ w4, wf_i64 _ w5, hk, hkc, hkn⟩, ⟨_, y3.1, _, _, y6.1, by rw [hxy]; rfl, hbd, hkd⟩⟩
theorem open_ops {fuel : Nat} {cs : List Value} {x : DataW H × List MemPlace} (h : DataW.trod enc Try.prog w base (fun _ => true) held fuel 22 cs = some x) :
    (cs = [.slice none 0 0] ∧ x = (.nil, [])) ∨
    ∃ (a : Addr) (len cap : Nat) (L : List Oa) (D : Nat → DataW H), cs = [.slice (some a) len cap] ∧ len ≤ cap ∧ cap ≤ maxLen ∧ L.length = len ∧ (L = [] ∨ ∃ b off, a = ⟨b, off, none⟩ ∧ b < w.heap.size ∧ ∀ k o, L[k]? = some o → w.rangeAt b (off + k * 7) (opL o)) ∧ (∀ o ∈ L, OpRaw w o) ∧
      x.1 = .slice ((List.range len).map D) ((List.range (cap - len)).map fun j => D (len + j)) ∧ ∀ i o, L[i]? = some o → OpD o (D i) := by
  rcases open_slice Try.underlying22 h with h0 | ⟨a, len, cap, m, n, D, Pl, rfl, hb, hl, hm, hmm, rfl, hx⟩
  · exact Or.inl h0
  right
  have hmc : m = cap := by simpa using hmm
  subst hmc
  have ce : Try.prog.cellsOf 34 = 7 := by kernel_rfl
  have each : ∀ i, i < m → ∃ o : Oa, (∀ j v, (opL o)[j]? = some v → w.cell? (a.add (i * 7 + j)) = some v) ∧ OpRaw w o ∧ OpD o (D i) := by
    intro i hi
    obtain ⟨cs', h1, h2⟩ := hx i hi
    rw [ce] at h1
    obtain ⟨_, hlen, hcell⟩ := World.cells?_some h1
    match cs', hlen with
    | [v0, v1, v2, v3, v4, v5, v6], _ =>
      obtain ⟨o, hcs, hraw, hd⟩ := open_op h2
      refine ⟨o, fun j v hj => ?_, hraw, hd⟩
      have hj7 : j < 7 := by have := (List.getElem?_eq_some_iff.1 hj).1; rw [opL_len] at this; exact this
      have hc := hcell j hj7
      rw [add_add] at hc
      rw [hc, ← hj, ← hcs]
  haveI : Inhabited Oa := ⟨⟨0, [], [], none, 0, [], 0, 0, none, 0, []⟩⟩
  obtain ⟨q, hq⟩ := choose_lt each
  have hL : ∀ i o, ((List.range len).map q)[i]? = some o → i < len ∧ o = q i := by
    intro i p hp
    have hi : i < len := by
      by_cases hh : i < len
      · exact hh
      · rw [List.getElem?_eq_none (by simp; omega)] at hp; cases hp
    refine ⟨hi, ?_⟩
    rw [List.getElem?_map, List.getElem?_range hi] at hp
    exact (Option.some.inj hp).symm
  refine ⟨a, len, m, (List.range len).map q, D, rfl, hl, hm, by simp, ?_, ?_, rfl, ?_⟩
  · by_cases h0 : len = 0
    · left; subst h0; rfl
    · right
      obtain ⟨b, off, spot⟩ := a
      have hc0 := (hq 0 (by omega)).1 0 _ rfl
      have hspot : spot = none := by simpa [Addr.add] using World.cell?_spot hc0
      subst hspot
      refine ⟨b, off, rfl, World.block_lt_of_cell? _ _ hc0, fun k o ho j v hj => ?_⟩
      obtain ⟨hk, rfl⟩ := hL k o ho
      have h1 := (hq k (by omega)).1 j v hj
      have hadd : ∀ z, (⟨b, off, none⟩ : Addr).add z = ⟨b, off + z, none⟩ := fun z => by simp [Addr.add]
      rw [hadd] at h1
      rw [Nat.add_assoc]
      exact h1
  · intro o ho
    obtain ⟨i, hi, rfl⟩ := List.mem_map.1 ho
    exact (hq i (by have := List.mem_range.1 hi; omega)).2.1
  · intro i o ho
    obtain ⟨hi, rfl⟩ := hL i o ho
    exact (hq i (by omega)).2.2
theorem sized_ops {ts : List TypeId} {ds : List (DataW H)} (h : (DataW.weightsEach Try.prog ts ds).all (· ≤ reachBytes) = true) {j len cap : Nat} {L : List Oa} {D : Nat → DataW H} (ht : ts[j]? = some 22)
    (hd : ds[j]? = some (.slice ((List.range len).map D) ((List.range (cap - len)).map fun j => D (len + j)))) (hl : len ≤ cap) (hLl : L.length = len) (hraw : ∀ o ∈ L, OpRaw w o)
    (hD : ∀ i o, L[i]? = some o → OpD o (D i)) : cap * 104 ≤ 140737488351232 ∧ ∀ o ∈ L, OpIn w o := by
  constructor
  · have := sized_slice h ht hd Try.underlying22
    rw [show Try.prog.bytesOf 34 = 104 from by kernel_rfl] at this
    simp only [List.length_map, List.length_range, reachBytes] at this
    have hc : len + (cap - len) = cap := by omega
    rw [hc] at this
    exact this
  · intro o ho
    obtain ⟨i, hi⟩ := List.getElem?_of_mem ho
    have hil : i < len := by
      by_cases hh : i < L.length
      · omega
      · rw [List.getElem?_eq_none (by omega)] at hi; cases hi
    have hr := hraw o ho
    obtain ⟨X0, Yb, X4, X5, Yk, h1, h2, h3⟩ := hD i o hi
    have hm : D i ∈ (List.range len).map D := List.mem_map.2 ⟨i, List.mem_range.2 hil, rfl⟩
    have lift : ∀ n, n ∈ (D i).weights Try.prog 34 → n ≤ 140737488351232 := by
      intro n hn
      have := List.all_eq_true.1 h _ (DataW.weights_mem_each ht hd _ (by
        simp only [DataW.weights, Try.underlying22, List.mem_cons, List.mem_append]
        exact .inr (.inl (weights_all_memO hm _ hn))))
      exact of_decide_eq_true this
    rw [h1] at lift
    simp only [DataW.weights, Try.underlying34, DataW.weightsEach, List.mem_append, List.mem_cons, List.map_cons, List.map_nil] at lift
    have n1 := lift o.nm.length (by simp)
    have n2 := lift o.to.length (by simp)
    have n3 : o.lb.length ≤ 140737488351232 := by
      rcases h2 with h2 | ⟨e, s, rfl, h4⟩
      · rw [h2]; simp
      · have := lift ((e.length + s.length) * Try.prog.bytesOf 5) (by simp [DataW.weights, Try.underlying31])
        rw [show Try.prog.bytesOf 5 = 1 from by kernel_rfl] at this
        omega
    have n4 : o.ks.length * 8 ≤ 140737488351232 := by
      rcases h3 with h3 | ⟨e, s, rfl, h4⟩
      · rw [h3]; simp
      · have := lift ((e.length + s.length) * Try.prog.bytesOf 3) (by simp [DataW.weights, Try.underlying32])
        rw [show Try.prog.bytesOf 3 = 8 from by kernel_rfl] at this
        omega
    exact ⟨hr.k, by omega, by omega, hr.b, hr.bc, hr.bn, by omega, hr.n, hr.m, hr.ks, hr.kc, hr.kn, by omega⟩
end
end Go.Proofs.Ytlnhhgmdajbepaa
