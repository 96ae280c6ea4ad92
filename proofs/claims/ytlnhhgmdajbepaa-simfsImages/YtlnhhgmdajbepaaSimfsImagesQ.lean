/- For every room, all files and every script: what Mount answers, and the image behind every call, is what the reference's disk says. No condition. -/
import Derived.Test.YtlnhhgmdajbepaaJ44
import Derived.Test.YtlnhhgmdajbepaaK01
namespace Go.Proofs.Ytlnhhgmdajbepaa.simfsImages
open Go.ChangeShapes Go.WideShapes Go.ChangeAt Go.RowKit
set_option linter.unusedVariables false
set_option maxRecDepth 100000 in
set_option maxHeartbeats 8000000 in
theorem walk (room : Int) (Y : List (Fe × Value)) (a1 : Option Addr) (cap1 : Nat) (L : List Oa) (a : Option Addr) (cap : Nat) (w : World) (w0 : (Lit.int .i64 room).wf = true) (hY : FilesAt w a1 Y) (hcY : Y.length ≤ cap1 ∧ cap1 * 48 ≤ 140737488351232) (hL : OpsAt w a L) (hc : L.length ≤ cap ∧ cap * 104 ≤ 140737488351232) :
    Calls Try.prog 4 #[.int .i64 room, .slice a1 Y.length cap1, .slice a L.length cap] w fun e w' => e = .returned (.bool true) ∧ Below w.heap.size w w' := by
  have hri := wf_i64 room w0
  obtain ⟨n1, hn1⟩ : ∃ n, Y.length = n := ⟨_, rfl⟩
  have HY : Hid (FilesAt w a1 Y ∧ Y.length = n1) := ⟨hY, hn1⟩
  have hn1I : (n1 : Int) * 48 ≤ 140737488351232 := by omega
  have hn10 : (0 : Int) ≤ (n1 : Int) := by omega
  obtain ⟨n, hn⟩ : ∃ n, L.length = n := ⟨_, rfl⟩
  have HN : Hid (L.length = n) := hn
  have hnI : (n : Int) ≤ 140737488351232 := by omega
  have hn0 : (0 : Int) ≤ (n : Int) := by omega
  rw [hn, hn1]
  have HL : Hid (OpsAt w a L) := hL
  have HRI : Hid (inI room) := hri
  have hr1 := hri.1
  have hr2 := hri.2
  obtain ⟨M, hM⟩ : ∃ M, mountA room (Y.map Prod.fst) = M := ⟨_, rfl⟩
  obtain ⟨ME, MA⟩ := M
  have HM0 : Hid (mountA room (Y.map Prod.fst) = (ME, MA)) := hM
  have HBND : Hid (∀ X : List (Fe × Value), X.map Prod.fst = Y.map Prod.fst → ∀ p ∈ X, p.1.name.length ≤ 281474976710656 ∧ p.1.l.length ≤ 140737488351232 ∧ inI p.1.s) := fun X hX p hp => by
    have h1 : p.1 ∈ Y.map Prod.fst := by rw [← hX]; exact List.mem_map_of_mem hp
    obtain ⟨p2, h2, h3⟩ := List.mem_map.1 h1
    have h4 := (hY.fe.byt p2 h2).2
    rw [h3] at h4
    exact h4
  clear w0 hY hcY hL hc hn hn1 hri hM
  by_cases hME : ME = 0
  · subst hME
    go_enter Try.func4, Try.ntmps4
    go_wp2_with (first
      | (go_at_call 13; refine (head10_any w).mono ?_; rintro _ x1 ⟨rfl, hb1⟩; have HB1 : Hid (Below w.heap.size w x1) := hb1; clear hb1)
      | (go_at_call 20; refine (copy_files x1 Y a1 n1 cap1 HY.out.2 (HY.out.1.keep HB1.out) hn1I).mono ?_; rintro _ x2 ⟨g2, c2, X2, rfl, hi2, he2, hb2⟩; have HX2 : Hid (OwnFe x2 x1.heap.size (.slice g2 n1 c2) X2 ∧ X2.length = n1 ∧ X2.map Prod.fst = Y.map Prod.fst ∧ FeA x2 g2 X2) := ⟨hi2, (by have h9 := congrArg List.length he2; rw [List.length_map, List.length_map, HY.out.2] at h9; exact h9), he2, (hi2.files (HBND.out X2 he2)).fe⟩; have HB2 : Hid (Below w.heap.size w x2 ∧ Below x1.heap.size x1 x2) := ⟨HB1.out.trans (hb2.mono HB1.out.size), hb2⟩; clear hi2 he2 hb2)
      | (go_at_call 21; refine (rmount_any x2 room HRI.out.1 HRI.out.2 Y a1 n1 cap1 HY.out.2 (HY.out.1.keep HB2.out.1).fe (by omega)).mono ?_; rw [HM0.out]; rintro rr x3 ⟨hb3, hor⟩; (obtain ⟨ar, nr, cr, X3, rfl, hf3, hl3, hm3, ok3⟩ : ∃ ar nr cr X3, rr = .returned (.tuple #[rdV (.slice ar nr cr) MA.rn, .int .i64 0]) ∧ FlsF (fun k => x2.heap.size ≤ k ∧ k < x3.heap.size) x3 ar X3 ∧ X3.length = nr ∧ X3.map Prod.fst = MA.fs ∧ AkOk MA := (by rcases hor with ⟨h1, _⟩ | ⟨_, h⟩; exact absurd rfl h1; exact h)); have HM3 : Hid (FlsF (fun k => x2.heap.size ≤ k ∧ k < x3.heap.size) x3 ar X3 ∧ X3.length = nr ∧ X3.map Prod.fst = MA.fs ∧ AkOk MA) := ⟨hf3, hl3, hm3, ok3⟩; clear hf3 hl3 hm3 ok3; have HB3 : Hid (Below x2.heap.size x2 x3) := hb3; have HZ3 : Hid (RdAt (x3.alloc (.cells #[.slice none 0 0, .int .i64 0, .int .i64 0, .bool false, .int .i64 0, .int .i64 0] 28)) x3.heap.size (.slice none 0 0) ⟨0, 0, false, 0, 0⟩ ∧ Below x3.heap.size x3 (x3.alloc (.cells #[.slice none 0 0, .int .i64 0, .int .i64 0, .bool false, .int .i64 0, .int .i64 0] 28))) := ⟨RdAt.new x3 (.slice none 0 0) ⟨0, 0, false, 0, 0⟩, (Below.refl _ _).alloc (Nat.le_refl _) _⟩; clear hb3 hor)
      | ((with_reducible refine guard_store 28 ?_); refine wpList_store_rd rfl _ _ rfl rfl HZ3.out.1 (slice_one _ _ _) rfl rfl (v2 := .slice ar nr cr) (q2 := MA.rn) ?_; intro x4 hr4 hb4 _ _; have HR4 : Hid (RdAt x4 x3.heap.size (.slice ar nr cr) MA.rn ∧ Below x3.heap.size x3 x4 ∧ Below x2.heap.size x2 x4) := ⟨hr4, hb4 _ _ HZ3.out.2 (Nat.le_refl _), HB3.out.trans ((hb4 _ _ HZ3.out.2 (Nat.le_refl _)).mono HB3.out.size)⟩; clear hr4 hb4)
      | (go_at_call 22; refine (mount_any x4 room HRI.out.1 HRI.out.2 X2 g2 n1 c2 HX2.out.2.1 (HX2.out.2.2.2.keep HR4.out.2.2) (by omega)).mono ?_; rw [HX2.out.2.2.1, HM0.out]; rintro _ x6 ⟨P6, rfl, hb6, hor⟩; (obtain ⟨q, b, rfl, hd6, ok6⟩ : ∃ q b, P6 = .pointer (some ⟨q, 0, none⟩) ∧ DA x6 x4.heap.size q b MA ∧ AkOk MA := (by rcases hor with ⟨h1, _⟩ | ⟨_, q, b, h1, h2, h3⟩; exact absurd rfl h1; exact ⟨q, b, h1, h2, h3⟩)); have HX6 : Hid (RX x6 x4.heap.size q b (x3.heap.size) MA MA (fun k => x2.heap.size ≤ k ∧ k < x3.heap.size) X3 ar nr cr) := RX.start2 hd6 hb6 rfl (fun k hk => (by have := HR4.out.2.1.size; omega)) (by omega) (HM3.out.1.keep HR4.out.2.1) HM3.out.2.1 HM3.out.2.2.1 HR4.out.1; have HB6 : Hid (Below x2.heap.size x2 x6) := HR4.out.2.2.trans (hb6.mono HR4.out.2.2.size); clear hd6 ok6; clear hb6 hor)
      | (go_at_call 23; refine (fe_same X2 Y n1 g2 a1 c2 cap1 x6 HX2.out.2.2.1 HX2.out.2.1 (HX2.out.2.2.2.keep HB6.out) ((HY.out.1.keep HB2.out.1).fe.keep HB6.out) (by omega)).mono ?_; rintro _ x7 ⟨rfl, hb7⟩; have HB7 : Hid (Below x2.heap.size x2 x7 ∧ Below w.heap.size w x7) := ⟨HB6.out.trans (hb7.mono HB6.out.size), (HB2.out.1.trans (HB6.out.mono HB2.out.1.size)).trans (hb7.mono (Nat.le_trans HB2.out.1.size HB6.out.size))⟩; have HX7 : Hid (RX x7 x4.heap.size q b (x3.heap.size) MA MA (fun k => x2.heap.size ≤ k ∧ k < x3.heap.size) X3 ar nr cr) := HX6.out.keep hb7; clear hb7)
      | go_in)
    have HOK0 : Hid (AkOk MA) := HM3.out.2.2.2
    have HSZ : Hid (x1.heap.size ≤ x2.heap.size ∧ x2.heap.size ≤ x3.heap.size ∧ x3.heap.size < x4.heap.size ∧ x4.heap.size ≤ x7.heap.size) := ⟨HB2.out.2.size, HB3.out.size, HR4.out.1.lt, by have h1 := HX7.out.df.da.size; exact h1⟩
    have HMU : Hid (MuR x7 x7 x1.heap.size x2.heap.size (X2.map (fun p => (p.2, p.1.l.length))) (.slice g2 n1 c2) n1 (fefl X2)) := by
      have h1 := MuR.start (x0 := x7) (lo := x1.heap.size) (hi := x2.heap.size) (v := .slice g2 n1 c2) (X := X2) (fun y hy => ⟨⟨HX2.out.1.1.1, by
        rcases HX2.out.1.1.2 with h2 | ⟨g, cap, cur, h2, h3, h4, h5⟩
        · exact .inl h2
        · exact .inr ⟨g, cap, cur, h2, h3, ((hy g (lt_of_heap h4)).trans (HB7.out.1.block g (lt_of_heap h4))).trans h4, h5⟩⟩, fun p hp => own_kept3 (HX2.out.1.2 p hp) (fun k hk => (hy k hk).trans (HB7.out.1.block k hk))⟩) (fun p hp => (U8.of (HX2.out.1.2 p hp)).keep (fun k hk => HB7.out.1.block k hk))
      rw [HX2.out.2.1] at h1
      exact h1
    have HCW : Hid (∀ p ∈ X2, ∃ a2 m c2, p.2 = .slice a2 m c2 ∧ m = p.1.l.length ∧ (m : Int) ≤ 140737488351232) := fun p hp => by
      obtain ⟨A, C, e, _⟩ := (HX2.out.1.2 p hp).ready
      exact ⟨A, _, C, e, rfl, by have := (HBND.out X2 HX2.out.2.2.1 p hp).2.1; omega⟩
    obtain ⟨vs, hvs⟩ : ∃ vs, X2.map (fun p => (p.2, p.1.l.length)) = vs := ⟨_, rfl⟩
    have HVS : Hid (X2.map (fun p => (p.2, p.1.l.length)) = vs) := hvs
    rw [hvs] at HMU
    clear hvs
    go_loopw [59] (fun v59 wr => ∃ i : Nat, v59 = .int .i64 (i : Int) ∧ i ≤ n1 ∧ Hid (MuR x7 wr x1.heap.size x2.heap.size vs (.slice g2 n1 c2) n1 (fefl X2))) (fun v59 _ => n1 - (intOf v59).toNat)
    case atStart => exact ⟨0, rfl, Nat.zero_le _, HMU.out⟩
    case round =>
      obtain ⟨i, rfl, hi, HRU⟩ := hrel
      rename World => wi
      by_cases hin : i < n1
      · obtain ⟨⟨fe, v⟩, hp⟩ : ∃ p, X2[i]? = some p := ⟨_, List.getElem?_eq_getElem (by rw [HX2.out.2.1]; exact hin)⟩
        obtain ⟨a2, m, c2', hv, hmm, hmI⟩ := HCW.out _ (List.mem_of_getElem? hp)
        simp only at hv hmm
        subst hv
        have HPV : Hid ((.slice a2 m c2', m) ∈ vs) := by
          show _ ∈ vs
          rw [← HVS.out]
          refine List.mem_map.2 ⟨_, List.mem_of_getElem? hp, ?_⟩
          rw [hmm]
        have hfg := fefl_get X2 i _ hp 1 (.slice a2 m c2') rfl
        have HCE : Hid (∀ y : World, MuR x7 y x1.heap.size x2.heap.size vs (.slice g2 n1 c2) n1 (fefl X2) → ∃ gR, g2 = some ⟨gR, 0, none⟩ ∧ y.cell? ⟨gR, i * 3 + 1, none⟩ = some (.slice a2 m c2')) := fun y hy => by
          have h1 := hy.row
          rcases h1.2 with ⟨_, h2⟩ | ⟨g, cap, cur, h2, h3, h4, h5⟩
          · omega
          · injection h2 with h2 _ _
            subst h2
            exact ⟨g, rfl, (h1.cellAt (i * 3 + 1) (by omega)).trans hfg⟩
        obtain ⟨gR, hgR, hcR⟩ := HCE.out wi HRU.out
        have hiI : (i : Int) < (n1 : Int) := by omega
        have hi0 : (0 : Int) ≤ (i : Int) := by omega
        have hm0 : (0 : Int) ≤ (m : Int) := by omega
        have hc2I : (n1 : Int) ≤ (c2 : Int) := by
          obtain ⟨A, C, e, h1, h2, h3⟩ := fe_cap HX2.out.1
          injection e with _ _ e
          rw [HX2.out.2.1] at h2
          omega
        subst hgR
        clear hp hmm hfg
        go_wp2
        go_loopw [68] (fun v68 wz => ∃ j : Nat, v68 = .int .i64 (j : Int) ∧ j ≤ m ∧ Hid (MuR x7 wz x1.heap.size x2.heap.size vs (.slice (some ⟨gR, 0, none⟩) n1 c2) n1 (fefl X2))) (fun v68 _ => m - (intOf v68).toNat)
        case atStart => exact ⟨0, rfl, Nat.zero_le _, HRU.out⟩
        case round =>
          obtain ⟨j, rfl, hj, HRV⟩ := hrel
          rename World => wj
          by_cases hjm : j < m
          · obtain ⟨g, z, rfl, hcz, hfz, hnx⟩ := HRV.out.step HPV.out j hjm
            obtain ⟨gR', hgR', hcR'⟩ := HCE.out wj HRV.out
            injection hgR' with hgR'
            injection hgR' with hgR' _ _
            subst hgR'
            have HNX : Hid (∀ y : Int, MuR x7 (wj.setCell ⟨g, j, none⟩ (.int .u8 y)) x1.heap.size x2.heap.size vs (.slice (some ⟨gR, 0, none⟩) n1 c2) n1 (fefl X2)) := hnx
            have hjI : (j : Int) < (m : Int) := by omega
            have hj0 : (0 : Int) ≤ (j : Int) := by omega
            clear hnx hcR
            go_wp2
            go_roundw
            case rel => exact ⟨j + 1, by go_num, by omega, HNX.out _⟩
            case measure => simp [intOf]; omega
          · obtain rfl : j = m := by omega
            clear hjm hj
            go_wp2
            go_roundw
            case rel => exact ⟨i + 1, by go_num, by omega, HRV.out⟩
            case measure => simp [intOf]; omega
      · obtain rfl : i = n1 := by omega
        clear hin hi
        obtain ⟨x8, hx8⟩ : ∃ x8, wi = x8 := ⟨_, rfl⟩
        subst hx8
        rename World => x8
        have HX8 : Hid (RX x8 x4.heap.size q b (x3.heap.size) MA MA (fun k => x2.heap.size ≤ k ∧ k < x3.heap.size) X3 ar nr cr ∧ Below w.heap.size w x8) := ⟨HX7.out.low (Nat.le_of_eq HRU.out.size.symm) (lim := x2.heap.size) ⟨by have := HSZ.out; omega, by have := HSZ.out; omega, fun k hk => hk.1⟩ (fun k h1 _ => HRU.out.out k (.inr h1)), HRU.out.below HB7.out.2 HB1.out.size⟩
        have HLOW : Hid (w.heap.size ≤ x3.heap.size) := by show _ ≤ _; have := HSZ.out; have := HB1.out.size; omega
        have HBASE : Hid (w.heap.size ≤ x4.heap.size) := by show _ ≤ _; have := HSZ.out; have := HB1.out.size; omega
        go_wp2_with fail
        refine wp_region_held (S := (fun y => RdAt y (x3.heap.size) (.slice ar nr cr) MA.rn)) (by kernel_rfl) ?_
        change wpAnyH _ _ _ _ _ _ _ _ (World.drew _)
        obtain ⟨xd, hxd⟩ : ∃ xd, World.drew x8 = xd := ⟨_, rfl⟩
        have HXxd : Hid (RX xd x4.heap.size q b (x3.heap.size) MA MA (fun k => x2.heap.size ≤ k ∧ k < x3.heap.size) X3 ar nr cr ∧ Below w.heap.size w xd) := by rw [← hxd]; exact ⟨HX8.out.1.keep (Below.refl _ _).drew, HX8.out.2.drew⟩
        rw [hxd]
        clear hxd
        have HPD : Hid ((fun y => RdAt y (x3.heap.size) (.slice ar nr cr) MA.rn) xd) := HXxd.out.1.rd
        refine wpAnyH_take (i := 0) (oi := { dst := some 83, op := Op.move (Operand.tmp 10), type := 24, pos := "law.go:115", after := #[], guard := none }) (v := ?_) rfl (by kernel_rfl) (by kernel_rfl) (by kernel_rfl) (fun _ _ _ h => h) (Or.inl ⟨by rfl, ?_⟩) HPD.out ?_
        rotate_left
        · (intro y hy; go_simp; try (with_reducible rfl))
        simp only [Act.put, List.setIfInBounds_toArray, List.set_cons_zero, List.set_cons_succ]
        refine wpAnyH_take (i := 2) (oi := { dst := some 85, op := Op.fieldAddr 28 (Operand.tmp 8) 0, type := 0, pos := "law.go:115", after := #[], guard := none }) (v := ?_) rfl (by kernel_rfl) (by kernel_rfl) (by kernel_rfl) (fun _ _ _ h => h) (Or.inl ⟨by rfl, ?_⟩) HPD.out ?_
        rotate_left
        · (intro y hy; go_simp; try (with_reducible rfl))
        simp only [Act.put, List.setIfInBounds_toArray, List.set_cons_zero, List.set_cons_succ]
        refine wpAnyH_take (i := 3) (oi := { dst := some 86, op := Op.load 26 (Operand.tmp 85), type := 26, pos := "law.go:115", after := #[{ on := 2, ground := Ground.data }], guard := none }) (v := .slice ar nr cr) rfl (by kernel_rfl) (by kernel_rfl) (by kernel_rfl) (fun _ _ _ h => h) (Or.inl ⟨by rfl, ?_⟩) HPD.out ?_
        · (intro y hy; have h0 := (RdAt.cells hy).1; go_simp)
        simp only [Act.put, List.setIfInBounds_toArray, List.set_cons_zero, List.set_cons_succ]
        refine wpAnyH_ready (rs := [1]) (by kernel_rfl) (by simp) ?_
        refine AllReadyH.cons (o := { dst := some 84, op := Op.call { callee := Callee.value (Operand.func 24), args := #[Operand.tmp 83], argTypes := #[24] }, type := 26, pos := "law.go:115", after := #[{ on := 0, ground := Ground.data }], guard := none }) rfl (fun K hK => ?_) AllReadyH.nil
        go_simp
        refine (image_F HXxd.out.1.df HOK0.out).mono ?_
        rintro _ y1 ⟨viq, Xiq, rfl, hiq, heq, hbq⟩
        have hlenq : Xiq.length = nr := by have h9 := congrArg List.length (heq.trans HXxd.out.1.ab.symm); rw [List.length_map, List.length_map, HXxd.out.1.len] at h9; exact h9
        obtain ⟨aiq, ciq, hviq, _, _⟩ := hiq.fls
        rw [hlenq] at hviq
        subst hviq
        have HIq : Hid (FlsA y1 aiq Xiq ∧ Xiq.length = nr ∧ Xiq.map Prod.fst = X3.map Prod.fst) := ⟨imf hiq, hlenq, heq.trans HXxd.out.1.ab.symm⟩
        have HXy1 : Hid (RX y1 x4.heap.size q b (x3.heap.size) MA MA (fun k => x2.heap.size ≤ k ∧ k < x3.heap.size) X3 ar nr cr ∧ Below w.heap.size w y1) := ⟨HXxd.out.1.keep hbq, HXxd.out.2.trans (hbq.mono HXxd.out.2.size)⟩
        have HSy1 : Hid ((fun y => RdAt y (x3.heap.size) (.slice ar nr cr) MA.rn) y1) := HXy1.out.1.rd
        clear hiq heq hbq hlenq
        (refine hK _ _ HSy1.out ?_; clear hK K; intro _)
        try simp only [Act.put, List.setIfInBounds_toArray, List.set_cons_zero, List.set_cons_succ]
        refine wpAnyH_ready (rs := [4]) (by kernel_rfl) (by simp) ?_
        refine AllReadyH.cons (o := { dst := some 87, op := Op.call { callee := Callee.value (Operand.func 23), args := #[Operand.tmp 84, Operand.tmp 86], argTypes := #[26, 26] }, type := 4, pos := "law.go:115", after := #[{ on := 1, ground := Ground.data }, { on := 3, ground := Ground.data }, { on := 1, ground := Ground.chain }], guard := none }) rfl (fun K hK => ?_) AllReadyH.nil
        go_simp
        refine (fls_same Xiq X3 nr aiq ar ciq cr y1 HIq.out.2.2 HIq.out.2.1 HIq.out.1 HXy1.out.1.rf.fls (by have h1 := HOK0.out.few; rw [← HXy1.out.1.ab, List.length_map, HXy1.out.1.len] at h1; omega)).mono ?_
        rintro _ y2 ⟨rfl, hby2⟩
        have HXy2 : Hid (RX y2 x4.heap.size q b (x3.heap.size) MA MA (fun k => x2.heap.size ≤ k ∧ k < x3.heap.size) X3 ar nr cr ∧ Below w.heap.size w y2) := ⟨HXy1.out.1.keep hby2, HXy1.out.2.trans (hby2.mono HXy1.out.2.size)⟩
        have HSy2 : Hid ((fun y => RdAt y (x3.heap.size) (.slice ar nr cr) MA.rn) y2) := HXy2.out.1.rd
        clear hby2
        (refine hK _ _ HSy2.out ?_; clear hK K; intro _)
        try simp only [Act.put, List.setIfInBounds_toArray, List.set_cons_zero, List.set_cons_succ]
        refine wpAnyH_take (i := 5) (oi := { dst := some 88, op := Op.unOp UnOp.not 4 (Operand.tmp 87), type := 4, pos := "law.go:115", after := #[{ on := 4, ground := Ground.data }], guard := none }) (v := ?_) rfl (by kernel_rfl) (by kernel_rfl) (by kernel_rfl) (fun _ _ _ h => h) (Or.inl ⟨by rfl, ?_⟩) HSy2.out ?_
        rotate_left
        · (intro y hy; go_simp; try (with_reducible rfl))
        simp only [Act.put, List.setIfInBounds_toArray, List.set_cons_zero, List.set_cons_succ]
        refine wpAnyH_take (i := 6) (oi := { dst := some 89, op := Op.move (Operand.tmp 88), type := 4, pos := "law.go:115", after := #[{ on := 5, ground := Ground.data }, { on := 4, ground := Ground.chain }], guard := none }) (v := ?_) rfl (by kernel_rfl) (by kernel_rfl) (by kernel_rfl) (fun _ _ _ h => h) (Or.inl ⟨by rfl, ?_⟩) HSy2.out ?_
        rotate_left
        · (intro y hy; go_simp; try (with_reducible rfl))
        simp only [Act.put, List.setIfInBounds_toArray, List.set_cons_zero, List.set_cons_succ]
        refine wpAnyH_take (i := 7) (oi := { dst := some 90, op := Op.move (Operand.tmp 10), type := 24, pos := "law.go:115", after := #[{ on := 6, ground := Ground.guard }], guard := some (6, false) }) (v := ?_) rfl (by kernel_rfl) (by kernel_rfl) (by kernel_rfl) (fun _ _ _ h => h) (Or.inl ⟨by rfl, ?_⟩) HSy2.out ?_
        rotate_left
        · (intro y hy; go_simp; try (with_reducible rfl))
        simp only [Act.put, List.setIfInBounds_toArray, List.set_cons_zero, List.set_cons_succ]
        refine wpAnyH_take (i := 8) (oi := { dst := some 91, op := Op.load 28 (Operand.tmp 8), type := 28, pos := "law.go:115", after := #[{ on := 6, ground := Ground.guard }], guard := some (6, false) }) (v := rdV (.slice ar nr cr) MA.rn) rfl (by kernel_rfl) (by kernel_rfl) (by kernel_rfl) (fun _ _ _ h => h) (Or.inl ⟨by rfl, fun y hy => exec_load_rd (.tmp 8) rfl rfl hy⟩) HSy2.out ?_
        simp only [Act.put, List.setIfInBounds_toArray, List.set_cons_zero, List.set_cons_succ]
        refine wpAnyH_ready (rs := [9]) (by kernel_rfl) (by simp) ?_
        refine AllReadyH.cons (o := { dst := some 92, op := Op.call { callee := Callee.value (Operand.func 16), args := #[Operand.tmp 90, Operand.tmp 91], argTypes := #[24, 28] }, type := 4, pos := "law.go:115", after := #[{ on := 7, ground := Ground.data }, { on := 8, ground := Ground.data }, { on := 6, ground := Ground.chain }, { on := 6, ground := Ground.guard }], guard := some (6, false) }) rfl (fun K hK => ?_) AllReadyH.nil
        go_simp
        refine (told_any y2 _ _ _ _ _ _ _ _ HXy2.out.1.df.da HOK0.out HXy2.out.1.refD).mono ?_
        rintro _ y3 ⟨rfl, hby3⟩
        have HXy3 : Hid (RX y3 x4.heap.size q b (x3.heap.size) MA MA (fun k => x2.heap.size ≤ k ∧ k < x3.heap.size) X3 ar nr cr ∧ Below w.heap.size w y3) := ⟨HXy2.out.1.keep hby3, HXy2.out.2.trans (hby3.mono HXy2.out.2.size)⟩
        have HSy3 : Hid ((fun y => RdAt y (x3.heap.size) (.slice ar nr cr) MA.rn) y3) := HXy3.out.1.rd
        clear hby3
        (refine hK _ _ HSy3.out ?_; clear hK K; intro _)
        try simp only [Act.put, List.setIfInBounds_toArray, List.set_cons_zero, List.set_cons_succ]
        refine wpAnyH_take (i := 10) (oi := { dst := some 93, op := Op.unOp UnOp.not 4 (Operand.tmp 92), type := 4, pos := "law.go:115", after := #[{ on := 9, ground := Ground.data }, { on := 6, ground := Ground.guard }], guard := some (6, false) }) (v := ?_) rfl (by kernel_rfl) (by kernel_rfl) (by kernel_rfl) (fun _ _ _ h => h) (Or.inl ⟨by rfl, ?_⟩) HSy3.out ?_
        rotate_left
        · (intro y hy; go_simp; try (with_reducible rfl))
        simp only [Act.put, List.setIfInBounds_toArray, List.set_cons_zero, List.set_cons_succ]
        refine wpAnyH_take (i := 11) (oi := { dst := some 94, op := Op.pick (Operand.tmp 89) (Operand.const (Value.bool true)) (Operand.tmp 93), type := 4, pos := "law.go:115", after := #[{ on := 6, ground := Ground.data }, { on := 10, ground := Ground.data }], guard := none }) (v := ?_) rfl (by kernel_rfl) (by kernel_rfl) (by kernel_rfl) (fun _ _ _ h => h) (Or.inl ⟨by rfl, ?_⟩) HSy3.out ?_
        rotate_left
        · (intro y hy; go_simp; try (with_reducible rfl))
        simp only [Act.put, List.setIfInBounds_toArray, List.set_cons_zero, List.set_cons_succ]
        refine wpAnyH_done (by kernel_rfl) ?_ _
        go_wp2_with fail
        go_loopw [97] (fun v97 wr => ∃ (k : Nat) (A : Ak) (G : Nat → Prop) (X : List (Fa × Value)) (a' : Option Addr) (n' c' : Nat), v97 = .int .i64 (k : Int) ∧ k ≤ n ∧ Hid (RX wr x4.heap.size q b x3.heap.size A A G X a' n' c' ∧ AkOk A ∧ Below w.heap.size w wr)) (fun v97 _ => n - (intOf v97).toNat)
        case atStart => exact ⟨0, _, _, _, _, _, _, rfl, Nat.zero_le _, HXy3.out.1, HOK0.out, HXy3.out.2⟩
        case round =>
          obtain ⟨k, A, G, X, a', n', c', rfl, hk, HRR⟩ := hrel
          rename World => wo
          by_cases hkn : k < n
          · obtain ⟨o, ho⟩ : ∃ o, L[k]? = some o := ⟨_, List.getElem?_eq_getElem (by rw [HN.out]; exact hkn)⟩
            have hops := HL.out.keep HRR.out.2.2
            obtain ⟨b0, off, rfl, hb0, hrg⟩ : ∃ b0 off, a = some ⟨b0, off, none⟩ ∧ b0 < wo.heap.size ∧ wo.rangeAt b0 (off + k * 7) (opL o) := by
              rcases hops.1 with h1 | ⟨b0, off, h1, h2, h3⟩
              · rw [h1] at ho; simp at ho
              · exact ⟨b0, off, h1, h2, h3 k o ho⟩
            have HRNG : Hid (wo.rangeAt b0 (off + k * 7) (opL o)) := hrg
            have HOI : Hid (OpIn w o ∧ OpIn wo o) := ⟨HL.out.2 o (List.mem_of_getElem? ho), hops.2 o (List.mem_of_getElem? ho)⟩
            have HOZ : Hid (OpAt (wo.alloc (.cells #[.int .i64 0, .string ⟨#[]⟩, .string ⟨#[]⟩, .slice none 0 0, .int .i64 0, .int .i64 0, .slice none 0 0] 34)) wo.heap.size opZ) := OpAt.newZ wo
            obtain ⟨R, hR⟩ : ∃ R, doA A o = R := ⟨_, rfl⟩
            have hok2 : AkOk R.1 := by rw [← hR]; exact doA_ok HRR.out.2.1 HOI.out.1.n
            have hln2 : R.2.1.length ≤ 67108864 := by rw [← hR]; exact doA_len HRR.out.2.1 o
            obtain ⟨A2, by2, nn, E⟩ := R
            simp only at hok2 hln2
            have HR : Hid (doA A o = (A2, by2, nn, E)) := hR
            have HOK : Hid (AkOk A2) := hok2
            obtain ⟨LB, hLB⟩ : ∃ LB, by2.length = LB := ⟨_, rfl⟩
            have HLB : Hid (by2.length = LB ∧ LB ≤ 67108864) := ⟨hLB, by rw [← hLB]; exact hln2⟩
            have HKD : Hid (x3.heap.size < wo.heap.size ∧ ¬ G (x3.heap.size)) := ⟨HRR.out.1.rd.lt, HRR.out.1.ng⟩
            have hkI : (k : Int) < (n : Int) := by omega
            have hk0 : (0 : Int) ≤ (k : Int) := by omega
            clear hops hrg ho hR hok2 hln2 hLB hb0
            go_wp2_with (first
              | ((with_reducible refine guard_load 34 ?_); refine wpList_load_opr rfl _ rfl HRNG.out rfl ?_)
              | ((with_reducible refine guard_store 34 ?_); refine wpList_store_op rfl _ _ rfl rfl HOZ.out rfl rfl (p2 := o) ?_; intro x3r ho3 hb3 hs3; have HB3 : Hid (Below wo.heap.size wo x3r) := hb3 _ _ ((Below.refl _ _).alloc (Nat.le_refl _) _) (Nat.le_refl _); have HO3 : Hid (OpAt x3r wo.heap.size o ∧ OpIn x3r o) := ⟨ho3, HOI.out.2.keep HB3.out⟩; have HX3 : Hid (RX x3r x4.heap.size q b (x3.heap.size) A A G X a' n' c') := HRR.out.1.keep HB3.out; have HW3 : Hid (Below w.heap.size w x3r) := HRR.out.2.2.trans (HB3.out.mono HRR.out.2.2.size); clear ho3 hb3 hs3)
              | ((with_reducible refine guard_load 28 ?_); refine wpList_load_rd rfl _ rfl HR5.out.1 rfl ?_)
              | ((with_reducible refine guard_load 28 ?_); refine wpList_load_rd rfl _ rfl HX3.out.rd rfl ?_)
              | ((with_reducible refine guard_load 34 ?_); refine wpList_load_opb rfl _ rfl HO6.out rfl ?_)
              | ((with_reducible refine guard_load 34 ?_); refine wpList_load_opb rfl _ rfl HO3.out.1 rfl ?_)
              | (go_at_call 17; refine (rdo_any x3r A HRR.out.2.1 X a' n' c' HX3.out.refD o HO3.out.2).mono ?_; rw [HR.out]; rintro _ y4 ⟨a4, n4, c4, Y4, v4, rfl, hC4, hl4, hm4, ho4, hf4, hb4⟩; (obtain ⟨g4, d4, rfl⟩ : ∃ g4 d4, v4 = .slice g4 LB d4 := (by obtain ⟨g4, d4, e4⟩ := row_shape ho4.2; exact ⟨g4, d4, by rw [e4]; exact congrArg (fun z => Value.slice g4 z d4) HLB.out.1⟩)); have H4 : Hid (FlsC X a' x3r y4 a4 Y4 ∧ Y4.length = n4 ∧ Y4.map Prod.fst = A2.fs ∧ Own y4 x3r.heap.size (.slice g4 LB d4) by2 ∧ Below x3r.heap.size x3r y4) := ⟨hC4, hl4, hm4, ho4, hb4⟩; have HZ4 : Hid (RdAt (y4.alloc (.cells #[.slice none 0 0, .int .i64 0, .int .i64 0, .bool false, .int .i64 0, .int .i64 0] 28)) y4.heap.size (.slice none 0 0) ⟨0, 0, false, 0, 0⟩ ∧ Below y4.heap.size y4 (y4.alloc (.cells #[.slice none 0 0, .int .i64 0, .int .i64 0, .bool false, .int .i64 0, .int .i64 0] 28))) := ⟨RdAt.new y4 (.slice none 0 0) ⟨0, 0, false, 0, 0⟩, (Below.refl _ _).alloc (Nat.le_refl _) _⟩; clear hC4 hl4 hm4 ho4 hf4 hb4)
              | ((with_reducible refine guard_store 28 ?_); refine wpList_store_rd rfl _ _ rfl rfl HK5.out (slice_one _ _ _) rfl rfl (v2 := .slice a4 n4 c4) (q2 := A2.rn) ?_; intro u6 hr6 hb6 hh6 hs6; have HX6 : Hid (RX u6 x4.heap.size q b (x3.heap.size) A A2 (fun k => G k ∨ (x3r.heap.size ≤ k ∧ k < y4.heap.size)) Y4 a4 n4 c4) := HX3.out.swap H4.out.2.2.2.2 H4.out.1 HR5.out.2 hr6 hh6 hs6 H4.out.2.1 H4.out.2.2.1; have HO6 : Hid (OpAt u6 wo.heap.size o) := ((hh6 _ (by have := HKD.out.1; omega)).trans ((HO3.out.1.keep H4.out.2.2.2.2).keep HR5.out.2)); have HW6 : Hid (Below w.heap.size w u6) := hb6 _ _ ((HW3.out.trans (H4.out.2.2.2.2.mono HW3.out.size)).trans (HR5.out.2.mono (Nat.le_trans HW3.out.size H4.out.2.2.2.2.size))) HLOW.out; have HV6 : Hid (∀ k, x3r.heap.size ≤ k → k < y4.heap.size → u6.heap[k]? = y4.heap[k]?) := (fun k h1 h2 => (hh6 k (by have := HKD.out.1; have := HB3.out.size; omega)).trans (HR5.out.2.block k h2)); clear hr6 hb6 hh6 hs6)
              | ((with_reducible refine guard_store 28 ?_); refine wpList_store_rd rfl _ _ rfl rfl HZ4.out.1 rfl rfl rfl (v2 := .slice a4 n4 c4) (q2 := A2.rn) ?_; intro z5 hr5 hb5 hh5 hs5; have HR5 : Hid (RdAt z5 y4.heap.size (.slice a4 n4 c4) A2.rn ∧ Below y4.heap.size y4 z5) := ⟨hr5, hb5 _ _ HZ4.out.2 (Nat.le_refl _)⟩; have HK5 : Hid (RdAt z5 (x3.heap.size) (.slice a' n' c') A.rn) := (HX3.out.rd.keep H4.out.2.2.2.2).keep HR5.out.2; clear hr5 hb5 hh5 hs5)
              | (go_at_call 18; refine (call_F u6 x4.heap.size q b A _ HX6.out.df HRR.out.2.1 o (HOI.out.1.keep HW6.out)).mono ?_; rw [HR.out]; rintro _ x7 ⟨v7, rfl, ho7, hd7, hk7, hb7⟩; have HX7 : Hid (RX x7 x4.heap.size q b (x3.heap.size) A2 A2 (fun k => G k ∨ (x3r.heap.size ≤ k ∧ k < y4.heap.size)) Y4 a4 n4 c4 ∧ Below w.heap.size w x7) := ⟨HX6.out.called hd7 hk7 hb7.size, HW6.out.trans (hb7.mono HBASE.out)⟩; clear hd7 hk7 hb7 ho7)
              | go_in)
            refine wp_region_held (S := (fun y => RdAt y (x3.heap.size) (.slice a4 n4 c4) A2.rn)) (by kernel_rfl) ?_
            change wpAnyH _ _ _ _ _ _ _ _ (World.drew _)
            obtain ⟨xd, hxd⟩ : ∃ xd, World.drew x7 = xd := ⟨_, rfl⟩
            have HXxd : Hid (RX xd x4.heap.size q b (x3.heap.size) A2 A2 (fun k => G k ∨ (x3r.heap.size ≤ k ∧ k < y4.heap.size)) Y4 a4 n4 c4 ∧ Below w.heap.size w xd) := by rw [← hxd]; exact ⟨HX7.out.1.keep (Below.refl _ _).drew, HX7.out.2.drew⟩
            rw [hxd]
            clear hxd
            have HPD : Hid ((fun y => RdAt y (x3.heap.size) (.slice a4 n4 c4) A2.rn) xd) := HXxd.out.1.rd
            refine wpAnyH_take (i := 0) (oi := { dst := some 117, op := Op.move (Operand.tmp 22), type := 37, pos := "law.go:122", after := #[], guard := none }) (v := ?_) rfl (by kernel_rfl) (by kernel_rfl) (by kernel_rfl) (fun _ _ _ h => h) (Or.inl ⟨by rfl, ?_⟩) HPD.out ?_
            rotate_left
            · (intro y hy; go_simp; try (with_reducible rfl))
            simp only [Act.put, List.setIfInBounds_toArray, List.set_cons_zero, List.set_cons_succ]
            refine wpAnyH_take (i := 1) (oi := { dst := some 118, op := Op.move (Operand.tmp 19), type := 3, pos := "law.go:122", after := #[], guard := none }) (v := ?_) rfl (by kernel_rfl) (by kernel_rfl) (by kernel_rfl) (fun _ _ _ h => h) (Or.inl ⟨by rfl, ?_⟩) HPD.out ?_
            rotate_left
            · (intro y hy; go_simp; try (with_reducible rfl))
            simp only [Act.put, List.setIfInBounds_toArray, List.set_cons_zero, List.set_cons_succ]
            refine wpAnyH_take (i := 2) (oi := { dst := some 119, op := Op.binOp BinOp.neq 3 (Operand.tmp 117) (Operand.tmp 118) 3, type := 4, pos := "law.go:122", after := #[{ on := 0, ground := Ground.data }, { on := 1, ground := Ground.data }], guard := none }) (v := .bool false) rfl (by kernel_rfl) (by kernel_rfl) (by kernel_rfl) (fun _ _ _ h => h) (Or.inl ⟨by rfl, ?_⟩) HPD.out ?_
            · (intro y hy; go_simp)
            simp only [Act.put, List.setIfInBounds_toArray, List.set_cons_zero, List.set_cons_succ]
            refine wpAnyH_take (i := 3) (oi := { dst := some 120, op := Op.move (Operand.tmp 119), type := 4, pos := "law.go:122", after := #[{ on := 2, ground := Ground.data }], guard := none }) (v := ?_) rfl (by kernel_rfl) (by kernel_rfl) (by kernel_rfl) (fun _ _ _ h => h) (Or.inl ⟨by rfl, ?_⟩) HPD.out ?_
            rotate_left
            · (intro y hy; go_simp; try (with_reducible rfl))
            simp only [Act.put, List.setIfInBounds_toArray, List.set_cons_zero, List.set_cons_succ]
            refine wpAnyH_take (i := 4) (oi := { dst := some 121, op := Op.move (Operand.tmp 10), type := 24, pos := "law.go:122", after := #[{ on := 3, ground := Ground.guard }], guard := some (3, false) }) (v := ?_) rfl (by kernel_rfl) (by kernel_rfl) (by kernel_rfl) (fun _ _ _ h => h) (Or.inl ⟨by rfl, ?_⟩) HPD.out ?_
            rotate_left
            · (intro y hy; go_simp; try (with_reducible rfl))
            simp only [Act.put, List.setIfInBounds_toArray, List.set_cons_zero, List.set_cons_succ]
            refine wpAnyH_take (i := 6) (oi := { dst := some 123, op := Op.fieldAddr 28 (Operand.tmp 8) 0, type := 0, pos := "law.go:122", after := #[{ on := 3, ground := Ground.guard }], guard := some (3, false) }) (v := ?_) rfl (by kernel_rfl) (by kernel_rfl) (by kernel_rfl) (fun _ _ _ h => h) (Or.inl ⟨by rfl, ?_⟩) HPD.out ?_
            rotate_left
            · (intro y hy; go_simp; try (with_reducible rfl))
            simp only [Act.put, List.setIfInBounds_toArray, List.set_cons_zero, List.set_cons_succ]
            refine wpAnyH_take (i := 7) (oi := { dst := some 124, op := Op.load 26 (Operand.tmp 123), type := 26, pos := "law.go:122", after := #[{ on := 6, ground := Ground.data }, { on := 3, ground := Ground.guard }], guard := some (3, false) }) (v := .slice a4 n4 c4) rfl (by kernel_rfl) (by kernel_rfl) (by kernel_rfl) (fun _ _ _ h => h) (Or.inl ⟨by rfl, ?_⟩) HPD.out ?_
            · (intro y hy; have h0 := (RdAt.cells hy).1; go_simp)
            simp only [Act.put, List.setIfInBounds_toArray, List.set_cons_zero, List.set_cons_succ]
            refine wpAnyH_ready (rs := [5]) (by kernel_rfl) (by simp) ?_
            refine AllReadyH.cons (o := { dst := some 122, op := Op.call { callee := Callee.value (Operand.func 24), args := #[Operand.tmp 121], argTypes := #[24] }, type := 26, pos := "law.go:122", after := #[{ on := 4, ground := Ground.data }, { on := 3, ground := Ground.chain }, { on := 3, ground := Ground.guard }], guard := some (3, false) }) rfl (fun K hK => ?_) AllReadyH.nil
            go_simp
            refine (image_F HXxd.out.1.df HOK.out).mono ?_
            rintro _ y6 ⟨vir, Xir, rfl, hir, her, hbr⟩
            have hlenr : Xir.length = n4 := by have h9 := congrArg List.length (her.trans HXxd.out.1.ab.symm); rw [List.length_map, List.length_map, HXxd.out.1.len] at h9; exact h9
            obtain ⟨air, cir, hvir, _, _⟩ := hir.fls
            rw [hlenr] at hvir
            subst hvir
            have HIr : Hid (FlsA y6 air Xir ∧ Xir.length = n4 ∧ Xir.map Prod.fst = Y4.map Prod.fst) := ⟨imf hir, hlenr, her.trans HXxd.out.1.ab.symm⟩
            have HXy6 : Hid (RX y6 x4.heap.size q b (x3.heap.size) A2 A2 (fun k => G k ∨ (x3r.heap.size ≤ k ∧ k < y4.heap.size)) Y4 a4 n4 c4 ∧ Below w.heap.size w y6) := ⟨HXxd.out.1.keep hbr, HXxd.out.2.trans (hbr.mono HXxd.out.2.size)⟩
            have HSy6 : Hid ((fun y => RdAt y (x3.heap.size) (.slice a4 n4 c4) A2.rn) y6) := HXy6.out.1.rd
            clear hir her hbr hlenr
            (refine hK _ _ HSy6.out ?_; clear hK K; intro _)
            try simp only [Act.put, List.setIfInBounds_toArray, List.set_cons_zero, List.set_cons_succ]
            refine wpAnyH_ready (rs := [8]) (by kernel_rfl) (by simp) ?_
            refine AllReadyH.cons (o := { dst := some 125, op := Op.call { callee := Callee.value (Operand.func 23), args := #[Operand.tmp 122, Operand.tmp 124], argTypes := #[26, 26] }, type := 4, pos := "law.go:122", after := #[{ on := 5, ground := Ground.data }, { on := 7, ground := Ground.data }, { on := 5, ground := Ground.chain }, { on := 3, ground := Ground.guard }], guard := some (3, false) }) rfl (fun K hK => ?_) AllReadyH.nil
            go_simp
            refine (fls_same Xir Y4 n4 air a4 cir c4 y6 HIr.out.2.2 HIr.out.2.1 HIr.out.1 HXy6.out.1.rf.fls (by have h1 := HOK.out.few; rw [← HXy6.out.1.ab, List.length_map, HXy6.out.1.len] at h1; omega)).mono ?_
            rintro _ y7 ⟨rfl, hby7⟩
            have HXy7 : Hid (RX y7 x4.heap.size q b (x3.heap.size) A2 A2 (fun k => G k ∨ (x3r.heap.size ≤ k ∧ k < y4.heap.size)) Y4 a4 n4 c4 ∧ Below w.heap.size w y7) := ⟨HXy6.out.1.keep hby7, HXy6.out.2.trans (hby7.mono HXy6.out.2.size)⟩
            have HSy7 : Hid ((fun y => RdAt y (x3.heap.size) (.slice a4 n4 c4) A2.rn) y7) := HXy7.out.1.rd
            clear hby7
            (refine hK _ _ HSy7.out ?_; clear hK K; intro _)
            try simp only [Act.put, List.setIfInBounds_toArray, List.set_cons_zero, List.set_cons_succ]
            refine wpAnyH_take (i := 9) (oi := { dst := some 126, op := Op.unOp UnOp.not 4 (Operand.tmp 125), type := 4, pos := "law.go:122", after := #[{ on := 8, ground := Ground.data }, { on := 3, ground := Ground.guard }], guard := some (3, false) }) (v := ?_) rfl (by kernel_rfl) (by kernel_rfl) (by kernel_rfl) (fun _ _ _ h => h) (Or.inl ⟨by rfl, ?_⟩) HSy7.out ?_
            rotate_left
            · (intro y hy; go_simp; try (with_reducible rfl))
            simp only [Act.put, List.setIfInBounds_toArray, List.set_cons_zero, List.set_cons_succ]
            refine wpAnyH_take (i := 10) (oi := { dst := some 127, op := Op.pick (Operand.tmp 120) (Operand.const (Value.bool true)) (Operand.tmp 126), type := 4, pos := "law.go:122", after := #[{ on := 3, ground := Ground.data }, { on := 9, ground := Ground.data }], guard := none }) (v := ?_) rfl (by kernel_rfl) (by kernel_rfl) (by kernel_rfl) (fun _ _ _ h => h) (Or.inl ⟨by rfl, ?_⟩) HSy7.out ?_
            rotate_left
            · (intro y hy; go_simp; try (with_reducible rfl))
            simp only [Act.put, List.setIfInBounds_toArray, List.set_cons_zero, List.set_cons_succ]
            refine wpAnyH_done (by kernel_rfl) ?_ _
            go_wp2
            all_goals go_roundw
            case rel => exact ⟨k + 1, A2, _, Y4, a4, n4, c4, by go_num, by omega, HXy7.out.1, HOK.out, HXy7.out.2⟩
            case measure => simp [intOf]; omega
          · obtain rfl : k = n := by omega
            clear hkn hk
            go_wp2
            go_ret
            exact ⟨rfl, HRR.out.2.2⟩
  · have HME : Hid (ME ≠ 0) := hME
    have he1 : ((ME : Int) == 0) = false := by simp; exact hME
    have he2 : ((ME : Int) != 0) = true := by simp; exact hME
    clear hME
    go_enter Try.func4, Try.ntmps4
    go_wp2_with (first
      | (go_at_call 13; refine (head10_any w).mono ?_; rintro _ x1 ⟨rfl, hb1⟩; have HB1 : Hid (Below w.heap.size w x1) := hb1; clear hb1)
      | (go_at_call 20; refine (copy_files x1 Y a1 n1 cap1 HY.out.2 (HY.out.1.keep HB1.out) hn1I).mono ?_; rintro _ x2 ⟨g2, c2, X2, rfl, hi2, he2, hb2⟩; have HX2 : Hid (OwnFe x2 x1.heap.size (.slice g2 n1 c2) X2 ∧ X2.length = n1 ∧ X2.map Prod.fst = Y.map Prod.fst ∧ FeA x2 g2 X2) := ⟨hi2, (by have h9 := congrArg List.length he2; rw [List.length_map, List.length_map, HY.out.2] at h9; exact h9), he2, (hi2.files (HBND.out X2 he2)).fe⟩; have HB2 : Hid (Below w.heap.size w x2 ∧ Below x1.heap.size x1 x2) := ⟨HB1.out.trans (hb2.mono HB1.out.size), hb2⟩; clear hi2 he2 hb2)
      | (go_at_call 21; refine (rmount_any x2 room HRI.out.1 HRI.out.2 Y a1 n1 cap1 HY.out.2 (HY.out.1.keep HB2.out.1).fe (by omega)).mono ?_; rw [HM0.out]; rintro rr x3 ⟨hb3, hor⟩; (obtain rfl : rr = .returned (.tuple #[rdV (.slice none 0 0) ⟨0, 0, false, 0, 0⟩, .int .i64 (ME : Nat)]) := (by rcases hor with ⟨_, h⟩ | ⟨h1, _⟩; exact h; exact absurd h1 HME.out)); have HB3 : Hid (Below x2.heap.size x2 x3) := hb3; have HZ3 : Hid (RdAt (x3.alloc (.cells #[.slice none 0 0, .int .i64 0, .int .i64 0, .bool false, .int .i64 0, .int .i64 0] 28)) x3.heap.size (.slice none 0 0) ⟨0, 0, false, 0, 0⟩ ∧ Below x3.heap.size x3 (x3.alloc (.cells #[.slice none 0 0, .int .i64 0, .int .i64 0, .bool false, .int .i64 0, .int .i64 0] 28))) := ⟨RdAt.new x3 (.slice none 0 0) ⟨0, 0, false, 0, 0⟩, (Below.refl _ _).alloc (Nat.le_refl _) _⟩; clear hb3 hor)
      | ((with_reducible refine guard_store 28 ?_); refine wpList_store_rd rfl _ _ rfl rfl HZ3.out.1 rfl rfl rfl (v2 := .slice none 0 0) (q2 := ⟨0, 0, false, 0, 0⟩) ?_; intro x4 hr4 hb4 _ _; have HR4 : Hid (RdAt x4 x3.heap.size (.slice none 0 0) ⟨0, 0, false, 0, 0⟩ ∧ Below x3.heap.size x3 x4 ∧ Below x2.heap.size x2 x4) := ⟨hr4, hb4 _ _ HZ3.out.2 (Nat.le_refl _), HB3.out.trans ((hb4 _ _ HZ3.out.2 (Nat.le_refl _)).mono HB3.out.size)⟩; clear hr4 hb4)
      | (go_at_call 22; refine (mount_any x4 room HRI.out.1 HRI.out.2 X2 g2 n1 c2 HX2.out.2.1 (HX2.out.2.2.2.keep HR4.out.2.2) (by omega)).mono ?_; rw [HX2.out.2.2.1, HM0.out]; rintro _ x6 ⟨P6, rfl, hb6, hor⟩; (obtain rfl : P6 = .pointer none := (by rcases hor with ⟨_, h⟩ | ⟨h1, _⟩; exact h; exact absurd h1 HME.out)); have HB6 : Hid (Below x2.heap.size x2 x6) := HR4.out.2.2.trans (hb6.mono HR4.out.2.2.size); clear hb6 hor)
      | (go_at_call 23; refine (fe_same X2 Y n1 g2 a1 c2 cap1 x6 HX2.out.2.2.1 HX2.out.2.1 (HX2.out.2.2.2.keep HB6.out) ((HY.out.1.keep HB2.out.1).fe.keep HB6.out) (by omega)).mono ?_; rintro _ x7 ⟨rfl, hb7⟩; have HB7 : Hid (Below x2.heap.size x2 x7 ∧ Below w.heap.size w x7) := ⟨HB6.out.trans (hb7.mono HB6.out.size), (HB2.out.1.trans (HB6.out.mono HB2.out.1.size)).trans (hb7.mono (Nat.le_trans HB2.out.1.size HB6.out.size))⟩; clear hb7)
      | go_in)
    go_ret
    exact ⟨rfl, HB7.out.2⟩
theorem own : ownKnob Try.prog.godebug = none := by kernel_rfl
theorem laidOut : laidOutB Try.prog = true := by kernel_rfl
set_option maxRecDepth 100000 in
theorem contract (H : Type) (enc : TypeId × Value → H) (W : World) (base : Nat) (args : Array Value) (ds gs : List (DataW H)) (before : List MemPlace)
    (hval : ∀ (j : Nat) t v, Try.f4.params[j]? = some t → args[j]? = some v → Value.okWide Try.prog W .any base t v)
    (hW : DataW.Whole enc Try.prog Try.f4.params.toList Rows.simfsImagesSpec.vars false W args.toList ds gs before)
    (hsz : (DataW.weightsEach Try.prog (Try.f4.params.toList ++ Rows.simfsImagesSpec.plain.varTypes Try.prog) (ds ++ gs)).all (· ≤ reachBytes) = true) :
    Calls Try.prog 4 args W fun e W' => ∃ v, e = .returned v ∧ Rows.simfsImagesSpec.post enc Try.prog Try.f4 false true false false W args v W' := by
  have hW' := hW
  obtain ⟨p, q, hA0, hV, rfl, hfz, hnd⟩ := hW
  have hA : DataW.TrodAll enc Try.prog W 0 (fun _ => true) true Try.f4.params.toList args.toList ds p := hA0
  rw [Try.params4] at hA hval hsz
  obtain ⟨v0, vs0, d0, ds0, p0, q0, hargs, rfl, rfl, h0, r0⟩ := trodAll_cons hA
  obtain ⟨v1, vs1, d1, ds1, p1, q1, rfl, rfl, rfl, h1, r1⟩ := trodAll_cons r0
  obtain ⟨v2, vs2, d2, ds2, p2, q2, rfl, rfl, rfl, h2, r2⟩ := trodAll_cons r1
  obtain ⟨rfl, rfl, rfl⟩ := trodAll_nil r2
  obtain rfl : args = #[v0, v1, v2] := by cases args; simp_all
  obtain ⟨rfl, rfl⟩ := trodVars_none hV
  obtain ⟨a0, rfl, rfl, rfl, w0⟩ := open_int Try.underlying3 (hval 0 3 v0 rfl rfl) h0
  obtain ⟨a1, len1, cap1, rfl⟩ := okWide_slice Try.underlying26 (hval 1 26 v1 rfl rfl)
  have k1 := h1
  have lt1 : ∀ x ∈ p1, x.block < W.heap.size := by obtain ⟨m, hm⟩ := k1; exact DataW.trod_lt m _ _ _ hm
  obtain ⟨l1, hlen1, w1, c1⟩ : ∃ L : List (Fe × Value), L.length = len1 ∧ FilesAt W a1 L ∧ (len1 ≤ cap1 ∧ cap1 * 48 ≤ 140737488351232) := by
    obtain ⟨fuel, hf⟩ := h1
    rcases open_files hf with ⟨hcs, hx⟩ | ⟨x, l, c, L, D, hcs, hl, hm, hLl, hfs, hrw, hx, hD⟩
    · simp [Value.cells] at hcs
      obtain ⟨rfl, rfl, rfl⟩ := hcs
      exact ⟨[], rfl, files_mk (.inl rfl) (fun p hp => by cases hp) (fun p hp => by cases hp), Nat.le_refl _, by simp⟩
    · simp [Value.cells] at hcs
      obtain ⟨rfl, rfl, rfl⟩ := hcs
      have hd : d1 = _ := hx
      obtain ⟨s1, s2⟩ := sized_files hsz (j := 1) rfl (by rw [hd]; rfl) hl hLl hD
      refine ⟨L, hLl, files_mk ?_ hrw s2, hl, s1⟩
      rcases hfs with h1 | ⟨b, off, h1, h2, h3⟩
      · exact .inl h1
      · exact .inr ⟨b, off, by rw [h1], h2, h3⟩
  subst hlen1
  obtain ⟨a2, len2, cap2, rfl⟩ := okWide_slice Try.underlying22 (hval 2 22 v2 rfl rfl)
  have k2 := h2
  have lt2 : ∀ x ∈ p2, x.block < W.heap.size := by obtain ⟨m, hm⟩ := k2; exact DataW.trod_lt m _ _ _ hm
  obtain ⟨l2, hlen2, w2, c2⟩ : ∃ L : List Oa, L.length = len2 ∧ OpsAt W a2 L ∧ (len2 ≤ cap2 ∧ cap2 * 104 ≤ 140737488351232) := by
    obtain ⟨fuel, hf⟩ := h2
    rcases open_ops hf with ⟨hcs, hx⟩ | ⟨x, l, c, L, D, hcs, hl, hm, hLl, hfs, hrw, hx, hD⟩
    · simp [Value.cells] at hcs
      obtain ⟨rfl, rfl, rfl⟩ := hcs
      exact ⟨[], rfl, ⟨.inl rfl, fun p hp => by cases hp⟩, Nat.le_refl _, by simp⟩
    · simp [Value.cells] at hcs
      obtain ⟨rfl, rfl, rfl⟩ := hcs
      have hd : d2 = _ := hx
      obtain ⟨s1, s2⟩ := sized_ops hsz (j := 2) rfl (by rw [hd]; rfl) hl hLl hrw hD
      refine ⟨L, hLl, ⟨?_, s2⟩, hl, s1⟩
      rcases hfs with h1 | ⟨b, off, h1, h2, h3⟩
      · exact .inl h1
      · exact .inr ⟨b, off, by rw [h1], h2, h3⟩
  subst hlen2
  clear hA0
  refine (walk a0 l1 a1 cap1 l2 a2 cap2 W w0 w1 c1 w2 c2).mono fun e W' ⟨he, bel⟩ => ?_
  subst he
  exact ⟨_, rfl, _, _, _, [], _, [], hW', trodAll_mk1 (shut_bool Try.underlying4 _), (trodAll_cons_mk (shut_int Try.underlying3 w0) (trodAll_cons_mk (Below.trod laidOut (by kernel_rfl) (of_decide_eq_true (by kernel_rfl)) k1 bel lt1) (trodAll_cons_mk (Below.trod laidOut (by kernel_rfl) (of_decide_eq_true (by kernel_rfl)) k2 bel lt2) trodAll_mk0))), rfl, bel.frame _, fun h => by cases h⟩
set_option maxRecDepth 100000 in
theorem lifted (os : Os) (started : os.Started) (H : Type) (enc : TypeId × Value → H) :
    ReturnsInHanded {} Try.checked os 4 .any (Rows.simfsImagesSpec.pre6 enc Try.prog Try.f4 Rows.simfsImagesRow.domain false) (Rows.simfsImagesSpec.post enc Try.prog Try.f4 false true false false) := by
  refine returnsInHanded_of_change_sized (C := Try.checked) own started (by kernel_rfl) Try.func4
    (ChangeSpec.witness6 (enc := enc) (C := Try.checked) false ⟨#[], #[.int .i64 0, .slice none 0 0, .slice none 0 0], []⟩ 8 (by kernel_rfl) (by kernel_rfl) (by kernel_rfl) (by kernel_rfl)) ?_
  intro W base args ds gs before hval hW _ hsz _
  exact contract H enc W base args ds gs before hval hW hsz
theorem over : Rows.simfsImagesRow.holds Try.pinned (OpenSpec.ofChange Rows.simfsImagesSpec) :=
  OpenClaim.holds_of_wide 4 Try.f4 rfl rfl rfl rfl rfl rfl rfl ⟨rfl, rfl, rfl, rfl, rfl⟩ rfl rfl rfl rfl rfl (by kernel_rfl) Try.func4 (by kernel_rfl)
    (of_decide_eq_true (by kernel_rfl)) (by unfold Func.isWrapper; first | (rw [if_pos (by decide +kernel)]; kernel_rfl) | (rw [if_neg (by decide +kernel)]; exact ⟨rfl, rfl⟩))
    (fun os started H enc _ => lifted os started H enc)
theorem proved : Rows.SimfsImagesSaid := over
end Go.Proofs.Ytlnhhgmdajbepaa.simfsImages
