/- For every room and every script: marks in what a disk answers show nowhere, and a nil disk's answers are fixed. No condition. -/
import Derived.Test.YtlnhhgmdajbepaaJ45
import Derived.Test.YtlnhhgmdajbepaaK29
namespace Go.Proofs.Ytlnhhgmdajbepaa.simfsOwn
open Go.ChangeShapes Go.WideShapes Go.ChangeAt Go.RowKit
set_option linter.unusedVariables false
set_option linter.unusedSimpArgs false
theorem mup_at {x0 wr : World} {lo hi : Nat} {ds : List (Value × Nat)} {gR n c : Nat} (h : MuP x0 wr lo hi ds (.slice (some ⟨gR, 0, none⟩) n c) n) {i : Nat} {dv : Value} {m : Nat} (hp : ds[i]? = some (dv, m)) : wr.cell? ⟨gR, i * 3 + 1, none⟩ = some dv ∧ wr.frozen? ⟨gR, i * 3 + 1, none⟩ = false := by
  obtain ⟨g, c2, e, _, h1, h2⟩ := h.at hp
  injection e with e
  injection e with e
  injection e with e _ _
  subst e
  exact ⟨h1, h2⟩
theorem own_set {ds : List (Value × Nat)} {i : Nat} {p p2 : Value × Nat} (h : ds[i]? = some p) : (ds.set i p2)[i]? = some p2 := List.getElem?_set_self (List.getElem?_eq_some_iff.1 h).1
theorem own_shape {y : World} {lo : Nat} {v : Value} {m : Nat} (h : OwnB y lo v (m + 1)) : ∃ g c, v = .slice (some ⟨g, 0, none⟩) (m + 1) c := by
  rcases h with ⟨_, h1⟩ | ⟨g, c, cur, h1, _⟩
  · omega
  · exact ⟨g, c, h1⟩
theorem own_rest {ds : List (Value × Nat)} {i : Nat} {p2 : Value × Nat} (h : ∀ (k : Nat) (p : Value × Nat), i + 1 ≤ k → ds[k]? = some p → p.2 ≤ 67108864) : ∀ (k : Nat) (p : Value × Nat), i + 1 ≤ k → (ds.set i p2)[k]? = some p → p.2 ≤ 67108864 := fun k p hk hp => by
  rw [List.getElem?_set_ne (by omega)] at hp
  exact h k p hk hp
/-- an image whose blocks are as they were -/
theorem im_span {x y : World} {lo hi : Nat} {v : Value} {X : List (Fa × Value)} (h : OwnIm x lo v X) (hh : x.heap.size ≤ hi) (hs : ∀ k, lo ≤ k → k < hi → y.heap[k]? = x.heap[k]?) : OwnIm y lo v X :=
  h.turn (fun k h1 h2 => hs k h1 (Nat.lt_of_lt_of_le h2 hh))
theorem row_span {x y : World} {lo hi e sz n : Nat} {v : Value} {cs : List Value} (h : x.ownsRow lo e sz v n cs) (hh : x.heap.size ≤ hi) (hs : ∀ k, lo ≤ k → k < hi → y.heap[k]? = x.heap[k]?) : y.ownsRow lo e sz v n cs :=
  row_turn h (fun k h1 h2 => hs k h1 (Nat.lt_of_lt_of_le h2 hh))
/-- while the names are gone through -/
structure RdS (w wr y2 : World) (base q b sB sC sD : Nat) (L : List Fa) (A : Ak) (gn : Option Addr) (NN cn i : Nat) : Prop where
  df : DF wr base q b A (fun k => sB ≤ k ∧ k < sD)
  ok : AkOk A
  fs : A.fs = L
  b2 : ∀ k, sB ≤ k → k < sC → wr.heap[k]? = y2.heap[k]?
  row : ∃ cs, wr.ownsRow sC 9 1 (.slice gn NN cn) NN cs ∧ ∀ k, i ≤ k → k < NN → ∃ f, L[k]? = some f ∧ cs[k]? = some (.string (bs f.name))
  rb : ∀ g, (Value.slice gn NN cn).ownBlock = some g → g < sD
  low : Below w.heap.size w wr
  sz : sC ≤ sD ∧ sD ≤ wr.heap.size ∧ sB ≤ sC ∧ w.heap.size ≤ sB
set_option maxRecDepth 100000 in
set_option maxHeartbeats 8000000 in
theorem walk (room : Int) (L : List Oa) (a : Option Addr) (cap : Nat) (w : World) (w0 : (Lit.int .i64 room).wf = true) (hL : OpsAt w a L) (hc : L.length ≤ cap ∧ cap * 104 ≤ 140737488351232) :
    Calls Try.prog 12 #[.int .i64 room, .slice a L.length cap] w fun e w' => e = .returned (.bool true) ∧ Below w.heap.size w w' := by
  have hri := wf_i64 room w0
  obtain ⟨i0, hi0, hz0, hz1, hz2⟩ := info8
  obtain ⟨n, hn⟩ : ∃ n, L.length = n := ⟨_, rfl⟩
  have HN : Hid (L.length = n) := hn
  have hnI : (n : Int) ≤ 140737488351232 := by omega
  have hn0 : (0 : Int) ≤ (n : Int) := by omega
  rw [hn]
  have HL : Hid (OpsAt w a L) := hL
  have HRI : Hid (inI room) := hri
  have hr1 := hri.1
  have hr2 := hri.2
  clear w0 hL hc hn hri
  go_enter Try.func12, Try.ntmps12
  go_wp2_with (first
    | (go_at_call 13; refine (head10_any w).mono ?_; rintro _ x1 ⟨rfl, hb1⟩; have HB1 : Hid (Below w.heap.size w x1) := hb1; clear hb1)
    | (go_at_call 14; refine (new_A room x1 HRI.out.1 HRI.out.2).mono ?_; rintro _ x2 ⟨q, b, rfl, hd2, hb2⟩; have HD2 : Hid (DA x2 x1.heap.size q b (newD room).ab ∧ AkOk (newD room).ab ∧ Below w.heap.size w x2) := ⟨hd2, newA_ok room, HB1.out.trans (hb2.mono HB1.out.size)⟩; clear hd2 hb2)
    | go_in)
  go_loopw [28] (fun v28 wr => ∃ (k : Nat) (A : Ak), v28 = .int .i64 (k : Int) ∧ k ≤ n ∧ Hid (DA wr x1.heap.size q b A ∧ AkOk A ∧ Below w.heap.size w wr)) (fun v28 _ => n - (intOf v28).toNat)
  case atStart => exact ⟨0, _, rfl, Nat.zero_le _, HD2.out⟩
  case round =>
    obtain ⟨k, A, rfl, hk, HRR⟩ := hrel
    rename World => wo
    by_cases hkn : k < n
    · obtain ⟨o, ho⟩ : ∃ o, L[k]? = some o := ⟨_, List.getElem?_eq_getElem (by rw [HN.out]; exact hkn)⟩
      have hops := HL.out.keep HRR.out.2.2
      obtain ⟨b0, off, rfl, hb0, hrg⟩ : ∃ b0 off, a = some ⟨b0, off, none⟩ ∧ b0 < wo.heap.size ∧ wo.rangeAt b0 (off + k * 7) (opL o) := by
        rcases hops.1 with h1 | ⟨b0, off, h1, h2, h3⟩
        · rw [h1] at ho; simp at ho
        · exact ⟨b0, off, h1, h2, h3 k o ho⟩
      have HRNG : Hid (wo.rangeAt b0 (off + k * 7) (opL o)) := hrg
      have HOI : Hid (OpIn wo o) := hops.2 o (List.mem_of_getElem? ho)
      have HOZ : Hid (OpAt (wo.alloc (.cells #[.int .i64 0, .string ⟨#[]⟩, .string ⟨#[]⟩, .slice none 0 0, .int .i64 0, .int .i64 0, .slice none 0 0] 34)) wo.heap.size opZ) := OpAt.newZ wo
      have HNX : Hid (AkOk (doA A o).1) := doA_ok HRR.out.2.1 HOI.out.n
      obtain ⟨R, hR⟩ : ∃ R, doA A o = R := ⟨_, rfl⟩
      rw [hR] at HNX
      obtain ⟨A2, by2, nn, E⟩ := R
      have HR : Hid (doA A o = (A2, by2, nn, E)) := hR
      have hkI : (k : Int) < (n : Int) := by omega
      have hk0 : (0 : Int) ≤ (k : Int) := by omega
      clear hops hrg ho hR
      go_wp2_with (first
        | ((with_reducible refine guard_load 34 ?_); refine wpList_load_opr rfl _ rfl HRNG.out rfl ?_)
        | ((with_reducible refine guard_store 34 ?_); refine wpList_store_op rfl _ _ rfl rfl HOZ.out rfl rfl (p2 := o) ?_; intro x4 ho4 hb4 hs4; have HB4 : Hid (Below wo.heap.size wo x4) := hb4 _ _ ((Below.refl _ _).alloc (Nat.le_refl _) _) (Nat.le_refl _); have HO4 : Hid (OpAt x4 wo.heap.size o) := ho4; have HD4 : Hid (DF x4 x1.heap.size q b A (fun _ => False)) := (HRR.out.1.keep HB4.out).df; clear ho4 hb4 hs4)
        | ((with_reducible refine guard_load 34 ?_); refine wpList_load_opb rfl _ rfl HO4.out rfl ?_)
        | (go_at_call 18; refine (call_F x4 x1.heap.size q b A _ HD4.out HRR.out.2.1 o (HOI.out.keep HB4.out)).mono ?_; rw [HR.out]; rintro _ x5 ⟨v5, rfl, ho5, hd5, hk5, hb5⟩; have HD5 : Hid (DA x5 x1.heap.size q b A2) := hd5.da; have HB5 : Hid (Below w.heap.size w x5) := (HRR.out.2.2.trans (HB4.out.mono HRR.out.2.2.size)).trans (hb5.mono HB1.out.size); clear ho5 hd5 hk5 hb5)
        | go_in)
      go_roundw
      case rel => exact ⟨k + 1, A2, by go_num, by omega, HD5.out, HNX.out, HB5.out⟩
      case measure => simp [intOf]; omega
    · obtain rfl : k = n := by omega
      clear hkn hk
      obtain ⟨N, hNN⟩ : ∃ N, A.fs.length = N := ⟨_, rfl⟩
      have HNL : Hid (A.fs.length = N) := hNN
      have hNI : (N : Int) ≤ 700 := by have := HRR.out.2.1.few; omega
      have hN0 : (0 : Int) ≤ (N : Int) := by omega
      obtain ⟨NL, hNL⟩ : ∃ NL, (if A.off = true then [] else A.fs.map (·.name)) = NL := ⟨_, rfl⟩
      have HNLE : Hid ((if A.off = true then [] else A.fs.map (·.name)) = NL) := hNL
      obtain ⟨NN, hNN2⟩ : ∃ NN, NL.length = NN := ⟨_, rfl⟩
      have HNN : Hid (NL.length = NN ∧ NN ≤ N ∧ ∀ k, k < NN → ∃ f, A.fs[k]? = some f ∧ NL[k]? = some f.name) := by
        refine ⟨hNN2, ?_, fun k hk => ?_⟩
        · rw [← hNN2, ← hNL]; split
          · exact Nat.zero_le _
          · rw [List.length_map, hNN]; exact Nat.le_refl _
        · by_cases ho : A.off = true
          · rw [if_pos ho] at hNL; rw [← hNN2, ← hNL] at hk; exact absurd hk (Nat.not_lt_zero _)
          · rw [if_neg ho] at hNL
            have hk2 : k < A.fs.length := by rw [← hNN2, ← hNL, List.length_map] at hk; exact hk
            exact ⟨A.fs[k], List.getElem?_eq_getElem hk2, by rw [← hNL, List.getElem?_map, List.getElem?_eq_getElem hk2]; rfl⟩
      have hNNI : (NN : Int) ≤ (N : Int) := by have := HNN.out.2.1; omega
      have hNN0 : (0 : Int) ≤ (NN : Int) := by omega
      obtain ⟨sA, hsA⟩ : ∃ sA, wo.heap.size = sA := ⟨_, rfl⟩
      have HSA : Hid (wo.heap.size = sA ∧ w.heap.size ≤ sA) := ⟨hsA, by rw [← hsA]; exact HRR.out.2.2.size⟩
      have T1 : Hid True := trivial
      clear hNN hNL hNN2 hsA
      go_wp2_with (first
        | (go_at_call 24; clear T1; refine (image_F HRR.out.1.df HRR.out.2.1).mono ?_; rintro _ y1 ⟨va, Xa, rfl, hiy1, hey1, hby1⟩; (obtain ⟨ga, ca, hvy1, _, _⟩ := hiy1.fls); (have hly1 : Xa.length = N := (by have h9 := congrArg List.length hey1; rw [List.length_map, HNL.out] at h9; exact h9)); rw [hly1] at hvy1; subst hvy1; have HI1 : Hid (OwnIm y1 wo.heap.size (.slice ga N ca) Xa ∧ Xa.length = N ∧ Xa.map Prod.fst = A.fs ∧ DF y1 x1.heap.size q b A (fun k => False ∨ (wo.heap.size ≤ k ∧ k < y1.heap.size)) ∧ Below wo.heap.size wo y1) := ⟨hiy1, hly1, hey1, HRR.out.1.df.more hby1, hby1⟩; clear hiy1 hey1 hby1 hly1)
        | (go_at_call 24; refine (image_F HI1.out.2.2.2.1 HRR.out.2.1).mono ?_; rintro _ y2 ⟨vb, Xb, rfl, hiy2, hey2, hby2⟩; (obtain ⟨gb, cb, hvy2, _, _⟩ := hiy2.fls); (have hly2 : Xb.length = N := (by have h9 := congrArg List.length hey2; rw [List.length_map, HNL.out] at h9; exact h9)); rw [hly2] at hvy2; subst hvy2; have HI2 : Hid (OwnIm y2 y1.heap.size (.slice gb N cb) Xb ∧ Xb.length = N ∧ Xb.map Prod.fst = A.fs ∧ DF y2 x1.heap.size q b A (fun k => False ∨ (wo.heap.size ≤ k ∧ k < y1.heap.size)) ∧ Below y1.heap.size y1 y2) := ⟨hiy2, hly2, hey2, HI1.out.2.2.2.1.keep hby2, hby2⟩; clear hiy2 hey2 hby2 hly2)
        | (go_at_call 35; refine (list_A HI2.out.2.2.2.1.da HRR.out.2.1).mono ?_; rw [HNLE.out]; rintro _ y3 ⟨vn, rfl, hv3, hb3⟩; (have hv3r := hv3); (unfold OwnT at hv3r); (obtain ⟨gn, cn, hvn⟩ := row_shape hv3r); clear hv3r; rw [HNN.out.1] at hvn; subst hvn; have HI3 : Hid (OwnT y3 y2.heap.size (.slice gn NN cn) NL ∧ Below y2.heap.size y2 y3) := ⟨hv3, hb3⟩; clear hv3 hb3)
        | go_in)
      obtain ⟨sB, hsB⟩ : ∃ sB, y1.heap.size = sB := ⟨_, rfl⟩
      obtain ⟨sC, hsC⟩ : ∃ sC, y2.heap.size = sC := ⟨_, rfl⟩
      obtain ⟨sD, hsD⟩ : ∃ sD, y3.heap.size = sD := ⟨_, rfl⟩
      have HSS : Hid (y1.heap.size = sB ∧ y2.heap.size = sC ∧ y3.heap.size = sD ∧ sA ≤ sB ∧ sB ≤ sC ∧ sC ≤ sD) := by
        have h1 := HI1.out.2.2.2.2.size
        have h2 := HI2.out.2.2.2.2.size
        have h3 := HI3.out.2.size
        have h4 := HSA.out.1
        exact ⟨hsB, hsC, hsD, by omega, by omega, by omega⟩
      have HB13 : Hid (Below sB y1 y3) := by
        show Below _ _ _
        rw [← hsB]
        exact HI2.out.2.2.2.2.trans (HI3.out.2.mono HI2.out.2.2.2.2.size)
      have HBW3 : Hid (Below w.heap.size w y3) := by
        have h1 := HRR.out.2.2.trans (HI1.out.2.2.2.2.mono HRR.out.2.2.size)
        exact (h1.trans (HI2.out.2.2.2.2.mono h1.size)).trans (HI3.out.2.mono (Nat.le_trans h1.size HI2.out.2.2.2.2.size))
      have HDF3 : Hid (DF y3 x1.heap.size q b A (fun k => sA ≤ k ∧ k < sD)) := by
        have h1 := (HRR.out.1.df).more (HI1.out.2.2.2.2.trans ((HI2.out.2.2.2.2.trans (HI3.out.2.mono HI2.out.2.2.2.2.size)).mono HI1.out.2.2.2.2.size))
        exact h1.sub (fun k hk => .inr (by rw [HSA.out.1, hsD]; exact hk))
      obtain ⟨ds, hds⟩ : ∃ ds, Xa.map (fun p => (p.2, p.1.l.length)) = ds := ⟨_, rfl⟩
      have HMN : Hid (MuN y3 y3 sA sB ds (.slice ga N ca) N) := by
        have hrow : y1.ownsRow sA 49 3 (.slice ga N ca) N (imfl Xa) := by
          have h9 := HI1.out.1.1
          rw [HI1.out.2.1, HSA.out.1] at h9
          exact h9
        have hblk : ∀ k, k < sB → y3.heap[k]? = y1.heap[k]? := fun k hk => HB13.out.block k hk
        refine ⟨rfl, rfl, rfl, rfl, fun _ _ => rfl, ⟨imfl Xa, row_turn hrow (fun k _ hk => hblk k (by omega)), fun i p hp => ?_⟩, fun g hg => by have := (hrow.lt g hg).2; omega, by rw [← hds, List.length_map, HI1.out.2.1], fun p hp => ?_⟩
        · rw [← hds, List.getElem?_map] at hp
          cases hx : Xa[i]? with
          | none => rw [hx] at hp; cases hp
          | some e =>
            rw [hx] at hp
            injection hp with hp
            rw [← hp]
            exact (imfl_get Xa i e hx).2.1
        · rw [← hds] at hp
          obtain ⟨e, he, rfl⟩ := List.mem_map.1 hp
          have h9 := U8.of (HI1.out.1.2 e he)
          rw [HSA.out.1, hsB] at h9
          exact h9.keep hblk
      have HDS : Hid (∀ i, i < N → ∃ a2 m c2, ds[i]? = some (.slice a2 m c2, m) ∧ m ≤ 67108864) := fun i hi => by
        have hx : i < Xa.length := by rw [HI1.out.2.1]; exact hi
        obtain ⟨A2, C2, e, _⟩ := (HI1.out.1.2 _ (List.getElem_mem hx)).ready
        have hfm : (Xa[i]).1 ∈ A.fs := by rw [← HI1.out.2.2.1]; exact List.mem_map_of_mem (List.getElem_mem hx)
        have hle := usedA_mem hfm
        have hu := HRR.out.2.1.used
        have hr := HRR.out.2.1.room
        exact ⟨A2, _, C2, by rw [← hds, List.getElem?_map, List.getElem?_eq_getElem hx, ← e]; rfl, by omega⟩
      clear hds hsB hsC hsD
      go_loopw [44] (fun v44 wr => ∃ i : Nat, v44 = .int .i64 (i : Int) ∧ i ≤ N ∧ Hid (MuN y3 wr sA sB ds (.slice ga N ca) N)) (fun v44 _ => N - (intOf v44).toNat)
      case atStart => exact ⟨0, rfl, Nat.zero_le _, HMN.out⟩
      case round =>
        obtain ⟨i, rfl, hi, HRU⟩ := hrel
        rename World => wi
        by_cases hin : i < N
        · obtain ⟨a2, m, c2, hdsi, hmI⟩ := HDS.out i hin
          have HPV : Hid (ds[i]? = some (.slice a2 m c2, m)) := hdsi
          obtain ⟨gR, cR, hgR, hcR2, hcR, _, _, _⟩ := HRU.out.at hdsi
          injection hgR with hgR _ hgR2
          subst hgR hgR2
          simp only at hcR
          have hiI : (i : Int) < (N : Int) := by omega
          have hi0 : (0 : Int) ≤ (i : Int) := by omega
          have hm0 : (0 : Int) ≤ (m : Int) := by omega
          have hmI2 : (m : Int) ≤ 67108864 := by omega
          have hcI : (N : Int) ≤ (ca : Int) := by omega
          clear hdsi
          go_wp2
          go_loopw [53] (fun v53 wz => ∃ j : Nat, v53 = .int .i64 (j : Int) ∧ j ≤ m ∧ Hid (MuN y3 wz sA sB ds (.slice (some ⟨gR, 0, none⟩) N ca) N)) (fun v53 _ => m - (intOf v53).toNat)
          case atStart => exact ⟨0, rfl, Nat.zero_le _, HRU.out⟩
          case round =>
            obtain ⟨j, rfl, hj, HRV⟩ := hrel
            rename World => wj
            obtain ⟨gR', cR', hgR', _, hcR', hsome, hfz0, hnm⟩ := HRV.out.at HPV.out
            injection hgR' with hgR' _ _
            injection hgR' with hgR'
            injection hgR' with hgR' _ _
            subst hgR'
            simp only at hcR'
            by_cases hjm : j < m
            · obtain ⟨g, z, rfl, hcz, hfz, hnx⟩ := HRV.out.byte (List.mem_of_getElem? HPV.out) j hjm
              have HNX : Hid (∀ y : Int, MuN y3 (wj.setCell ⟨g, j, none⟩ (.int .u8 y)) sA sB ds (.slice (some ⟨gR, 0, none⟩) N ca) N) := hnx
              have hjI : (j : Int) < (m : Int) := by omega
              have hj0 : (0 : Int) ≤ (j : Int) := by omega
              clear hnx hcR hnm hsome hfz0
              go_wp2
              go_roundw
              case rel => exact ⟨j + 1, by go_num, by omega, HNX.out _⟩
              case measure => simp [intOf]; omega
            · obtain rfl : j = m := by omega
              obtain ⟨u0, hu0⟩ := Option.isSome_iff_exists.1 hsome
              have HNM : Hid (∀ u : Value, MuN y3 (wj.setCell ⟨gR, i * 3, none⟩ u) sA sB ds (.slice (some ⟨gR, 0, none⟩) N ca) N) := hnm
              clear hjm hj hcR hnm hsome
              go_wp2
              go_roundw
              case rel => exact ⟨i + 1, by go_num, by omega, HNM.out _⟩
              case measure => simp [intOf]; omega
        · obtain rfl : i = N := by omega
          clear hin hi
          rename World => z2
          have HMP : Hid (MuP z2 z2 sA sB ds (.slice ga i ca) i) := HRU.out.p ⟨HSS.out.2.2.2.1, by have h1 := HSS.out; omega⟩
          have HZ2 : Hid (∀ k, (k < sA ∨ sB ≤ k) → z2.heap[k]? = y3.heap[k]?) := HRU.out.out
          have HZS : Hid (z2.heap.size = sD) := by show _ = _; rw [HRU.out.size]; exact HSS.out.2.2.1
          have HBZ2 : Hid (Below w.heap.size w z2) := ⟨HRU.out.os.trans HBW3.out.os, HRU.out.tape.trans HBW3.out.tape, HRU.out.output.trans HBW3.out.output, by rw [HRU.out.size]; exact HBW3.out.size, fun k hk => (HRU.out.out k (.inl (by have := HSA.out.2; omega))).trans (HBW3.out.block k hk)⟩
          have HSM : Hid (∀ (k : Nat) (p : Value × Nat), ds[k]? = some p → p.2 ≤ 67108864) := fun k p hp => by
            have hk : k < i := by
              have := (List.getElem?_eq_some_iff.1 hp).1
              rw [HRU.out.len] at this
              exact this
            obtain ⟨a2, m, c2, h1, h2⟩ := HDS.out k hk
            rw [hp] at h1
            injection h1 with h1
            rw [h1]; exact h2
          obtain ⟨N, hN⟩ : ∃ N, i = N := ⟨_, rfl⟩
          subst hN
          rename Nat => N
          go_wp2
          go_loopw [74] (fun v74 wr => ∃ (i : Nat) (ds : List (Value × Nat)), v74 = .int .i64 (i : Int) ∧ i ≤ N ∧ Hid (MuP z2 wr sA sB ds (.slice ga N ca) N ∧ ∀ (k : Nat) (p : Value × Nat), i ≤ k → ds[k]? = some p → p.2 ≤ 67108864)) (fun v74 _ => N - (intOf v74).toNat)
          case atStart => exact ⟨0, ds, rfl, Nat.zero_le _, HMP.out, fun k p _ hp => HSM.out k p hp⟩
          case round =>
            obtain ⟨i, ds, rfl, hi, HRP⟩ := hrel
            rename World => wi
            by_cases hin : i < N
            · obtain ⟨⟨dv0, m0⟩, hdsi⟩ : ∃ p, ds[i]? = some p := ⟨_, List.getElem?_eq_getElem (by rw [HRP.out.1.len]; exact hin)⟩
              obtain ⟨gR, cR, hgR, hcR2, _, _⟩ := HRP.out.1.at hdsi
              injection hgR with hgR _ hgR2
              subst hgR hgR2
              have hiI : (i : Int) < (N : Int) := by omega
              have hi0' : (0 : Int) ≤ (i : Int) := by omega
              have hcI : (N : Int) ≤ (ca : Int) := by omega
              have HST : Hid (MuP z2 wi sA sB ds (.slice (some ⟨gR, 0, none⟩) N ca) N ∧ ds[i]? = some (dv0, m0) ∧ m0 ≤ 67108864 + 0 ∧ ∀ (k : Nat) (p : Value × Nat), i + 1 ≤ k → ds[k]? = some p → p.2 ≤ 67108864) := ⟨HRP.out.1, hdsi, HRP.out.2 i _ (Nat.le_refl _) hdsi, fun k p hk hp => HRP.out.2 k p (by omega) hp⟩
              clear hdsi
              go_wp2
              go_loopw [14] (fun v14 wz => ∃ (j : Nat) (ds : List (Value × Nat)) (dv : Value) (m : Nat), v14 = .int .i64 (j : Int) ∧ j ≤ 16 ∧ Hid (MuP z2 wz sA sB ds (.slice (some ⟨gR, 0, none⟩) N ca) N ∧ ds[i]? = some (dv, m) ∧ m ≤ 67108864 + j ∧ ∀ (k : Nat) (p : Value × Nat), i + 1 ≤ k → ds[k]? = some p → p.2 ≤ 67108864)) (fun v14 _ => 16 - (intOf v14).toNat)
              case atStart => exact ⟨0, ds, dv0, m0, rfl, Nat.zero_le _, HST.out⟩
              case round =>
                obtain ⟨j, ds, dv, m, rfl, hj, HRV⟩ := hrel
                rename World => wj
                have HMJ : Hid (MuP z2 wj sA sB ds (.slice (some ⟨gR, 0, none⟩) N ca) N) := HRV.out.1
                have HDV : Hid (ds[i]? = some (dv, m) ∧ m ≤ 67108864 + j ∧ ∀ (k : Nat) (p : Value × Nat), i + 1 ≤ k → ds[k]? = some p → p.2 ≤ 67108864) := HRV.out.2
                by_cases hjm : j < 16
                · have hjI : (j : Int) < 16 := by omega
                  have HMB : Hid (MuP z2 (wj.alloc (.cells #[.int .u8 204] 5)) sA sB ds (.slice (some ⟨gR, 0, none⟩) N ca) N) := HMJ.out.drew ((Below.refl _ _).alloc (Nat.le_refl _) _)
                  obtain ⟨v6, x6, hrun6, hone6, hm6, hst6⟩ := HMB.out.app HDV.out.1 (by have := HDV.out.2.1; omega) 31 hi0 hz0 hz1 hz2 wj.heap.size 204 (heap_alloc_new wj _)
                  have HRUN6 : Hid ((Builtin.append_ #[31, 31] 31 #[dv, .slice (some ⟨wj.heap.size, 0, none⟩) 1 1]).run Try.prog (wj.alloc (.cells #[.int .u8 204] 5)) = .ok v6 x6) := hrun6
                  have HST6 : Hid (MuP z2 (x6.setCell ⟨gR, i * 3 + 1, none⟩ v6) sA sB (ds.set i (v6, m + 1)) (.slice (some ⟨gR, 0, none⟩) N ca) N) := hst6 gR ca rfl
                  obtain ⟨g8, z8⟩ := mup_at hm6 HDV.out.1
                  have rl := (mup_at HMJ.out HDV.out.1).1
                  obtain ⟨g6, d6, hv6⟩ := own_shape (HST6.out.own _ (List.mem_of_getElem? (own_set HDV.out.1))).1
                  simp only at hv6
                  subst hv6
                  clear hm6 hst6 hrun6 hone6
                  go_wp2_with (first
                    | (at_builtin; refine wpList_app1 rfl _ _ rfl rfl rfl HRUN6.out ?_)
                    | go_in)
                  go_roundw
                  case rel => exact ⟨j + 1, ds.set i (.slice (some ⟨g6, 0, none⟩) (m + 1) d6, m + 1), .slice (some ⟨g6, 0, none⟩) (m + 1) d6, m + 1, by go_num, by omega, HST6.out, own_set HDV.out.1, by have := HDV.out.2.1; omega, own_rest HDV.out.2.2⟩
                  case measure => simp [intOf]; omega
                · obtain rfl : j = 16 := by omega
                  clear hjm hj
                  go_wp2
                  go_roundw
                  case rel => exact ⟨i + 1, ds, by go_num, by omega, HRV.out.1, fun k p hk hp => HRV.out.2.2.2 k p (by omega) hp⟩
                  case measure => simp [intOf]; omega
            · obtain rfl : i = N := by omega
              clear hin hi
              rename World => z3
              obtain ⟨N, hN⟩ : ∃ N, i = N := ⟨_, rfl⟩
              subst hN
              rename Nat => N
              have HZ3 : Hid (∀ k, k < sD → (k < sA ∨ sB ≤ k) → z3.heap[k]? = y3.heap[k]?) := fun k hk hk2 => (HRP.out.1.out k (by rw [HZS.out]; exact hk) hk2).trans (HZ2.out k hk2)
              have HGR : Hid (sD ≤ z3.heap.size) := by show _ ≤ _; have := HRP.out.1.size; have := HZS.out; omega
              have HDF4 : Hid (DF z3 x1.heap.size q b A (fun k => sB ≤ k ∧ k < sD)) := by
                have h1 : DF z2 x1.heap.size q b A (fun k => sA ≤ k ∧ k < sD) := HDF3.out.turn (by rw [HZS.out, HSS.out.2.2.1]; exact Nat.le_refl _) (fun k hk hnf => HZ2.out k (by have h2 := HSS.out; by_cases h3 : k < sA; exact .inl h3; exact .inr (by omega)))
                have h2 : DF z3 x1.heap.size q b A (fun k => sA ≤ k ∧ k < sD) := h1.turn HRP.out.1.size (fun k hk hnf => HRP.out.1.out k hk (by have h2 := HSS.out; by_cases h3 : k < sA; exact .inl h3; exact .inr (by omega)))
                exact h2.sub (fun k hk => ⟨by have := HSS.out; omega, hk.2⟩)
              have HBZ3 : Hid (Below w.heap.size w z3) := ⟨HRP.out.1.os.trans HBZ2.out.os, HRP.out.1.tape.trans HBZ2.out.tape, HRP.out.1.output.trans HBZ2.out.output, Nat.le_trans HBZ2.out.size HRP.out.1.size, fun k hk => (HRP.out.1.out k (by have := HBZ2.out.size; omega) (.inl (by have := HSA.out.2; omega))).trans (HBZ2.out.block k hk)⟩
              have HIBK : Hid (∀ y : World, (∀ k, sB ≤ k → k < sC → y.heap[k]? = y2.heap[k]?) → OwnIm y sB (.slice gb N cb) Xb) := fun y hy => by
                have h1 := HI2.out.1
                rw [HSS.out.1] at h1
                exact im_span h1 (Nat.le_of_eq HSS.out.2.1) hy
              have HR0 : Hid (RdS w z3 y2 x1.heap.size q b sB sC sD A.fs A gn NN cn 0) := by
                refine ⟨HDF4.out, HRR.out.2.1, rfl, fun k h1 h2 => ?_, ?_, fun g hg => ?_, HBZ3.out, ?_⟩
                · rw [HZ3.out k (by have := HSS.out; omega) (.inr h1)]
                  exact HI3.out.2.block k (by rw [HSS.out.2.1]; exact h2)
                · have h1 := HI3.out.1.1
                  have h0 := HI3.out.1
                  unfold OwnT at h0
                  rw [HSS.out.2.1, HNN.out.1] at h0
                  refine ⟨_, row_span h0 (Nat.le_of_eq HSS.out.2.2.1) (fun k h1 h2 => HZ3.out k h2 (.inr (by have := HSS.out; omega))), fun k _ hk => ?_⟩
                  obtain ⟨f, hf1, hf2⟩ := HNN.out.2.2 k hk
                  exact ⟨f, hf1, by rw [List.getElem?_map, hf2]; rfl⟩
                · have h0 := HI3.out.1
                  unfold OwnT at h0
                  have := (h0.lt g hg).2
                  have := HSS.out
                  omega
                · have h1 := HSS.out
                  exact ⟨h1.2.2.2.2.2, HGR.out, h1.2.2.2.2.1, by have := HSA.out.2; omega⟩
              have hNd : decide (N < NN) = false := by have := HNN.out.2.1; simp; omega
              go_wp2
              go_loopw [100] (fun v100 wr => ∃ (i : Nat) (A2 : Ak), v100 = .int .i64 (i : Int) ∧ i ≤ NN ∧ Hid (RdS w wr y2 x1.heap.size q b sB sC sD A.fs A2 gn NN cn i)) (fun v100 _ => NN - (intOf v100).toNat)
              case atStart => exact ⟨0, A, rfl, Nat.zero_le _, HR0.out⟩
              case round =>
                obtain ⟨i, A2, rfl, hi, HRR⟩ := hrel
                rename World => wi
                by_cases hin : i < NN
                · obtain ⟨cs, hcs, hnames⟩ := HRR.out.row
                  obtain ⟨f, hf, hcf⟩ := hnames i (Nat.le_refl _) hin
                  have him := HIBK.out wi HRR.out.b2
                  obtain ⟨gN, rfl, hgN1, hgN2, hcN, hfN, hcapN⟩ := row_cell hcs hin
                  have hxb : i < Xb.length := by rw [HI2.out.2.1]; have := HNN.out.2.1; omega
                  obtain ⟨ab, cb2, eb, hrd⟩ := (him.2 _ (List.getElem_mem hxb)).ready
                  clear hrd
                  obtain ⟨mb, hmb⟩ : ∃ mb, (Xb[i]).1.l.length = mb := ⟨_, rfl⟩
                  rw [hmb] at eb
                  have hxi : Xb[i]? = some Xb[i] := List.getElem?_eq_getElem hxb
                  obtain ⟨gB, rfl, hgB1, hgB2, hcB, hcapB⟩ := im_cell him HI2.out.2.1 hxi
                  rw [eb] at hcB
                  rw [hcf] at hcN
                  obtain ⟨nm, hnm⟩ : ∃ nm, f.name = nm := ⟨_, rfl⟩
                  rw [hnm] at hcN
                  have HCC : Hid (wi.cell? ⟨gN, i, none⟩ = some (.string (bs nm)) ∧ wi.cell? ⟨gB, i * 3 + 1, none⟩ = some (.slice ab mb cb2)) := ⟨hcN, hcB⟩
                  have HLT : Hid (gN < wi.heap.size ∧ gB < wi.heap.size) := ⟨hgN2, hgB2⟩
                  have HGN : Hid (sB ≤ gN ∧ gN < sD) := ⟨by have := HSS.out; omega, HRR.out.rb gN rfl⟩
                  have HGBC : Hid (sB ≤ gB ∧ gB < sC) := ⟨hgB1, im_low (HIBK.out y2 (fun _ _ _ => rfl)) (Nat.le_of_eq HSS.out.2.1)⟩
                  have HGB : Hid (sB ≤ gB ∧ gB < sD) := ⟨hgB1, by have := HGBC.out; have := HSS.out; omega⟩
                  have HGNC : Hid (sC ≤ gN) := hgN1
                  have HNM : Hid (nm.length ≤ 281474976710656) := by
                    show _ ≤ _
                    have h1 := HRR.out.ok.name f (by rw [HRR.out.fs]; exact List.mem_of_getElem? hf)
                    rw [hnm] at h1; omega
                  have hmb6 : mb ≤ 67108864 := by
                    have hfm : (Xb[i]).1 ∈ A.fs := by rw [← HI2.out.2.2.1]; exact List.mem_map_of_mem (List.getElem_mem hxb)
                    have hle := usedA_mem hfm
                    have hu := HRR.out.ok.used
                    have hr := HRR.out.ok.room
                    rw [HRR.out.fs] at hu
                    omega
                  have hmbI : (mb : Int) ≤ 67108864 := by omega
                  have hmb0 : (0 : Int) ≤ (mb : Int) := by omega
                  have hiI : (i : Int) < (NN : Int) := by omega
                  have hiN : (i : Int) < (N : Int) := by omega
                  have hi0' : (0 : Int) ≤ (i : Int) := by omega
                  have hcapNI : (NN : Int) ≤ (cn : Int) := by omega
                  have hcapBI : (N : Int) ≤ (cb : Int) := by omega
                  have HROW : Hid (∃ cs, wi.ownsRow sC 9 1 (.slice (some ⟨gN, 0, none⟩) NN cn) NN cs ∧ ∀ k, i ≤ k → k < NN → ∃ f, A.fs[k]? = some f ∧ cs[k]? = some (.string (bs f.name))) := HRR.out.row
                  clear hcs hnames hf hcf him hcN hfN hcapN hgN1 hgN2 hxb eb hmb hxi hcB hgB1 hgB2 hcapB hnm hmb6
                  go_wp2
                  refine wp_region_held (S := (fun y => y.cell? ⟨gN, i, none⟩ = some (.string (bs nm)) ∧ y.cell? ⟨gB, i * 3 + 1, none⟩ = some (.slice ab mb cb2))) (by kernel_rfl) ?_
                  change wpAnyH _ _ _ _ _ _ _ _ (World.drew _)
                  obtain ⟨xd, hxd⟩ : ∃ xd, World.drew wi = xd := ⟨_, rfl⟩
                  have HXD : Hid (Below wi.heap.size wi xd) := by rw [← hxd]; exact (Below.refl _ _).drew
                  rw [hxd]
                  clear hxd
                  have HDFd : Hid (DF xd x1.heap.size q b A2 (fun k => sB ≤ k ∧ k < sD)) := HRR.out.df.keep HXD.out
                  have HPD : Hid ((fun y => y.cell? ⟨gN, i, none⟩ = some (.string (bs nm)) ∧ y.cell? ⟨gB, i * 3 + 1, none⟩ = some (.slice ab mb cb2)) xd) := ⟨(HXD.out.cell (p := ⟨gN, i, none⟩) HLT.out.1).trans HCC.out.1, (HXD.out.cell (p := ⟨gB, i * 3 + 1, none⟩) HLT.out.2).trans HCC.out.2⟩
                  refine wpAnyH_take (i := 0) (oi := { dst := some 104, op := Op.move (Operand.tmp 5), type := 24, pos := "law.go:335", after := #[], guard := none }) (v := ?_) rfl (by kernel_rfl) (by kernel_rfl) (by kernel_rfl) (fun _ _ _ h => h) (Or.inl ⟨by rfl, ?_⟩) HPD.out ?_
                  rotate_left
                  · (intro y hy; go_simp; try (with_reducible rfl))
                  simp only [Act.put, List.setIfInBounds_toArray, List.set_cons_zero, List.set_cons_succ]
                  refine wpAnyH_take (i := 1) (oi := { dst := some 105, op := Op.move (Operand.tmp 10), type := 63, pos := "law.go:335", after := #[], guard := none }) (v := ?_) rfl (by kernel_rfl) (by kernel_rfl) (by kernel_rfl) (fun _ _ _ h => h) (Or.inl ⟨by rfl, ?_⟩) HPD.out ?_
                  rotate_left
                  · (intro y hy; go_simp; try (with_reducible rfl))
                  simp only [Act.put, List.setIfInBounds_toArray, List.set_cons_zero, List.set_cons_succ]
                  refine wpAnyH_take (i := 2) (oi := { dst := some 106, op := Op.move (Operand.tmp 15), type := 3, pos := "law.go:335", after := #[], guard := none }) (v := ?_) rfl (by kernel_rfl) (by kernel_rfl) (by kernel_rfl) (fun _ _ _ h => h) (Or.inl ⟨by rfl, ?_⟩) HPD.out ?_
                  rotate_left
                  · (intro y hy; go_simp; try (with_reducible rfl))
                  simp only [Act.put, List.setIfInBounds_toArray, List.set_cons_zero, List.set_cons_succ]
                  refine wpAnyH_take (i := 3) (oi := { dst := some 107, op := Op.indexAddr 63 (Operand.tmp 105) (Operand.tmp 106), type := 0, pos := "law.go:335", after := #[{ on := 1, ground := Ground.data }, { on := 2, ground := Ground.data }], guard := none }) (v := ?_) rfl (by kernel_rfl) (by kernel_rfl) (by kernel_rfl) (fun _ _ _ h => h) (Or.inl ⟨by rfl, ?_⟩) HPD.out ?_
                  rotate_left
                  · (intro y hy; go_simp; try (with_reducible rfl))
                  simp only [Act.put, List.setIfInBounds_toArray, List.set_cons_zero, List.set_cons_succ]
                  refine wpAnyH_take (i := 4) (oi := { dst := some 108, op := Op.load 9 (Operand.tmp 107), type := 9, pos := "law.go:335", after := #[{ on := 3, ground := Ground.data }], guard := none }) (v := .string (bs nm)) rfl (by kernel_rfl) (by kernel_rfl) (by kernel_rfl) (fun _ _ _ h => h) (Or.inl ⟨by rfl, ?_⟩) HPD.out ?_
                  · (intro y hy; have h0 := hy.1; go_simp)
                  simp only [Act.put, List.setIfInBounds_toArray, List.set_cons_zero, List.set_cons_succ]
                  refine wpAnyH_take (i := 5) (oi := { dst := some 109, op := Op.move (Operand.tmp 9), type := 26, pos := "law.go:335", after := #[], guard := none }) (v := ?_) rfl (by kernel_rfl) (by kernel_rfl) (by kernel_rfl) (fun _ _ _ h => h) (Or.inl ⟨by rfl, ?_⟩) HPD.out ?_
                  rotate_left
                  · (intro y hy; go_simp; try (with_reducible rfl))
                  simp only [Act.put, List.setIfInBounds_toArray, List.set_cons_zero, List.set_cons_succ]
                  refine wpAnyH_take (i := 6) (oi := { dst := some 110, op := Op.move (Operand.tmp 15), type := 3, pos := "law.go:335", after := #[], guard := none }) (v := ?_) rfl (by kernel_rfl) (by kernel_rfl) (by kernel_rfl) (fun _ _ _ h => h) (Or.inl ⟨by rfl, ?_⟩) HPD.out ?_
                  rotate_left
                  · (intro y hy; go_simp; try (with_reducible rfl))
                  simp only [Act.put, List.setIfInBounds_toArray, List.set_cons_zero, List.set_cons_succ]
                  refine wpAnyH_take (i := 7) (oi := { dst := some 111, op := Op.indexAddr 26 (Operand.tmp 109) (Operand.tmp 110), type := 0, pos := "law.go:335", after := #[{ on := 5, ground := Ground.data }, { on := 6, ground := Ground.data }], guard := none }) (v := ?_) rfl (by kernel_rfl) (by kernel_rfl) (by kernel_rfl) (fun _ _ _ h => h) (Or.inl ⟨by rfl, ?_⟩) HPD.out ?_
                  rotate_left
                  · (intro y hy; go_simp; try (with_reducible rfl))
                  simp only [Act.put, List.setIfInBounds_toArray, List.set_cons_zero, List.set_cons_succ]
                  refine wpAnyH_take (i := 8) (oi := { dst := some 112, op := Op.fieldAddr 49 (Operand.tmp 111) 1, type := 0, pos := "law.go:335", after := #[{ on := 7, ground := Ground.data }], guard := none }) (v := ?_) rfl (by kernel_rfl) (by kernel_rfl) (by kernel_rfl) (fun _ _ _ h => h) (Or.inl ⟨by rfl, ?_⟩) HPD.out ?_
                  rotate_left
                  · (intro y hy; go_simp; try (with_reducible rfl))
                  simp only [Act.put, List.setIfInBounds_toArray, List.set_cons_zero, List.set_cons_succ]
                  refine wpAnyH_take (i := 9) (oi := { dst := some 113, op := Op.load 31 (Operand.tmp 112), type := 31, pos := "law.go:335", after := #[{ on := 8, ground := Ground.data }], guard := none }) (v := .slice ab mb cb2) rfl (by kernel_rfl) (by kernel_rfl) (by kernel_rfl) (fun _ _ _ h => h) (Or.inl ⟨by rfl, ?_⟩) HPD.out ?_
                  · (intro y hy; have h0 := hy.2; go_simp)
                  simp only [Act.put, List.setIfInBounds_toArray, List.set_cons_zero, List.set_cons_succ]
                  refine wpAnyH_take (i := 10) (oi := { dst := some 114, op := Op.call { callee := Callee.builtin Builtin.len, args := #[Operand.tmp 113], argTypes := #[31] }, type := 3, pos := "law.go:335", after := #[{ on := 9, ground := Ground.data }], guard := none }) (v := ?_) rfl (by kernel_rfl) (by kernel_rfl) (by kernel_rfl) (fun _ _ _ h => h) (Or.inl ⟨by rfl, ?_⟩) HPD.out ?_
                  rotate_left
                  · (intro y hy; go_simp; try (with_reducible rfl))
                  simp only [Act.put, List.setIfInBounds_toArray, List.set_cons_zero, List.set_cons_succ]
                  refine wpAnyH_ready (rs := [11]) (by kernel_rfl) (by simp) ?_
                  refine AllReadyH.cons (o := { dst := some 115, op := Op.call { callee := Callee.value (Operand.func 33), args := #[Operand.tmp 104, Operand.tmp 108, Operand.const (Value.int IntKind.i64 0), Operand.tmp 114], argTypes := #[24, 9, 3, 3] }, type := 60, pos := "law.go:335", after := #[{ on := 0, ground := Ground.data }, { on := 4, ground := Ground.data }, { on := 10, ground := Ground.data }], guard := none }) rfl (fun K hK => ?_) AllReadyH.nil
                  go_simp
                  refine (read_G HDFd.out HRR.out.ok nm HNM.out 0 (mb : Int) (by omega) (by omega) (by omega) (by omega)).mono ?_
                  rintro _ y5 ⟨v5, rfl, ho5, hd5, hk5, hb5⟩
                  obtain ⟨LB, hLB⟩ : ∃ LB, (readA A2 nm 0 (mb : Int)).2.1.length = LB := ⟨_, rfl⟩
                  obtain ⟨g5, d5, e5⟩ := row_shape ho5.2
                  rw [hLB] at e5
                  subst e5
                  have HLB : Hid ((readA A2 nm 0 (mb : Int)).2.1.length = LB) := hLB
                  have H5 : Hid (Own y5 xd.heap.size (.slice g5 LB d5) (readA A2 nm 0 (mb : Int)).2.1 ∧ DF y5 x1.heap.size q b (readA A2 nm 0 (mb : Int)).1 (fun k => (sB ≤ k ∧ k < sD) ∨ (xd.heap.size ≤ k ∧ k < y5.heap.size)) ∧ (∀ k, (sB ≤ k ∧ k < sD) → y5.heap[k]? = xd.heap[k]?) ∧ Below x1.heap.size xd y5) := ⟨ho5, hd5, hk5, hb5⟩
                  have HS5 : Hid ((fun y => y.cell? ⟨gN, i, none⟩ = some (.string (bs nm)) ∧ y.cell? ⟨gB, i * 3 + 1, none⟩ = some (.slice ab mb cb2)) y5) := ⟨(cell_heapS (H5.out.2.2.1 gN HGN.out) i).trans HPD.out.1, (cell_heapS (H5.out.2.2.1 gB HGB.out) (i * 3 + 1)).trans HPD.out.2⟩
                  clear ho5 hd5 hk5 hb5 hLB
                  (refine hK _ _ HS5.out ?_; clear hK K; intro _)
                  try simp only [Act.put, List.setIfInBounds_toArray, List.set_cons_zero, List.set_cons_succ]
                  refine wpAnyH_take (i := 12) (oi := { dst := some 103, op := Op.move (Operand.tmp 115), type := 60, pos := "law.go:335", after := #[{ on := 11, ground := Ground.data }], guard := none }) (v := ?_) rfl (by kernel_rfl) (by kernel_rfl) (by kernel_rfl) (fun _ _ _ h => h) (Or.inl ⟨by rfl, ?_⟩) HS5.out ?_
                  rotate_left
                  · (intro y hy; go_simp; try (with_reducible rfl))
                  simp only [Act.put, List.setIfInBounds_toArray, List.set_cons_zero, List.set_cons_succ]
                  refine wpAnyH_take (i := 13) (oi := { dst := some 116, op := Op.extract (Operand.tmp 103) 0, type := 31, pos := "law.go:335", after := #[{ on := 12, ground := Ground.data }], guard := none }) (v := ?_) rfl (by kernel_rfl) (by kernel_rfl) (by kernel_rfl) (fun _ _ _ h => h) (Or.inl ⟨by rfl, ?_⟩) HS5.out ?_
                  rotate_left
                  · (intro y hy; go_simp; try (with_reducible rfl))
                  simp only [Act.put, List.setIfInBounds_toArray, List.set_cons_zero, List.set_cons_succ]
                  refine wpAnyH_take (i := 14) (oi := { dst := some 117, op := Op.extract (Operand.tmp 103) 1, type := 37, pos := "law.go:335", after := #[{ on := 12, ground := Ground.data }, { on := 15, ground := Ground.gcOnly Departure.lateStores }], guard := none }) (v := ?_) rfl (by kernel_rfl) (by kernel_rfl) (by kernel_rfl) (fun _ _ _ h => h) (Or.inl ⟨by rfl, ?_⟩) HS5.out ?_
                  rotate_left
                  · (intro y hy; go_simp; try (with_reducible rfl))
                  simp only [Act.put, List.setIfInBounds_toArray, List.set_cons_zero, List.set_cons_succ]
                  refine wpAnyH_ready (rs := [15]) (by kernel_rfl) (by simp) ?_
                  refine AllReadyH.cons (o := { dst := some 16, op := Op.assign (Operand.tmp 116), type := 31, pos := "law.go:335", after := #[{ on := 13, ground := Ground.data }, { on := 11, ground := Ground.chain }, { on := 0, ground := Ground.phase }, { on := 1, ground := Ground.phase }, { on := 2, ground := Ground.phase }, { on := 3, ground := Ground.phase }, { on := 4, ground := Ground.phase }, { on := 5, ground := Ground.phase }, { on := 6, ground := Ground.phase }, { on := 7, ground := Ground.phase }, { on := 8, ground := Ground.phase }, { on := 9, ground := Ground.phase }, { on := 10, ground := Ground.phase }, { on := 11, ground := Ground.phase }, { on := 12, ground := Ground.phase }, { on := 13, ground := Ground.phase }, { on := 14, ground := Ground.textOnly Departure.lateStores }], guard := none }) rfl (fun K hK => ?_) AllReadyH.nil
                  go_simp
                  (refine hK _ _ HS5.out ?_; clear hK K; intro _)
                  try simp only [Act.put, List.setIfInBounds_toArray, List.set_cons_zero, List.set_cons_succ]
                  refine wpAnyH_ready (rs := [16]) (by kernel_rfl) (by simp) ?_
                  refine AllReadyH.cons (o := { dst := some 17, op := Op.assign (Operand.tmp 117), type := 37, pos := "law.go:335", after := #[{ on := 14, ground := Ground.data }, { on := 15, ground := Ground.chain }, { on := 0, ground := Ground.phase }, { on := 1, ground := Ground.phase }, { on := 2, ground := Ground.phase }, { on := 3, ground := Ground.phase }, { on := 4, ground := Ground.phase }, { on := 5, ground := Ground.phase }, { on := 6, ground := Ground.phase }, { on := 7, ground := Ground.phase }, { on := 8, ground := Ground.phase }, { on := 9, ground := Ground.phase }, { on := 10, ground := Ground.phase }, { on := 11, ground := Ground.phase }, { on := 12, ground := Ground.phase }, { on := 13, ground := Ground.phase }, { on := 14, ground := Ground.phase }, { on := 15, ground := Ground.phase }], guard := none }) rfl (fun K hK => ?_) AllReadyH.nil
                  go_simp
                  (refine hK _ _ HS5.out ?_; clear hK K; intro _)
                  try simp only [Act.put, List.setIfInBounds_toArray, List.set_cons_zero, List.set_cons_succ]
                  refine wpAnyH_done (by kernel_rfl) ?_ _
                  have HMU : Hid (MuR y5 y5 xd.heap.size y5.heap.size [(.slice g5 LB d5, LB)] (.slice none 0 0) 0 []) := ⟨rfl, rfl, rfl, rfl, fun _ _ => rfl, World.ownsRow_nil y5 _ _ _, fun p hp => by
                    rw [List.mem_singleton.1 hp]
                    have h9 := U8.of H5.out.1
                    rw [HLB.out] at h9
                    exact h9⟩
                  have hLB0 : (0 : Int) ≤ (LB : Int) := by omega
                  have hLBI : (LB : Int) ≤ 67108864 := by
                    have h1 := doA_len HRR.out.ok ⟨6, nm, [], none, 0, [], 0, (mb : Int), none, 0, []⟩
                    have h2 : (doA A2 ⟨6, nm, [], none, 0, [], 0, (mb : Int), none, 0, []⟩).2.1 = (readA A2 nm 0 (mb : Int)).2.1 := by simp [doA]
                    rw [h2, HLB.out] at h1
                    omega
                  go_wp2
                  go_loopw [120] (fun v120 wz => ∃ j : Nat, v120 = .int .i64 (j : Int) ∧ j ≤ LB ∧ Hid (MuR y5 wz xd.heap.size y5.heap.size [(.slice g5 LB d5, LB)] (.slice none 0 0) 0 [])) (fun v120 _ => LB - (intOf v120).toNat)
                  case atStart => exact ⟨0, rfl, Nat.zero_le _, HMU.out⟩
                  case round =>
                    obtain ⟨j, rfl, hj, HRV⟩ := hrel
                    rename World => wj
                    by_cases hjm : j < LB
                    · obtain ⟨g, z, rfl, hcz, hfz, hnx⟩ := HRV.out.step (List.mem_singleton.2 rfl) j hjm
                      have HNX : Hid (∀ y : Int, MuR y5 (wj.setCell ⟨g, j, none⟩ (.int .u8 y)) xd.heap.size y5.heap.size [(.slice (some ⟨g, 0, none⟩) LB d5, LB)] (.slice none 0 0) 0 []) := hnx
                      have hjI : (j : Int) < (LB : Int) := by omega
                      have hj0 : (0 : Int) ≤ (j : Int) := by omega
                      clear hnx
                      go_wp2
                      go_roundw
                      case rel => exact ⟨j + 1, by go_num, by omega, HNX.out _⟩
                      case measure => simp [intOf]; omega
                    · obtain rfl : j = LB := by omega
                      clear hjm hj
                      have hsd : ∀ k, (sB ≤ k ∧ k < sD) → wj.heap[k]? = wi.heap[k]? := fun k hk => (HRV.out.out k (.inl (by have := HXD.out.size; have := HRR.out.sz; omega))).trans ((H5.out.2.2.1 k hk).trans (HXD.out.block k (by have := HRR.out.sz; omega)))
                      have hcj : wj.cell? ⟨gN, i, none⟩ = some (.string (bs nm)) := (cell_heapS (hsd gN HGN.out) i).trans HCC.out.1
                      have hfj : wj.frozen? ⟨gN, i, none⟩ = false := by
                        obtain ⟨cs, hcs, _⟩ := HROW.out
                        have h9 := row_other (y := wj) hcs (fun g hg => by injection hg with hg; rw [← hg]; exact hsd gN HGN.out)
                        exact h9.frozenAt i
                      have HNX2 : Hid (RdS w (wj.setCell ⟨gN, i, none⟩ (.string ⟨#[121]⟩)) y2 x1.heap.size q b sB sC sD A.fs (readA A2 nm 0 (mb : Int)).1 (some ⟨gN, 0, none⟩) NN cn (i + 1)) := by
                        have hother : ∀ k, k ≠ gN → (wj.setCell ⟨gN, i, none⟩ (.string ⟨#[121]⟩)).heap[k]? = wj.heap[k]? := fun k hk => heap_setCell_other wj ⟨gN, i, none⟩ k _ hk
                        have hszj : (wj.setCell ⟨gN, i, none⟩ (.string ⟨#[121]⟩)).heap.size = wj.heap.size := by simp [World.setCell]
                        have hsz5 := H5.out.2.2.2.size
                        have hxs := HXD.out.size
                        refine ⟨?_, ?_, ?_, ?_, ?_, ?_, ?_, ?_⟩
                        · have h1 : DF wj x1.heap.size q b (readA A2 nm 0 (mb : Int)).1 (fun k => (sB ≤ k ∧ k < sD) ∨ (xd.heap.size ≤ k ∧ k < y5.heap.size)) := H5.out.2.1.turn (Nat.le_of_eq HRV.out.size.symm) (fun k hk hnf => HRV.out.out k (by by_cases h3 : k < xd.heap.size; exact .inl h3; exact absurd (.inr ⟨by omega, hk⟩) hnf))
                          exact (h1.turn (Nat.le_of_eq hszj.symm) (fun k hk hnf => hother k (fun e => hnf (.inl (by rw [e]; exact HGN.out))))).sub (fun k hk => .inl hk)
                        · have h1 := readA_ok HRR.out.ok nm 0 (mb : Int)
                          exact h1
                        · rw [readA_fs]; exact HRR.out.fs
                        · intro k h1 h2
                          rw [hother k (by have := HGNC.out; omega), hsd k ⟨h1, by have := HRR.out.sz; omega⟩]
                          exact HRR.out.b2 k h1 h2
                        · obtain ⟨cs, hcs, hnames⟩ := HROW.out
                          have h9 := row_other (y := wj) hcs (fun g hg => by injection hg with hg; rw [← hg]; exact hsd gN HGN.out)
                          refine ⟨_, (h9.stored i _).1, fun k h1 h2 => ?_⟩
                          obtain ⟨f, hf1, hf2⟩ := hnames k (by omega) h2
                          exact ⟨f, hf1, by rw [List.getElem?_set_ne (by omega)]; exact hf2⟩
                        · exact HRR.out.rb
                        · have hlo := HRR.out.sz
                          have hb1s := HB1.out.size
                          have h1 : Below w.heap.size w y5 := (HRR.out.low.trans (HXD.out.mono HRR.out.low.size)).trans (H5.out.2.2.2.mono hb1s)
                          exact (HRV.out.below h1 (by omega)).setCell (show w.heap.size ≤ gN from by have := HGNC.out; omega) _
                        · have hlo := HRR.out.sz
                          have hs5 : wj.heap.size = y5.heap.size := HRV.out.size
                          exact ⟨hlo.1, by rw [hszj, hs5]; omega, hlo.2.2.1, hlo.2.2.2⟩
                      clear hsd
                      go_wp2
                      go_roundw
                      case rel => exact ⟨i + 1, (readA A2 nm 0 (mb : Int)).1, by go_num, by omega, HNX2.out⟩
                      case measure => simp [intOf]; omega
                · obtain rfl : i = NN := by omega
                  clear hin hi
                  have T9 : Hid True := trivial
                  go_wp2_with (first
                    | (go_at_call 24; clear T9; refine (image_F HRR.out.df HRR.out.ok).mono ?_; rintro _ y8 ⟨vi, Xi, rfl, hi8, he8, hb8⟩; (obtain ⟨gi, ci, hvi, _, _⟩ := hi8.fls); (have hl8 : Xi.length = N := (by have h9 := congrArg List.length he8; rw [List.length_map, HRR.out.fs, HNL.out] at h9; exact h9)); rw [hl8] at hvi; subst hvi; have HI8 : Hid (FlsA y8 gi Xi ∧ Xi.length = N ∧ Xi.map Prod.fst = Xb.map Prod.fst ∧ FlsA y8 gb Xb ∧ Below w.heap.size w y8) := ⟨imf hi8, hl8, (by rw [he8, HRR.out.fs, HI2.out.2.2.1]), (imf (HIBK.out _ HRR.out.b2)).keep hb8, HRR.out.low.trans (hb8.mono HRR.out.low.size)⟩; clear hi8 he8 hb8 hl8)
                    | (go_at_call 23; refine (fls_same Xi Xb N gi gb ci cb y8 HI8.out.2.2.1 HI8.out.2.1 HI8.out.1 HI8.out.2.2.2.1 (by omega)).mono ?_; rintro _ y9 ⟨rfl, hb9⟩; have HK0 : Hid (Below w.heap.size w y9) := HI8.out.2.2.2.2.trans (hb9.mono HI8.out.2.2.2.2.size); clear hb9)
                    | (go_at_call 33; refine (nil_Read _).mono ?_; rintro _ k1 ⟨rfl, hbk⟩; have HK1 : Hid (Below w.heap.size w k1) := HK0.out.trans (hbk.mono HK0.out.size); clear hbk)
                    | (go_at_call 32; refine (nil_Restart _).mono ?_; rintro _ k2 ⟨rfl, hbk⟩; have HK2 : Hid (Below w.heap.size w k2) := HK1.out.trans (hbk.mono HK1.out.size); clear hbk)
                    | (go_at_call 36; refine (nil_Fuse _).mono ?_; rintro _ k3 ⟨rfl, hbk⟩; have HK3 : Hid (Below w.heap.size w k3) := HK2.out.trans (hbk.mono HK2.out.size); clear hbk)
                    | (go_at_call 34; refine (nil_Down _).mono ?_; rintro _ k4 ⟨rfl, hbk⟩; have HK4 : Hid (Below w.heap.size w k4) := HK3.out.trans (hbk.mono HK3.out.size); clear hbk)
                    | (go_at_call 37; refine (nil_Steps _).mono ?_; rintro _ k5 ⟨rfl, hbk⟩; have HK5 : Hid (Below w.heap.size w k5) := HK4.out.trans (hbk.mono HK4.out.size); clear hbk)
                    | (go_at_call 41; refine (nil_ReadBytes _).mono ?_; rintro _ k6 ⟨rfl, hbk⟩; have HK6 : Hid (Below w.heap.size w k6) := HK5.out.trans (hbk.mono HK5.out.size); clear hbk)
                    | (go_at_call 30; refine (nil_Sync _).mono ?_; rintro _ k7 ⟨rfl, hbk⟩; have HK7 : Hid (Below w.heap.size w k7) := HK6.out.trans (hbk.mono HK6.out.size); clear hbk)
                    | (go_at_call 39; refine (nil_Rename _).mono ?_; rintro _ k8 ⟨rfl, hbk⟩; have HK8 : Hid (Below w.heap.size w k8) := HK7.out.trans (hbk.mono HK7.out.size); clear hbk)
                    | (go_at_call 42; refine (nil_Remove _).mono ?_; rintro _ k9 ⟨rfl, hbk⟩; have HK9 : Hid (Below w.heap.size w k9) := HK8.out.trans (hbk.mono HK8.out.size); clear hbk)
                    | (go_at_call 43; refine (nil_Cut _).mono ?_; rintro _ k10 ⟨rfl, hbk⟩; have HK10 : Hid (Below w.heap.size w k10) := HK9.out.trans (hbk.mono HK9.out.size); clear hbk)
                    | (go_at_call 26; refine (nil_Create _).mono ?_; rintro _ k11 ⟨rfl, hbk⟩; have HK11 : Hid (Below w.heap.size w k11) := HK10.out.trans (hbk.mono HK10.out.size); clear hbk)
                    | (go_at_call 28; refine (nil_Append _).mono ?_; rintro _ k12 ⟨rfl, hbk⟩; have HK12 : Hid (Below w.heap.size w k12) := HK11.out.trans (hbk.mono HK11.out.size); clear hbk)
                    | (go_at_call 38; refine (nil_Used _).mono ?_; rintro _ k13 ⟨rfl, hbk⟩; have HK13 : Hid (Below w.heap.size w k13) := HK12.out.trans (hbk.mono HK12.out.size); clear hbk)
                    | (go_at_call 31; refine (nil_Free _).mono ?_; rintro _ k14 ⟨rfl, hbk⟩; have HK14 : Hid (Below w.heap.size w k14) := HK13.out.trans (hbk.mono HK13.out.size); clear hbk)
                    | (go_at_call 35; refine (nil_List _).mono ?_; rintro _ k15 ⟨rfl, hbk⟩; have HK15 : Hid (Below w.heap.size w k15) := HK14.out.trans (hbk.mono HK14.out.size); clear hbk)
                    | (go_at_call 24; refine (nil_Image _).mono ?_; rintro _ k16 ⟨rfl, hbk⟩; have HK16 : Hid (Below w.heap.size w k16) := HK15.out.trans (hbk.mono HK15.out.size); clear hbk)
                    | go_in)
                  go_ret
                  exact ⟨rfl, HK16.out⟩
theorem own : ownKnob Try.prog.godebug = none := by kernel_rfl
theorem laidOut : laidOutB Try.prog = true := by kernel_rfl
set_option maxRecDepth 100000 in
theorem contract (H : Type) (enc : TypeId × Value → H) (W : World) (base : Nat) (args : Array Value) (ds gs : List (DataW H)) (before : List MemPlace)
    (hval : ∀ (j : Nat) t v, Try.f12.params[j]? = some t → args[j]? = some v → Value.okWide Try.prog W .any base t v)
    (hW : DataW.Whole enc Try.prog Try.f12.params.toList Rows.simfsOwnSpec.vars false W args.toList ds gs before)
    (hsz : (DataW.weightsEach Try.prog (Try.f12.params.toList ++ Rows.simfsOwnSpec.plain.varTypes Try.prog) (ds ++ gs)).all (· ≤ reachBytes) = true) :
    Calls Try.prog 12 args W fun e W' => ∃ v, e = .returned v ∧ Rows.simfsOwnSpec.post enc Try.prog Try.f12 false true false false W args v W' := by
  have hW' := hW
  obtain ⟨p, q, hA0, hV, rfl, hfz, hnd⟩ := hW
  have hA : DataW.TrodAll enc Try.prog W 0 (fun _ => true) true Try.f12.params.toList args.toList ds p := hA0
  rw [Try.params12] at hA hval hsz
  obtain ⟨v0, vs0, d0, ds0, p0, q0, hargs, rfl, rfl, h0, r0⟩ := trodAll_cons hA
  obtain ⟨v1, vs1, d1, ds1, p1, q1, rfl, rfl, rfl, h1, r1⟩ := trodAll_cons r0
  obtain ⟨rfl, rfl, rfl⟩ := trodAll_nil r1
  obtain rfl : args = #[v0, v1] := by cases args; simp_all
  obtain ⟨rfl, rfl⟩ := trodVars_none hV
  obtain ⟨a0, rfl, rfl, rfl, w0⟩ := open_int Try.underlying3 (hval 0 3 v0 rfl rfl) h0
  obtain ⟨a1, len1, cap1, rfl⟩ := okWide_slice Try.underlying22 (hval 1 22 v1 rfl rfl)
  have k1 := h1
  have lt1 : ∀ x ∈ p1, x.block < W.heap.size := by obtain ⟨m, hm⟩ := k1; exact DataW.trod_lt m _ _ _ hm
  obtain ⟨l1, hlen1, w1, c1⟩ : ∃ L : List Oa, L.length = len1 ∧ OpsAt W a1 L ∧ (len1 ≤ cap1 ∧ cap1 * 104 ≤ 140737488351232) := by
    obtain ⟨fuel, hf⟩ := h1
    rcases open_ops hf with ⟨hcs, hx⟩ | ⟨x, l, c, L, D, hcs, hl, hm, hLl, hfs, hrw, hx, hD⟩
    · simp [Value.cells] at hcs
      obtain ⟨rfl, rfl, rfl⟩ := hcs
      exact ⟨[], rfl, ⟨.inl rfl, fun p hp => by cases hp⟩, Nat.le_refl _, by simp⟩
    · simp [Value.cells] at hcs
      obtain ⟨rfl, rfl, rfl⟩ := hcs
      have hd : d1 = _ := hx
      obtain ⟨s1, s2⟩ := sized_ops hsz (j := 1) rfl (by rw [hd]; rfl) hl hLl hrw hD
      refine ⟨L, hLl, ⟨?_, s2⟩, hl, s1⟩
      rcases hfs with h1 | ⟨b, off, h1, h2, h3⟩
      · exact .inl h1
      · exact .inr ⟨b, off, by rw [h1], h2, h3⟩
  subst hlen1
  clear hA0
  refine (walk a0 l1 a1 cap1 W w0 w1 c1).mono fun e W' ⟨he, bel⟩ => ?_
  subst he
  exact ⟨_, rfl, _, _, _, [], _, [], hW', trodAll_mk1 (shut_bool Try.underlying4 _), (trodAll_cons_mk (shut_int Try.underlying3 w0) (trodAll_cons_mk (Below.trod laidOut (by kernel_rfl) (of_decide_eq_true (by kernel_rfl)) k1 bel lt1) trodAll_mk0)), rfl, bel.frame _, fun h => by cases h⟩
set_option maxRecDepth 100000 in
theorem lifted (os : Os) (started : os.Started) (H : Type) (enc : TypeId × Value → H) :
    ReturnsInHanded {} Try.checked os 12 .any (Rows.simfsOwnSpec.pre6 enc Try.prog Try.f12 Rows.simfsOwnRow.domain false) (Rows.simfsOwnSpec.post enc Try.prog Try.f12 false true false false) := by
  refine returnsInHanded_of_change_sized (C := Try.checked) own started (by kernel_rfl) Try.func12
    (ChangeSpec.witness6 (enc := enc) (C := Try.checked) false ⟨#[], #[.int .i64 0, .slice none 0 0], []⟩ 8 (by kernel_rfl) (by kernel_rfl) (by kernel_rfl) (by kernel_rfl)) ?_
  intro W base args ds gs before hval hW _ hsz _
  exact contract H enc W base args ds gs before hval hW hsz
theorem over : Rows.simfsOwnRow.holds Try.pinned (OpenSpec.ofChange Rows.simfsOwnSpec) :=
  OpenClaim.holds_of_wide 12 Try.f12 rfl rfl rfl rfl rfl rfl rfl ⟨rfl, rfl, rfl, rfl, rfl⟩ rfl rfl rfl rfl rfl (by kernel_rfl) Try.func12 (by kernel_rfl)
    (of_decide_eq_true (by kernel_rfl)) (by unfold Func.isWrapper; first | (rw [if_pos (by decide +kernel)]; kernel_rfl) | (rw [if_neg (by decide +kernel)]; exact ⟨rfl, rfl⟩))
    (fun os started H enc _ => lifted os started H enc)
theorem proved : Rows.SimfsOwnSaid := over
end Go.Proofs.Ytlnhhgmdajbepaa.simfsOwn
