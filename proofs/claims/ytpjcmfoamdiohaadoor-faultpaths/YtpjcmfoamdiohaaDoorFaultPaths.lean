/- For every list of operations, operation, place and number: Path gives the operations in order, from the outside to the inside, as new memory; nothing where the number has no sentinel, nothing for a sentinel. No condition. -/
import Derived.Test.YtpjcmfoamdiohaaDoorSenTieH
import Derived.Test.YtpjcmfoamdiohaaDoorFltT
import Derived.Test.YtpjcmfoamdiohaaDoorIntsA
import Derived.Test.YtpjcmfoamdiohaaDoorStrsB
import Derived.SizedLaws
import Derived.ChangeOld
import Derived.ChangeMaps5
import Derived.Deep.RegionWith
import Derived.Deep.QuietTactic
import Derived.BigQuiet
import Derived.Laws.Concat
namespace Go.Proofs.YtpjcmfoamdiohaaDoor.faultPaths
open Go.ChangeShapes Go.WideShapes Go.ChangeAt Go.RowKit
set_option linter.unusedVariables false
theorem below_drewN {B : Nat} {a w : World} (h : Below B a w) (n : Nat) : Below B a (w.drewN n) := by
  induction n with
  | zero => exact h
  | succ n ih => exact ih.drew
set_option maxRecDepth 100000 in
set_option maxHeartbeats 4000000 in
theorem walk (ops : List ByteArray) (a : Option Addr) (cap : Nat) (op : ByteArray) (at0 e : Int) (w : World) (hb : Strs w a ops) (hc : Came w a ops.length cap 16) (hz : ∀ x ∈ ops, x.size ≤ 140737488351232) (wop : op.size ≤ maxLen) (hop : op.size ≤ 140737488351232) (w2 : (Lit.int .i64 at0).wf = true) (w3 : (Lit.int .i64 e).wf = true) (hs : ∃ pa, Sen w pa ∧ w.cell? ⟨42, 0, none⟩ = some (rty 30)) :
    Calls Tryd.prog 7 #[.slice a ops.length cap, .string op, .int .i64 at0, .int .i64 e] w fun r w' => r = .returned (.bool true) ∧ Below w.heap.size w w' := by
  obtain ⟨pa, hs, hg⟩ := hs
  have HS : Hid (Sen w pa) := hs
  have HO : Hid (Strs w a ops) := hb
  have HG : Hid (∀ w', Below w.heap.size w w' → w'.cell? ⟨42, 0, none⟩ = some (rty 30)) := fun w' hb => (hb.cell (p := ⟨42, 0, none⟩) (World.block_lt_of_cell? _ _ hg)).trans hg
  have hl : (ops.length : Int) ≤ 8796093021952 := by have h1 := hc.1; have h2 := hc.2; omega
  have HZ : Hid ((∀ x ∈ ops, x.size ≤ 140737488351232) ∧ op.size ≤ 140737488351232) := ⟨hz, hop⟩
  have T1 : Hid True := trivial
  have T2 : Hid True := trivial
  clear hs w2 w3 wop hb hc hg hz hop
  go_enter Tryd.func7, Tryd.ntmps7
  go_wp2_with (first
    | (go_at_call 11; clear T1; refine (new_er pa _ 1 60 w HS.out).mono ?_; rintro r w1 ⟨v1, rfl, her, hb1⟩; obtain ⟨k1, b1, hk1, hn1, rfl, hch1⟩ := er_known her torn_known; have HB1 : Hid (Below w.heap.size w w1) := hb1; have HC1 : Hid (Ch w1 (pa k1) [_] (fltV b1)) := hch1; clear hb1 her hch1 hk1 hn1)
    | (go_at_call 19; clear T2; refine (path_ch _ _ _ _ HC1.out (HG.out _ HB1.out) (by simp)).mono ?_; rintro r w2 ⟨v2, rfl, ho2, hb2⟩; obtain ⟨g2, c2, rfl, hr2⟩ := rowS_of ho2 (by simp); have HB2 : Hid (Below w.heap.size w w2) := below_nx HB1.out hb2; have hcell2 := hr2.cell 0 (by simp); clear hb2 ho2 hr2)
    | (go_at_call 11; refine (new_er pa op at0 e _ (HS.out.keep HB2.out)).mono ?_; rintro r w5 ⟨v5, rfl, her, hb5⟩; have HB5 : Hid (Below w.heap.size w w5) := below_nx HB2.out hb5; have HE5 : Hid (Er pa e w5 [op] v5) := her; clear hb5 her))
  go_loopw [10, 11] (fun ve vi wr => ∃ j : Nat, j ≤ ops.length ∧ vi = .int .i64 ((j : Int) - 1) ∧ Hid (Er pa e wr (ops.drop j ++ [op]) ve ∧ Below w.heap.size w wr)) (fun _ vi _ => (intOf vi + 1).toNat)
  case atStart => exact ⟨ops.length, Nat.le_refl _, rfl, by rw [List.drop_length]; exact HE5.out, HB5.out⟩
  case round =>
    obtain ⟨j, hj, rfl, HI⟩ := hrel
    clear HE5 HB5
    cases j with
    | succ J =>
      have hJ : ((J + 1 : Nat) : Int) - 1 = (J : Int) := by omega
      have hJl : (J : Int) < (ops.length : Int) := by omega
      rw [hJ]
      obtain ⟨b, off, hab, hx⟩ : ∃ b off, a = some ⟨b, off, none⟩ ∧ wr.cell? ⟨b, off + J, none⟩ = some (.string (ops.getD J ByteArray.empty)) := by
        rcases (HO.out.keep HI.out.2).2 with h | ⟨b, off, ha, _, hc⟩
        · rw [h] at hj; simp at hj
        · exact ⟨b, off, ha, hc J (by omega)⟩
      subst hab
      obtain ⟨o, ho⟩ : ∃ o, ops.getD J ByteArray.empty = o := ⟨_, rfl⟩
      have HNX : Hid (ops.drop J ++ [op] = o :: (ops.drop (J + 1) ++ [op])) := by show _ = _; rw [drop_str ops J (by omega), ho]; rfl
      rw [ho] at hx
      clear ho hJ
      go_wp2_with (go_at_call 14; refine (wrap_er pa e o _ _ _ HI.out.1).mono ?_; rintro r w7 ⟨v7, rfl, her, hb7⟩; have HE7 : Hid (Er pa e w7 (ops.drop J ++ [op]) v7 ∧ Below w.heap.size w w7) := (by rw [HNX.out]; exact ⟨her, below_nx HI.out.2 hb7⟩); clear her hb7)
      go_roundw
      case rel => exact ⟨J, by omega, by go_num, HE7⟩
      case measure => simp [intOf]; try omega
    | zero =>
      have HE8 : Hid (Er pa e wr (ops ++ [op]) u10) := by have h := HI.out.1; rw [List.drop_zero] at h; exact h
      have HB8 : Hid (Below w.heap.size w wr) := HI.out.2
      have T2 : Hid True := trivial
      clear HI hj
      obtain ⟨W8, rfl⟩ : ∃ W8, W8 = wr := ⟨wr, rfl⟩
      rcases er_form HE8.out with ⟨b8, rfl⟩ | rfl
      rotate_left
      · go_wp2_with (first
          | (go_at_call 19; refine (path_none _ (.inl rfl) _ (HG.out _ HB8.out)).mono ?_; rintro r w9 ⟨rfl, hb9⟩; have HB9 : Hid (Below w.heap.size w w9) := below_nx HB8.out hb9; clear hb9)
          | (go_at_call 13; refine (rknown_any e _).mono ?_; rintro r w10 ⟨kb, rfl, hkn, hb10⟩; have HB10 : Hid (Below w.heap.size w w10) := below_nx HB9.out hb10; (obtain rfl := er_nil HE8.out hkn); clear hb10 hkn))
        go_ret
        exact ⟨rfl, HB10.out⟩
      · obtain ⟨k8, hk8, hke8, hch8⟩ := er_chain HE8.out
        have HC8 : Hid (Ch W8 (pa k8) (ops ++ [op]) (fltV b8)) := hch8
        have HK8 : Hid (k8 < 42 ∧ numS k8 = e) := ⟨hk8, hke8⟩
        have hlast : (ops ++ [op]).getD ops.length ByteArray.empty = op := by simp [List.getD_eq_getElem?_getD]
        have HL : Hid ((ops ++ [op]).getD ops.length ByteArray.empty = op) := hlast
        clear hk8 hke8 hch8 hlast
        go_wp2_with (first
          | (go_at_call 19; clear T2; refine (path_ch _ _ _ _ HC8.out (HG.out _ HB8.out) (by simp; omega)).mono ?_; rintro r w9 ⟨v9, rfl, ho9, hb9⟩; obtain ⟨g9, c9, rfl, hr9⟩ := rowS_of ho9 (by simp); have HB9 : Hid (Below W8.heap.size W8 w9) := hb9; have HR9 : Hid (RowS w9 W8.heap.size g9 (ops ++ [op]).length c9 (ops ++ [op])) := hr9; simp only [List.length_append, List.length_cons, List.length_nil, Nat.zero_add]; clear hb9 ho9 hr9)
          | (go_at_call 13; refine (rknown_any e _).mono ?_; rintro r w10 ⟨kb, rfl, hkn, hb10⟩; have HB10 : Hid (Below W8.heap.size W8 w10) := below_nx HB9.out hb10; (obtain rfl := er_flt HE8.out hkn); have HR10 : Hid (RowS w10 W8.heap.size g9 (ops ++ [op]).length c9 (ops ++ [op])) := HR9.out.keep hb10; have hcl := HR10.out.cell ops.length (by simp); rw [HL.out] at hcl; clear hb10 hkn HR9))
        clear hcl
        go_loopw [69] (fun vi wq => ∃ k : Nat, k ≤ ops.length ∧ vi = .int .i64 k ∧ Hid (Below W8.heap.size W8 wq ∧ RowS wq W8.heap.size g9 (ops ++ [op]).length c9 (ops ++ [op]))) (fun vi _ => ops.length - (intOf vi).toNat)
        case atStart => exact ⟨0, Nat.zero_le _, rfl, HB10.out, HR10.out⟩
        case round =>
          obtain ⟨k, hk, rfl, HQ⟩ := hrel
          clear HB10 HR10 HB9
          by_cases hkl : k < ops.length
          · obtain ⟨b, off, hab, hx⟩ : ∃ b off, a = some ⟨b, off, none⟩ ∧ wr.cell? ⟨b, off + k, none⟩ = some (.string (ops.getD k ByteArray.empty)) := by
              rcases (HO.out.keep (below_nx HB8.out HQ.out.1)).2 with h | ⟨b, off, ha, _, hc⟩
              · rw [h] at hkl; simp at hkl
              · exact ⟨b, off, ha, hc k hkl⟩
            subst hab
            have hy := HQ.out.2.cell k (by simp; omega)
            have hsame : (ops ++ [op]).getD k ByteArray.empty = ops.getD k ByteArray.empty := by simp [List.getD_eq_getElem?_getD, List.getElem?_append_left hkl]
            rw [hsame] at hy
            obtain ⟨o, ho⟩ : ∃ o, ops.getD k ByteArray.empty = o := ⟨_, rfl⟩
            rw [ho] at hx hy
            clear hsame ho
            have hk1 : k < ops.length + 1 := by omega
            go_wp2
            go_quiet (fail)
            go_wp2
            go_roundw
            case rel => exact ⟨k + 1, by omega, by go_num, below_drewN HQ.out.1 _, HQ.out.2.keep (below_drewN (Below.refl _ _) _)⟩
            case measure => simp [intOf]; omega
          · obtain rfl : k = ops.length := by omega
            have HQ2 : Hid (∃ l, RowS wr W8.heap.size g9 (ops.length + 1) c9 l ∧ ∀ i, (l.getD i ByteArray.empty).size ≤ 140737488351232) := by
              refine ⟨ops ++ [op], by have h := HQ.out.2; simpa using h, fun i => ?_⟩
              by_cases hi : i < (ops ++ [op]).length
              · have hm : (ops ++ [op]).getD i ByteArray.empty ∈ ops ++ [op] := by rw [List.getD_eq_getElem?_getD, List.getElem?_eq_getElem hi]; exact List.getElem_mem _
                rcases List.mem_append.1 hm with hm | hm
                · exact HZ.out.1 _ hm
                · rw [List.mem_singleton.1 hm]; exact HZ.out.2
              · rw [List.getD_eq_getElem?_getD, List.getElem?_eq_none (by omega)]; simp
            have HB11 : Hid (Below W8.heap.size W8 wr) := HQ.out.1
            clear HQ hk hkl
            obtain ⟨W11, rfl⟩ : ∃ W11, W11 = wr := ⟨wr, rfl⟩
            go_wp2
            go_loopw [84] (fun vi wq => ∃ k : Nat, k ≤ ops.length + 1 ∧ vi = .int .i64 k ∧ Hid (Below W8.heap.size W8 wq ∧ ∃ l, RowS wq W8.heap.size g9 (ops.length + 1) c9 l ∧ ∀ i, k ≤ i → (l.getD i ByteArray.empty).size ≤ 140737488351232)) (fun vi _ => ops.length + 1 - (intOf vi).toNat)
            case atStart =>
              obtain ⟨l, h1, h2⟩ := HQ2.out
              exact ⟨0, Nat.zero_le _, rfl, HB11.out, l, h1, fun i _ => h2 i⟩
            case round =>
              obtain ⟨k, hk, rfl, HQ⟩ := hrel
              clear HB11 HQ2
              by_cases hkl : k < ops.length + 1
              · obtain ⟨hbq, l, hrow, hszs⟩ := HQ.out
                have hx := hrow.cell k hkl
                have hfz := hrow.frozen k
                have hadd : (Op.stringOp .add (l.getD k ByteArray.empty) ⟨#[35]⟩).run Tryd.prog wr = .ok (.string (l.getD k ByteArray.empty ++ ⟨#[35]⟩)) wr := run_string_add_sum _ _ _ (by have := hszs k (Nat.le_refl _); show (l.getD k ByteArray.empty).size + 1 ≤ 9223372036854775807; omega)
                have HN : Hid (Below W8.heap.size W8 (wr.setCell ⟨g9, k, none⟩ (.string (l.getD k ByteArray.empty ++ ⟨#[35]⟩))) ∧ RowS (wr.setCell ⟨g9, k, none⟩ (.string (l.getD k ByteArray.empty ++ ⟨#[35]⟩))) W8.heap.size g9 (ops.length + 1) c9 (l.set k (l.getD k ByteArray.empty ++ ⟨#[35]⟩)) ∧ ∀ i, k + 1 ≤ i → ((l.set k (l.getD k ByteArray.empty ++ ⟨#[35]⟩)).getD i ByteArray.empty).size ≤ 140737488351232) := by
                  refine ⟨hbq.setCell (p := ⟨g9, k, none⟩) hrow.ge _, hrow.set k _, fun i hi => ?_⟩
                  rw [List.getD_eq_getElem?_getD, List.getElem?_set_ne (by omega), ← List.getD_eq_getElem?_getD]
                  exact hszs i (by omega)
                obtain ⟨o, ho⟩ : ∃ o, l.getD k ByteArray.empty = o := ⟨_, rfl⟩
                rw [ho] at hx hadd HN
                obtain ⟨o2, ho2⟩ : ∃ o2, o ++ ⟨#[35]⟩ = o2 := ⟨_, rfl⟩
                rw [ho2] at hadd HN
                clear ho ho2 hrow hszs hbq HQ
                go_wp2
                go_roundw
                case rel => exact ⟨k + 1, by omega, by go_num, HN.out.1, _, HN.out.2.1, HN.out.2.2⟩
                case measure => simp [intOf]; omega
              · obtain rfl : k = ops.length + 1 := by omega
                have HB12 : Hid (Below W8.heap.size W8 wr) := HQ.out.1
                have HC12 : Hid (Ch wr (pa k8) (ops ++ [op]) (fltV b8)) := HC8.out.keep HQ.out.1
                have T4 : Hid True := trivial
                clear HQ hk hkl
                obtain ⟨W12, rfl⟩ : ∃ W12, W12 = wr := ⟨wr, rfl⟩
                go_wp2_with (first
                  | (go_at_call 19; clear T4; refine (path_ch _ _ _ _ HC12.out (HG.out _ (below_nx HB8.out HB12.out)) (by simp; omega)).mono ?_; rintro r w13 ⟨v13, rfl, ho13, hb13⟩; obtain ⟨g13, c13, rfl, hr13⟩ := rowS_of ho13 (by simp); have HB13 : Hid (Below w.heap.size w w13) := below_nx (below_nx HB8.out HB12.out) hb13; have hcl := hr13.cell ops.length (by simp); rw [HL.out] at hcl; simp only [List.length_append, List.length_cons, List.length_nil, Nat.zero_add]; clear hb13 ho13 hr13)
                  | (go_at_call 12; refine (sentinel_any pa e _ (HS.out.keep HB13.out)).mono ?_; rintro r w14 ⟨hr, hb14⟩; have HB14 : Hid (Below w.heap.size w w14) := below_nx HB13.out hb14; clear hb14; rcases hr with ⟨m, hm, hmf, rfl⟩ | ⟨hno, rfl⟩; clear hm hmf; rotate_left; exact absurd HK8.out.2 (hno k8 HK8.out.1))
                  | (go_at_call 19; refine (path_none _ (.inr ⟨_, rfl⟩) _ (HG.out _ HB14.out)).mono ?_; rintro r w15 ⟨rfl, hb15⟩; have HB15 : Hid (Below w.heap.size w w15) := below_nx HB14.out hb15; clear hb15))
                go_ret
                exact ⟨rfl, HB15.out⟩
theorem own : ownKnob Tryd.prog.godebug = none := by kernel_rfl
theorem laidOut : laidOutB Tryd.prog = true := by kernel_rfl
set_option maxRecDepth 100000 in
theorem contract (H : Type) (enc : TypeId × Value → H) (W : World) (base : Nat) (args : Array Value) (ds gs : List (DataW H)) (before : List MemPlace)
    (hval : ∀ (j : Nat) t v, Tryd.f7.params[j]? = some t → args[j]? = some v → Value.okWide Tryd.prog W .any base t v)
    (hW : DataW.Whole enc Tryd.prog Tryd.f7.params.toList Rows.faultPathsSpec.vars false W args.toList ds gs before)
    (hsz : (DataW.weightsEach Tryd.prog (Tryd.f7.params.toList ++ Rows.faultPathsSpec.plain.varTypes Tryd.prog) (ds ++ gs)).all (· ≤ reachBytes) = true) (hL : laidMetH Tryd.prog (handleD :: laidOf sents) W) :
    Calls Tryd.prog 7 args W fun e W' => ∃ v, e = .returned v ∧ Rows.faultPathsSpec.post enc Tryd.prog Tryd.f7 false true false false W args v W' := by
  have hW' := hW
  obtain ⟨p, q, hA0, hV, rfl, hfz, hnd⟩ := hW
  have hA : DataW.TrodAll enc Tryd.prog W 0 (fun _ => true) true Tryd.f7.params.toList args.toList ds p := hA0
  rw [Tryd.params7] at hA hval hsz
  obtain ⟨v0, vs0, d0, ds0, p0, q0, hargs, rfl, rfl, h0, r0⟩ := trodAll_cons hA
  obtain ⟨v1, vs1, d1, ds1, p1, q1, rfl, rfl, rfl, h1, r1⟩ := trodAll_cons r0
  obtain ⟨v2, vs2, d2, ds2, p2, q2, rfl, rfl, rfl, h2, r2⟩ := trodAll_cons r1
  obtain ⟨v3, vs3, d3, ds3, p3, q3, rfl, rfl, rfl, h3, r3⟩ := trodAll_cons r2
  obtain ⟨rfl, rfl, rfl⟩ := trodAll_nil r3
  obtain rfl : args = #[v0, v1, v2, v3] := by cases args; simp_all
  obtain ⟨rfl, rfl⟩ := trodVars_none hV
  obtain ⟨a0, len0, cap0, rfl⟩ := okWide_slice Tryd.underlying27 (hval 0 27 v0 rfl rfl)
  have k0 := h0
  have lt0 : ∀ x ∈ p0, x.block < W.heap.size := by obtain ⟨m, hm⟩ := k0; exact DataW.trod_lt m _ _ _ hm
  obtain ⟨l0, hlen0, w0, c0, z0⟩ : ∃ l : List ByteArray, l.length = len0 ∧ Strs W a0 l ∧ Came W a0 len0 cap0 16 ∧ ∀ x ∈ l, x.size ≤ 140737488351232 := by
    obtain ⟨fuel, hf⟩ := h0
    rcases open_strings Tryd.underlying27 Tryd.underlying9 (by kernel_rfl) hf with ⟨hcs, hx⟩ | ⟨x, l, c, zs, hcs, _, hl, hm, hz, hx, hcell, hwz⟩
    · simp [Value.cells] at hcs
      obtain ⟨rfl, rfl, rfl⟩ := hcs
      exact ⟨[], rfl, ⟨by simp, .inl rfl⟩, ⟨Nat.le_refl _, by simp, fun _ => rfl⟩, by simp⟩
    · simp [Value.cells] at hcs
      obtain ⟨rfl, rfl, rfl⟩ := hcs
      have hz2 : zs.length = cap0 := by simpa using hz
      obtain ⟨ll, e1, e2, e3, e4⟩ := row_strs_in W x zs len0 (by omega) hcell hwz
      have hd : d0 = .slice (strs (zs.take len0)) (strs (zs.drop len0)) := (Prod.mk.inj hx).1
      have hreach : cap0 * 16 ≤ 140737488351232 := by
        have := sized_slice hsz (j := 0) (t := 27) (e := 9) rfl (by rw [hd]; rfl) Tryd.underlying27
        rw [show Tryd.prog.bytesOf 9 = 16 from by kernel_rfl] at this
        simp only [strs, List.length_map, List.length_take, List.length_drop, reachBytes] at this
        have hmin : min len0 zs.length = len0 := Nat.min_eq_left (by omega)
        rw [hmin] at this
        have hcap : len0 + (zs.length - len0) = cap0 := by omega
        rw [hcap] at this
        exact this
      exact ⟨ll, e1, ⟨e2, e3⟩, ⟨hl, hreach, fun h => by cases h⟩, fun y hy => sized_strs hsz (j := 0) (t := 27) (e := 9) rfl (by rw [hd]; rfl) Tryd.underlying27 y (e4 y hy)⟩
  subst hlen0
  obtain ⟨a1, rfl, rfl, rfl, w1⟩ := Go.ChangeMaps.open_string Tryd.underlying9 (hval 1 9 v1 rfl rfl) h1
  have s1 : a1.size ≤ 140737488351232 := by have := sized_string hsz (j := 1) (t := 9) rfl rfl; simpa [reachBytes] using this
  obtain ⟨a2, rfl, rfl, rfl, w2⟩ := open_int Tryd.underlying3 (hval 2 3 v2 rfl rfl) h2
  obtain ⟨a3, rfl, rfl, rfl, w3⟩ := open_int Tryd.underlying3 (hval 3 3 v3 rfl rfl) h3
  clear hA0
  refine (walk l0 a0 cap0 a1 a2 a3 W w0 c0 z0 w1 s1 w2 w3 (senH_of_row hL)).mono fun e W' ⟨he, bel⟩ => ?_
  subst he
  exact ⟨_, rfl, _, _, _, [], _, [], hW', trodAll_mk1 (shut_bool Tryd.underlying4 _), (trodAll_cons_mk (Below.trod laidOut (by kernel_rfl) (of_decide_eq_true (by kernel_rfl)) k0 bel lt0) (trodAll_cons_mk (Go.ChangeMaps.shut_string Tryd.underlying9 w1) (trodAll_cons_mk (shut_int Tryd.underlying3 w2) (trodAll_cons_mk (shut_int Tryd.underlying3 w3) trodAll_mk0)))), rfl, bel.frame _, fun h => by cases h⟩
set_option maxRecDepth 100000 in
theorem start (os : Os) : ∃ w0 : World, w0.os = os ∧ (w0.forCall (fun _ _ => 0) ⟨#[], #[.slice none 0 0, .string ⟨#[]⟩, .int .i64 0, .int .i64 0], []⟩).variablesB Tryd.prog = true ∧
    ((w0.forCall (fun _ _ => 0) ⟨#[], #[.slice none 0 0, .string ⟨#[]⟩, .int .i64 0, .int .i64 0], []⟩).heap.toList.drop Tryd.prog.globals.size).take ((begin Tryd.prog (fun _ _ => 0) default).world.heap.size - Tryd.prog.globals.size) = (begin Tryd.prog (fun _ _ => 0) default).world.heap.toList.drop Tryd.prog.globals.size ∧
    Input.okWideB Tryd.prog (w0.forCall (fun _ _ => 0) ⟨#[], #[.slice none 0 0, .string ⟨#[]⟩, .int .i64 0, .int .i64 0], []⟩) 7 ⟨#[], #[.slice none 0 0, .string ⟨#[]⟩, .int .i64 0, .int .i64 0], []⟩ = true ∧
    laidMetH Tryd.prog Rows.faultPathsRow.laid (w0.forCall (fun _ _ => 0) ⟨#[], #[.slice none 0 0, .string ⟨#[]⟩, .int .i64 0, .int .i64 0], []⟩).memory ∧
    ∀ (H : Type) (enc : TypeId × Value → H), DataW.whole enc Tryd.prog (w0.forCall (fun _ _ => 0) ⟨#[], #[.slice none 0 0, .string ⟨#[]⟩, .int .i64 0, .int .i64 0], []⟩).memory Tryd.f7.params.toList Rows.faultPathsSpec.vars false (#[.slice none 0 0, .string ⟨#[]⟩, .int .i64 0, .int .i64 0] : Array Value).toList 8 = some ([.nil, .lit (.string []), .lit (.int .i64 0), .lit (.int .i64 0)], [], []) :=
  ⟨{ World.holding Tryd.prog os ⟨#[.cells #[.string ⟨#[97, 114, 103, 117, 109, 101, 110, 116]⟩] 61, .cells #[.string ⟨#[99, 108, 111, 115, 101, 100]⟩] 61, .cells #[.string ⟨#[112, 111, 119, 101, 114, 32, 111, 102, 102]⟩] 61, .cells #[.string ⟨#[99, 111, 114, 114, 117, 112, 116]⟩] 61, .cells #[.string ⟨#[101, 110, 100, 115, 32, 101, 97, 114, 108, 121]⟩] 61, .cells #[.string ⟨#[111, 118, 101, 114, 108, 111, 110, 103]⟩] 61, .cells #[.string ⟨#[116, 111, 111, 32, 119, 105, 100, 101]⟩] 61, .cells #[.string ⟨#[116, 97, 103]⟩] 61, .cells #[.string ⟨#[111, 114, 100, 101, 114, 32, 111, 102, 32, 116, 97, 103, 115]⟩] 61, .cells #[.string ⟨#[101, 109, 112, 116, 121, 32, 102, 105, 101, 108, 100]⟩] 61, .cells #[.string ⟨#[108, 111, 110, 103, 32, 116, 101, 120, 116]⟩] 61, .cells #[.string ⟨#[116, 111, 111, 32, 98, 105, 103]⟩] 61, .cells #[.string ⟨#[118, 101, 114, 115, 105, 111, 110]⟩] 61, .cells #[.string ⟨#[107, 105, 110, 100]⟩] 61, .cells #[.string ⟨#[102, 105, 101, 108, 100]⟩] 61, .cells #[.string ⟨#[102, 111, 114, 109]⟩] 61, .cells #[.string ⟨#[115, 116, 97, 116, 101]⟩] 61, .cells #[.string ⟨#[110, 97, 109, 101]⟩] 61, .cells #[.string ⟨#[110, 111, 32, 102, 105, 108, 101]⟩] 61, .cells #[.string ⟨#[101, 120, 105, 115, 116, 115]⟩] 61, .cells #[.string ⟨#[102, 105, 108, 101, 115]⟩] 61, .cells #[.string ⟨#[100, 105, 115, 107, 32, 102, 117, 108, 108]⟩] 61, .cells #[.string ⟨#[116, 111, 114, 110]⟩] 61, .cells #[.string ⟨#[109, 97, 114, 107]⟩] 61, .cells #[.string ⟨#[115, 117, 109]⟩] 61, .cells #[.string ⟨#[114, 97, 110, 103, 101]⟩] 61, .cells #[.string ⟨#[105, 110, 100, 101, 120]⟩] 61, .cells #[.string ⟨#[104, 101, 97, 100, 101, 114]⟩] 61, .cells #[.string ⟨#[115, 101, 97, 108, 101, 100]⟩] 61, .cells #[.string ⟨#[109, 105, 115, 115, 105, 110, 103]⟩] 61, .cells #[.string ⟨#[109, 97, 110, 105, 102, 101, 115, 116]⟩] 61, .cells #[.string ⟨#[98, 111, 111, 107]⟩] 61, .cells #[.string ⟨#[115, 101, 103, 109, 101, 110, 116, 115]⟩] 61, .cells #[.string ⟨#[110, 117, 109, 98, 101, 114, 115]⟩] 61, .cells #[.string ⟨#[115, 101, 113, 117, 101, 110, 99, 101]⟩] 61, .cells #[.string ⟨#[101, 109, 112, 116, 121]⟩] 61, .cells #[.string ⟨#[110, 111, 32, 115, 110, 97, 112, 115, 104, 111, 116]⟩] 61, .cells #[.string ⟨#[99, 111, 109, 112, 97, 99, 116, 101, 100]⟩] 61, .cells #[.string ⟨#[108, 105, 110, 101]⟩] 61, .cells #[.string ⟨#[119, 111, 114, 100]⟩] 61, .cells #[.string ⟨#[108, 105, 110, 101, 115]⟩] 61, .cells #[.string ⟨#[111, 117, 116, 112, 117, 116]⟩] 61], #[], []⟩ with heap := ((List.range 42).foldl (fun h i => h.modify i fun x => match x with | .cells _ t frozen => .cells #[.iface 59 (.pointer (some ⟨(World.holding Tryd.prog default ⟨#[], #[], []⟩).heap.size + i, 0, none⟩))] t frozen | o => o) (World.holding Tryd.prog os ⟨#[.cells #[.string ⟨#[97, 114, 103, 117, 109, 101, 110, 116]⟩] 61, .cells #[.string ⟨#[99, 108, 111, 115, 101, 100]⟩] 61, .cells #[.string ⟨#[112, 111, 119, 101, 114, 32, 111, 102, 102]⟩] 61, .cells #[.string ⟨#[99, 111, 114, 114, 117, 112, 116]⟩] 61, .cells #[.string ⟨#[101, 110, 100, 115, 32, 101, 97, 114, 108, 121]⟩] 61, .cells #[.string ⟨#[111, 118, 101, 114, 108, 111, 110, 103]⟩] 61, .cells #[.string ⟨#[116, 111, 111, 32, 119, 105, 100, 101]⟩] 61, .cells #[.string ⟨#[116, 97, 103]⟩] 61, .cells #[.string ⟨#[111, 114, 100, 101, 114, 32, 111, 102, 32, 116, 97, 103, 115]⟩] 61, .cells #[.string ⟨#[101, 109, 112, 116, 121, 32, 102, 105, 101, 108, 100]⟩] 61, .cells #[.string ⟨#[108, 111, 110, 103, 32, 116, 101, 120, 116]⟩] 61, .cells #[.string ⟨#[116, 111, 111, 32, 98, 105, 103]⟩] 61, .cells #[.string ⟨#[118, 101, 114, 115, 105, 111, 110]⟩] 61, .cells #[.string ⟨#[107, 105, 110, 100]⟩] 61, .cells #[.string ⟨#[102, 105, 101, 108, 100]⟩] 61, .cells #[.string ⟨#[102, 111, 114, 109]⟩] 61, .cells #[.string ⟨#[115, 116, 97, 116, 101]⟩] 61, .cells #[.string ⟨#[110, 97, 109, 101]⟩] 61, .cells #[.string ⟨#[110, 111, 32, 102, 105, 108, 101]⟩] 61, .cells #[.string ⟨#[101, 120, 105, 115, 116, 115]⟩] 61, .cells #[.string ⟨#[102, 105, 108, 101, 115]⟩] 61, .cells #[.string ⟨#[100, 105, 115, 107, 32, 102, 117, 108, 108]⟩] 61, .cells #[.string ⟨#[116, 111, 114, 110]⟩] 61, .cells #[.string ⟨#[109, 97, 114, 107]⟩] 61, .cells #[.string ⟨#[115, 117, 109]⟩] 61, .cells #[.string ⟨#[114, 97, 110, 103, 101]⟩] 61, .cells #[.string ⟨#[105, 110, 100, 101, 120]⟩] 61, .cells #[.string ⟨#[104, 101, 97, 100, 101, 114]⟩] 61, .cells #[.string ⟨#[115, 101, 97, 108, 101, 100]⟩] 61, .cells #[.string ⟨#[109, 105, 115, 115, 105, 110, 103]⟩] 61, .cells #[.string ⟨#[109, 97, 110, 105, 102, 101, 115, 116]⟩] 61, .cells #[.string ⟨#[98, 111, 111, 107]⟩] 61, .cells #[.string ⟨#[115, 101, 103, 109, 101, 110, 116, 115]⟩] 61, .cells #[.string ⟨#[110, 117, 109, 98, 101, 114, 115]⟩] 61, .cells #[.string ⟨#[115, 101, 113, 117, 101, 110, 99, 101]⟩] 61, .cells #[.string ⟨#[101, 109, 112, 116, 121]⟩] 61, .cells #[.string ⟨#[110, 111, 32, 115, 110, 97, 112, 115, 104, 111, 116]⟩] 61, .cells #[.string ⟨#[99, 111, 109, 112, 97, 99, 116, 101, 100]⟩] 61, .cells #[.string ⟨#[108, 105, 110, 101]⟩] 61, .cells #[.string ⟨#[119, 111, 114, 100]⟩] 61, .cells #[.string ⟨#[108, 105, 110, 101, 115]⟩] 61, .cells #[.string ⟨#[111, 117, 116, 112, 117, 116]⟩] 61], #[], []⟩).heap).modify 42 fun x => match x with | .cells _ t frozen => .cells #[.iface 65 (.agg #[.pointer (some ⟨46, 30, none⟩)])] t frozen | o => o }, rfl, by kernel_rfl, by kernel_rfl, by kernel_rfl, laidMetH_of_parts (laidMet_of_run' 8 (by kernel_rfl) (by kernel_rfl)) (by kernel_rfl), fun _ _ => by kernel_rfl⟩
set_option maxRecDepth 100000 in
theorem lifted (os : Os) (started : os.Started) (H : Type) (enc : TypeId × Value → H) (F : Stop.Interp) :
    ReturnsInHanded {} Tryd.checked os 7 .any ((OpenSpec.ofChange Rows.faultPathsSpec).preRow enc Tryd.prog Tryd.f7 Rows.faultPathsRow.domain false Rows.faultPathsRow.laid) (((OpenSpec.ofChange Rows.faultPathsSpec).at F).post enc Tryd.prog Tryd.f7 false true false false) := by
  obtain ⟨w0, h1, h2, h3, h4, h5, h6⟩ := start os
  refine returnsInHanded_of_row (C := Tryd.checked) (s := OpenSpec.ofChange Rows.faultPathsSpec) own started (by kernel_rfl) Tryd.func7
    (witness_row_at (enc := enc) (C := Tryd.checked) false w0 #[.slice none 0 0, .string ⟨#[]⟩, .int .i64 0, .int .i64 0] h1 h2 h3 h4
      (OpenSpec.preRow_of_cond 8 (h6 H enc) (by kernel_rfl) (fun k hk => by cases hk) (by kernel_rfl) h5)) ?_
  intro W base args ds gs before hval hW _ hcond hsz hL _ _
  exact contract H enc W base args ds gs before hval hW hsz hL
theorem said : Rows.FaultPathsSaid :=
  OpenClaim.holds_of_cond 7 Tryd.f7 rfl rfl rfl rfl rfl rfl rfl ⟨rfl, rfl, rfl, rfl, rfl⟩ rfl rfl rfl rfl rfl (by kernel_rfl) Tryd.func7 (by kernel_rfl)
    (of_decide_eq_true (by kernel_rfl)) (by unfold Func.isWrapper; first | (rw [if_pos (by decide +kernel)]; kernel_rfl) | (rw [if_neg (by decide +kernel)]; exact ⟨rfl, rfl⟩))
    (fun os started H enc _ F => by rw [OpenClaim.pre_eq_preRow]; exact lifted os started H enc F)
theorem plain (f : FuncId) (fn : Func) (hf : Tryd.pinned.checked.prog.funcNamed "daybook/daybooklaw01.FaultPaths" = some f) (hfn : Tryd.pinned.checked.prog.funcs[f]? = some fn) :
    true = Tryd.pinned.checked.prog.looks [] ∧ ∀ (j : Nat) t, fn.params[j]? = some t → Tryd.pinned.checked.prog.wantsStandIn t = false := by
  obtain rfl : f = 7 := Option.some.inj ((show Tryd.prog.funcNamed "daybook/daybooklaw01.FaultPaths" = some 7 by kernel_rfl).symm.trans hf) |>.symm
  obtain rfl : fn = Tryd.f7 := (Option.some.inj (Tryd.func7.symm.trans hfn)).symm
  refine ⟨by kernel_rfl, fun j t ht => ?_⟩
  rw [Tryd.params7] at ht
  have hm := Array.mem_of_getElem? ht
  have hall : ∀ t ∈ (#[27, 9, 3, 3] : Array TypeId), Tryd.prog.wantsStandIn t = false := by
    intro t ht
    simp only [List.mem_toArray, List.mem_cons, List.not_mem_nil, or_false] at ht
    rcases ht with rfl | rfl | rfl | rfl <;> kernel_rfl
  exact hall t hm
theorem card : Rows.FaultPathsCardSaid :=
  Claim7.holds_tied_plain_at .later [] _ _ _ _ said (fun _ h => by cases h) (by kernel_rfl) (fun _ h => by cases h) faultPaths_row_tie rfl ⟨rfl, rfl⟩ (by kernel_rfl) rfl plain (by kernel_rfl)
end Go.Proofs.YtpjcmfoamdiohaaDoor.faultPaths
