/- For every room and every script: a disk made of another one's image is as that one. No condition. -/
import Derived.Test.YtlnhhgmdajbepaaFmv
namespace Go.Proofs.Ytlnhhgmdajbepaa.simfsMounts
open Go.ChangeShapes Go.WideShapes Go.ChangeAt Go.RowKit
set_option linter.unusedVariables false
set_option maxRecDepth 100000 in
set_option maxHeartbeats 8000000 in
theorem walk (room : Int) (L : List Oa) (a : Option Addr) (cap : Nat) (w : World) (w0 : (Lit.int .i64 room).wf = true) (hL : OpsAt w a L) (hc : L.length ≤ cap ∧ cap * 104 ≤ 140737488351232) :
    Calls Try.prog 11 #[.int .i64 room, .slice a L.length cap] w fun e w' => e = .returned (.bool true) ∧ Below w.heap.size w w' := by
  have hri := wf_i64 room w0
  obtain ⟨n, hn⟩ : ∃ n, L.length = n := ⟨_, rfl⟩
  have HN : Hid (L.length = n) := hn
  have hnI : (n : Int) ≤ 140737488351232 := by omega
  have hn0 : (0 : Int) ≤ (n : Int) := by omega
  rw [hn]
  have HL : Hid (OpsAt w a L) := hL
  have HRI : Hid (inI room) := hri
  clear w0 hL hc hn hri
  go_enter Try.func11, Try.ntmps11
  go_wp2_with (first
    | (go_at_call 13; refine (head10_any w).mono ?_; rintro _ x1 ⟨rfl, hb1⟩; have HB1 : Hid (Below w.heap.size w x1) := hb1; clear hb1)
    | (go_at_call 14; refine (new_A room x1 HRI.out.1 HRI.out.2).mono ?_; rintro _ x2 ⟨q, b, rfl, hd2, hb2⟩; have HD2 : Hid (DA x2 x1.heap.size q b (newD room).ab ∧ AkOk (newD room).ab ∧ (newD room).ab.room = roomI room ∧ RtL (newD room).ab.fs ∧ Below w.heap.size w x2) := ⟨hd2, newA_ok room, rfl, (fun f hf => by cases hf), HB1.out.trans (hb2.mono HB1.out.size)⟩; clear hd2 hb2)
    | go_in)
  go_loopw [16] (fun v16 wr => ∃ (k : Nat) (A : Ak), v16 = .int .i64 (k : Int) ∧ k ≤ n ∧ Hid (DA wr x1.heap.size q b A ∧ AkOk A ∧ A.room = roomI room ∧ RtL A.fs ∧ Below w.heap.size w wr)) (fun v16 _ => n - (intOf v16).toNat)
  case atStart => exact ⟨0, _, rfl, Nat.zero_le _, HD2.out⟩
  case round =>
    obtain ⟨k, A, rfl, hk, HRR⟩ := hrel
    by_cases hkn : k < n
    · obtain ⟨o, ho⟩ : ∃ o, L[k]? = some o := ⟨_, List.getElem?_eq_getElem (by rw [HN.out]; exact hkn)⟩
      have hops := HL.out.keep HRR.out.2.2.2.2
      obtain ⟨b0, off, rfl, hb0, hrg⟩ : ∃ b0 off, a = some ⟨b0, off, none⟩ ∧ b0 < wr.heap.size ∧ wr.rangeAt b0 (off + k * 7) (opL o) := by
        rcases hops.1 with h1 | ⟨b0, off, h1, h2, h3⟩
        · rw [h1] at ho; simp at ho
        · exact ⟨b0, off, h1, h2, h3 k o ho⟩
      have HRNG : Hid (wr.rangeAt b0 (off + k * 7) (opL o)) := hrg
      have HOI : Hid (OpIn wr o) := hops.2 o (List.mem_of_getElem? ho)
      have HOZ : Hid (OpAt (wr.alloc (.cells #[.int .i64 0, .string ⟨#[]⟩, .string ⟨#[]⟩, .slice none 0 0, .int .i64 0, .int .i64 0, .slice none 0 0] 34)) wr.heap.size opZ) := OpAt.newZ wr
      have HNX : Hid (AkOk (doA A o).1 ∧ (doA A o).1.room = roomI room ∧ RtL (doA A o).1.fs) := ⟨doA_ok HRR.out.2.1 HOI.out.n, by rw [doA_room]; exact HRR.out.2.2.1, doA_right HRR.out.2.2.2.1 o⟩
      obtain ⟨R, hR⟩ : ∃ R, doA A o = R := ⟨_, rfl⟩
      rw [hR] at HNX
      obtain ⟨A2, by2, nn, E⟩ := R
      have HR : Hid (doA A o = (A2, by2, nn, E)) := hR
      have hkI : (k : Int) < (n : Int) := by omega
      have hk0 : (0 : Int) ≤ (k : Int) := by omega
      clear hops hrg ho hR
      go_wp2_with (first
        | ((with_reducible refine guard_load 34 ?_); refine wpList_load_opr rfl _ rfl HRNG.out rfl ?_)
        | ((with_reducible refine guard_store 34 ?_); refine wpList_store_op rfl _ _ rfl rfl HOZ.out rfl rfl (p2 := o) ?_; intro x3 ho3 hb3 hs3; have HB3 : Hid (Below wr.heap.size wr x3) := hb3 _ _ ((Below.refl _ _).alloc (Nat.le_refl _) _) (Nat.le_refl _); have HO3 : Hid (OpAt x3 wr.heap.size o) := ho3; have HD3 : Hid (DF x3 x1.heap.size q b A (fun _ => False)) := (HRR.out.1.keep HB3.out).df; clear ho3 hb3 hs3)
        | ((with_reducible refine guard_load 34 ?_); refine wpList_load_opb rfl _ rfl HO3.out rfl ?_)
        | (go_at_call 18; refine (call_F x3 x1.heap.size q b A _ HD3.out HRR.out.2.1 o (HOI.out.keep HB3.out)).mono ?_; rw [HR.out]; rintro _ x5 ⟨v5, rfl, ho5, hd5, hk5, hb5⟩; have HD5 : Hid (DA x5 x1.heap.size q b A2) := hd5.da; have HB5 : Hid (Below w.heap.size w x5) := (HRR.out.2.2.2.2.trans (HB3.out.mono HRR.out.2.2.2.2.size)).trans (hb5.mono HB1.out.size); clear ho5 hd5 hk5 hb5)
        | go_in)
      go_roundw
      case rel => exact ⟨k + 1, A2, by go_num, by omega, HD5.out, HNX.out.1, HNX.out.2.1, HNX.out.2.2, HB5.out⟩
      case measure => simp [intOf]; omega
    · obtain rfl : k = n := by omega
      obtain ⟨m, hm⟩ : ∃ m, A.fs.length = m := ⟨_, rfl⟩
      have HM : Hid (A.fs.length = m ∧ m ≤ 700) := ⟨hm, by rw [← hm]; exact HRR.out.2.1.few⟩
      have hmI : (m : Int) ≤ 700 := by have := HM.out.2; omega
      have hm0 : (0 : Int) ≤ (m : Int) := by omega
      have HMT : Hid (mountA room (A.fs.map feOf) = (0, (newD room).ab.put A.fs)) := mount_same HRR.out.2.1 HRR.out.2.2.2.1 HRR.out.2.2.1
      obtain ⟨U, hU⟩ : ∃ U : Nat, usedA A.fs = U := ⟨_, rfl⟩
      have HU : Hid (usedA A.fs = U) := hU
      have HROOM : Hid (A.room = roomI room) := HRR.out.2.2.1
      have T1 : Hid True := trivial
      have T2 : Hid True := trivial
      have T3 : Hid True := trivial
      have T4 : Hid True := trivial
      have HXF : Hid (∀ X : List (Fa × Value), X.map Prod.fst = A.fs → (X.map (fun p => (feOf p.1, p.2))).map Prod.fst = A.fs.map feOf ∧ ∀ p ∈ X, p.1.name.length ≤ 24 ∧ p.1.l.length ≤ 140737488351232 ∧ p.1.s ≤ p.1.l.length) := fun X hX => by
        refine ⟨by rw [← hX, List.map_map, List.map_map]; rfl, fun p hp => ?_⟩
        have hpm : p.1 ∈ A.fs := by rw [← hX]; exact List.mem_map_of_mem hp
        have hu : p.1.l.length ≤ usedA A.fs := by
          obtain ⟨s1, s2, he⟩ := List.append_of_mem hpm
          rw [he, used_app, usedA_cons]; omega
        have h1 := HRR.out.2.1.used
        have h2 := HRR.out.2.1.room
        exact ⟨HRR.out.2.1.name _ hpm, by omega, HRR.out.2.1.safe _ hpm⟩
      clear hkn hk hm hU
      go_wp2_with (first
        | (go_at_call 24; clear T1; refine (image_n HRR.out.1 HRR.out.2.1 m HM.out.1).mono ?_; rintro _ x4 ⟨a4, c4, X4, rfl, hi4, he4, hl4, hf4, hb4⟩; have HI4 : Hid (FeA x4 a4 (X4.map (fun p => (feOf p.1, p.2))) ∧ (X4.map (fun p => (feOf p.1, p.2))).length = m ∧ (X4.map (fun p => (feOf p.1, p.2))).map Prod.fst = A.fs.map feOf) := ⟨im_fe hi4 (HXF.out X4 he4).2, by rw [List.length_map]; exact hl4, (HXF.out X4 he4).1⟩; have HB4 : Hid (Below wr.heap.size wr x4) := hb4; clear hi4 he4 hl4 hf4 hb4)
        | (go_at_call 22; refine (mount_any x4 room HRI.out.1 HRI.out.2 _ a4 m c4 HI4.out.2.1 HI4.out.1 (by omega)).mono ?_; rw [HI4.out.2.2, HMT.out]; rintro _ x5 ⟨P5, rfl, hb5, hor⟩; (obtain ⟨q2, b2, rfl, hg5, ok5⟩ : ∃ q2 b2, P5 = .pointer (some ⟨q2, 0, none⟩) ∧ DA x5 x4.heap.size q2 b2 ((newD room).ab.put A.fs) ∧ AkOk ((newD room).ab.put A.fs) := (by rcases hor with ⟨h1, _⟩ | ⟨_, q2, b2, h1, h2, h3⟩; exact absurd rfl h1; exact ⟨q2, b2, h1, h2, h3⟩)); have HG5 : Hid (DA x5 x4.heap.size q2 b2 ((newD room).ab.put A.fs) ∧ AkOk ((newD room).ab.put A.fs)) := ⟨hg5, ok5⟩; have HB5 : Hid (Below wr.heap.size wr x5) := HB4.out.trans (hb5.mono HB4.out.size); have HD5 : Hid (DA x5 x1.heap.size q b A) := HRR.out.1.keep HB5.out; clear hb5 hor hg5 ok5)
        | (go_at_call 24; clear T2; refine (image_n HD5.out HRR.out.2.1 m HM.out.1).mono ?_; rintro _ x6 ⟨a6, c6, X6, rfl, hi6, he6, hl6, hf6, hb6⟩; have HI6 : Hid (FlsA x6 a6 X6 ∧ X6.map Prod.fst = A.fs ∧ X6.length = m) := ⟨hf6, he6, hl6⟩; have HB6 : Hid (Below wr.heap.size wr x6) := HB5.out.trans (hb6.mono HB5.out.size); have HD6 : Hid (DA x6 x1.heap.size q b A) := HD5.out.keep hb6; have HG6 : Hid (DA x6 x4.heap.size q2 b2 ((newD room).ab.put A.fs)) := HG5.out.1.keep hb6; clear hi6 he6 hl6 hf6 hb6)
        | (go_at_call 24; refine (image_n HG6.out HG5.out.2 m HM.out.1).mono ?_; rintro _ x7 ⟨a7, c7, X7, rfl, hi7, he7, hl7, hf7, hb7⟩; have HI7 : Hid (FlsA x7 a7 X7 ∧ X7.map Prod.fst = A.fs ∧ X7.length = m) := ⟨hf7, he7, hl7⟩; have HI67 : Hid (FlsA x7 a6 X6) := HI6.out.1.keep hb7; have HB7 : Hid (Below wr.heap.size wr x7) := HB6.out.trans (hb7.mono HB6.out.size); have HD7 : Hid (DA x7 x1.heap.size q b A) := HD6.out.keep hb7; have HG7 : Hid (DA x7 x4.heap.size q2 b2 ((newD room).ab.put A.fs)) := HG6.out.keep hb7; clear hi7 he7 hl7 hf7 hb7)
        | (go_at_call 23; refine (fls_same X6 X7 m a6 a7 c6 c7 x7 (by rw [HI6.out.2.1, HI7.out.2.1]) HI6.out.2.2 HI67.out HI7.out.1 (by have := HM.out.2; omega)).mono ?_; rintro _ x8 ⟨rfl, hb8⟩; have HB8 : Hid (Below wr.heap.size wr x8) := HB7.out.trans (hb8.mono HB7.out.size); have HD8 : Hid (DA x8 x1.heap.size q b A) := HD7.out.keep hb8; have HG8 : Hid (DA x8 x4.heap.size q2 b2 ((newD room).ab.put A.fs)) := HG7.out.keep hb8; clear hb8)
        | (go_at_call 38; clear T3; refine (used_A HG8.out HG5.out.2).mono ?_; rw [show usedA ((newD room).ab.put A.fs).fs = U from HU.out]; rintro _ x9 ⟨rfl, hb9⟩; have HB9 : Hid (Below wr.heap.size wr x9) := HB8.out.trans (hb9.mono HB8.out.size); have HD9 : Hid (DA x9 x1.heap.size q b A) := HD8.out.keep hb9; have HG9 : Hid (DA x9 x4.heap.size q2 b2 ((newD room).ab.put A.fs)) := HG8.out.keep hb9; clear hb9)
        | (go_at_call 38; refine (used_A HD9.out HRR.out.2.1).mono ?_; rw [HU.out]; rintro _ y1 ⟨rfl, hc1⟩; have HC1 : Hid (Below wr.heap.size wr y1) := HB9.out.trans (hc1.mono HB9.out.size); have HDY1 : Hid (DA y1 x1.heap.size q b A) := HD9.out.keep hc1; have HGY1 : Hid (DA y1 x4.heap.size q2 b2 ((newD room).ab.put A.fs)) := HG9.out.keep hc1; clear hc1)
        | (go_at_call 31; clear T4; refine (free_A HGY1.out HG5.out.2).mono ?_; rw [show usedA ((newD room).ab.put A.fs).fs = U from HU.out, show ((newD room).ab.put A.fs).room = roomI room from rfl]; rintro _ y2 ⟨rfl, hc2⟩; have HC2 : Hid (Below wr.heap.size wr y2) := HC1.out.trans (hc2.mono HC1.out.size); have HDY2 : Hid (DA y2 x1.heap.size q b A) := HDY1.out.keep hc2; have HGY2 : Hid (DA y2 x4.heap.size q2 b2 ((newD room).ab.put A.fs)) := HGY1.out.keep hc2; clear hc2)
        | (go_at_call 31; refine (free_A HDY2.out HRR.out.2.1).mono ?_; rw [HU.out, HROOM.out]; rintro _ y3 ⟨rfl, hc3⟩; have HC3 : Hid (Below wr.heap.size wr y3) := HC2.out.trans (hc3.mono HC2.out.size); have HGY3 : Hid (DA y3 x4.heap.size q2 b2 ((newD room).ab.put A.fs)) := HGY2.out.keep hc3; clear hc3)
        | (go_at_call 34; refine (down_A HGY3.out).mono ?_; rw [show ((newD room).ab.put A.fs).off = false from rfl]; rintro _ y4 ⟨rfl, rfl⟩)
        | (go_at_call 37; refine (steps_A HGY3.out).mono ?_; rw [show ((newD room).ab.put A.fs).steps = 0 from rfl]; rintro _ y5 ⟨rfl, rfl⟩)
        | go_in)
      go_ret
      exact ⟨rfl, HRR.out.2.2.2.2.trans (HC3.out.mono HRR.out.2.2.2.2.size)⟩
theorem own : ownKnob Try.prog.godebug = none := by kernel_rfl
theorem laidOut : laidOutB Try.prog = true := by kernel_rfl
set_option maxRecDepth 100000 in
theorem contract (H : Type) (enc : TypeId × Value → H) (W : World) (base : Nat) (args : Array Value) (ds gs : List (DataW H)) (before : List MemPlace)
    (hval : ∀ (j : Nat) t v, Try.f11.params[j]? = some t → args[j]? = some v → Value.okWide Try.prog W .any base t v)
    (hW : DataW.Whole enc Try.prog Try.f11.params.toList Rows.simfsMountsSpec.vars false W args.toList ds gs before)
    (hsz : (DataW.weightsEach Try.prog (Try.f11.params.toList ++ Rows.simfsMountsSpec.plain.varTypes Try.prog) (ds ++ gs)).all (· ≤ reachBytes) = true) :
    Calls Try.prog 11 args W fun e W' => ∃ v, e = .returned v ∧ Rows.simfsMountsSpec.post enc Try.prog Try.f11 false true false false W args v W' := by
  have hW' := hW
  obtain ⟨p, q, hA0, hV, rfl, hfz, hnd⟩ := hW
  have hA : DataW.TrodAll enc Try.prog W 0 (fun _ => true) true Try.f11.params.toList args.toList ds p := hA0
  rw [Try.params11] at hA hval hsz
  obtain ⟨v0, vs0, d0, ds0, p0, q0, hargs, rfl, rfl, h0, r0⟩ := trodAll_cons hA
  obtain ⟨v1, vs1, d1, ds1, p1, q1, rfl, rfl, rfl, h1, r1⟩ := trodAll_cons r0
  obtain ⟨rfl, rfl, rfl⟩ := trodAll_nil r1
  obtain rfl : args = #[v0, v1] := by cases args; simp_all
  obtain ⟨rfl, rfl⟩ := trodVars_none hV
  obtain ⟨a0, rfl, rfl, rfl, w0⟩ := open_int Try.underlying3 (hval 0 3 v0 rfl rfl) h0
  obtain ⟨a1, len1, cap1, rfl⟩ := okWide_slice Try.underlying22 (hval 1 22 v1 rfl rfl)
  have k1 := h1
  have lt1 : ∀ x ∈ p1, x.block < W.heap.size := by obtain ⟨m, hm⟩ := k1; exact DataW.trod_lt m _ _ _ hm
  obtain ⟨l1, hlen1, w1, c1⟩ : ∃ L : List Oa, L.length = len1 ∧ OpsAt W a1 L ∧ (len1 ≤ cap1 ∧ cap1 * 104 ≤ 140737488351232) := by
    obtain ⟨fuel, hf⟩ := h1
    rcases open_ops hf with ⟨hcs, hx⟩ | ⟨x, l, c, L, D, hcs, hl, hm, hLl, hfs, hrw, hx, hD⟩
    · simp [Value.cells] at hcs
      obtain ⟨rfl, rfl, rfl⟩ := hcs
      exact ⟨[], rfl, ⟨.inl rfl, fun p hp => by cases hp⟩, Nat.le_refl _, by simp⟩
    · simp [Value.cells] at hcs
      obtain ⟨rfl, rfl, rfl⟩ := hcs
      have hd : d1 = _ := hx
      obtain ⟨s1, s2⟩ := sized_ops hsz (j := 1) rfl (by rw [hd]; rfl) hl hLl hrw hD
      refine ⟨L, hLl, ⟨?_, s2⟩, hl, s1⟩
      rcases hfs with h1 | ⟨b, off, h1, h2, h3⟩
      · exact .inl h1
      · exact .inr ⟨b, off, by rw [h1], h2, h3⟩
  subst hlen1
  clear hA0
  refine (walk a0 l1 a1 cap1 W w0 w1 c1).mono fun e W' ⟨he, bel⟩ => ?_
  subst he
  exact ⟨_, rfl, _, _, _, [], _, [], hW', trodAll_mk1 (shut_bool Try.underlying4 _), (trodAll_cons_mk (shut_int Try.underlying3 w0) (trodAll_cons_mk (Below.trod laidOut (by kernel_rfl) (of_decide_eq_true (by kernel_rfl)) k1 bel lt1) trodAll_mk0)), rfl, bel.frame _, fun h => by cases h⟩
set_option maxRecDepth 100000 in
theorem lifted (os : Os) (started : os.Started) (H : Type) (enc : TypeId × Value → H) :
    ReturnsInHanded {} Try.checked os 11 .any (Rows.simfsMountsSpec.pre6 enc Try.prog Try.f11 Rows.simfsMountsRow.domain false) (Rows.simfsMountsSpec.post enc Try.prog Try.f11 false true false false) := by
  refine returnsInHanded_of_change_sized (C := Try.checked) own started (by kernel_rfl) Try.func11
    (ChangeSpec.witness6 (enc := enc) (C := Try.checked) false ⟨#[], #[.int .i64 0, .slice none 0 0], []⟩ 8 (by kernel_rfl) (by kernel_rfl) (by kernel_rfl) (by kernel_rfl)) ?_
  intro W base args ds gs before hval hW _ hsz _
  exact contract H enc W base args ds gs before hval hW hsz
theorem over : Rows.simfsMountsRow.holds Try.pinned (OpenSpec.ofChange Rows.simfsMountsSpec) :=
  OpenClaim.holds_of_wide 11 Try.f11 rfl rfl rfl rfl rfl rfl rfl ⟨rfl, rfl, rfl, rfl, rfl⟩ rfl rfl rfl rfl rfl (by kernel_rfl) Try.func11 (by kernel_rfl)
    (of_decide_eq_true (by kernel_rfl)) (by unfold Func.isWrapper; first | (rw [if_pos (by decide +kernel)]; kernel_rfl) | (rw [if_neg (by decide +kernel)]; exact ⟨rfl, rfl⟩))
    (fun os started H enc _ => lifted os started H enc)
theorem proved : Rows.SimfsMountsSaid := over
end Go.Proofs.Ytlnhhgmdajbepaa.simfsMounts
