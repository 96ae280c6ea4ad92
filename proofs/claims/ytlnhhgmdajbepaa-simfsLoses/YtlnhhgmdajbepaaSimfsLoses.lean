/- For every room, all files, every script and whatever is kept: behind a loss of power each file is a beginning of what it was, with all that was safe. No condition. -/
import Derived.Test.YtlnhhgmdajbepaaFsq
import Derived.BigQuiet
namespace Go.Proofs.Ytlnhhgmdajbepaa.simfsLoses
open Go.ChangeShapes Go.WideShapes Go.ChangeAt Go.RowKit
set_option linter.unusedVariables false
set_option maxRecDepth 100000 in
set_option maxHeartbeats 8000000 in
theorem walk (room : Int) (Y : List (Fe × Value)) (a1 : Option Addr) (cap1 : Nat) (L : List Oa) (a : Option Addr) (cap : Nat) (ks : List Int) (a3 : Option Addr) (cap3 : Nat) (w : World) (w0 : (Lit.int .i64 room).wf = true) (hY : FilesAt w a1 Y) (hcY : Y.length ≤ cap1 ∧ cap1 * 48 ≤ 140737488351232) (hL : OpsAt w a L) (hc : L.length ≤ cap ∧ cap * 104 ≤ 140737488351232) (hk : Ints w a3 ks) (hc3 : Came w a3 ks.length cap3 8) :
    Calls Try.prog 7 #[.int .i64 room, .slice a1 Y.length cap1, .slice a L.length cap, .slice a3 ks.length cap3] w fun e w' => e = .returned (.bool true) ∧ Below w.heap.size w w' := by
  have hri := wf_i64 room w0
  obtain ⟨n1, hn1⟩ : ∃ n, Y.length = n := ⟨_, rfl⟩
  have HY : Hid (FilesAt w a1 Y ∧ Y.length = n1) := ⟨hY, hn1⟩
  have hn1I : (n1 : Int) * 48 ≤ 140737488351232 := by omega
  have hn10 : (0 : Int) ≤ (n1 : Int) := by omega
  obtain ⟨n, hn⟩ : ∃ n, L.length = n := ⟨_, rfl⟩
  have HN : Hid (L.length = n) := hn
  have hnI : (n : Int) ≤ 140737488351232 := by omega
  have hn0 : (0 : Int) ≤ (n : Int) := by omega
  obtain ⟨nk, hnk⟩ : ∃ n, ks.length = n := ⟨_, rfl⟩
  have HKS : Hid (Ints w a3 ks ∧ (a3 = none → cap3 = 0) ∧ ks.length ≤ cap3 ∧ ks.length * 8 ≤ 140737488355328) := ⟨hk, hc3.none, hc3.fits, by have h1 := hc3.fits; have h2 := hc3.room; omega⟩
  have hnkI : (nk : Int) ≤ 140737488351232 := by have := HKS.out.2.2.2; omega
  have hnk0 : (0 : Int) ≤ (nk : Int) := by omega
  have HNK : Hid (ks.length = nk) := hnk
  rw [hn, hn1, hnk]
  have HL : Hid (OpsAt w a L) := hL
  have HRI : Hid (inI room) := hri
  have hr1 := hri.1
  have hr2 := hri.2
  obtain ⟨M, hM⟩ : ∃ M, mountA room (Y.map Prod.fst) = M := ⟨_, rfl⟩
  obtain ⟨ME, MA⟩ := M
  have HM0 : Hid (mountA room (Y.map Prod.fst) = (ME, MA)) := hM
  have HBND : Hid (∀ X : List (Fe × Value), X.map Prod.fst = Y.map Prod.fst → ∀ p ∈ X, p.1.name.length ≤ 281474976710656 ∧ p.1.l.length ≤ 140737488351232 ∧ inI p.1.s) := fun X hX p hp => by
    have h1 : p.1 ∈ Y.map Prod.fst := by rw [← hX]; exact List.mem_map_of_mem hp
    obtain ⟨p2, h2, h3⟩ := List.mem_map.1 h1
    have h4 := (hY.fe.byt p2 h2).2
    rw [h3] at h4
    exact h4
  clear w0 hY hcY hL hc hk hc3 hn hn1 hnk hri hM
  by_cases hME : ME = 0
  · subst hME
    go_enter Try.func7, Try.ntmps7
    go_wp2_with (first
      | (go_at_call 13; refine (head10_any w).mono ?_; rintro _ x1 ⟨rfl, hb1⟩; have HB1 : Hid (Below w.heap.size w x1) := hb1; clear hb1)
      | (go_at_call 20; refine (copy_files x1 Y a1 n1 cap1 HY.out.2 (HY.out.1.keep HB1.out) hn1I).mono ?_; rintro _ x2 ⟨g2, c2, X2, rfl, hi2, he2, hb2⟩; have HX2 : Hid (FeA x2 g2 X2 ∧ X2.length = n1 ∧ X2.map Prod.fst = Y.map Prod.fst) := ⟨(hi2.files (HBND.out X2 he2)).fe, (by have h9 := congrArg List.length he2; rw [List.length_map, List.length_map, HY.out.2] at h9; exact h9), he2⟩; have HB2 : Hid (Below w.heap.size w x2) := HB1.out.trans (hb2.mono HB1.out.size); clear hi2 he2 hb2)
      | (go_at_call 22; refine (mount_any x2 room HRI.out.1 HRI.out.2 X2 g2 n1 c2 HX2.out.2.1 HX2.out.1 (by omega)).mono ?_; rw [HX2.out.2.2, HM0.out]; rintro _ x3 ⟨P3, rfl, hb3, hor⟩; (obtain ⟨q, b, rfl, hd3, ok3⟩ : ∃ q b, P3 = .pointer (some ⟨q, 0, none⟩) ∧ DA x3 x2.heap.size q b MA ∧ AkOk MA := (by rcases hor with ⟨h1, _⟩ | ⟨_, q, b, h1, h2, h3⟩; exact absurd rfl h1; exact ⟨q, b, h1, h2, h3⟩)); have HD3 : Hid (DA x3 x2.heap.size q b MA ∧ AkOk MA ∧ Below w.heap.size w x3) := ⟨hd3, ok3, HB2.out.trans (hb3.mono HB2.out.size)⟩; clear hb3 hor hd3 ok3)
      | go_in)
    go_loopw [33] (fun v33 wr => ∃ (k : Nat) (A : Ak), v33 = .int .i64 (k : Int) ∧ k ≤ n ∧ Hid (DA wr x2.heap.size q b A ∧ AkOk A ∧ Below w.heap.size w wr)) (fun v33 _ => n - (intOf v33).toNat)
    case atStart => exact ⟨0, _, rfl, Nat.zero_le _, HD3.out⟩
    case round =>
      obtain ⟨k, A, rfl, hk, HRR⟩ := hrel
      rename World => wo
      by_cases hkn : k < n
      · obtain ⟨o, ho⟩ : ∃ o, L[k]? = some o := ⟨_, List.getElem?_eq_getElem (by rw [HN.out]; exact hkn)⟩
        have hops := HL.out.keep HRR.out.2.2
        obtain ⟨b0, off, rfl, hb0, hrg⟩ : ∃ b0 off, a = some ⟨b0, off, none⟩ ∧ b0 < wo.heap.size ∧ wo.rangeAt b0 (off + k * 7) (opL o) := by
          rcases hops.1 with h1 | ⟨b0, off, h1, h2, h3⟩
          · rw [h1] at ho; simp at ho
          · exact ⟨b0, off, h1, h2, h3 k o ho⟩
        have HRNG : Hid (wo.rangeAt b0 (off + k * 7) (opL o)) := hrg
        have HOI : Hid (OpIn wo o) := hops.2 o (List.mem_of_getElem? ho)
        have HOZ : Hid (OpAt (wo.alloc (.cells #[.int .i64 0, .string ⟨#[]⟩, .string ⟨#[]⟩, .slice none 0 0, .int .i64 0, .int .i64 0, .slice none 0 0] 34)) wo.heap.size opZ) := OpAt.newZ wo
        have HNX : Hid (AkOk (doA A o).1) := doA_ok HRR.out.2.1 HOI.out.n
        obtain ⟨R, hR⟩ : ∃ R, doA A o = R := ⟨_, rfl⟩
        rw [hR] at HNX
        obtain ⟨A2, by2, nn, E⟩ := R
        have HR : Hid (doA A o = (A2, by2, nn, E)) := hR
        have hkI : (k : Int) < (n : Int) := by omega
        have hk0 : (0 : Int) ≤ (k : Int) := by omega
        clear hops hrg ho hR
        go_wp2_with (first
          | ((with_reducible refine guard_load 34 ?_); refine wpList_load_opr rfl _ rfl HRNG.out rfl ?_)
          | ((with_reducible refine guard_store 34 ?_); refine wpList_store_op rfl _ _ rfl rfl HOZ.out rfl rfl (p2 := o) ?_; intro x4 ho4 hb4 hs4; have HB4 : Hid (Below wo.heap.size wo x4) := hb4 _ _ ((Below.refl _ _).alloc (Nat.le_refl _) _) (Nat.le_refl _); have HO4 : Hid (OpAt x4 wo.heap.size o) := ho4; have HD4 : Hid (DF x4 x2.heap.size q b A (fun _ => False)) := (HRR.out.1.keep HB4.out).df; clear ho4 hb4 hs4)
          | ((with_reducible refine guard_load 34 ?_); refine wpList_load_opb rfl _ rfl HO4.out rfl ?_)
          | (go_at_call 18; refine (call_F x4 x2.heap.size q b A _ HD4.out HRR.out.2.1 o (HOI.out.keep HB4.out)).mono ?_; rw [HR.out]; rintro _ x5 ⟨v5, rfl, ho5, hd5, hk5, hb5⟩; have HD5 : Hid (DA x5 x2.heap.size q b A2) := hd5.da; have HB5 : Hid (Below w.heap.size w x5) := (HRR.out.2.2.trans (HB4.out.mono HRR.out.2.2.size)).trans (hb5.mono HB2.out.size); clear ho5 hd5 hk5 hb5)
          | go_in)
        go_roundw
        case rel => exact ⟨k + 1, A2, by go_num, by omega, HD5.out, HNX.out, HB5.out⟩
        case measure => simp [intOf]; omega
      · obtain rfl : k = n := by omega
        obtain ⟨m, hm⟩ : ∃ m, A.fs.length = m := ⟨_, rfl⟩
        have HM : Hid (A.fs.length = m ∧ m ≤ 700) := ⟨hm, by rw [← hm]; exact HRR.out.2.1.few⟩
        have hmI : (m : Int) ≤ 700 := by have := HM.out.2; omega
        have hm0 : (0 : Int) ≤ (m : Int) := by omega
        obtain ⟨B, hB⟩ : ∃ B, restartA A ks = B := ⟨_, rfl⟩
        have HB : Hid (restartA A ks = B) := hB
        have HBO : Hid (AkOk B ∧ B.off = false ∧ B.fs.length = m ∧ B.fs = loseA A.fs ks) := by rw [← hB]; exact ⟨restartA_ok HRR.out.2.1 ks, rfl, by show (loseA A.fs ks).length = m; rw [lose_n]; exact hm, rfl⟩
        have T1 : Hid True := trivial
        clear hkn hk hm hB
        go_wp2_with (first
          | (go_at_call 24; clear T1; refine (image_n HRR.out.1 HRR.out.2.1 m HM.out.1).mono ?_; rintro _ x4 ⟨a4, c4, X4, rfl, hi4, he4, hl4, hf4, hb4⟩; have HI4 : Hid (OwnIm x4 wo.heap.size (.slice a4 m c4) X4 ∧ X4.map Prod.fst = A.fs ∧ X4.length = m) := ⟨hi4, he4, hl4⟩; have HB4 : Hid (Below w.heap.size w x4) := HRR.out.2.2.trans (hb4.mono HRR.out.2.2.size); have HD4 : Hid (DF x4 x2.heap.size q b A (fun k => False ∨ (wo.heap.size ≤ k ∧ k < x4.heap.size))) := HRR.out.1.df.more hb4; clear hi4 he4 hl4 hf4 hb4)
          | (at_builtin; refine wpList_append_ks x4 rfl _ _ rfl ks a3 nk cap3 rfl rfl HNK.out (HKS.out.1.keep HB4.out) HKS.out.2.1 (by have := HKS.out.2.2.1; have := HNK.out; omega) (by have := HKS.out.2.2.2; have := HNK.out; omega) ?_; intro K5 C5 x5 hi5 ht5 hb5; have HI5 : Hid (Ints x5 K5 ks ∧ (∀ g off, K5 = some ⟨g, off, none⟩ → ks ≠ [] → ∃ c m, x5.heap[g]? = some (.cells c 3 m))) := ⟨hi5, ht5⟩; have HD5 : Hid (DF x5 x2.heap.size q b A (fun k => False ∨ (wo.heap.size ≤ k ∧ k < x4.heap.size))) := HD4.out.keep hb5; have HIM5 : Hid (OwnIm x5 wo.heap.size (.slice a4 m c4) X4) := HI4.out.1.keep hb5; have HK5 : Hid (∀ k, k < x4.heap.size → x5.heap[k]? = x4.heap[k]?) := (fun k h => hb5.block k h); have HB5 : Hid (Below w.heap.size w x5) := HB4.out.trans (hb5.mono HB4.out.size); clear hi5 ht5 hb5)
          | (go_at_call 32; refine (restart_F HD5.out HRR.out.2.1 K5 nk C5 ks HNK.out HI5.out.1 HI5.out.2 (by omega)).mono ?_; rw [HB.out]; rintro _ x6 ⟨rfl, hd6, hk6, hb6⟩; have HD6 : Hid (DA x6 x2.heap.size q b B) := hd6.da; have HIM6 : Hid (OwnIm x6 wo.heap.size (.slice a4 m c4) X4) := imk HI4.out.1 (fun k h1 h2 => (hk6 k (.inr ⟨h1, h2⟩)).trans (HK5.out k h2)); have HB6 : Hid (Below w.heap.size w x6) := HB5.out.trans (hb6.mono HB2.out.size); clear hd6 hk6 hb6)
          | (go_at_call 24; refine (image_n HD6.out HBO.out.1 m HBO.out.2.2.1).mono ?_; rintro _ x7 ⟨a7, c7, X7, rfl, hi7, he7, hl7, hf7, hb7⟩; have HI7 : Hid (FlsA x7 a7 X7 ∧ X7.map Prod.fst = B.fs ∧ X7.length = m) := ⟨hf7, he7, hl7⟩; have HI47 : Hid (FlsA x7 a4 X4) := (imf HIM6.out).keep hb7; have HIO7 : Hid (OwnIm x7 x6.heap.size (.slice a7 m c7) X7) := hi7; have HDF7 : Hid (DF x7 x2.heap.size q b B (fun k => False ∨ (x6.heap.size ≤ k ∧ k < x7.heap.size))) := HD6.out.df.more hb7; have HD7 : Hid (DA x7 x2.heap.size q b B) := HD6.out.keep hb7; have HB7 : Hid (Below w.heap.size w x7) := HB6.out.trans (hb7.mono HB6.out.size); clear hi7 he7 hl7 hf7 hb7)
          | (go_at_call 34; refine (down_A HD7.out).mono ?_; rw [HBO.out.2.1]; rintro _ y8 ⟨rfl, rfl⟩)
          | (go_at_call 35; refine (list_n HD7.out HBO.out.1 HBO.out.2.1 m HBO.out.2.2.1).mono ?_; rintro _ x8 ⟨g8, c8, rfl, hb8⟩; have HI8 : Hid (FlsA x8 a7 X7 ∧ FlsA x8 a4 X4) := ⟨HI7.out.1.keep hb8, HI47.out.keep hb8⟩; have HB78 : Hid (Below x7.heap.size x7 x8) := hb8; have HD8 : Hid (DA x8 x2.heap.size q b B) := HD7.out.keep hb8; have HB8 : Hid (Below w.heap.size w x8) := HB7.out.trans (hb8.mono HB7.out.size); clear hb8)
          | go_in)
        go_loopw [69] (fun v69 wr => ∃ j : Nat, v69 = .int .i64 (j : Int) ∧ j ≤ m ∧ Hid (Below x8.heap.size x8 wr)) (fun v69 _ => m - (intOf v69).toNat)
        case atStart => exact ⟨0, rfl, Nat.zero_le _, Below.refl _ _⟩
        case round =>
          obtain ⟨j, rfl, hj, HBJ⟩ := hrel
          rename World => wz
          by_cases hjm : j < m
          · obtain ⟨⟨f, bv⟩, hp⟩ : ∃ p, X4[j]? = some p := ⟨_, List.getElem?_eq_getElem (by rw [HI4.out.2.2]; exact hjm)⟩
            obtain ⟨⟨f7, bv7⟩, hp7⟩ : ∃ p, X7[j]? = some p := ⟨_, List.getElem?_eq_getElem (by rw [HI7.out.2.2]; exact hjm)⟩
            have hf : A.fs[j]? = some f := by rw [← HI4.out.2.1, List.getElem?_map, hp]; rfl
            have hf7 : B.fs[j]? = some f7 := by rw [← HI7.out.2.1, List.getElem?_map, hp7]; rfl
            obtain ⟨kv, hkv⟩ : ∃ kv, kAt ks j = kv := ⟨_, rfl⟩
            have hlo : f7 = lostA f kv := by rw [HBO.out.2.2.2, lose_at _ _ _ _ hf, hkv] at hf7; exact (Option.some.inj hf7).symm
            subst hlo
            have hsf := HRR.out.2.1.safe f (List.mem_of_getElem? hf)
            have hmu := mem_used HRR.out.2.1 (List.mem_of_getElem? hf)
            have hkp := keep_le hsf kv
            obtain ⟨b4, o4, rfl, hlt4, d0, d1, d2⟩ := (HI8.out.2.keep HBJ.out).at j _ hp
            obtain ⟨b7, o7, rfl, hlt7, e0, e1, e2⟩ := (HI8.out.1.keep HBJ.out).at j _ hp7
            obtain ⟨a2, s2, q2, hy2, _, hs2, hz2⟩ := (HI8.out.2.keep HBJ.out).byt _ (List.mem_of_getElem? hp)
            obtain ⟨a5, s5, q5, hy5, _, _, _⟩ := (HI8.out.1.keep HBJ.out).byt _ (List.mem_of_getElem? hp7)
            simp only at d0 d1 d2 e0 e1 e2 q2 q5 hy2 hs2 hy5
            subst q2 q5
            have hN : (lostA f kv).l.length = keepN f kv := by show (f.l.take (keepN f kv)).length = _; rw [List.length_take]; omega
            have hNs : (lostA f kv).s = keepN f kv := rfl
            have hNm : (lostA f kv).name = f.name := rfl
            have hNl : (lostA f kv).l = f.l.take (keepN f kv) := rfl
            rw [hN] at e1
            rw [hNs] at e2
            rw [hNm] at e0
            rw [hNl] at hy5
            have hkn : keepN f kv = f.s + (if kv < 0 then 0 else min kv.toNat (f.l.length - f.s)) := rfl
            obtain ⟨N, hNN⟩ : ∃ N, keepN f kv = N := ⟨_, rfl⟩
            obtain ⟨M, hMM⟩ : ∃ M, f.l.length = M := ⟨_, rfl⟩
            obtain ⟨S, hSS⟩ : ∃ S, f.s = S := ⟨_, rfl⟩
            obtain ⟨nm, hnm⟩ : ∃ nm, f.name = nm := ⟨_, rfl⟩
            rw [hNN] at e1 e2 hy5 hkp hkn
            rw [hMM] at d1 hs2 hkp hkn hmu
            rw [hSS] at d2 hkp hkn
            rw [hnm] at d0 e0
            have HTK : Hid (Bytes wz a5 (f.l.take N) ∧ Bytes wz a2 (f.l.take N) ∧ (f.l.take N).length = N) := ⟨hy5, hy2.take N, by rw [List.length_take, hMM]; omega⟩
            have HSM : Hid (∀ w1 : World, Below wz.heap.size wz w1 → Calls Try.prog 19 #[.slice a5 N s5, .slice a2 N s2] w1 fun e w' => e = .returned (.bool true) ∧ Below w1.heap.size w1 w') := fun w1 hw1 => (same_at (f.l.take N) (f.l.take N) N N a5 a2 s5 s2 w1 HTK.out.2.2 HTK.out.2.2 (HTK.out.1.keep hw1) (HTK.out.2.1.keep hw1) (by rw [HTK.out.2.2]; unfold maxLen; omega) (by rw [HTK.out.2.2]; unfold maxLen; omega)).mono (fun e w' he => ⟨by rw [he.1, decide_eq_true rfl], by obtain ⟨m, rfl⟩ := he.2; exact below_dn (Below.refl _ _) m⟩)
            have hNS : decide ((N : Int) < (S : Int)) = false := decide_eq_false (by omega)
            have hNM : decide ((M : Int) < (N : Int)) = false := decide_eq_false (by omega)
            have hNM3 : decide ((N : Int) > (M : Int)) = false := decide_eq_false (by omega)
            have hNS2 : decide (N < S) = false := decide_eq_false (by omega)
            have hNM4 : decide (M < N) = false := decide_eq_false (by omega)
            have hNM5 : (N : Int) ≤ (M : Int) := by omega
            have hNM2 : (N : Int) ≤ (s2 : Int) := by omega
            have hM7 : (M : Int) ≤ 67108864 := by omega
            have hSI : (0 : Int) ≤ (S : Int) := by omega
            have hNI : (0 : Int) ≤ (N : Int) := by omega
            have hMI : (0 : Int) ≤ (M : Int) := by omega
            have hSM : (S : Int) ≤ (M : Int) := by omega
            have hjI : (j : Int) < (m : Int) := by omega
            have hj0 : (0 : Int) ≤ (j : Int) := by omega
            have HKN : Hid (N = S + (if kv < 0 then 0 else min kv.toNat (M - S))) := hkn
            have HKV : Hid (kAt ks j = kv) := hkv
            have hsz := HBJ.out.size
            clear hp hp7 hf hf7 hkv hsf hmu hkp hy2 hs2 hz2 hy5 hN hNs hNm hNl hkn hNN hMM hSS hnm HDF7 HIO7
            go_wp2
            have HSQ : Hid (∀ k : Nat, Calls Try.prog 19 #[.slice a5 N s5, .slice a2 N s2] (wz.drewN k) fun e w' => e = .returned (.bool true) ∧ ∃ m, w' = (wz.drewN k).drewN m) := fun k => (same_at (f.l.take N) (f.l.take N) N N a5 a2 s5 s2 (wz.drewN k) HTK.out.2.2 HTK.out.2.2 (HTK.out.1.drewN k) (HTK.out.2.1.drewN k) (by rw [HTK.out.2.2]; unfold maxLen; omega) (by rw [HTK.out.2.2]; unfold maxLen; omega)).mono (fun e w' he => ⟨by rw [he.1, decide_eq_true rfl], he.2⟩)
            go_quiet (first | (go_at_call 19; refine Calls.quiet_of (HSQ.out _)))
            obtain ⟨wy, hwy⟩ : ∃ wy, wz.drewN nq = wy := ⟨_, rfl⟩
            have HBY : Hid (Below x8.heap.size x8 wy) := by rw [← hwy]; exact below_dn HBJ.out nq
            have dd1 : wy.cell? ⟨b4, o4 + j * 3 + 1, none⟩ = some (.slice a2 M s2) := by rw [← hwy]; exact d1
            have dd2 : wy.cell? ⟨b4, o4 + j * 3 + 2, none⟩ = some (.int .i64 (S : Int)) := by rw [← hwy]; exact d2
            rw [hwy]
            clear hwy d0 d1 d2 e0 e1 e2
            have HKEEP := HKS.out.1.keep (HB8.out.trans (HBY.out.mono HB8.out.size))
            by_cases hjk : j < nk
            · have hjkI : (j : Int) < (nk : Int) := by omega
              obtain ⟨b3, o3, rfl, hlt3, h3⟩ : ∃ b off, a3 = some ⟨b, off, none⟩ ∧ b < wy.heap.size ∧ ∀ i, i < ks.length → wy.cell? ⟨b, off + i, none⟩ = some (.int .i64 (ks.getD i 0)) := by
                rcases HKEEP.2 with h | h
                · have := HNK.out; rw [h] at this; simp at this; omega
                · exact h
              have ck := h3 j (by rw [HNK.out]; exact hjk)
              rw [show ks.getD j 0 = kv from by rw [← HKV.out]; unfold kAt; rw [List.getD_eq_getElem?_getD]] at ck
              clear h3 HKEEP
              by_cases hk0 : 0 < kv
              · have hk1 : decide (kv > 0) = true := decide_eq_true hk0
                by_cases hmn : kv ≤ (M : Int) - (S : Int)
                · have hE : (N : Int) = (S : Int) + kv := by have h := HKN.out; rw [if_neg (by omega)] at h; omega
                  have hE2 : ((N : Int) != (S : Int) + kv) = false := by rw [hE]; simp
                  clear hE
                  go_wp2
                  go_region
                  all_goals go_wp2
                  all_goals go_roundw
                  case rel => first | exact ⟨j + 1, by go_num, by omega, below_dn HBY.out _⟩ | exact ⟨j + 1, by go_num, by omega, HBY.out.drew⟩
                  case measure => simp [intOf]; omega
                · have hE : (N : Int) = (S : Int) + ((M : Int) - (S : Int)) := by have h := HKN.out; rw [if_neg (by omega)] at h; omega
                  have hE2 : ((N : Int) != (S : Int) + ((M : Int) - (S : Int))) = false := by rw [hE]; simp
                  clear hE
                  go_wp2
                  go_region
                  all_goals go_wp2
                  all_goals go_roundw
                  case rel => first | exact ⟨j + 1, by go_num, by omega, below_dn HBY.out _⟩ | exact ⟨j + 1, by go_num, by omega, HBY.out.drew⟩
                  case measure => simp [intOf]; omega
              · have hk1 : decide (kv > 0) = false := decide_eq_false hk0
                have hE : (N : Int) = (S : Int) + 0 := by have h := HKN.out; split at h <;> omega
                obtain rfl : N = S := by omega
                clear hE
                go_wp2
                go_roundw
                case rel => exact ⟨j + 1, by go_num, by omega, HBY.out⟩
                case measure => simp [intOf]; omega
            · have hjkI : ¬ (j : Int) < (nk : Int) := by omega
              have hE : (N : Int) = (S : Int) + 0 := by
                have h := HKN.out
                have hz : kv = 0 := by rw [← HKV.out]; unfold kAt; rw [List.getElem?_eq_none (by rw [HNK.out]; omega)]; rfl
                rw [hz] at h
                simp at h
                omega
              obtain rfl : N = S := by omega
              clear HKEEP hE
              go_wp2
              go_roundw
              case rel => exact ⟨j + 1, by go_num, by omega, HBY.out⟩
              case measure => simp [intOf]; omega
          · obtain rfl : j = m := by omega
            have HDZ : Hid (DA wz x2.heap.size q b B ∧ Below w.heap.size w wz) := ⟨HD8.out.keep HBJ.out, HB8.out.trans (HBJ.out.mono HB8.out.size)⟩
            obtain ⟨B2, hB2⟩ : ∃ B2, restartA B [] = B2 := ⟨_, rfl⟩
            have HRS : Hid (restartA B [] = B2) := hB2
            have HB2O : Hid (AkOk B2 ∧ B2.fs = B.fs ∧ B2.fs.length = j) := by
              have h1 : B2.fs = B.fs := by rw [← hB2, ← HB.out]; exact rest_idem HRR.out.2.1 ks
              exact ⟨by rw [← hB2]; exact restartA_ok HBO.out.1 [], h1, by rw [h1]; exact HBO.out.2.2.1⟩
            clear hjm hj hB2
            have HB7Z : Hid (Below x7.heap.size x7 wz) := HB78.out.trans (HBJ.out.mono HB78.out.size)
            have HDFZ : Hid (DF wz x2.heap.size q b B (fun k => False ∨ (x6.heap.size ≤ k ∧ k < x7.heap.size))) := HDF7.out.keep HB7Z.out
            go_wp2_with (first
              | (go_at_call 32; refine (restart_F HDFZ.out HBO.out.1 none 0 0 [] rfl ⟨by simp, .inl rfl⟩ (fun g off h => by cases h) (by omega)).mono ?_; rw [HRS.out]; rintro _ z1 ⟨rfl, hdz, hkz, hbz⟩; have HDZ1 : Hid (DA z1 x2.heap.size q b B2) := hdz.da; have HIZ1 : Hid (OwnIm z1 x6.heap.size (.slice a7 j c7) X7) := imk HIO7.out (fun k h1 h2 => (hkz k (.inr ⟨h1, h2⟩)).trans (HB7Z.out.block k h2)); have HBZ1 : Hid (Below w.heap.size w z1) := HDZ.out.2.trans (hbz.mono HB2.out.size); clear hdz hkz hbz)
              | (go_at_call 24; refine (image_n HDZ1.out HB2O.out.1 j HB2O.out.2.2).mono ?_; rintro _ z2 ⟨a9, c9, X9, rfl, hi9, he9, hl9, hf9, hb9⟩; have HI9 : Hid (FlsA z2 a9 X9 ∧ X9.map Prod.fst = B2.fs ∧ X9.length = j) := ⟨hf9, he9, hl9⟩; have HI79 : Hid (FlsA z2 a7 X7) := (imf HIZ1.out).keep hb9; have HBZ2 : Hid (Below w.heap.size w z2) := HBZ1.out.trans (hb9.mono HBZ1.out.size); clear hi9 he9 hl9 hf9 hb9)
              | (go_at_call 23; refine (fls_same X9 X7 j a9 a7 c9 c7 z2 (by rw [HI9.out.2.1, HI7.out.2.1, HB2O.out.2.1]) HI9.out.2.2 HI9.out.1 HI79.out (by have := HM.out.2; omega)).mono ?_; rintro _ z3 ⟨rfl, hbz3⟩; have HBZ3 : Hid (Below w.heap.size w z3) := HBZ2.out.trans (hbz3.mono HBZ2.out.size); clear hbz3)
              | go_in)
            go_ret
            exact ⟨rfl, HBZ3.out⟩
  · have e0 : ((ME : Int) != 0) = true := by simp; exact hME
    go_enter Try.func7, Try.ntmps7
    go_wp2_with (first
      | (go_at_call 13; refine (head10_any w).mono ?_; rintro _ x1 ⟨rfl, hb1⟩; have HB1 : Hid (Below w.heap.size w x1) := hb1; clear hb1)
      | (go_at_call 20; refine (copy_files x1 Y a1 n1 cap1 HY.out.2 (HY.out.1.keep HB1.out) hn1I).mono ?_; rintro _ x2 ⟨g2, c2, X2, rfl, hi2, he2, hb2⟩; have HX2 : Hid (FeA x2 g2 X2 ∧ X2.length = n1 ∧ X2.map Prod.fst = Y.map Prod.fst) := ⟨(hi2.files (HBND.out X2 he2)).fe, (by have h9 := congrArg List.length he2; rw [List.length_map, List.length_map, HY.out.2] at h9; exact h9), he2⟩; have HB2 : Hid (Below w.heap.size w x2) := HB1.out.trans (hb2.mono HB1.out.size); clear hi2 he2 hb2)
      | (go_at_call 22; refine (mount_any x2 room HRI.out.1 HRI.out.2 X2 g2 n1 c2 HX2.out.2.1 HX2.out.1 (by omega)).mono ?_; rw [HX2.out.2.2, HM0.out]; rintro _ x3 ⟨P3, rfl, hb3, hor⟩; (obtain rfl : P3 = .pointer none := (by rcases hor with ⟨_, h1⟩ | ⟨h1, _⟩; exact h1; exact absurd h1 hME)); have HB3 : Hid (Below w.heap.size w x3) := HB2.out.trans (hb3.mono HB2.out.size); clear hb3 hor)
      | go_in)
    go_ret
    exact ⟨rfl, HB3.out⟩
theorem own : ownKnob Try.prog.godebug = none := by kernel_rfl
theorem laidOut : laidOutB Try.prog = true := by kernel_rfl
set_option maxRecDepth 100000 in
theorem contract (H : Type) (enc : TypeId × Value → H) (W : World) (base : Nat) (args : Array Value) (ds gs : List (DataW H)) (before : List MemPlace)
    (hval : ∀ (j : Nat) t v, Try.f7.params[j]? = some t → args[j]? = some v → Value.okWide Try.prog W .any base t v)
    (hW : DataW.Whole enc Try.prog Try.f7.params.toList Rows.simfsLosesSpec.vars false W args.toList ds gs before)
    (hsz : (DataW.weightsEach Try.prog (Try.f7.params.toList ++ Rows.simfsLosesSpec.plain.varTypes Try.prog) (ds ++ gs)).all (· ≤ reachBytes) = true) :
    Calls Try.prog 7 args W fun e W' => ∃ v, e = .returned v ∧ Rows.simfsLosesSpec.post enc Try.prog Try.f7 false true false false W args v W' := by
  have hW' := hW
  obtain ⟨p, q, hA0, hV, rfl, hfz, hnd⟩ := hW
  have hA : DataW.TrodAll enc Try.prog W 0 (fun _ => true) true Try.f7.params.toList args.toList ds p := hA0
  rw [Try.params7] at hA hval hsz
  obtain ⟨v0, vs0, d0, ds0, p0, q0, hargs, rfl, rfl, h0, r0⟩ := trodAll_cons hA
  obtain ⟨v1, vs1, d1, ds1, p1, q1, rfl, rfl, rfl, h1, r1⟩ := trodAll_cons r0
  obtain ⟨v2, vs2, d2, ds2, p2, q2, rfl, rfl, rfl, h2, r2⟩ := trodAll_cons r1
  obtain ⟨v3, vs3, d3, ds3, p3, q3, rfl, rfl, rfl, h3, r3⟩ := trodAll_cons r2
  obtain ⟨rfl, rfl, rfl⟩ := trodAll_nil r3
  obtain rfl : args = #[v0, v1, v2, v3] := by cases args; simp_all
  obtain ⟨rfl, rfl⟩ := trodVars_none hV
  obtain ⟨a0, rfl, rfl, rfl, w0⟩ := open_int Try.underlying3 (hval 0 3 v0 rfl rfl) h0
  obtain ⟨a1, len1, cap1, rfl⟩ := okWide_slice Try.underlying26 (hval 1 26 v1 rfl rfl)
  have k1 := h1
  have lt1 : ∀ x ∈ p1, x.block < W.heap.size := by obtain ⟨m, hm⟩ := k1; exact DataW.trod_lt m _ _ _ hm
  obtain ⟨l1, hlen1, w1, c1⟩ : ∃ L : List (Fe × Value), L.length = len1 ∧ FilesAt W a1 L ∧ (len1 ≤ cap1 ∧ cap1 * 48 ≤ 140737488351232) := by
    obtain ⟨fuel, hf⟩ := h1
    rcases open_files hf with ⟨hcs, hx⟩ | ⟨x, l, c, L, D, hcs, hl, hm, hLl, hfs, hrw, hx, hD⟩
    · simp [Value.cells] at hcs
      obtain ⟨rfl, rfl, rfl⟩ := hcs
      exact ⟨[], rfl, files_mk (.inl rfl) (fun p hp => by cases hp) (fun p hp => by cases hp), Nat.le_refl _, by simp⟩
    · simp [Value.cells] at hcs
      obtain ⟨rfl, rfl, rfl⟩ := hcs
      have hd : d1 = _ := hx
      obtain ⟨s1, s2⟩ := sized_files hsz (j := 1) rfl (by rw [hd]; rfl) hl hLl hD
      refine ⟨L, hLl, files_mk ?_ hrw s2, hl, s1⟩
      rcases hfs with h1 | ⟨b, off, h1, h2, h3⟩
      · exact .inl h1
      · exact .inr ⟨b, off, by rw [h1], h2, h3⟩
  subst hlen1
  obtain ⟨a2, len2, cap2, rfl⟩ := okWide_slice Try.underlying22 (hval 2 22 v2 rfl rfl)
  have k2 := h2
  have lt2 : ∀ x ∈ p2, x.block < W.heap.size := by obtain ⟨m, hm⟩ := k2; exact DataW.trod_lt m _ _ _ hm
  obtain ⟨l2, hlen2, w2, c2⟩ : ∃ L : List Oa, L.length = len2 ∧ OpsAt W a2 L ∧ (len2 ≤ cap2 ∧ cap2 * 104 ≤ 140737488351232) := by
    obtain ⟨fuel, hf⟩ := h2
    rcases open_ops hf with ⟨hcs, hx⟩ | ⟨x, l, c, L, D, hcs, hl, hm, hLl, hfs, hrw, hx, hD⟩
    · simp [Value.cells] at hcs
      obtain ⟨rfl, rfl, rfl⟩ := hcs
      exact ⟨[], rfl, ⟨.inl rfl, fun p hp => by cases hp⟩, Nat.le_refl _, by simp⟩
    · simp [Value.cells] at hcs
      obtain ⟨rfl, rfl, rfl⟩ := hcs
      have hd : d2 = _ := hx
      obtain ⟨s1, s2⟩ := sized_ops hsz (j := 2) rfl (by rw [hd]; rfl) hl hLl hrw hD
      refine ⟨L, hLl, ⟨?_, s2⟩, hl, s1⟩
      rcases hfs with h1 | ⟨b, off, h1, h2, h3⟩
      · exact .inl h1
      · exact .inr ⟨b, off, by rw [h1], h2, h3⟩
  subst hlen2
  obtain ⟨a3, len3, cap3, rfl⟩ := okWide_slice Try.underlying32 (hval 3 32 v3 rfl rfl)
  have k3 := h3
  have lt3 : ∀ x ∈ p3, x.block < W.heap.size := by obtain ⟨m, hm⟩ := k3; exact DataW.trod_lt m _ _ _ hm
  obtain ⟨l3, hlen3, w3, c3⟩ : ∃ l : List Int, l.length = len3 ∧ Ints W a3 l ∧ Came W a3 len3 cap3 8 := by
    obtain ⟨fuel, hf⟩ := h3
    rcases open_ints Try.underlying32 Try.underlying3 (by kernel_rfl) hf with ⟨hcs, hx⟩ | ⟨x, l, c, zs, hcs, _, hl, hm, hz, hx, hcell, hwz⟩
    · simp [Value.cells] at hcs
      obtain ⟨rfl, rfl, rfl⟩ := hcs
      exact ⟨[], rfl, ⟨by simp, .inl rfl⟩, ⟨Nat.le_refl _, by simp, fun _ => rfl⟩⟩
    · simp [Value.cells] at hcs
      obtain ⟨rfl, rfl, rfl⟩ := hcs
      have hz2 : zs.length = cap3 := by simpa using hz
      obtain ⟨ll, e1, e2, e3⟩ := row_ints W x zs len3 (by omega) hcell hwz
      have hd : d3 = .slice (lits .i64 (zs.take len3)) (lits .i64 (zs.drop len3)) := (Prod.mk.inj hx).1
      have hreach : cap3 * 8 ≤ 140737488351232 := by
        have := sized_slice hsz (j := 3) (t := 32) (e := 3) rfl (by rw [hd]; rfl) Try.underlying32
        rw [show Try.prog.bytesOf 3 = 8 from by kernel_rfl] at this
        simp only [lits, List.length_map, List.length_take, List.length_drop, reachBytes] at this
        have hmin : min len3 zs.length = len3 := Nat.min_eq_left (by omega)
        rw [hmin] at this
        have hcap : len3 + (zs.length - len3) = cap3 := by omega
        rw [hcap] at this
        exact this
      exact ⟨ll, e1, ⟨e2, e3⟩, ⟨hl, hreach, fun h => by cases h⟩⟩
  subst hlen3
  clear hA0
  refine (walk a0 l1 a1 cap1 l2 a2 cap2 l3 a3 cap3 W w0 w1 c1 w2 c2 w3 c3).mono fun e W' ⟨he, bel⟩ => ?_
  subst he
  exact ⟨_, rfl, _, _, _, [], _, [], hW', trodAll_mk1 (shut_bool Try.underlying4 _), (trodAll_cons_mk (shut_int Try.underlying3 w0) (trodAll_cons_mk (Below.trod laidOut (by kernel_rfl) (of_decide_eq_true (by kernel_rfl)) k1 bel lt1) (trodAll_cons_mk (Below.trod laidOut (by kernel_rfl) (of_decide_eq_true (by kernel_rfl)) k2 bel lt2) (trodAll_cons_mk (Below.trod laidOut (by kernel_rfl) (of_decide_eq_true (by kernel_rfl)) k3 bel lt3) trodAll_mk0)))), rfl, bel.frame _, fun h => by cases h⟩
set_option maxRecDepth 100000 in
theorem lifted (os : Os) (started : os.Started) (H : Type) (enc : TypeId × Value → H) :
    ReturnsInHanded {} Try.checked os 7 .any (Rows.simfsLosesSpec.pre6 enc Try.prog Try.f7 Rows.simfsLosesRow.domain false) (Rows.simfsLosesSpec.post enc Try.prog Try.f7 false true false false) := by
  refine returnsInHanded_of_change_sized (C := Try.checked) own started (by kernel_rfl) Try.func7
    (ChangeSpec.witness6 (enc := enc) (C := Try.checked) false ⟨#[], #[.int .i64 0, .slice none 0 0, .slice none 0 0, .slice none 0 0], []⟩ 8 (by kernel_rfl) (by kernel_rfl) (by kernel_rfl) (by kernel_rfl)) ?_
  intro W base args ds gs before hval hW _ hsz _
  exact contract H enc W base args ds gs before hval hW hsz
theorem over : Rows.simfsLosesRow.holds Try.pinned (OpenSpec.ofChange Rows.simfsLosesSpec) :=
  OpenClaim.holds_of_wide 7 Try.f7 rfl rfl rfl rfl rfl rfl rfl ⟨rfl, rfl, rfl, rfl, rfl⟩ rfl rfl rfl rfl rfl (by kernel_rfl) Try.func7 (by kernel_rfl)
    (of_decide_eq_true (by kernel_rfl)) (by unfold Func.isWrapper; first | (rw [if_pos (by decide +kernel)]; kernel_rfl) | (rw [if_neg (by decide +kernel)]; exact ⟨rfl, rfl⟩))
    (fun os started H enc _ => lifted os started H enc)
theorem proved : Rows.SimfsLosesSaid := over
end Go.Proofs.Ytlnhhgmdajbepaa.simfsLoses
