/- For every two texts, every fuse and whatever the loss of power keeps: behind a file written beside an old one, synced and renamed to it, the old name has the old bytes or the new ones, whole. No condition. -/
import Derived.Test.YtlnhhgmdajbepaaFsx
import Derived.Test.YtlnhhgmdajbepaaFsw
import Derived.SizedLaws
import Derived.ChangeOld
namespace Go.Proofs.Ytlnhhgmdajbepaa.simfsSwaps
open Go.ChangeShapes Go.WideShapes Go.ChangeAt Go.RowKit
set_option linter.unusedVariables false
abbrev A1 : Ak := ⟨67108864, 0, false, 1, 0, [⟨nA, [], 0⟩]⟩
abbrev A2 : Ak := ⟨67108864, 0, false, 2, 0, [⟨nA, [], 0⟩, ⟨nB, [], 0⟩]⟩
theorem ok1 : AkOk A1 := by have h := createA_ok (newA_ok 67108864) nA; rw [cr_a] at h; exact h
theorem ok2 : AkOk A2 := by have h := createA_ok ok1 nB; rw [cr_b] at h; exact h
set_option maxRecDepth 100000 in
set_option maxHeartbeats 4000000 in
theorem big (l : List Nat) (a : Option Addr) (cap : Nat) (m : List Nat) (a2 : Option Addr) (cap2 : Nat) (n : Int) (ks : List Int) (a3 : Option Addr) (cap3 : Nat) (w : World) (hb : Bytes w a l) (hc : Came w a l.length cap 1) (hm : Bytes w a2 m) (hc2 : Came w a2 m.length cap2 1) (hn : (Lit.int .i64 n).wf = true) (hk : Ints w a3 ks) (hc3 : Came w a3 ks.length cap3 8) (hbig : 33554432 < l.length + m.length) :
    Calls Try.prog 10 #[.slice a l.length cap, .slice a2 m.length cap2, .int .i64 n, .slice a3 ks.length cap3] w fun e w' => e = .returned (.bool true) ∧ Below w.heap.size w w' := by
  have T1 : Hid True := trivial
  have h1 := hc.fits
  have h2 := hc.room
  have h3 := hc2.fits
  have h4 := hc2.room
  have hs : (33554432 : Int) < (l.length : Int) + (m.length : Int) := by omega
  have hl0 : (l.length : Int) ≤ 140737488351232 := by omega
  have hm0 : (m.length : Int) ≤ 140737488351232 := by omega
  clear h1 h2 h3 h4 hb hc hm hc2 hn hk hc3 hbig
  go_enter Try.func10, Try.ntmps10
  go_wp2_with (first
    | (go_at_call 14; refine (new_A 67108864 w (by decide) (by decide)).mono ?_; rintro _ x1 ⟨q, b, rfl, hd1, hb1⟩; have HD1 : Hid (DA x1 w.heap.size q b (newD 67108864).ab) := hd1; have HB1 : Hid (Below w.heap.size w x1) := hb1; clear hd1 hb1)
    | (go_at_call 26; clear T1; refine (create_A HD1.out (newA_ok 67108864) nA (by decide)).mono ?_; rw [cr_a]; rintro _ x2 ⟨rfl, hd2, hb2⟩; have HD2 : Hid (DA x2 w.heap.size q b A1) := hd2; have HB2 : Hid (Below w.heap.size w x2) := HB1.out.trans hb2; clear hd2 hb2)
    | (go_at_call 26; refine (create_A HD2.out ok1 nB (by decide)).mono ?_; rw [cr_b]; rintro _ x3 ⟨rfl, hd3, hb3⟩; have HD3 : Hid (DA x3 w.heap.size q b A2) := hd3; have HB3 : Hid (Below w.heap.size w x3) := HB2.out.trans hb3; clear hd3 hb3)
    | (go_at_call 35; refine (list_n HD3.out ok2 rfl 2 rfl).mono ?_; rintro _ x4 ⟨g4, c4, rfl, hb4⟩; have HB4 : Hid (Below w.heap.size w x4) := HB3.out.trans (hb4.mono HB3.out.size); clear hb4)
    | go_in)
  go_ret
  exact ⟨rfl, HB4.out⟩
set_option maxRecDepth 100000 in
set_option maxHeartbeats 4000000 in
theorem small (l : List Nat) (a : Option Addr) (cap : Nat) (m : List Nat) (a2 : Option Addr) (cap2 : Nat) (n : Int) (ks : List Int) (a3 : Option Addr) (cap3 : Nat) (w : World) (hb : Bytes w a l) (hc : Came w a l.length cap 1) (hm : Bytes w a2 m) (hc2 : Came w a2 m.length cap2 1) (hn : (Lit.int .i64 n).wf = true) (hk : Ints w a3 ks) (hc3 : Came w a3 ks.length cap3 8) (hle : l.length + m.length ≤ 33554432) :
    Calls Try.prog 10 #[.slice a l.length cap, .slice a2 m.length cap2, .int .i64 n, .slice a3 ks.length cap3] w fun e w' => e = .returned (.bool true) ∧ Below w.heap.size w w' := by
  have T1 : Hid True := trivial
  have T2 : Hid True := trivial
  have T3 : Hid True := trivial
  have T4 : Hid True := trivial
  have h1 := hc.fits
  have h2 := hc.room
  have h3 := hc2.fits
  have h4 := hc2.room
  have h5 := hc3.fits
  have h6 := hc3.room
  have hs : (l.length : Int) + (m.length : Int) ≤ 33554432 := by omega
  have HLM : Hid (l.length + m.length ≤ 33554432) := hle
  have HXl : Hid (Bytes w a l) := hb
  have HXm : Hid (Bytes w a2 m) := hm
  have HKS : Hid (Ints w a3 ks ∧ (a3 = none → cap3 = 0) ∧ ks.length ≤ cap3 ∧ ks.length * 8 ≤ 140737488355328) := ⟨hk, hc3.none, hc3.fits, by omega⟩
  have HAP : Hid (appendA A2 nA l = (⟨67108864, 0, false, 3, 0, [⟨nA, l, 0⟩, ⟨nB, [], 0⟩]⟩, 0)) := ap_a l (by omega)
  have HSY : Hid (syncA ⟨67108864, 0, false, 3, 0, [⟨nA, l, 0⟩, ⟨nB, [], 0⟩]⟩ nA = (⟨67108864, 0, false, 4, 0, [⟨nA, l, l.length⟩, ⟨nB, [], 0⟩]⟩, 0)) := sy_a l
  have ok3 : AkOk ⟨67108864, 0, false, 3, 0, [⟨nA, l, 0⟩, ⟨nB, [], 0⟩]⟩ := by have h := appendA_ok ok2 nA l; rw [HAP.out] at h; exact h
  have ok4 : AkOk ⟨67108864, 0, false, 4, 0, [⟨nA, l, l.length⟩, ⟨nB, [], 0⟩]⟩ := by have h := syncA_ok ok3 nA; rw [HSY.out] at h; exact h
  have hni := wf_i64 n hn
  obtain ⟨S7, hS7⟩ : ∃ S, S4 n l = S := ⟨_, rfl⟩
  have ok7 : AkOk S7 := by rw [← hS7]; exact fuseA_ok ok4 hni.2
  obtain ⟨R9, hR9⟩ : ∃ R, appendA S7 nB m = R := ⟨_, rfl⟩
  have ok9 : AkOk R9.1 := by rw [← hR9]; exact appendA_ok ok7 nB m
  obtain ⟨S9, e9⟩ := R9
  obtain ⟨R10, hR10⟩ : ∃ R, syncA S9 nB = R := ⟨_, rfl⟩
  have ok10 : AkOk R10.1 := by rw [← hR10]; exact syncA_ok ok9 nB
  obtain ⟨S10, e10⟩ := R10
  obtain ⟨R11, hR11⟩ : ∃ R, renameA S10 nB nA = R := ⟨_, rfl⟩
  have ok11 : AkOk R11.1 := by rw [← hR11]; exact renameA_ok ok10 nB nA
  obtain ⟨S11, e11⟩ := R11
  obtain ⟨S12, hS12⟩ : ∃ S, restartA S11 ks = S := ⟨_, rfl⟩
  have ok12 : AkOk S12 := by rw [← hS12]; exact restartA_ok ok11 ks
  have hend := swap_end n l m ks hle
  have e6 : S6 n l m = S10 := by show (syncA (appendA (S4 n l) nB m).1 nB).1 = S10; rw [hS7, hR9]; show (syncA S9 nB).1 = _; rw [hR10]
  rw [e6, hR11] at hend
  simp only [hS12] at hend
  have HS7 : Hid (fuseA ⟨67108864, 0, false, 4, 0, [⟨nA, l, l.length⟩, ⟨nB, [], 0⟩]⟩ n = S7) := hS7
  have HR9 : Hid (appendA S7 nB m = (S9, e9)) := hR9
  have HR10 : Hid (syncA S9 nB = (S10, e10)) := hR10
  have HR11 : Hid (renameA S10 nB nA = (S11, e11)) := hR11
  have HS12 : Hid (restartA S11 ks = S12) := hS12
  have HOK : Hid (AkOk ⟨67108864, 0, false, 3, 0, [⟨nA, l, 0⟩, ⟨nB, [], 0⟩]⟩ ∧ AkOk ⟨67108864, 0, false, 4, 0, [⟨nA, l, l.length⟩, ⟨nB, [], 0⟩]⟩ ∧ AkOk S7 ∧ AkOk S9 ∧ AkOk S10 ∧ AkOk S11 ∧ AkOk S12) := ⟨ok3, ok4, ok7, ok9, ok10, ok11, ok12⟩
  obtain ⟨hoff, hcase⟩ := hend
  clear h1 h2 h3 h4 h5 h6 hb hc hm hc2 hn hk hc3 hle ok3 ok4 ok7 ok9 ok10 ok11 ok12 hS7 hR9 hR10 hR11 hS12 e6 hni
  rcases hcase with ⟨he, hfs⟩ | ⟨he, y, s, hfs⟩
  · subst he
    have hsz := size_head hoff hfs
    have HSZ : Hid (sizeA S12 nA = (m.length, 0) ∧ readA S12 nA 0 (m.length : Int) = ({ S12 with read := wrap64 (S12.read + m.length) }, m, 0)) := hsz
    have HOKR : Hid (AkOk { S12 with read := wrap64 (S12.read + m.length) }) := ⟨HOK.out.2.2.2.2.2.2.room, HOK.out.2.2.2.2.2.2.used, HOK.out.2.2.2.2.2.2.fuse, HOK.out.2.2.2.2.2.2.steps, wrap_rg _, HOK.out.2.2.2.2.2.2.few, HOK.out.2.2.2.2.2.2.name, HOK.out.2.2.2.2.2.2.safe, HOK.out.2.2.2.2.2.2.sort⟩
    have HLN : Hid (S12.fs.length = 1) := by show _ = _; rw [hfs]; rfl
    clear hsz hfs
    go_enter Try.func10, Try.ntmps10
    go_wp2_with (first
      | (go_at_call 14; refine (new_A 67108864 w (by decide) (by decide)).mono ?_; rintro _ x1 ⟨q, b, rfl, hd1, hb1⟩; have HD1 : Hid (DA x1 w.heap.size q b (newD 67108864).ab) := hd1; have HB1 : Hid (Below w.heap.size w x1) := hb1; clear hd1 hb1)
      | (go_at_call 26; clear T1; refine (create_A HD1.out (newA_ok 67108864) nA (by decide)).mono ?_; rw [cr_a]; rintro _ x2 ⟨rfl, hd2, hb2⟩; have HD2 : Hid (DA x2 w.heap.size q b A1) := hd2; have HB2 : Hid (Below w.heap.size w x2) := HB1.out.trans hb2; clear hd2 hb2)
      | (go_at_call 26; refine (create_A HD2.out ok1 nB (by decide)).mono ?_; rw [cr_b]; rintro _ x3 ⟨rfl, hd3, hb3⟩; have HD3 : Hid (DA x3 w.heap.size q b A2) := hd3; have HB3 : Hid (Below w.heap.size w x3) := HB2.out.trans hb3; clear hd3 hb3)
      | (go_at_call 29; clear T2; refine (copy_any l a cap x3 (HXl.out.keep HB3.out) (by have := HLM.out; omega)).mono ?_; rintro _ x4 ⟨v4, rfl, ho4, hb4⟩; obtain ⟨P4, C4, rfl, hy4, hf4, hz4⟩ := ho4.ready; have HY4 : Hid (Bytes x4 P4 l ∧ l.length ≤ C4 ∧ (P4 = none → C4 = 0)) := ⟨hy4, hf4, hz4⟩; have HD4 : Hid (DA x4 w.heap.size q b A2) := HD3.out.keep hb4; have HB4 : Hid (Below w.heap.size w x4) := HB3.out.trans (hb4.mono HB3.out.size); clear ho4 hb4 hy4 hf4 hz4)
      | (go_at_call 28; clear T3; refine (append_A HD4.out ok2 nA (by decide) P4 l.length C4 l rfl HY4.out.1 HY4.out.2.1 HY4.out.2.2 (by have := HLM.out; omega)).mono ?_; rw [HAP.out]; rintro _ x5 ⟨rfl, hd5, hb5⟩; have HD5 : Hid (DA x5 w.heap.size q b ⟨67108864, 0, false, 3, 0, [⟨nA, l, 0⟩, ⟨nB, [], 0⟩]⟩) := hd5; have HB5 : Hid (Below w.heap.size w x5) := HB4.out.trans hb5; clear hd5 hb5)
      | (go_at_call 30; clear T4; refine (sync_A HD5.out HOK.out.1 nA (by decide)).mono ?_; rw [HSY.out]; rintro _ x6 ⟨rfl, hd6, hb6⟩; have HD6 : Hid (DA x6 w.heap.size q b ⟨67108864, 0, false, 4, 0, [⟨nA, l, l.length⟩, ⟨nB, [], 0⟩]⟩) := hd6; have HB6 : Hid (Below w.heap.size w x6) := HB5.out.trans hb6; clear hd6 hb6)
      | (go_at_call 36; refine (fuse_A HD6.out HOK.out.2.1 n).mono ?_; rw [HS7.out]; rintro _ x7 ⟨rfl, hd7, hb7⟩; have HD7 : Hid (DA x7 w.heap.size q b S7) := hd7; have HB7 : Hid (Below w.heap.size w x7) := HB6.out.trans hb7; clear hd7 hb7)
      | (go_at_call 29; refine (copy_any m a2 cap2 x7 (HXm.out.keep HB7.out) (by have := HLM.out; omega)).mono ?_; rintro _ x8 ⟨v8, rfl, ho8, hb8⟩; obtain ⟨P8, C8, rfl, hy8, hf8, hz8⟩ := ho8.ready; have HY8 : Hid (Bytes x8 P8 m ∧ m.length ≤ C8 ∧ (P8 = none → C8 = 0)) := ⟨hy8, hf8, hz8⟩; have HD8 : Hid (DA x8 w.heap.size q b S7) := HD7.out.keep hb8; have HB8 : Hid (Below w.heap.size w x8) := HB7.out.trans (hb8.mono HB7.out.size); clear ho8 hb8 hy8 hf8 hz8)
      | (go_at_call 28; refine (append_A HD8.out HOK.out.2.2.1 nB (by decide) P8 m.length C8 m rfl HY8.out.1 HY8.out.2.1 HY8.out.2.2 (by have := HLM.out; omega)).mono ?_; rw [HR9.out]; rintro _ x9 ⟨rfl, hd9, hb9⟩; have HD9 : Hid (DA x9 w.heap.size q b S9) := hd9; have HB9 : Hid (Below w.heap.size w x9) := HB8.out.trans hb9; clear hd9 hb9)
      | (go_at_call 30; refine (sync_A HD9.out HOK.out.2.2.2.1 nB (by decide)).mono ?_; rw [HR10.out]; rintro _ x10 ⟨rfl, hd10, hb10⟩; have HD10 : Hid (DA x10 w.heap.size q b S10) := hd10; have HB10 : Hid (Below w.heap.size w x10) := HB9.out.trans hb10; clear hd10 hb10)
      | (go_at_call 39; refine (rename_A HD10.out HOK.out.2.2.2.2.1 nB nA (by decide) (by decide)).mono ?_; rw [HR11.out]; rintro _ x11 ⟨rfl, hd11, hb11⟩; have HD11 : Hid (DA x11 w.heap.size q b S11) := hd11; have HB11 : Hid (Below w.heap.size w x11) := HB10.out.trans hb11; clear hd11 hb11)
      | (at_builtin; refine wpList_append_ks x11 rfl _ _ rfl ks a3 ks.length cap3 rfl rfl rfl (HKS.out.1.keep HB11.out) HKS.out.2.1 HKS.out.2.2.1 HKS.out.2.2.2 ?_; intro K12 C12 x12 hi12 ht12 hb12; have HI12 : Hid (Ints x12 K12 ks ∧ (∀ g off, K12 = some ⟨g, off, none⟩ → ks ≠ [] → ∃ c m, x12.heap[g]? = some (.cells c 3 m))) := ⟨hi12, ht12⟩; have HD12 : Hid (DA x12 w.heap.size q b S11) := HD11.out.keep hb12; have HB12 : Hid (Below w.heap.size w x12) := HB11.out.trans (hb12.mono HB11.out.size); clear hi12 ht12 hb12)
      | (go_at_call 32; refine (restart_A HD12.out HOK.out.2.2.2.2.2.1 K12 ks.length C12 ks rfl HI12.out.1 HI12.out.2 (by have := HKS.out.2.2.2; omega)).mono ?_; rw [HS12.out]; rintro _ x13 ⟨rfl, hd13, hb13⟩; have HD13 : Hid (DA x13 w.heap.size q b S12) := hd13; have HB13 : Hid (Below w.heap.size w x13) := HB12.out.trans hb13; clear hd13 hb13)
      | (go_at_call 40; refine (size_A HD13.out HOK.out.2.2.2.2.2.2 nA (by decide)).mono ?_; rw [HSZ.out.1]; rintro _ x14 ⟨rfl, hb14⟩; have HD14 : Hid (DA x14 w.heap.size q b S12) := HD13.out.keep hb14; have HB14 : Hid (Below w.heap.size w x14) := HB13.out.trans (hb14.mono HB13.out.size); clear hb14)
      | (go_at_call 33; refine (read_A HD14.out HOK.out.2.2.2.2.2.2 nA (by decide) 0 (m.length : Int) (by decide) (by decide) (by omega) (by have := HLM.out; omega)).mono ?_; rw [HSZ.out.2]; rintro _ x15 ⟨v15, rfl, ho15, hd15, hb15⟩; obtain ⟨P15, C15, rfl, hy15, _, _⟩ := ho15.ready; have HY15 : Hid (Bytes x15 P15 m) := hy15; have HD15 : Hid (DA x15 w.heap.size q b { S12 with read := wrap64 (S12.read + m.length) }) := hd15; have HB15 : Hid (Below w.heap.size w x15) := HB14.out.trans hb15; clear ho15 hd15 hb15 hy15)
      | (go_at_call 19; refine (same_any m m P15 a2 C15 cap2 x15 HY15.out (HXm.out.keep HB15.out) (by have := HLM.out; unfold maxLen; omega) (by have := HLM.out; unfold maxLen; omega)).mono ?_; rw [decide_eq_true (rfl : m = m)]; rintro _ x16 ⟨rfl, n16, hx16⟩; subst hx16)
      | (go_at_call 35; refine (list_n (HD15.out.keep (below_dn (Below.refl _ _) n16)) HOKR.out hoff 1 HLN.out).mono ?_; rintro _ x17 ⟨g17, c17, rfl, hb17⟩; have HB17 : Hid (Below w.heap.size w x17) := (below_dn HB15.out n16).trans (hb17.mono (below_dn HB15.out n16).size); clear hb17)
      | go_in)
    go_ret
    exact ⟨rfl, HB17.out⟩
  · have hne : ((e11 : Int) == 0) = false := by simp; exact he
    have hsz := size_head hoff hfs
    have HSZ : Hid (sizeA S12 nA = (l.length, 0) ∧ readA S12 nA 0 (l.length : Int) = ({ S12 with read := wrap64 (S12.read + l.length) }, l, 0)) := hsz
    have HOKR : Hid (AkOk { S12 with read := wrap64 (S12.read + l.length) }) := ⟨HOK.out.2.2.2.2.2.2.room, HOK.out.2.2.2.2.2.2.used, HOK.out.2.2.2.2.2.2.fuse, HOK.out.2.2.2.2.2.2.steps, wrap_rg _, HOK.out.2.2.2.2.2.2.few, HOK.out.2.2.2.2.2.2.name, HOK.out.2.2.2.2.2.2.safe, HOK.out.2.2.2.2.2.2.sort⟩
    have HLN : Hid (S12.fs.length = 2) := by show _ = _; rw [hfs]; rfl
    clear hsz hfs
    go_enter Try.func10, Try.ntmps10
    go_wp2_with (first
      | (go_at_call 14; refine (new_A 67108864 w (by decide) (by decide)).mono ?_; rintro _ x1 ⟨q, b, rfl, hd1, hb1⟩; have HD1 : Hid (DA x1 w.heap.size q b (newD 67108864).ab) := hd1; have HB1 : Hid (Below w.heap.size w x1) := hb1; clear hd1 hb1)
      | (go_at_call 26; clear T1; refine (create_A HD1.out (newA_ok 67108864) nA (by decide)).mono ?_; rw [cr_a]; rintro _ x2 ⟨rfl, hd2, hb2⟩; have HD2 : Hid (DA x2 w.heap.size q b A1) := hd2; have HB2 : Hid (Below w.heap.size w x2) := HB1.out.trans hb2; clear hd2 hb2)
      | (go_at_call 26; refine (create_A HD2.out ok1 nB (by decide)).mono ?_; rw [cr_b]; rintro _ x3 ⟨rfl, hd3, hb3⟩; have HD3 : Hid (DA x3 w.heap.size q b A2) := hd3; have HB3 : Hid (Below w.heap.size w x3) := HB2.out.trans hb3; clear hd3 hb3)
      | (go_at_call 29; clear T2; refine (copy_any l a cap x3 (HXl.out.keep HB3.out) (by have := HLM.out; omega)).mono ?_; rintro _ x4 ⟨v4, rfl, ho4, hb4⟩; obtain ⟨P4, C4, rfl, hy4, hf4, hz4⟩ := ho4.ready; have HY4 : Hid (Bytes x4 P4 l ∧ l.length ≤ C4 ∧ (P4 = none → C4 = 0)) := ⟨hy4, hf4, hz4⟩; have HD4 : Hid (DA x4 w.heap.size q b A2) := HD3.out.keep hb4; have HB4 : Hid (Below w.heap.size w x4) := HB3.out.trans (hb4.mono HB3.out.size); clear ho4 hb4 hy4 hf4 hz4)
      | (go_at_call 28; clear T3; refine (append_A HD4.out ok2 nA (by decide) P4 l.length C4 l rfl HY4.out.1 HY4.out.2.1 HY4.out.2.2 (by have := HLM.out; omega)).mono ?_; rw [HAP.out]; rintro _ x5 ⟨rfl, hd5, hb5⟩; have HD5 : Hid (DA x5 w.heap.size q b ⟨67108864, 0, false, 3, 0, [⟨nA, l, 0⟩, ⟨nB, [], 0⟩]⟩) := hd5; have HB5 : Hid (Below w.heap.size w x5) := HB4.out.trans hb5; clear hd5 hb5)
      | (go_at_call 30; clear T4; refine (sync_A HD5.out HOK.out.1 nA (by decide)).mono ?_; rw [HSY.out]; rintro _ x6 ⟨rfl, hd6, hb6⟩; have HD6 : Hid (DA x6 w.heap.size q b ⟨67108864, 0, false, 4, 0, [⟨nA, l, l.length⟩, ⟨nB, [], 0⟩]⟩) := hd6; have HB6 : Hid (Below w.heap.size w x6) := HB5.out.trans hb6; clear hd6 hb6)
      | (go_at_call 36; refine (fuse_A HD6.out HOK.out.2.1 n).mono ?_; rw [HS7.out]; rintro _ x7 ⟨rfl, hd7, hb7⟩; have HD7 : Hid (DA x7 w.heap.size q b S7) := hd7; have HB7 : Hid (Below w.heap.size w x7) := HB6.out.trans hb7; clear hd7 hb7)
      | (go_at_call 29; refine (copy_any m a2 cap2 x7 (HXm.out.keep HB7.out) (by have := HLM.out; omega)).mono ?_; rintro _ x8 ⟨v8, rfl, ho8, hb8⟩; obtain ⟨P8, C8, rfl, hy8, hf8, hz8⟩ := ho8.ready; have HY8 : Hid (Bytes x8 P8 m ∧ m.length ≤ C8 ∧ (P8 = none → C8 = 0)) := ⟨hy8, hf8, hz8⟩; have HD8 : Hid (DA x8 w.heap.size q b S7) := HD7.out.keep hb8; have HB8 : Hid (Below w.heap.size w x8) := HB7.out.trans (hb8.mono HB7.out.size); clear ho8 hb8 hy8 hf8 hz8)
      | (go_at_call 28; refine (append_A HD8.out HOK.out.2.2.1 nB (by decide) P8 m.length C8 m rfl HY8.out.1 HY8.out.2.1 HY8.out.2.2 (by have := HLM.out; omega)).mono ?_; rw [HR9.out]; rintro _ x9 ⟨rfl, hd9, hb9⟩; have HD9 : Hid (DA x9 w.heap.size q b S9) := hd9; have HB9 : Hid (Below w.heap.size w x9) := HB8.out.trans hb9; clear hd9 hb9)
      | (go_at_call 30; refine (sync_A HD9.out HOK.out.2.2.2.1 nB (by decide)).mono ?_; rw [HR10.out]; rintro _ x10 ⟨rfl, hd10, hb10⟩; have HD10 : Hid (DA x10 w.heap.size q b S10) := hd10; have HB10 : Hid (Below w.heap.size w x10) := HB9.out.trans hb10; clear hd10 hb10)
      | (go_at_call 39; refine (rename_A HD10.out HOK.out.2.2.2.2.1 nB nA (by decide) (by decide)).mono ?_; rw [HR11.out]; rintro _ x11 ⟨rfl, hd11, hb11⟩; have HD11 : Hid (DA x11 w.heap.size q b S11) := hd11; have HB11 : Hid (Below w.heap.size w x11) := HB10.out.trans hb11; clear hd11 hb11)
      | (at_builtin; refine wpList_append_ks x11 rfl _ _ rfl ks a3 ks.length cap3 rfl rfl rfl (HKS.out.1.keep HB11.out) HKS.out.2.1 HKS.out.2.2.1 HKS.out.2.2.2 ?_; intro K12 C12 x12 hi12 ht12 hb12; have HI12 : Hid (Ints x12 K12 ks ∧ (∀ g off, K12 = some ⟨g, off, none⟩ → ks ≠ [] → ∃ c m, x12.heap[g]? = some (.cells c 3 m))) := ⟨hi12, ht12⟩; have HD12 : Hid (DA x12 w.heap.size q b S11) := HD11.out.keep hb12; have HB12 : Hid (Below w.heap.size w x12) := HB11.out.trans (hb12.mono HB11.out.size); clear hi12 ht12 hb12)
      | (go_at_call 32; refine (restart_A HD12.out HOK.out.2.2.2.2.2.1 K12 ks.length C12 ks rfl HI12.out.1 HI12.out.2 (by have := HKS.out.2.2.2; omega)).mono ?_; rw [HS12.out]; rintro _ x13 ⟨rfl, hd13, hb13⟩; have HD13 : Hid (DA x13 w.heap.size q b S12) := hd13; have HB13 : Hid (Below w.heap.size w x13) := HB12.out.trans hb13; clear hd13 hb13)
      | (go_at_call 40; refine (size_A HD13.out HOK.out.2.2.2.2.2.2 nA (by decide)).mono ?_; rw [HSZ.out.1]; rintro _ x14 ⟨rfl, hb14⟩; have HD14 : Hid (DA x14 w.heap.size q b S12) := HD13.out.keep hb14; have HB14 : Hid (Below w.heap.size w x14) := HB13.out.trans (hb14.mono HB13.out.size); clear hb14)
      | (go_at_call 33; refine (read_A HD14.out HOK.out.2.2.2.2.2.2 nA (by decide) 0 (l.length : Int) (by decide) (by decide) (by omega) (by have := HLM.out; omega)).mono ?_; rw [HSZ.out.2]; rintro _ x15 ⟨v15, rfl, ho15, hd15, hb15⟩; obtain ⟨P15, C15, rfl, hy15, _, _⟩ := ho15.ready; have HY15 : Hid (Bytes x15 P15 l) := hy15; have HD15 : Hid (DA x15 w.heap.size q b { S12 with read := wrap64 (S12.read + l.length) }) := hd15; have HB15 : Hid (Below w.heap.size w x15) := HB14.out.trans hb15; clear ho15 hd15 hb15 hy15)
      | (go_at_call 19; refine (same_any l l P15 a C15 cap x15 HY15.out (HXl.out.keep HB15.out) (by have := HLM.out; unfold maxLen; omega) (by have := HLM.out; unfold maxLen; omega)).mono ?_; rw [decide_eq_true (rfl : l = l)]; rintro _ x16 ⟨rfl, n16, hx16⟩; subst hx16)
      | (go_at_call 35; refine (list_n (HD15.out.keep (below_dn (Below.refl _ _) n16)) HOKR.out hoff 2 HLN.out).mono ?_; rintro _ x17 ⟨g17, c17, rfl, hb17⟩; have HB17 : Hid (Below w.heap.size w x17) := (below_dn HB15.out n16).trans (hb17.mono (below_dn HB15.out n16).size); clear hb17)
      | go_in)
    go_ret
    exact ⟨rfl, HB17.out⟩
set_option maxRecDepth 100000 in
set_option maxHeartbeats 4000000 in
theorem walk (l : List Nat) (a : Option Addr) (cap : Nat) (m : List Nat) (a2 : Option Addr) (cap2 : Nat) (n : Int) (ks : List Int) (a3 : Option Addr) (cap3 : Nat) (w : World) (hb : Bytes w a l) (hc : Came w a l.length cap 1) (hm : Bytes w a2 m) (hc2 : Came w a2 m.length cap2 1) (hn : (Lit.int .i64 n).wf = true) (hk : Ints w a3 ks) (hc3 : Came w a3 ks.length cap3 8) :
    Calls Try.prog 10 #[.slice a l.length cap, .slice a2 m.length cap2, .int .i64 n, .slice a3 ks.length cap3] w fun e w' => e = .returned (.bool true) ∧ Below w.heap.size w w' := by
  by_cases hle : l.length + m.length ≤ 33554432
  · exact small l a cap m a2 cap2 n ks a3 cap3 w hb hc hm hc2 hn hk hc3 hle
  · exact big l a cap m a2 cap2 n ks a3 cap3 w hb hc hm hc2 hn hk hc3 (by omega)
theorem own : ownKnob Try.prog.godebug = none := by kernel_rfl
theorem laidOut : laidOutB Try.prog = true := by kernel_rfl
set_option maxRecDepth 100000 in
theorem contract (H : Type) (enc : TypeId × Value → H) (W : World) (base : Nat) (args : Array Value) (ds gs : List (DataW H)) (before : List MemPlace)
    (hval : ∀ (j : Nat) t v, Try.f10.params[j]? = some t → args[j]? = some v → Value.okWide Try.prog W .any base t v)
    (hW : DataW.Whole enc Try.prog Try.f10.params.toList Rows.simfsSwapsSpec.vars false W args.toList ds gs before)
    (hsz : (DataW.weightsEach Try.prog (Try.f10.params.toList ++ Rows.simfsSwapsSpec.plain.varTypes Try.prog) (ds ++ gs)).all (· ≤ reachBytes) = true) :
    Calls Try.prog 10 args W fun e W' => ∃ v, e = .returned v ∧ Rows.simfsSwapsSpec.post enc Try.prog Try.f10 false true false false W args v W' := by
  have hW' := hW
  obtain ⟨p, q, hA0, hV, rfl, hfz, hnd⟩ := hW
  have hA : DataW.TrodAll enc Try.prog W 0 (fun _ => true) true Try.f10.params.toList args.toList ds p := hA0
  rw [Try.params10] at hA hval hsz
  obtain ⟨v0, vs0, d0, ds0, p0, q0, hargs, rfl, rfl, h0, r0⟩ := trodAll_cons hA
  obtain ⟨v1, vs1, d1, ds1, p1, q1, rfl, rfl, rfl, h1, r1⟩ := trodAll_cons r0
  obtain ⟨v2, vs2, d2, ds2, p2, q2, rfl, rfl, rfl, h2, r2⟩ := trodAll_cons r1
  obtain ⟨v3, vs3, d3, ds3, p3, q3, rfl, rfl, rfl, h3, r3⟩ := trodAll_cons r2
  obtain ⟨rfl, rfl, rfl⟩ := trodAll_nil r3
  obtain rfl : args = #[v0, v1, v2, v3] := by cases args; simp_all
  obtain ⟨rfl, rfl⟩ := trodVars_none hV
  obtain ⟨a0, len0, cap0, rfl⟩ := okWide_slice Try.underlying31 (hval 0 31 v0 rfl rfl)
  have k0 := h0
  have lt0 : ∀ x ∈ p0, x.block < W.heap.size := by obtain ⟨m, hm⟩ := k0; exact DataW.trod_lt m _ _ _ hm
  obtain ⟨l0, hlen0, w0, c0⟩ : ∃ l : List Nat, l.length = len0 ∧ Bytes W a0 l ∧ Came W a0 len0 cap0 1 := by
    obtain ⟨fuel, hf⟩ := h0
    rcases open_ints Try.underlying31 Try.underlying5 (by kernel_rfl) hf with ⟨hcs, hx⟩ | ⟨x, l, c, zs, hcs, _, hl, hm, hz, hx, hcell, hwz⟩
    · simp [Value.cells] at hcs
      obtain ⟨rfl, rfl, rfl⟩ := hcs
      exact ⟨[], rfl, ⟨by simp, .inl rfl⟩, ⟨Nat.le_refl _, by simp, fun _ => rfl⟩⟩
    · simp [Value.cells] at hcs
      obtain ⟨rfl, rfl, rfl⟩ := hcs
      have hz2 : zs.length = cap0 := by simpa using hz
      obtain ⟨ll, e1, e2, e3⟩ := row_nats .u8 256 (by decide) wf_u8 W x zs len0 (by omega) hcell hwz
      have hd : d0 = .slice (lits .u8 (zs.take len0)) (lits .u8 (zs.drop len0)) := (Prod.mk.inj hx).1
      have hreach : cap0 * 1 ≤ 140737488351232 := by
        have := sized_slice hsz (j := 0) (t := 31) (e := 5) rfl (by rw [hd]; rfl) Try.underlying31
        rw [show Try.prog.bytesOf 5 = 1 from by kernel_rfl] at this
        simp only [lits, List.length_map, List.length_take, List.length_drop, reachBytes] at this
        have hmin : min len0 zs.length = len0 := Nat.min_eq_left (by omega)
        rw [hmin] at this
        have hcap : len0 + (zs.length - len0) = cap0 := by omega
        rw [hcap] at this
        exact this
      exact ⟨ll, e1, ⟨e2, e3⟩, ⟨hl, hreach, fun h => by cases h⟩⟩
  subst hlen0
  obtain ⟨a1, len1, cap1, rfl⟩ := okWide_slice Try.underlying31 (hval 1 31 v1 rfl rfl)
  have k1 := h1
  have lt1 : ∀ x ∈ p1, x.block < W.heap.size := by obtain ⟨m, hm⟩ := k1; exact DataW.trod_lt m _ _ _ hm
  obtain ⟨l1, hlen1, w1, c1⟩ : ∃ l : List Nat, l.length = len1 ∧ Bytes W a1 l ∧ Came W a1 len1 cap1 1 := by
    obtain ⟨fuel, hf⟩ := h1
    rcases open_ints Try.underlying31 Try.underlying5 (by kernel_rfl) hf with ⟨hcs, hx⟩ | ⟨x, l, c, zs, hcs, _, hl, hm, hz, hx, hcell, hwz⟩
    · simp [Value.cells] at hcs
      obtain ⟨rfl, rfl, rfl⟩ := hcs
      exact ⟨[], rfl, ⟨by simp, .inl rfl⟩, ⟨Nat.le_refl _, by simp, fun _ => rfl⟩⟩
    · simp [Value.cells] at hcs
      obtain ⟨rfl, rfl, rfl⟩ := hcs
      have hz2 : zs.length = cap1 := by simpa using hz
      obtain ⟨ll, e1, e2, e3⟩ := row_nats .u8 256 (by decide) wf_u8 W x zs len1 (by omega) hcell hwz
      have hd : d1 = .slice (lits .u8 (zs.take len1)) (lits .u8 (zs.drop len1)) := (Prod.mk.inj hx).1
      have hreach : cap1 * 1 ≤ 140737488351232 := by
        have := sized_slice hsz (j := 1) (t := 31) (e := 5) rfl (by rw [hd]; rfl) Try.underlying31
        rw [show Try.prog.bytesOf 5 = 1 from by kernel_rfl] at this
        simp only [lits, List.length_map, List.length_take, List.length_drop, reachBytes] at this
        have hmin : min len1 zs.length = len1 := Nat.min_eq_left (by omega)
        rw [hmin] at this
        have hcap : len1 + (zs.length - len1) = cap1 := by omega
        rw [hcap] at this
        exact this
      exact ⟨ll, e1, ⟨e2, e3⟩, ⟨hl, hreach, fun h => by cases h⟩⟩
  subst hlen1
  obtain ⟨a2, rfl, rfl, rfl, w2⟩ := open_int Try.underlying3 (hval 2 3 v2 rfl rfl) h2
  obtain ⟨a3, len3, cap3, rfl⟩ := okWide_slice Try.underlying32 (hval 3 32 v3 rfl rfl)
  have k3 := h3
  have lt3 : ∀ x ∈ p3, x.block < W.heap.size := by obtain ⟨m, hm⟩ := k3; exact DataW.trod_lt m _ _ _ hm
  obtain ⟨l3, hlen3, w3, c3⟩ : ∃ l : List Int, l.length = len3 ∧ Ints W a3 l ∧ Came W a3 len3 cap3 8 := by
    obtain ⟨fuel, hf⟩ := h3
    rcases open_ints Try.underlying32 Try.underlying3 (by kernel_rfl) hf with ⟨hcs, hx⟩ | ⟨x, l, c, zs, hcs, _, hl, hm, hz, hx, hcell, hwz⟩
    · simp [Value.cells] at hcs
      obtain ⟨rfl, rfl, rfl⟩ := hcs
      exact ⟨[], rfl, ⟨by simp, .inl rfl⟩, ⟨Nat.le_refl _, by simp, fun _ => rfl⟩⟩
    · simp [Value.cells] at hcs
      obtain ⟨rfl, rfl, rfl⟩ := hcs
      have hz2 : zs.length = cap3 := by simpa using hz
      obtain ⟨ll, e1, e2, e3⟩ := row_ints W x zs len3 (by omega) hcell hwz
      have hd : d3 = .slice (lits .i64 (zs.take len3)) (lits .i64 (zs.drop len3)) := (Prod.mk.inj hx).1
      have hreach : cap3 * 8 ≤ 140737488351232 := by
        have := sized_slice hsz (j := 3) (t := 32) (e := 3) rfl (by rw [hd]; rfl) Try.underlying32
        rw [show Try.prog.bytesOf 3 = 8 from by kernel_rfl] at this
        simp only [lits, List.length_map, List.length_take, List.length_drop, reachBytes] at this
        have hmin : min len3 zs.length = len3 := Nat.min_eq_left (by omega)
        rw [hmin] at this
        have hcap : len3 + (zs.length - len3) = cap3 := by omega
        rw [hcap] at this
        exact this
      exact ⟨ll, e1, ⟨e2, e3⟩, ⟨hl, hreach, fun h => by cases h⟩⟩
  subst hlen3
  clear hA0
  refine (walk l0 a0 cap0 l1 a1 cap1 a2 l3 a3 cap3 W w0 c0 w1 c1 w2 w3 c3).mono fun e W' ⟨he, bel⟩ => ?_
  subst he
  exact ⟨_, rfl, _, _, _, [], _, [], hW', trodAll_mk1 (shut_bool Try.underlying4 _), (trodAll_cons_mk (Below.trod laidOut (by kernel_rfl) (of_decide_eq_true (by kernel_rfl)) k0 bel lt0) (trodAll_cons_mk (Below.trod laidOut (by kernel_rfl) (of_decide_eq_true (by kernel_rfl)) k1 bel lt1) (trodAll_cons_mk (shut_int Try.underlying3 w2) (trodAll_cons_mk (Below.trod laidOut (by kernel_rfl) (of_decide_eq_true (by kernel_rfl)) k3 bel lt3) trodAll_mk0)))), rfl, bel.frame _, fun h => by cases h⟩
set_option maxRecDepth 100000 in
theorem lifted (os : Os) (started : os.Started) (H : Type) (enc : TypeId × Value → H) :
    ReturnsInHanded {} Try.checked os 10 .any (Rows.simfsSwapsSpec.pre6 enc Try.prog Try.f10 Rows.simfsSwapsRow.domain false) (Rows.simfsSwapsSpec.post enc Try.prog Try.f10 false true false false) := by
  refine returnsInHanded_of_change_sized (C := Try.checked) own started (by kernel_rfl) Try.func10
    (ChangeSpec.witness6 (enc := enc) (C := Try.checked) false ⟨#[], #[.slice none 0 0, .slice none 0 0, .int .i64 0, .slice none 0 0], []⟩ 8 (by kernel_rfl) (by kernel_rfl) (by kernel_rfl) (by kernel_rfl)) ?_
  intro W base args ds gs before hval hW _ hsz _
  exact contract H enc W base args ds gs before hval hW hsz
theorem over : Rows.simfsSwapsRow.holds Try.pinned (OpenSpec.ofChange Rows.simfsSwapsSpec) :=
  OpenClaim.holds_of_wide 10 Try.f10 rfl rfl rfl rfl rfl rfl rfl ⟨rfl, rfl, rfl, rfl, rfl⟩ rfl rfl rfl rfl rfl (by kernel_rfl) Try.func10 (by kernel_rfl)
    (of_decide_eq_true (by kernel_rfl)) (by unfold Func.isWrapper; first | (rw [if_pos (by decide +kernel)]; kernel_rfl) | (rw [if_neg (by decide +kernel)]; exact ⟨rfl, rfl⟩))
    (fun os started H enc _ => lifted os started H enc)
theorem proved : Rows.SimfsSwapsSaid := over
end Go.Proofs.Ytlnhhgmdajbepaa.simfsSwaps
