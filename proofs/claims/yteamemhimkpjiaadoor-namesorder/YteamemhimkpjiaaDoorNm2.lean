/- names.numberBehind, Parse. -/
import Derived.Test.YteamemhimkpjiaaDoorNm1
namespace Go.Proofs.YteamemhimkpjiaaDoor
open Go.ChangeShapes Go.WideShapes Go.ChangeAt Go.RowKit
set_option linter.unusedVariables false
/-- the library's two errors, and its table -/
def Ers (w : World) : Prop := Pow w ∧ (∃ te pe, w.cell? ⟨0, 0, none⟩ = some (.iface te pe)) ∧ (∃ te pe, w.cell? ⟨1, 0, none⟩ = some (.iface te pe))
theorem Ers.keep {w w' : World} (h : Ers w) (hb : Below w.heap.size w w') : Ers w' := by
  obtain ⟨h1, ⟨a, b, h2⟩, c, d, h3⟩ := h
  exact ⟨h1.keep hb, ⟨a, b, (hb.cell (p := ⟨0, 0, none⟩) (World.block_lt_of_cell? _ _ h2)).trans h2⟩, c, d, (hb.cell (p := ⟨1, 0, none⟩) (World.block_lt_of_cell? _ _ h3)).trans h3⟩
theorem bs_list (l : List UInt8) : (bs l).data.toList = l := rfl
theorem bs_size (l : List UInt8) : (bs l).size = l.length := rfl
theorem bs_of (s : ByteArray) : s = bs s.data.toList := by apply ByteArray.ext; simp
theorem bs_inj {a b : List UInt8} (h : bs a = bs b) : a = b := by have := congrArg (fun x => x.data.toList) h; exact this
theorem below_bytes (w : World) (e : TypeId) (t : ByteArray) : Below w.heap.size w (Lib.bytesWorld w e t) :=
  ⟨rfl, rfl, rfl, by rw [Lib.bytesWorld_size]; omega, fun k hk => Lib.bytesWorld_at_old w e t k hk⟩
theorem atoi_any (l : List UInt8) (w : World) (hl : l.length ≤ 281474976710656) (he : Ers w) :
    Calls Tryd.prog 20 #[.string (bs l)] w fun e w' => ∃ ev, e = .returned (.tuple #[.int .i64 (atoiV l), ev]) ∧ Below w.heap.size w w' := by
  obtain ⟨_, ⟨a, b, h2⟩, c, d, h3⟩ := he
  unfold atoiV
  cases hr : Lib.atoiAll l with
  | ok v =>
    refine (Tryd.strconv_Atoi_ok (bs l) (by rw [bs_size]; omega) v hr w).mono ?_
    rintro e w' ⟨rfl, hw⟩
    refine ⟨_, rfl, ?_⟩
    rcases hw with rfl | ⟨t, rfl⟩
    · exact Below.refl _ _
    · exact below_bytes _ _ _
  | «syntax» =>
    refine (Tryd.strconv_Atoi_syntax (bs l) (by rw [bs_size]; omega) hr _ w h2 (.inr ⟨_, _, rfl⟩)).mono ?_
    rintro e w' ⟨N, rfl, _, _, hb⟩
    exact ⟨_, rfl, hb⟩
  | range =>
    refine (Tryd.strconv_Atoi_range (bs l) (by rw [bs_size]; omega) hr _ w h3 (.inr ⟨_, _, rfl⟩)).mono ?_
    rintro e w' ⟨N, rfl, _, _, hb⟩
    exact ⟨_, rfl, hb⟩
theorem trim_le (l h : List UInt8) : (Lib.trimPrefix l h).length ≤ l.length := by
  unfold Lib.trimPrefix
  split
  · rw [List.length_drop]; omega
  · exact Nat.le_refl _
theorem trim_any (l h : List UInt8) (w : World) :
    Calls Tryd.prog 21 #[.string (bs l), .string (bs h)] w fun e w' => e = .returned (.string (bs (Lib.trimPrefix l h))) ∧ w = w' :=
  (Tryd.strings_TrimPrefix (bs l) (bs h) w).mono fun e w' ⟨h1, h2⟩ => ⟨h1, h2.symm⟩
set_option maxRecDepth 20000 in
set_option maxHeartbeats 400000 in
theorem behind_any (h l : List UInt8) (w : World) (hh : h.length ≤ 10) (hl : l.length ≤ 281474976710656) (he : Ers w) :
    Calls Tryd.prog 17 #[.string (bs h), .string (bs l)] w fun e w' => e = .returned (.int .i64 (numB h l)) ∧ Below w.heap.size w w' := by
  have HE : Hid (Ers w) := he
  have HTL : Hid ((Lib.trimPrefix l h).length ≤ 281474976710656) := Nat.le_trans (trim_le l h) hl
  obtain ⟨V, hV⟩ : ∃ V, atoiV (Lib.trimPrefix l h) = V := ⟨_, rfl⟩
  have HV : Hid (atoiV (Lib.trimPrefix l h) = V) := hV
  have HNB : Hid (numB h l = if nameL h V = l then V else 0) := by show _ = _; unfold numB; rw [hV]
  clear he hV hl
  by_cases hx : nameL h V = l
  · have HX : Hid (numB h l = V) := by show _ = _; rw [HNB.out, if_pos hx]
    have HLL : Hid (nameL h V = l) := hx
    clear hx
    go_enter Tryd.func17, Tryd.ntmps17
    go_wp2_with (first
      | (go_at_call 21; refine (trim_any l h _).mono ?_; rintro e w1 ⟨rfl, rfl⟩)
      | (go_at_call 20; refine (atoi_any _ _ HTL.out HE.out).mono ?_; rw [HV.out]; rintro e w2 ⟨ev, rfl, hb2⟩)
      | (go_at_call 15; refine (numbered_any h V _ hh (HE.out.keep hb2).1).mono ?_; rw [HLL.out]; rintro e w3 ⟨rfl, hb3⟩))
    go_ret
    exact ⟨by rw [HX.out]; rfl, hb2.trans (hb3.mono hb2.size)⟩
  · have HX : Hid (numB h l = 0) := by show _ = _; rw [HNB.out, if_neg hx]
    obtain ⟨M, hM⟩ : ∃ M, nameL h V = M := ⟨_, rfl⟩
    rw [hM] at hx
    have HM : Hid (nameL h V = M) := hM
    have hne2 : (M == l) = false := by simpa using hx
    clear hx hM
    go_enter Tryd.func17, Tryd.ntmps17
    go_wp2_with (first
      | (go_at_call 21; refine (trim_any l h _).mono ?_; rintro e w1 ⟨rfl, rfl⟩)
      | (go_at_call 20; refine (atoi_any _ _ HTL.out HE.out).mono ?_; rw [HV.out]; rintro e w2 ⟨ev, rfl, hb2⟩)
      | (go_at_call 15; refine (numbered_any h V _ hh (HE.out.keep hb2).1).mono ?_; rw [HM.out]; rintro e w3 ⟨rfl, hb3⟩))
    go_ret
    exact ⟨by rw [HX.out]; rfl, hb2.trans (hb3.mono hb2.size)⟩
theorem ne_man {l : List UInt8} (h : l ≠ manL) : (l == [109, 97, 110, 105, 102, 101, 115, 116]) = false := by
  have : ¬ l = [109, 97, 110, 105, 102, 101, 115, 116] := h
  simpa using this
theorem ne_tmp {l : List UInt8} (h : l ≠ tmpL) : (l == [109, 97, 110, 105, 102, 101, 115, 116, 46, 116, 109, 112]) = false := by
  have : ¬ l = [109, 97, 110, 105, 102, 101, 115, 116, 46, 116, 109, 112] := h
  simpa using this
theorem ret2i {a b a' b' : Int} (h1 : a = a') (h2 : b = b') : Ending.returned (.tuple #[.int .i64 a, .int .i64 b]) = .returned (.tuple #[.int .i64 a', .int .i64 b']) := by rw [h1, h2]
set_option maxRecDepth 20000 in
set_option maxHeartbeats 400000 in
theorem parse_any (l : List UInt8) (w : World) (hl : l.length ≤ 281474976710656) (he : Ers w) :
    Calls Tryd.prog 12 #[.string (bs l)] w fun e w' => e = .returned (.tuple #[.int .i64 (prsK l), .int .i64 (prsN l)]) ∧ Below w.heap.size w w' := by
  by_cases hm : l = manL
  · subst hm
    clear hl he
    go_enter Tryd.func12, Tryd.ntmps12
    go_wp2
    go_ret2
    exact ⟨by rfl, Below.refl _ _⟩
  by_cases ht : l = tmpL
  · subst ht
    clear hl he
    go_enter Tryd.func12, Tryd.ntmps12
    go_wp2
    go_ret2
    exact ⟨by rfl, Below.refl _ _⟩
  have HE : Hid (Ers w) := he
  obtain ⟨A, hA⟩ : ∃ A, numB segH l = A := ⟨_, rfl⟩
  obtain ⟨B, hB⟩ : ∃ B, numB bookH l = B := ⟨_, rfl⟩
  have HP : Hid (_ ∧ _) := prs_of l hm ht A B hA hB
  have HSG : Hid (∀ w, Ers w → Calls Tryd.prog 17 #[.string (bs segH), .string (bs l)] w fun e w' => e = .returned (.int .i64 A) ∧ Below w.heap.size w w') := fun w h => by rw [← hA]; exact behind_any segH l w (by decide) hl h
  have HBK : Hid (∀ w, Ers w → Calls Tryd.prog 17 #[.string (bs bookH), .string (bs l)] w fun e w' => e = .returned (.int .i64 B) ∧ Below w.heap.size w w') := fun w h => by rw [← hB]; exact behind_any bookH l w (by decide) hl h
  have q1 := ne_man hm
  have q2 := ne_tmp ht
  have T1 : Hid True := trivial
  clear hm ht he hA hB hl
  by_cases h1 : A = 0
  · subst h1
    by_cases h2 : B = 0
    · subst h2
      go_enter Tryd.func12, Tryd.ntmps12
      go_wp2_with (first
        | (go_at_call 17; clear T1; refine (HSG.out _ HE.out).mono ?_; rintro e w1 ⟨rfl, hb1⟩)
        | (go_at_call 17; refine (HBK.out _ (HE.out.keep hb1)).mono ?_; rintro e w2 ⟨rfl, hb2⟩))
      go_ret2
      exact ⟨ret2i (by rw [HP.out.1]; rfl) (by rw [HP.out.2]; rfl), hb1.trans (hb2.mono hb1.size)⟩
    · have h2b : (B != 0) = true := by simp [h2]
      have HK : Hid (prsK l = 4 ∧ prsN l = B) := by refine ⟨HP.out.1.trans ?_, HP.out.2.trans ?_⟩ <;> simp [h2]
      clear h2
      go_enter Tryd.func12, Tryd.ntmps12
      go_wp2_with (first
        | (go_at_call 17; clear T1; refine (HSG.out _ HE.out).mono ?_; rintro e w1 ⟨rfl, hb1⟩)
        | (go_at_call 17; refine (HBK.out _ (HE.out.keep hb1)).mono ?_; rintro e w2 ⟨rfl, hb2⟩))
      go_ret2
      exact ⟨ret2i HK.out.1.symm HK.out.2.symm, hb1.trans (hb2.mono hb1.size)⟩
  · have h1b : (A != 0) = true := by simp [h1]
    have HK : Hid (prsK l = 3 ∧ prsN l = A) := by refine ⟨HP.out.1.trans ?_, HP.out.2.trans ?_⟩ <;> simp [h1]
    clear h1
    go_enter Tryd.func12, Tryd.ntmps12
    go_wp2_with (go_at_call 17; clear T1; refine (HSG.out _ HE.out).mono ?_; rintro e w1 ⟨rfl, hb1⟩)
    go_ret2
    exact ⟨ret2i HK.out.1.symm HK.out.2.symm, hb1⟩
end Go.Proofs.YteamemhimkpjiaaDoor
