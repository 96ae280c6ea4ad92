/- names.numberBehind, Parse. -/
import Derived.Test.YtomgnbhajhkhfaaDoorNm1
namespace Go.Proofs.YtomgnbhajhkhfaaDoor
open Go.ChangeShapes Go.WideShapes Go.ChangeAt Go.RowKit
set_option linter.unusedVariables false
/-- the library's two errors, and its table -/
def Ers (w : World) : Prop := Pow w ∧ (∃ te pe, w.cell? ⟨1, 0, none⟩ = some (.iface te pe)) ∧ (∃ te pe, w.cell? ⟨2, 0, none⟩ = some (.iface te pe))
theorem Ers.keep {w w' : World} (h : Ers w) (hb : Below w.heap.size w w') : Ers w' := by
  obtain ⟨h1, ⟨a, b, h2⟩, c, d, h3⟩ := h
  exact ⟨h1.keep hb, ⟨a, b, (hb.cell (p := ⟨1, 0, none⟩) (World.block_lt_of_cell? _ _ h2)).trans h2⟩, c, d, (hb.cell (p := ⟨2, 0, none⟩) (World.block_lt_of_cell? _ _ h3)).trans h3⟩
theorem bs_list (l : List UInt8) : (bs l).data.toList = l := rfl
theorem bs_size (l : List UInt8) : (bs l).size = l.length := rfl
theorem bs_of (s : ByteArray) : s = bs s.data.toList := by apply ByteArray.ext; simp
theorem bs_inj {a b : List UInt8} (h : bs a = bs b) : a = b := by have := congrArg (fun x => x.data.toList) h; exact this
theorem below_bytes (w : World) (e : TypeId) (t : ByteArray) : Below w.heap.size w (Lib.bytesWorld w e t) :=
  ⟨rfl, rfl, rfl, by rw [Lib.bytesWorld_size]; omega, fun k hk => Lib.bytesWorld_at_old w e t k hk⟩
theorem atoi_any (l : List UInt8) (w : World) (hl : l.length ≤ 281474976710656) (he : Ers w) :
    Calls Tryd.prog 15 #[.string (bs l)] w fun e w' => ∃ ev, e = .returned (.tuple #[.int .i64 (atoiV l), ev]) ∧ Below w.heap.size w w' := by
  obtain ⟨_, ⟨a, b, h2⟩, c, d, h3⟩ := he
  unfold atoiV
  cases hr : Lib.atoiAll l with
  | ok v =>
    refine (Tryd.strconv_Atoi_ok (bs l) (by rw [bs_size]; omega) v hr w).mono ?_
    rintro e w' ⟨rfl, hw⟩
    refine ⟨_, rfl, ?_⟩
    rcases hw with rfl | ⟨t, rfl⟩
    · exact Below.refl _ _
    · exact below_bytes _ _ _
  | «syntax» =>
    refine (Tryd.strconv_Atoi_syntax (bs l) (by rw [bs_size]; omega) hr _ w h2 (.inr ⟨_, _, rfl⟩)).mono ?_
    rintro e w' ⟨N, rfl, _, _, hb⟩
    exact ⟨_, rfl, hb⟩
  | range =>
    refine (Tryd.strconv_Atoi_range (bs l) (by rw [bs_size]; omega) hr _ w h3 (.inr ⟨_, _, rfl⟩)).mono ?_
    rintro e w' ⟨N, rfl, _, _, hb⟩
    exact ⟨_, rfl, hb⟩
theorem trim_le (l h : List UInt8) : (Lib.trimPrefix l h).length ≤ l.length := by
  unfold Lib.trimPrefix
  split
  · rw [List.length_drop]; omega
  · exact Nat.le_refl _
theorem ne_man {l : List UInt8} (h : l ≠ manL) : (l == [109, 97, 110, 105, 102, 101, 115, 116]) = false := by
  have : ¬ l = [109, 97, 110, 105, 102, 101, 115, 116] := h
  simpa using this
theorem ne_tmp {l : List UInt8} (h : l ≠ tmpL) : (l == [109, 97, 110, 105, 102, 101, 115, 116, 46, 116, 109, 112]) = false := by
  have : ¬ l = [109, 97, 110, 105, 102, 101, 115, 116, 46, 116, 109, 112] := h
  simpa using this
theorem ret2i {a b a' b' : Int} (h1 : a = a') (h2 : b = b') : Ending.returned (.tuple #[.int .i64 a, .int .i64 b]) = .returned (.tuple #[.int .i64 a', .int .i64 b']) := by rw [h1, h2]
end Go.Proofs.YtomgnbhajhkhfaaDoor
