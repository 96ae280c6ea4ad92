/- slices' stable sort, over a row of places. -/
import Derived.Test.YtblfmfanfpohbaaGreatNsf
namespace Go.Proofs.YtblfmfanfpohbaaGreat
open Go.ChangeShapes Go.WideShapes Go.ChangeAt Go.RowKit Go.Sort
/-- each block of B is sorted, from lo to hi -/
def Blk (k : Nat → Nat) (B lo hi : Nat) (d : Array Nat) : Prop := ∀ i j, lo ≤ i → i < j → j < hi → i / B = j / B → k d[j]! ≤ k d[i]!
theorem ins20 {k : Nat → Nat} {x : Nat} {d e : Array Nat} (h : Blk k 20 0 x d) (hx : x % 20 = 0) (y : Nat) (hy : y ≤ x + 20) (hm : Mv x y d e) (hs : Srt k x y e) : Blk k 20 0 y e := by
  intro i j hi hij hj hq
  by_cases c : i < x
  · have : j < x := by omega
    rw [hm.out i (by omega), hm.out j (by omega)]; exact h i j hi hij this hq
  · exact hs i j (by omega) hij hj
theorem run20 {k : Nat → Nat} {x N : Nat} {d : Array Nat} (h : Blk k 20 x N d) (hx : x % 20 = 0) (lo hi : Nat) (h0 : x ≤ lo) (h1 : hi ≤ N) (h2 : lo % 20 = 0) (h3 : hi ≤ lo + 20) : Srt k lo hi d :=
  fun i j hi hij hj => h i j (by omega) hij (by omega) (by omega)
theorem mrg20 {k : Nat → Nat} {x N y : Nat} {d e : Array Nat} (h : Blk k 40 0 x d ∧ Blk k 20 x N d) (hx : x % 40 = 0) (hy : y ≤ x + 40) (hy2 : y = x + 40 ∨ y = N) (hm : Mv x y d e) (hs : Srt k x y e) : Blk k 40 0 y e ∧ Blk k 20 y N e := by
  constructor
  · intro i j hi hij hj hq
    by_cases c : i < x
    · have : j < x := by omega
      rw [hm.out i (by omega), hm.out j (by omega)]; exact h.1 i j hi hij this hq
    · exact hs i j (by omega) hij hj
  · intro i j hi hij hj hq
    rw [hm.out i (by omega), hm.out j (by omega)]; exact h.2 i j (by omega) hij hj hq
theorem fin20 {k : Nat → Nat} {x N : Nat} {d : Array Nat} (h : Blk k 40 0 x d ∧ Blk k 20 x N d) (hx : x % 40 = 0) (hN : N ≤ x + 20) : Blk k 40 0 N d := by
  intro i j hi hij hj hq
  by_cases c : i < x
  · have : j < x := by omega
    exact h.1 i j hi hij this hq
  · exact h.2 i j (by omega) hij hj (by omega)
theorem ins40 {k : Nat → Nat} {x : Nat} {d e : Array Nat} (h : Blk k 40 0 x d) (hx : x % 40 = 0) (y : Nat) (hy : y ≤ x + 40) (hm : Mv x y d e) (hs : Srt k x y e) : Blk k 40 0 y e := by
  intro i j hi hij hj hq
  by_cases c : i < x
  · have : j < x := by omega
    rw [hm.out i (by omega), hm.out j (by omega)]; exact h i j hi hij this hq
  · exact hs i j (by omega) hij hj
theorem run40 {k : Nat → Nat} {x N : Nat} {d : Array Nat} (h : Blk k 40 x N d) (hx : x % 40 = 0) (lo hi : Nat) (h0 : x ≤ lo) (h1 : hi ≤ N) (h2 : lo % 40 = 0) (h3 : hi ≤ lo + 40) : Srt k lo hi d :=
  fun i j hi hij hj => h i j (by omega) hij (by omega) (by omega)
theorem mrg40 {k : Nat → Nat} {x N y : Nat} {d e : Array Nat} (h : Blk k 80 0 x d ∧ Blk k 40 x N d) (hx : x % 80 = 0) (hy : y ≤ x + 80) (hy2 : y = x + 80 ∨ y = N) (hm : Mv x y d e) (hs : Srt k x y e) : Blk k 80 0 y e ∧ Blk k 40 y N e := by
  constructor
  · intro i j hi hij hj hq
    by_cases c : i < x
    · have : j < x := by omega
      rw [hm.out i (by omega), hm.out j (by omega)]; exact h.1 i j hi hij this hq
    · exact hs i j (by omega) hij hj
  · intro i j hi hij hj hq
    rw [hm.out i (by omega), hm.out j (by omega)]; exact h.2 i j (by omega) hij hj hq
theorem fin40 {k : Nat → Nat} {x N : Nat} {d : Array Nat} (h : Blk k 80 0 x d ∧ Blk k 40 x N d) (hx : x % 80 = 0) (hN : N ≤ x + 40) : Blk k 80 0 N d := by
  intro i j hi hij hj hq
  by_cases c : i < x
  · have : j < x := by omega
    exact h.1 i j hi hij this hq
  · exact h.2 i j (by omega) hij hj (by omega)
set_option maxRecDepth 20000 in
set_option maxHeartbeats 20000000 in
theorem stable_any (k : Nat → Nat) (q cap N : Nat) (cb : Array Value) (d d0 : Array Nat) (w : World) (b : Nat) (hH : Hid (Holds eN w b 0 d0)) (hN : d0.size = N) (hd : d.size = N) (hN2 : N ≤ 64)
    (HC : Hid (CmpR w b N 83 cb k)) (HB : Hid (Bnd d ∧ Stb k d)) :
    Calls Tryz.prog 101 #[.slice (some ⟨b, 0, none⟩) N cap, .int .i64 N, .func (.func 83) #[] cb] (rowW w b d q) fun e w' => e = .returned (.tuple #[]) ∧ SymPost w b k 0 N d w' := by
  have HD : Hid (d.size = N ∧ d0.size = N) := ⟨hd, hN⟩
  have HSY : Hid (∀ L, SymOK w b N cap cb k L) := sym_any k cap N cb d0 w b hH hN hN2 HC
  clear hd hN
  go_enter Tryz.func101, Tryz.ntmps101
  go_wp2
  go_loopw [7, 8] (fun va vb wr => ∃ (x y q' : Nat) (dk : Array Nat), va = .int .i64 x ∧ vb = .int .i64 y ∧ y = x + 20 ∧ x ≤ N ∧ Hid (x % 20 = 0 ∧ dk.size = N ∧ Mv 0 N d dk ∧ Stb k dk ∧ Blk k 20 0 x dk) ∧ wr = rowW w b dk q') (fun va _ _ => N - (intOf va).toNat)
  case atStart => exact ⟨0, 20, q, d, rfl, rfl, rfl, Nat.zero_le _, ⟨rfl, HD.out.1, Mv.refl _ _ _, HB.out.2, fun i j _ _ hj => by omega⟩, rfl⟩
  case round =>
    obtain ⟨x, y, q', dk, rfl, rfl, hxy, hxN, HS, rfl⟩ := hrel
    have HXY : Hid (y = x + 20) := hxy
    clear hxy
    by_cases hle : y ≤ N
    · have hz : (y : Int) ≤ (N : Int) := by omega
      go_wp2_with (first
        | (go_at_call 114; refine (insort_any k x y q' cap N cb dk d0 w b hH HD.out.2 HS.out.2.1 hN2 (by have := HXY.out; omega) hle HC ⟨HS.out.2.2.1.bnd (by rw [HD.out.1]; exact Nat.le_refl _) HB.out.1, HS.out.2.2.2.1⟩).mono ?_; rintro e w1 ⟨rfl, d1, hp, q1, rfl⟩; have HP : Hid (Mv x y dk d1 ∧ Srt k x y d1 ∧ Stb k d1) := hp; clear hp))
      go_roundw
      case rel =>
        obtain ⟨i1, i2, i3, i4, i5⟩ := HS.out
        obtain ⟨p1, p2, p3⟩ := HP.out
        exact ⟨y, y + 20, q1, d1, rfl, by go_num, rfl, hle, ⟨by have := HXY.out; omega, p1.size.trans i2, i3.trans (p1.mono (Nat.zero_le _) hle), p3, ins20 i5 i1 y (by have := HXY.out; omega) p1 p2⟩, rfl⟩
      case measure => have := HXY.out; first | (simp [intOf]; done) | (simp [intOf]; omega)
    · have hz : ¬ (y : Int) ≤ (N : Int) := by omega
      go_wp2_with (first
        | (go_at_call 114; refine (insort_any k x N q' cap N cb dk d0 w b hH HD.out.2 HS.out.2.1 hN2 hxN (Nat.le_refl _) HC ⟨HS.out.2.2.1.bnd (by rw [HD.out.1]; exact Nat.le_refl _) HB.out.1, HS.out.2.2.2.1⟩).mono ?_; rintro e w1 ⟨rfl, d1, hp, q1, rfl⟩; have HP : Hid (Mv x N dk d1 ∧ Srt k x N d1 ∧ Stb k d1) := hp; clear hp))
      have H1 : Hid (d1.size = N ∧ Mv 0 N d d1 ∧ Stb k d1 ∧ Blk k 20 0 N d1) := by
        obtain ⟨i1, i2, i3, i4, i5⟩ := HS.out
        obtain ⟨p1, p2, p3⟩ := HP.out
        exact ⟨p1.size.trans i2, i3.trans (p1.mono (Nat.zero_le _) (Nat.le_refl _)), p3, ins20 i5 i1 N (by have := HXY.out; omega) p1 p2⟩
      clear HS HP hz hle hxN HXY
      go_loopw [6] (fun vs wr => ∃ (B q' : Nat) (z : Int) (dk : Array Nat), vs = .int .i64 z ∧ (B = 20 ∧ z = 20 ∨ B = 40 ∧ z = 40 ∨ B = 80 ∧ z = 80) ∧ Hid (dk.size = N ∧ Mv 0 N d dk ∧ Stb k dk ∧ Blk k B 0 N dk) ∧ wr = rowW w b dk q') (fun vs _ => 100 - (intOf vs).toNat)
      case atStart => exact ⟨20, q1, 20, d1, rfl, .inl ⟨rfl, rfl⟩, H1.out, rfl⟩
      case round =>
        obtain ⟨B, q2, z, d2, rfl, hB3, HS, rfl⟩ := hrel
        clear H1
        by_cases hBN : B < N
        · have hBz : z < (N : Int) := by omega
          rcases hB3 with ⟨rfl, rfl⟩ | ⟨rfl, rfl⟩ | ⟨rfl, rfl⟩
          · go_wp2
            go_loopw [7, 8] (fun va vb wr => ∃ (x y q' : Nat) (dk : Array Nat), va = .int .i64 x ∧ vb = .int .i64 y ∧ y = x + 40 ∧ x ≤ N ∧ Hid (x % 40 = 0 ∧ dk.size = N ∧ Mv 0 N d dk ∧ Stb k dk ∧ Blk k 40 0 x dk ∧ Blk k 20 x N dk) ∧ wr = rowW w b dk q') (fun va _ _ => N - (intOf va).toNat)
            case atStart =>
              obtain ⟨i2, i3, i4, i5⟩ := HS.out
              exact ⟨0, 40, q2, d2, rfl, rfl, rfl, Nat.zero_le _, ⟨rfl, i2, i3, i4, fun i j _ _ hj => by omega, i5⟩, rfl⟩
            case round =>
              obtain ⟨x, y, q3, d3, rfl, rfl, hxy, hxN, HI, rfl⟩ := hrel
              clear HS
              obtain ⟨m, hm⟩ : ∃ m, m = x + 20 := ⟨_, rfl⟩
              have hmz : (x : Int) + 20 = (m : Int) := by omega
              have HM : Hid (m = x + 20 ∧ y = x + 40) := ⟨hm, hxy⟩
              clear hm hxy
              by_cases hle : y ≤ N
              · have hz : (y : Int) ≤ (N : Int) := by omega
                go_wp2_with (first
                  | (go_at_call 115; refine (HSY.out 40 x m y q3 d3 (by have := HM.out; omega) (by have := HM.out; omega) hle (by have := HM.out; omega) HI.out.2.1 ⟨HI.out.2.2.1.bnd (by rw [HD.out.1]; exact Nat.le_refl _) HB.out.1, HI.out.2.2.2.1, run20 HI.out.2.2.2.2.2 (by have := HM.out; have := HI.out.1; omega) x m (Nat.le_refl _) (by have := HM.out; omega) (by have := HM.out; have := HI.out.1; omega) (by have := HM.out; omega), run20 HI.out.2.2.2.2.2 (by have := HM.out; have := HI.out.1; omega) m y (by have := HM.out; omega) (by have := HM.out; omega) (by have := HM.out; have := HI.out.1; omega) (by have := HM.out; omega)⟩).mono ?_; rintro e w1 ⟨rfl, d4, hp, q4, rfl⟩; have HP : Hid (Mv x y d3 d4 ∧ Srt k x y d4 ∧ Stb k d4) := hp; clear hp))
                go_roundw
                case rel =>
                  obtain ⟨i1, i2, i3, i4, i5⟩ := HI.out
                  obtain ⟨p1, p2, p3⟩ := HP.out
                  exact ⟨y, y + 40, q4, d4, rfl, by go_num, rfl, hle, ⟨by have := HM.out; omega, p1.size.trans i2, i3.trans (p1.mono (Nat.zero_le _) hle), p3, mrg20 i5 i1 (by have := HM.out; omega) (.inl HM.out.2) p1 p2⟩, rfl⟩
                case measure => have := HM.out; first | (simp [intOf]; done) | (simp [intOf]; omega)
              · have hz : ¬ (y : Int) ≤ (N : Int) := by omega
                by_cases hmN : m < N
                · have hmNz : (m : Int) < (N : Int) := by omega
                  go_wp2_with (first
                    | (go_at_call 115; refine (HSY.out 40 x m N q3 d3 (by have := HM.out; omega) hmN (Nat.le_refl _) (by have := HM.out; omega) HI.out.2.1 ⟨HI.out.2.2.1.bnd (by rw [HD.out.1]; exact Nat.le_refl _) HB.out.1, HI.out.2.2.2.1, run20 HI.out.2.2.2.2.2 (by have := HM.out; have := HI.out.1; omega) x m (Nat.le_refl _) (by have := HM.out; omega) (by have := HM.out; have := HI.out.1; omega) (by have := HM.out; omega), run20 HI.out.2.2.2.2.2 (by have := HM.out; have := HI.out.1; omega) m N (by have := HM.out; omega) (Nat.le_refl _) (by have := HM.out; have := HI.out.1; omega) (by have := HM.out; omega)⟩).mono ?_; rintro e w1 ⟨rfl, d4, hp, q4, rfl⟩; have HP : Hid (Mv x N d3 d4 ∧ Srt k x N d4 ∧ Stb k d4) := hp; clear hp))
                  go_roundw
                  case rel =>
                    obtain ⟨i1, i2, i3, i4, i5⟩ := HI.out
                    obtain ⟨p1, p2, p3⟩ := HP.out
                    exact ⟨40, q4, 40, d4, by first | rfl | go_num, by omega, ⟨p1.size.trans i2, i3.trans (p1.mono (Nat.zero_le _) (Nat.le_refl _)), p3, (mrg20 i5 i1 (by have := HM.out; omega) (.inr rfl) p1 p2).1⟩, rfl⟩
                  case measure => have := HM.out; first | (simp [intOf]; done) | (simp [intOf]; omega)
                · have hmNz : ¬ (m : Int) < (N : Int) := by omega
                  go_wp2
                  go_roundw
                  case rel =>
                    obtain ⟨i1, i2, i3, i4, i5⟩ := HI.out
                    exact ⟨40, q3, 40, d3, by first | rfl | go_num, by omega, ⟨i2, i3, i4, fin20 i5 i1 (by have := HM.out; omega)⟩, rfl⟩
                  case measure => have := HM.out; first | (simp [intOf]; done) | (simp [intOf]; omega)
          · go_wp2
            go_loopw [7, 8] (fun va vb wr => ∃ (x y q' : Nat) (dk : Array Nat), va = .int .i64 x ∧ vb = .int .i64 y ∧ y = x + 80 ∧ x ≤ N ∧ Hid (x % 80 = 0 ∧ dk.size = N ∧ Mv 0 N d dk ∧ Stb k dk ∧ Blk k 80 0 x dk ∧ Blk k 40 x N dk) ∧ wr = rowW w b dk q') (fun va _ _ => N - (intOf va).toNat)
            case atStart =>
              obtain ⟨i2, i3, i4, i5⟩ := HS.out
              exact ⟨0, 80, q2, d2, rfl, rfl, rfl, Nat.zero_le _, ⟨rfl, i2, i3, i4, fun i j _ _ hj => by omega, i5⟩, rfl⟩
            case round =>
              obtain ⟨x, y, q3, d3, rfl, rfl, hxy, hxN, HI, rfl⟩ := hrel
              clear HS
              obtain ⟨m, hm⟩ : ∃ m, m = x + 40 := ⟨_, rfl⟩
              have hmz : (x : Int) + 40 = (m : Int) := by omega
              have HM : Hid (m = x + 40 ∧ y = x + 80) := ⟨hm, hxy⟩
              clear hm hxy
              by_cases hle : y ≤ N
              · have hz : (y : Int) ≤ (N : Int) := by omega
                go_wp2_with (first
                  | (go_at_call 115; refine (HSY.out 80 x m y q3 d3 (by have := HM.out; omega) (by have := HM.out; omega) hle (by have := HM.out; omega) HI.out.2.1 ⟨HI.out.2.2.1.bnd (by rw [HD.out.1]; exact Nat.le_refl _) HB.out.1, HI.out.2.2.2.1, run40 HI.out.2.2.2.2.2 (by have := HM.out; have := HI.out.1; omega) x m (Nat.le_refl _) (by have := HM.out; omega) (by have := HM.out; have := HI.out.1; omega) (by have := HM.out; omega), run40 HI.out.2.2.2.2.2 (by have := HM.out; have := HI.out.1; omega) m y (by have := HM.out; omega) (by have := HM.out; omega) (by have := HM.out; have := HI.out.1; omega) (by have := HM.out; omega)⟩).mono ?_; rintro e w1 ⟨rfl, d4, hp, q4, rfl⟩; have HP : Hid (Mv x y d3 d4 ∧ Srt k x y d4 ∧ Stb k d4) := hp; clear hp))
                go_roundw
                case rel =>
                  obtain ⟨i1, i2, i3, i4, i5⟩ := HI.out
                  obtain ⟨p1, p2, p3⟩ := HP.out
                  exact ⟨y, y + 80, q4, d4, rfl, by go_num, rfl, hle, ⟨by have := HM.out; omega, p1.size.trans i2, i3.trans (p1.mono (Nat.zero_le _) hle), p3, mrg40 i5 i1 (by have := HM.out; omega) (.inl HM.out.2) p1 p2⟩, rfl⟩
                case measure => have := HM.out; first | (simp [intOf]; done) | (simp [intOf]; omega)
              · have hz : ¬ (y : Int) ≤ (N : Int) := by omega
                by_cases hmN : m < N
                · have hmNz : (m : Int) < (N : Int) := by omega
                  go_wp2_with (first
                    | (go_at_call 115; refine (HSY.out 80 x m N q3 d3 (by have := HM.out; omega) hmN (Nat.le_refl _) (by have := HM.out; omega) HI.out.2.1 ⟨HI.out.2.2.1.bnd (by rw [HD.out.1]; exact Nat.le_refl _) HB.out.1, HI.out.2.2.2.1, run40 HI.out.2.2.2.2.2 (by have := HM.out; have := HI.out.1; omega) x m (Nat.le_refl _) (by have := HM.out; omega) (by have := HM.out; have := HI.out.1; omega) (by have := HM.out; omega), run40 HI.out.2.2.2.2.2 (by have := HM.out; have := HI.out.1; omega) m N (by have := HM.out; omega) (Nat.le_refl _) (by have := HM.out; have := HI.out.1; omega) (by have := HM.out; omega)⟩).mono ?_; rintro e w1 ⟨rfl, d4, hp, q4, rfl⟩; have HP : Hid (Mv x N d3 d4 ∧ Srt k x N d4 ∧ Stb k d4) := hp; clear hp))
                  go_roundw
                  case rel =>
                    obtain ⟨i1, i2, i3, i4, i5⟩ := HI.out
                    obtain ⟨p1, p2, p3⟩ := HP.out
                    exact ⟨80, q4, 80, d4, by first | rfl | go_num, by omega, ⟨p1.size.trans i2, i3.trans (p1.mono (Nat.zero_le _) (Nat.le_refl _)), p3, (mrg40 i5 i1 (by have := HM.out; omega) (.inr rfl) p1 p2).1⟩, rfl⟩
                  case measure => have := HM.out; first | (simp [intOf]; done) | (simp [intOf]; omega)
                · have hmNz : ¬ (m : Int) < (N : Int) := by omega
                  go_wp2
                  go_roundw
                  case rel =>
                    obtain ⟨i1, i2, i3, i4, i5⟩ := HI.out
                    exact ⟨80, q3, 80, d3, by first | rfl | go_num, by omega, ⟨i2, i3, i4, fin40 i5 i1 (by have := HM.out; omega)⟩, rfl⟩
                  case measure => have := HM.out; first | (simp [intOf]; done) | (simp [intOf]; omega)
          · omega
        · have hBz : ¬ z < (N : Int) := by omega
          go_wp2
          go_end0
          obtain ⟨i2, i3, i4, i5⟩ := HS.out
          refine ⟨rfl, d2, ⟨i3, fun i j _ hij hj => i5 i j (Nat.zero_le _) hij hj ?_, i4⟩, q2, rfl⟩
          rcases hB3 with ⟨rfl, _⟩ | ⟨rfl, _⟩ | ⟨rfl, _⟩ <;> omega
set_option maxRecDepth 20000 in
theorem sstable_any (k : Nat → Nat) (q cap N : Nat) (cb : Array Value) (d d0 : Array Nat) (w : World) (b : Nat) (hH : Hid (Holds eN w b 0 d0)) (hN : d0.size = N) (hd : d.size = N) (hN2 : N ≤ 64)
    (HC : Hid (CmpR w b N 83 cb k)) (HB : Hid (Bnd d ∧ Stb k d)) :
    Calls Tryz.prog 82 #[.slice (some ⟨b, 0, none⟩) N cap, .func (.func 83) #[] cb] (rowW w b d q) fun e w' => e = .returned (.tuple #[]) ∧ SymPost w b k 0 N d w' := by
  go_enter Tryz.func82, Tryz.ntmps82
  go_wp2_with (first
    | (go_at_call 101; refine (stable_any k q cap N cb d d0 w b hH hN hd hN2 HC HB).mono ?_; rintro e w1 ⟨rfl, d1, hp, q1, rfl⟩))
  go_end0
  exact ⟨rfl, d1, hp, q1, rfl⟩
end Go.Proofs.YtblfmfanfpohbaaGreat
