/- slices' merge in place, over a row of places: the whole of it. -/
import Derived.Test.YtblfmfanfpohbaaGreatNsd
namespace Go.Proofs.YtblfmfanfpohbaaGreat
open Go.ChangeShapes Go.WideShapes Go.ChangeAt Go.RowKit Go.Sort
/-- the merge of rows up to a length -/
def SymOK (w : World) (b N cap : Nat) (cb : Array Value) (k : Nat → Nat) (L : Nat) : Prop := ∀ (a m c q : Nat) (d : Array Nat), a < m → m < c → c ≤ N → c - a ≤ L → d.size = N → Bnd d ∧ Stb k d ∧ Srt k a m d ∧ Srt k m c d →
  Calls Tryz.prog 115 (SymArgs b N cap a m c cb) (rowW w b d q) fun e w' => e = .returned (.tuple #[]) ∧ SymPost w b k a c d w'
/-- where the search goes, and where it begins -/
structure Lim (a m c mid lo hi : Nat) : Prop where
  hmid : mid = (a + c) / 2
  one : (mid < m ∧ lo = mid + m - c ∧ hi = mid) ∨ (m ≤ mid ∧ lo = a ∧ hi = m)
/-- what the search found -/
structure Fnd (k : Nat → Nat) (a m c mid s e : Nat) (d : Array Nat) : Prop where
  hmid : mid = (a + c) / 2
  he : s + e = mid + m
  s0 : a ≤ s
  s1 : s ≤ m
  s2 : s ≤ mid
  e1 : m ≤ e
  e2 : e ≤ c
  e3 : mid ≤ e
  hA : a < s → e < c → k d[e]! ≤ k d[s - 1]!
  hB : s < m → m < e → k d[s]! < k d[e - 1]!
theorem Lim.found {k : Nat → Nat} {a m c mid lo hi s e : Nat} {d : Array Nat} (h : Lim a m c mid lo hi) (ham : a + 2 ≤ m) (_ : m + 2 ≤ c) (he : s + e = mid + m) (hlo : lo ≤ s) (hhi : s ≤ hi)
    (h1 : lo < s → k d[mid + m - 1 - (s - 1)]! ≤ k d[s - 1]!) (h2 : s < hi → k d[s]! < k d[mid + m - 1 - s]!) : Fnd k a m c mid s e d := by
  obtain ⟨hm, ho⟩ := h
  refine ⟨hm, he, by omega, by omega, by omega, by omega, by omega, by omega, fun g1 g2 => ?_, fun g1 g2 => ?_⟩
  · have := h1 (by omega)
    rw [show mid + m - 1 - (s - 1) = e from by omega] at this
    exact this
  · have := h2 (by omega)
    rw [show mid + m - 1 - s = e - 1 from by omega] at this
    exact this
theorem Fnd.cut {k : Nat → Nat} {a m c mid s e : Nat} {d f : Array Nat} (h : Fnd k a m c mid s e d) (hl : Srt k a m d) (hr : Srt k m c d) (hb : Stb k d) (hc : c ≤ d.size) (hrot : Rot s m e d f) : Cut k a s mid e c f ∧ Stb k f ∧ Mv a c d f := by
  obtain ⟨h0, h1, h2, h3, h4, h5, h6, h7, hA, hB⟩ := h
  have hcut := hrot.cut h2 h3 h5 h6 hl hr hA hB
  rw [show s + (e - m) = mid from by omega] at hcut
  exact ⟨hcut, hrot.stb h3 h5 (by omega) hb (Rot.pass h2 h6 hl hr hB), (hrot.mv h3 h5).mono h2 h6⟩
theorem Cut.left1 {k : Nat → Nat} {a s c e b : Nat} {d : Array Nat} (h : Cut k a s c e b d) (hs : s = a ∨ s = c) : Srt k a c d := by
  rcases hs with rfl | rfl
  · exact h.s2
  · exact h.s1
theorem Cut.right1 {k : Nat → Nat} {a s c e b : Nat} {d : Array Nat} (h : Cut k a s c e b d) (hs : e = c ∨ e = b) : Srt k c b d := by
  rcases hs with rfl | rfl
  · exact h.s4
  · exact h.s3
end Go.Proofs.YtblfmfanfpohbaaGreat
