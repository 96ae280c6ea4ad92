/- What fault.Name answers. -/
import Derived.Test.YtdjldbhglaohkaaDoorSenA
namespace Go.Proofs.YtdjldbhglaohkaaDoor
open Go.ChangeShapes Go.WideShapes Go.ChangeAt Go.RowKit
def okS : ByteArray := ⟨#[111, 107]⟩
def noS : ByteArray := ⟨#[]⟩
/-- s is the word of the number e -/
def NameIs (e : Int) (s : ByteArray) : Prop := (e = 0 ∧ s = okS) ∨ (∃ k, k < 42 ∧ numS k = e ∧ s = txtS k) ∨ (e ≠ 0 ∧ (∀ k, k < 42 → numS k ≠ e) ∧ s = noS)
theorem numS_pos (k : Nat) (h : k < 42) : 0 < numS k ∧ numS k < 104 := by
  have key : ∀ i : Fin 42, 0 < numS i.val ∧ numS i.val < 104 := by decide +kernel
  exact key ⟨k, h⟩
theorem NameIs.one {e : Int} {s t : ByteArray} (h1 : NameIs e s) (h2 : NameIs e t) : s = t := by
  rcases h1 with ⟨a, b⟩ | ⟨k, a, b, c⟩ | ⟨a, b, c⟩ <;> rcases h2 with ⟨a', b'⟩ | ⟨k', a', b', c'⟩ | ⟨a', b', c'⟩
  · rw [b, b']
  · have := numS_pos k' a'; omega
  · omega
  · have := numS_pos k a; omega
  · obtain rfl := numS_inj a a' (b.trans b'.symm); rw [c, c']
  · exact absurd b (b' k a)
  · omega
  · exact absurd b' (b k' a')
  · rw [c, c']
set_option maxRecDepth 100000 in
set_option maxHeartbeats 4000000 in
theorem error_any (a : Addr) (s : ByteArray) (w : World) (h : w.cell? a = some (.string s)) :
    Calls Tryd.prog 39 #[.pointer (some a)] w fun e w' => e = .returned (.string s) ∧ w = w' := by
  obtain ⟨b, off, pth⟩ := a
  go_enter Tryd.func39, Tryd.ntmps39
  go_wp2
  go_ret
  exact ⟨rfl, rfl⟩
theorem m_err (a : Addr) (w : World) : (method 178 59 (.pointer (some a)) "Error").run Tryd.prog w = .ok (39, .pointer (some a)) w := by kernel_rfl
set_option maxRecDepth 100000 in
set_option maxHeartbeats 4000000 in
theorem name_any (pa : Nat → Addr) (e : Int) (w : World) (hs : Sen w pa) :
    Calls Tryd.prog 8 #[.int .i64 e] w fun r w' => ∃ s, r = .returned (.string s) ∧ NameIs e s ∧ Below w.heap.size w w' := by
  have HS : Hid (Sen w pa) := hs
  clear hs
  by_cases h0 : e = 0
  · subst h0
    go_enter Tryd.func8, Tryd.ntmps8
    go_wp2
    go_ret
    exact ⟨_, rfl, .inl ⟨rfl, rfl⟩, Below.refl _ _⟩
  · go_enter Tryd.func8, Tryd.ntmps8
    have hm := m_err
    go_wp2_with (first
      | (go_at_call 10; refine (sentinel_any pa e w HS.out).mono ?_; rintro r w1 ⟨hr, hb1⟩; have HB : Hid (Below w.heap.size w w1) := hb1; clear hb1; rcases hr with ⟨k, hk, hke, rfl⟩ | ⟨hno, rfl⟩)
      | (go_at_call 39; refine (error_any (pa k) (txtS k) _ ((HS.out.keep HB.out).txt k hk)).mono ?_; rintro r w2 ⟨rfl, rfl⟩))
    · go_ret
      exact ⟨_, rfl, .inr (.inl ⟨k, hk, hke, rfl⟩), HB.out⟩
    · go_ret
      exact ⟨_, rfl, .inr (.inr ⟨h0, hno, rfl⟩), HB.out⟩
end Go.Proofs.YtdjldbhglaohkaaDoor
