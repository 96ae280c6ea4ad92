/- What the reference's Known answers. -/
import Derived.Test.YtpjcmfoamdiohaaDoorSenR
namespace Go.Proofs.YtpjcmfoamdiohaaDoor
open Go.ChangeShapes Go.WideShapes Go.ChangeAt Go.RowKit
set_option linter.unusedVariables false
theorem txt_full (k : Nat) (h : k < 42) : (txtS k).toList.isEmpty = false := by
  have key : ∀ i : Fin 42, (txtS i.val).data.toList.isEmpty = false := by decide +kernel
  rw [ByteArray.toList_eq]
  exact key ⟨k, h⟩
theorem no_empty : noS.toList.isEmpty = true := by rw [ByteArray.toList_eq]; rfl
/-- b tells whether e has a sentinel -/
def KnownIs (e : Int) (b : Bool) : Prop := (b = true ∧ ∃ k, k < 42 ∧ numS k = e) ∨ (b = false ∧ ∀ k, k < 42 → numS k ≠ e)
set_option maxRecDepth 100000 in
set_option maxHeartbeats 4000000 in
theorem rknown_any (e : Int) (w : World) :
    Calls Tryd.prog 13 #[.int .i64 e] w fun r w' => ∃ b, r = .returned (.bool b) ∧ KnownIs e b ∧ Below w.heap.size w w' := by
  by_cases h0 : e = 0
  · subst h0
    go_enter Tryd.func13, Tryd.ntmps13
    go_wp2
    go_ret
    exact ⟨false, rfl, .inr ⟨rfl, fun k hk h => by have := numS_pos k hk; omega⟩, Below.refl _ _⟩
  · go_enter Tryd.func13, Tryd.ntmps13
    go_wp2_with (go_at_call 9; refine (rname_any e _).mono ?_; rintro r w1 ⟨s1, rfl, hn1, hb1⟩; have HB1 : Hid (Below w.heap.size w w1) := hb1; clear hb1; rcases hn1 with ⟨h1, h2⟩ | ⟨k, hk, hke, rfl⟩ | ⟨h1, hno, rfl⟩; exact absurd h1 h0)
    · go_ret
      exact ⟨_, rfl, .inl ⟨by simp [txt_full k hk, h0], k, hk, hke⟩, HB1.out⟩
    · go_ret
      exact ⟨_, rfl, .inr ⟨by simp [no_empty], hno⟩, HB1.out⟩
end Go.Proofs.YtpjcmfoamdiohaaDoor
