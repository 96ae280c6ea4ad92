/- Own texts, joined: Rm7. -/
import Derived.Test.YtoneaannbmkeiaaDoorK33
namespace Go.Proofs.YtoneaannbmkeiaaDoor
open Go.ChangeShapes Go.WideShapes Go.ChangeAt Go.RowKit
set_option linter.unusedVariables false
theorem sfl_int : ∀ (L : List Sm), ∀ u ∈ sfl L, ∃ z : Int, u = .int .i64 z
  | [], u, h => by cases h
  | p :: r, u, h => by
    simp only [sfl, List.mem_cons] at h
    rcases h with rfl | rfl | rfl | rfl | h
    · exact ⟨_, rfl⟩
    · exact ⟨_, rfl⟩
    · exact ⟨_, rfl⟩
    · exact ⟨_, rfl⟩
    · exact sfl_int r u h
theorem md_few (l : List Nat) (hl : ∀ y ∈ l, y < 256) : (mdM l).segs.length ≤ 256 := by
  cases hD : mdO l with
  | some M =>
    have h1 : mdM l = M := by unfold mdM; rw [hD]; rfl
    rw [h1]
    exact (mv_parts (md_form l M hl hD).1).2.2.1
  | none =>
    have h1 : mdM l = zeroM := by unfold mdM; rw [hD]; rfl
    rw [h1]
    exact Nat.zero_le _
theorem rmd_no {l : List Nat} {n : Nat} {a : Option Addr} {cap : Nat} {w : World} (hl : ∀ y ∈ l, y < 256) (hr : ¬ rdB l)
    (h : Calls Tryd.prog 15 #[.slice a n cap] w fun e w' => e = .returned (.tuple #[MfV zeroM (.slice none 0 0), .int .i64 80]) ∧ Below w.heap.size w w') :
    Calls Tryd.prog 15 #[.slice a n cap] w fun e w' => ∃ v, e = .returned (.tuple #[MfV (mdM l) v, .int .i64 (mdE l : Nat)]) ∧ OwnSm w' w.heap.size v (mdM l).segs ∧ Below w.heap.size w w' := by
  obtain ⟨e1, e2⟩ := rd_none hl hr
  rw [e1, e2]
  refine h.mono ?_
  rintro _ w' ⟨rfl, hb⟩
  exact ⟨_, rfl, OwnSm.nil _ _, hb⟩
/-- what daybookref16.Decode answers -/
theorem rmdec_any (l : List Nat) (n : Nat) (a : Option Addr) (cap : Nat) (w : World) (hn : l.length = n) (hb : Bytes w a l) (hcap : n ≤ cap) (hl : n ≤ 140737488351232) :
    Calls Tryd.prog 15 #[.slice a n cap] w fun e w' => ∃ v, e = .returned (.tuple #[MfV (mdM l) v, .int .i64 (mdE l : Nat)]) ∧ OwnSm w' w.heap.size v (mdM l).segs ∧ Below w.heap.size w w' := by
  have hm := hb.mem
  by_cases h0 : decE l = 0
  · by_cases h1 : decN l = l.length
    · by_cases h2 : (decAll (decB l) 1028).2.2 = 0
      · by_cases h3 : 4 ≤ (decAll (decB l) 1028).1.length
        · by_cases h4 : ∀ u ∈ (decAll (decB l) 1028).1, u ≤ 2199023255552
          · cases hv : mvB (mdC l) with
            | true =>
              by_cases hf : mfL (mdC l) = l
              · obtain ⟨e1, e2⟩ := rd_some (l := l) ⟨h0, h1, h2, h3, h4, hv, hf⟩
                rw [e1, e2]
                exact rmd_main l n a cap w hn hb hcap hl h0 h1 h2 h3 h4 (mdC l) 0 (.inl ⟨hv, hf, rfl, rfl⟩)
              · obtain ⟨e1, e2⟩ := rd_none (l := l) hm (fun h => hf h.2.2.2.2.2.2)
                rw [e1, e2]
                exact rmd_main l n a cap w hn hb hcap hl h0 h1 h2 h3 h4 zeroM 80 (.inr (.inl ⟨hv, hf, rfl, rfl⟩))
            | false =>
              obtain ⟨e1, e2⟩ := rd_none (l := l) hm (fun h => by have := h.2.2.2.2.2.1; rw [hv] at this; cases this)
              rw [e1, e2]
              exact rmd_main l n a cap w hn hb hcap hl h0 h1 h2 h3 h4 zeroM 80 (.inr (.inr ⟨hv, rfl, rfl⟩))
          · exact rmd_no hm (fun h => h4 h.2.2.2.2.1) (rmd_bad5 l n a cap w hn hb hcap hl h0 h1 h2 h3 h4)
        · exact rmd_no hm (fun h => h3 h.2.2.2.1) (rmd_bad4 l n a cap w hn hb hcap hl h0 h1 h2 (by omega))
      · exact rmd_no hm (fun h => h2 h.2.2.1) (rmd_bad3 l n a cap w hn hb hcap hl h0 h1 h2)
    · exact rmd_no hm (fun h => h1 h.2.1) (rmd_bad2 l n a cap w hn hb hcap hl h0 h1)
  · exact rmd_no hm (fun h => h0 h.1) (rmd_bad1 l n a cap w hn hb hcap hl h0)
end Go.Proofs.YtoneaannbmkeiaaDoor
