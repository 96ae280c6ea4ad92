/- A disk in the abstract: each call keeps its numbers within their bounds. -/
import Derived.Test.YtlnhhgmdajbepaaFsn
namespace Go.Proofs.Ytlnhhgmdajbepaa
open Go.ChangeShapes Go.WideShapes Go.ChangeAt Go.RowKit
set_option linter.unusedVariables false
theorem bar_name {A : Ak} {nm : List UInt8} (h : barA A [nm] = 0) : nm.length ≤ 24 := right_len ((bar_right h).2 nm (List.mem_singleton.2 rfl))
theorem foundA_ok {A : Ak} {nm : List UInt8} {R : Type} {P : R → Prop} {bad : Nat → R} {X : Fa → R} (h1 : ∀ e, P (bad e)) (h2 : ∀ f, getA A.fs nm = some f → barA A [nm] = 0 → P (X f)) : P (foundA A nm bad X) := by
  unfold foundA
  cases hg : getA A.fs nm with
  | none => exact h1 _
  | some f =>
    simp only
    by_cases hb : barA A [nm] = 0
    · rw [if_neg (by omega)]; exact h2 f hg hb
    · rw [if_pos hb]; exact h1 _
theorem createA_ok {A : Ak} (h : AkOk A) (nm : List UInt8) : AkOk (createA A nm).1 := by
  unfold createA
  by_cases h1 : barA A [nm] = 0
  · rw [if_neg (by omega)]
    by_cases h2 : (getA A.fs nm).isSome = true
    · rw [if_pos h2]; exact h
    · rw [if_neg h2]
      by_cases h3 : 700 ≤ A.fs.length
      · rw [if_pos h3]; exact h
      · rw [if_neg h3]
        by_cases h4 : A.fuse = 1
        · rw [if_pos h4]; exact stepA_ok h
        · rw [if_neg h4]
          exact h.step_ins (f := ⟨nm, [], 0⟩) (bar_name h1) (Nat.zero_le _) (by have := h.used; show (usedA A.fs : Int) + (0 : Nat) ≤ _; omega) (by have := lenA_ins ⟨nm, [], 0⟩ (L := A.fs); omega)
  · rw [if_pos h1]; exact h
theorem stepTo_ok {A : Ak} (h : AkOk A) {L : List Fa} (hL : AkOk ((stepA A).put L)) : AkOk (stepTo A L).1 := by
  unfold stepTo
  split
  · exact stepA_ok h
  · exact hL
theorem same_ok {A : Ak} (h : AkOk A) {nm : List UInt8} {f : Fa} (hf : getA A.fs nm = some f) {l : List Nat} {s : Nat} (hs : s ≤ l.length) (hu : (usedA A.fs : Int) + l.length ≤ A.room + f.l.length) : AkOk ((stepA A).put (insA ⟨f.name, l, s⟩ A.fs)) := by
  obtain ⟨hm, hn⟩ := getA_mem hf
  have hg : getA A.fs f.name = some f := by rw [hn]; exact hf
  refine h.step_ins (f := ⟨f.name, l, s⟩) (h.name f hm) hs (by show (usedA A.fs : Int) + l.length ≤ A.room + (oldA A.fs f.name : Nat); rw [oldA_some hg]; exact hu) ?_
  rw [lenA_ins_old (f := ⟨f.name, l, s⟩) h.sort (show (getA A.fs f.name).isSome = true by rw [hg]; rfl)]
  exact h.few
theorem appendA_ok {A : Ak} (h : AkOk A) (nm : List UInt8) (l : List Nat) : AkOk (appendA A nm l).1 := by
  unfold appendA
  refine foundA_ok (P := fun r : Ak × Nat => AkOk r.1) (fun e => h) (fun f hf hb => ?_)
  split
  · exact h
  · have hs := h.safe f (getA_mem hf).1
    exact same_ok h hf (by rw [List.length_append]; omega) (by rw [List.length_append]; omega)
theorem syncA_ok {A : Ak} (h : AkOk A) (nm : List UInt8) : AkOk (syncA A nm).1 := by
  unfold syncA
  refine foundA_ok (P := fun r : Ak × Nat => AkOk r.1) (fun e => h) (fun f hf hb => stepTo_ok h (same_ok h hf (Nat.le_refl _) (by have := h.used; omega)))
theorem cutA_ok {A : Ak} (h : AkOk A) (nm : List UInt8) (n : Int) : AkOk (cutA A nm n).1 := by
  unfold cutA
  refine foundA_ok (P := fun r : Ak × Nat => AkOk r.1) (fun e => h) (fun f hf hb => ?_)
  by_cases hc : n < 0 ∨ (f.l.length : Int) < n
  · rw [if_pos hc]; exact h
  · rw [if_neg hc]
    have hs := h.safe f (getA_mem hf).1
    have hu := h.used
    exact stepTo_ok h (same_ok h hf (by rw [List.length_take]; omega) (by rw [List.length_take]; omega))
theorem removeA_ok {A : Ak} (h : AkOk A) (nm : List UInt8) : AkOk (removeA A nm).1 := by
  unfold removeA
  exact foundA_ok (P := fun r : Ak × Nat => AkOk r.1) (fun e => h) (fun f hf hb => stepTo_ok h (h.step_del nm))
theorem renameA_ok {A : Ak} (h : AkOk A) (nm to : List UInt8) : AkOk (renameA A nm to).1 := by
  unfold renameA
  by_cases hb0 : barA A [nm, to] = 0
  · rw [if_neg (by omega)]
    refine foundA_ok (P := fun r : Ak × Nat => AkOk r.1) (fun e => h) (fun f hf hb => stepTo_ok h ?_)
    obtain ⟨hm, hn⟩ := getA_mem hf
    have h1 := h.step_del nm
    have hd := usedA_del nm h.sort
    rw [oldA_some hf] at hd
    have hl := lenA_del_old (L := A.fs) (t := nm) (by rw [hf]; rfl)
    have hi := lenA_ins ⟨to, f.l, f.s⟩ (L := delA A.fs nm)
    have hu := h.used
    have hfew := h.few
    exact h1.ins (f := ⟨to, f.l, f.s⟩) (right_len ((bar_right hb0).2 to (by simp))) (h.safe f hm) (by show (usedA (delA A.fs nm) : Int) + f.l.length ≤ (stepA A).room + _; rw [stepA_room]; omega) (by show (insA ⟨to, f.l, f.s⟩ (delA A.fs nm)).length ≤ 700; omega)
  · rw [if_pos hb0]; exact h
theorem readA_ok {A : Ak} (h : AkOk A) (nm : List UInt8) (i n : Int) : AkOk (readA A nm i n).1 := by
  unfold readA
  refine foundA_ok (P := fun r : Ak × List Nat × Nat => AkOk r.1) (fun e => h) (fun f hf hb => ?_)
  split
  · exact h
  · exact ⟨h.room, h.used, h.fuse, h.steps, wrap_rg _, h.few, h.name, h.safe, h.sort⟩
theorem fuseA_ok {A : Ak} (h : AkOk A) {n : Int} (hn : n ≤ 9223372036854775807) : AkOk (fuseA A n) := by
  refine ⟨h.room, h.used, ?_, h.steps, h.read, h.few, h.name, h.safe, h.sort⟩
  show 0 ≤ (if n < 0 then 0 else n) ∧ (if n < 0 then 0 else n) ≤ 9223372036854775807
  split <;> omega
theorem keepN_le {f : Fa} (h : f.s ≤ f.l.length) (k : Int) : keepN f k ≤ f.l.length := by
  unfold keepN
  split <;> omega
theorem lose_mem : ∀ {X : List Fa} {ks : List Int} {g : Fa}, g ∈ loseA X ks → ∃ f ∈ X, ∃ k, g = lostA f k
  | [], _, g, h => by cases ‹List Int› <;> cases h
  | f :: X, [], g, h => by
    rcases List.mem_cons.1 h with h1 | h1
    · exact ⟨f, by simp, 0, h1⟩
    · obtain ⟨f', h2, k, h3⟩ := lose_mem h1; exact ⟨f', by simp [h2], k, h3⟩
  | f :: X, k :: ks, g, h => by
    rcases List.mem_cons.1 h with h1 | h1
    · exact ⟨f, by simp, k, h1⟩
    · obtain ⟨f', h2, k', h3⟩ := lose_mem h1; exact ⟨f', by simp [h2], k', h3⟩
theorem lost_used (f : Fa) (k : Int) : (lostA f k).l.length ≤ f.l.length := by
  show (f.l.take _).length ≤ _
  rw [List.length_take]; omega
theorem lose_used : ∀ (X : List Fa) (ks : List Int), usedA (loseA X ks) ≤ usedA X
  | [], ks => by cases ks <;> exact Nat.le_refl _
  | f :: X, [] => by
    have := lose_used X []; have := lost_used f 0
    simp only [loseA, usedA_cons]; omega
  | f :: X, k :: ks => by
    have := lose_used X ks; have := lost_used f k
    simp only [loseA, usedA_cons]; omega
theorem restartA_ok {A : Ak} (h : AkOk A) (ks : List Int) : AkOk (restartA A ks) := by
  refine ⟨h.room, ?_, ⟨by show (0 : Int) ≤ 0; omega, by show (0 : Int) ≤ _; omega⟩, h.steps, h.read, ?_, fun g hg => ?_, fun g hg => ?_, ?_⟩
  · have h1 := lose_used A.fs ks
    have h2 := h.used
    show (usedA (loseA A.fs ks) : Int) ≤ A.room
    omega
  · show (loseA A.fs ks).length ≤ 700
    rw [lose_len]; exact h.few
  · obtain ⟨f, hf, k, e⟩ := lose_mem hg
    rw [e]; exact h.name f hf
  · obtain ⟨f, hf, k, e⟩ := lose_mem hg
    rw [e]
    show keepN f k ≤ (f.l.take (keepN f k)).length
    rw [List.length_take, Nat.min_eq_left (keepN_le (h.safe f hf) k)]
    exact Nat.le_refl _
  · show SortA (loseA A.fs ks)
    have h1 : ((loseA A.fs ks).map (·.name)).Pairwise (fun a b => a < b) := by
      rw [lose_names]
      exact List.pairwise_map.2 h.sort
    exact List.pairwise_map.1 h1
theorem newA_ok (n : Int) : AkOk (newD n).ab := ⟨room_ok n, (room_ok n).1, ⟨by show (0 : Int) ≤ 0; omega, by show (0 : Int) ≤ _; omega⟩, ⟨by show _ ≤ (0 : Int); omega, by show (0 : Int) ≤ _; omega⟩, ⟨by show _ ≤ (0 : Int); omega, by show (0 : Int) ≤ _; omega⟩, Nat.zero_le _, (fun f hf => by cases hf), (fun f hf => by cases hf), List.Pairwise.nil⟩
end Go.Proofs.Ytlnhhgmdajbepaa
