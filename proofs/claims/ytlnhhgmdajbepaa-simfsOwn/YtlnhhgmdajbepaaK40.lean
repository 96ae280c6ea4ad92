/- Own texts, joined: Rdz. -/
import Derived.Test.YtlnhhgmdajbepaaK37
import Derived.Test.YtlnhhgmdajbepaaK38
import Derived.Test.YtlnhhgmdajbepaaK39
namespace Go.Proofs.Ytlnhhgmdajbepaa
open Go.ChangeShapes Go.WideShapes Go.ChangeAt Go.RowKit
set_option linter.unusedVariables false
set_option linter.unusedSimpArgs false
/-- the reference's disk: its value, its files -/
structure RefD (w : World) (A : Ak) (X : List (Fa × Value)) (a : Option Addr) (n : Nat) : Prop where
  len : X.length = n
  fls : FlsA w a X
  ab : X.map Prod.fst = A.fs
def DoR (X : List (Fa × Value)) (a : Option Addr) (w : World) (R : Ak × List Nat × Int × Nat) : Ending → World → Prop := DoQ X a w R.1.rn R.1.fs R.2.1 R.2.2.1 (R.2.2.2 : Nat)
theorem usedA_mem {f : Fa} : ∀ {L : List Fa}, f ∈ L → f.l.length ≤ usedA L
  | [], h => by cases h
  | g :: r, h => by
    rw [usedA_cons]
    rcases List.mem_cons.1 h with rfl | h
    · omega
    · have := usedA_mem h; omega
theorem rdo_any (w : World) (A : Ak) (ok : AkOk A) (X : List (Fa × Value)) (a : Option Addr) (n c : Nat) (h : RefD w A X a n) (o : Oa) (ho : OpIn w o) :
    Calls Try.prog 17 #[rdV (.slice a n c) A.rn, opV o] w (DoR X a w (doA A o)) := by
  obtain ⟨hn, hX, hA⟩ := h
  have hnl : n ≤ 1000 := by have h1 := ok.few; rw [← hA, List.length_map, hn] at h1; omega
  have hsz : ∀ f ∈ X.map Prod.fst, f.s ≤ f.l.length ∧ f.l.length ≤ 67108864 := fun f hf => by
    rw [hA] at hf
    refine ⟨ok.safe f hf, ?_⟩
    have h1 := ok.used
    have h2 := ok.room.2
    have h3 : f.l.length ≤ usedA A.fs := usedA_mem hf
    omega
  unfold DoR
  by_cases h8 : o.k = 8
  · have e : doA A o = (restartA A o.ks, [], 0, 0) := by simp [doA, h8]
    rw [e]
    have h1 := rdo_re w X a n c A.rn hn hX hnl o ho h8 hsz
    rw [hA] at h1
    exact h1
  by_cases h9 : o.k = 9
  · have e : doA A o = (fuseA A o.n, [], 0, 0) := by simp [doA, h9]
    rw [e]
    by_cases hp : 0 < o.n
    · have h1 := rdo_fz1 w X a n c A.rn hn hX hnl o ho h9 hp
      rw [hA] at h1
      have e2 : (fuseA A o.n).rn = { A.rn with fuse := o.n } := by
        unfold fuseA Ak.rn
        simp only
        rw [if_neg (by omega)]
      rw [e2]
      exact h1
    · have h1 := rdo_fz0 w X a n c A.rn hn hX hnl o ho h9 hp
      rw [hA] at h1
      have e2 : (fuseA A o.n).rn = { A.rn with fuse := 0 } := by
        unfold fuseA Ak.rn
        simp only
        by_cases hq : o.n < 0
        · rw [if_pos hq]
        · rw [if_neg hq, show o.n = 0 from by omega]
      rw [e2]
      exact h1
  by_cases hlo : o.k < 0
  · have e : doA A o = (A, [], 0, 0) := by
      unfold doA
      rw [if_neg (by omega), if_neg (by omega), if_neg (by omega), if_neg (by omega), if_neg (by omega), if_neg (by omega), if_neg (by omega), if_neg (by omega), if_neg h8, if_neg h9]
    rw [e]
    have h1 := rdo_lo w X a n c A.rn hn hX hnl o ho hlo
    rw [hA] at h1
    exact h1
  by_cases hhi : 9 < o.k
  · have e : doA A o = (A, [], 0, 0) := by
      unfold doA
      rw [if_neg (by omega), if_neg (by omega), if_neg (by omega), if_neg (by omega), if_neg (by omega), if_neg (by omega), if_neg (by omega), if_neg (by omega), if_neg h8, if_neg h9]
    rw [e]
    have h1 := rdo_hi w X a n c A.rn hn hX hnl o ho hhi
    rw [hA] at h1
    exact h1
  have h07 : 0 ≤ o.k ∧ o.k ≤ 7 := by omega
  have hbar : BarC X a n c A.rn o (bar10 A o : Nat) := fun x hx hox => rbar_any x A ok X a n c hn hx hA o hox h07
  by_cases hb : bar10 A o ≠ 0
  · rw [do_barred h07 hb]
    have h1 := rdo_bar w X a n c A.rn hn hX hnl o ho h07 _ (by omega) hbar
    rw [hA] at h1
    exact h1
  have hb0 : bar10 A o = 0 := by omega
  rw [hb0] at hbar
  by_cases h6 : o.k = 6
  · obtain ⟨f, hg, h0, h1, h2, _, e⟩ := do_read h6 hb0
    rw [e]
    have h3 := rdo_rd w X a n c A.rn hn hX hnl o ho h6 hbar f (by rw [hA]; exact hg) ⟨h0, h1, h2⟩ (fileA_le ok hg)
    rw [hA] at h3
    exact h3
  by_cases h7 : o.k = 7
  · obtain ⟨f, hg, _, e⟩ := do_size h7 hb0
    rw [e]
    have h3 := rdo_sz w X a n c A.rn hn hX hnl o ho h7 hbar f (by rw [hA]; exact hg)
    rw [hA] at h3
    exact h3
  have h05 : 0 ≤ o.k ∧ o.k ≤ 5 := by omega
  obtain ⟨f, hg, hl1, hl5, hoff, e⟩ := do_step ok h05 hb0
  have hch : ∀ q, ChC X a n c q o (chA A.fs f o) := fun q x hx hox => by
    have h1 := rchange_any x X a n c q hn hx hnl o hox h05 f (fun hk => by rw [hA]; exact hg hk) (fun hk => fileA_le ok (hg hk)) hl1 hl5
    rw [hA] at h1
    exact h1
  rw [e]
  by_cases hf : A.fuse = 1
  · rw [if_pos hf]
    have e3 : (stepA A).rn = { A.rn with fuse := 0, off := true } := by unfold stepA Ak.rn; rw [if_pos hf]
    by_cases h1 : o.k = 1
    · rw [if_pos h1]
      have h3 := rdo_f1a w X a n c A.rn hn hX hnl o ho h1 hf hbar (chA A.fs f o) (hch _)
      show Calls _ _ _ _ (DoQ X a w (stepA A).rn (chA A.fs f o) [] 0 _)
      rw [e3]
      exact h3
    · rw [if_neg h1]
      have h3 := rdo_f1 w X a n c A.rn hn hX hnl o ho h05 h1 hf hbar
      rw [hA] at h3
      show Calls _ _ _ _ (DoQ X a w (stepA A).rn (stepA A).fs [] 0 _)
      rw [e3, stepA_fs]
      exact h3
  · rw [if_neg hf]
    by_cases hf1 : 1 < A.fuse
    · have h3 := rdo_st1 w X a n c A.rn hn hX hnl o ho h05 hf1 ok.fuse.2 hbar (chA A.fs f o) (hch _)
      have e3 : ((stepA A).put (chA A.fs f o)).rn = { A.rn with fuse := A.rn.fuse - 1, steps := wrap64 (A.rn.steps + 1) } := by
        unfold stepA Ak.rn
        rw [if_neg hf]
        simp only
        rw [if_pos (by omega)]
        simp [hoff]
      show Calls _ _ _ _ (DoQ X a w ((stepA A).put (chA A.fs f o)).rn (chA A.fs f o) [] 0 _)
      rw [e3]
      exact h3
    · have hf0 : A.fuse = 0 := by have := ok.fuse.1; omega
      have h3 := rdo_st0 w X a n c A.rn hn hX hnl o ho h05 (by show A.fuse < 1; omega) hbar (chA A.fs f o) (hch _)
      have e3 : ((stepA A).put (chA A.fs f o)).rn = { A.rn with steps := wrap64 (A.rn.steps + 1) } := by
        unfold stepA Ak.rn
        rw [if_neg hf]
        simp only
        rw [if_neg (by omega), hf0]
        simp [hoff]
      show Calls _ _ _ _ (DoQ X a w ((stepA A).put (chA A.fs f o)).rn (chA A.fs f o) [] 0 _)
      rw [e3]
      exact h3
end Go.Proofs.Ytlnhhgmdajbepaa
