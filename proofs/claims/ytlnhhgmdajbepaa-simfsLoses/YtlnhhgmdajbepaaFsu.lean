/- simfs: two disks side by side; a disk with a fuse beside one without, in the abstract. -/
import Derived.Test.YtlnhhgmdajbepaaFmv
namespace Go.Proofs.Ytlnhhgmdajbepaa
open Go.ChangeShapes Go.WideShapes Go.ChangeAt Go.RowKit
set_option linter.unusedVariables false
/-- two disks that have no block in common, and blocks F that are neither's -/
def DD (x : World) (s1 q b s2 p c : Nat) (A B : Ak) (F : Nat → Prop) : Prop := ∃ D E, DkAt x s1 q b D ∧ DkAt x s2 p c E ∧ D.ab = A ∧ E.ab = B ∧ (∀ k, Ob q b D.fs k → ¬ Ob p c E.fs k) ∧ (∀ k, F k → k < x.heap.size ∧ ¬ Ob q b D.fs k ∧ ¬ Ob p c E.fs k)
section
variable {x y : World} {s1 q b s2 p c : Nat} {A B : Ak} {F G : Nat → Prop}
theorem DD.swap (h : DD x s1 q b s2 p c A B F) : DD x s2 p c s1 q b B A F := by
  obtain ⟨D, E, h1, h2, h3, h4, h5, h6⟩ := h
  exact ⟨E, D, h2, h1, h4, h3, fun k hk ho => h5 k ho hk, fun k hk => ⟨(h6 k hk).1, (h6 k hk).2.2, (h6 k hk).2.1⟩⟩
theorem DD.one (h : DD x s1 q b s2 p c A B F) : DA x s1 q b A := by
  obtain ⟨D, E, h1, h2, h3, h4, h5, h6⟩ := h; exact ⟨D, h1, h3⟩
theorem DD.two (h : DD x s1 q b s2 p c A B F) : DA x s2 p c B := h.swap.one
theorem DD.keep (h : DD x s1 q b s2 p c A B F) (hb : Below x.heap.size x y) : DD y s1 q b s2 p c A B F := by
  obtain ⟨D, E, h1, h2, h3, h4, h5, h6⟩ := h
  exact ⟨D, E, h1.keep hb, h2.keep hb, h3, h4, h5, fun k hk => ⟨Nat.lt_of_lt_of_le (h6 k hk).1 hb.size, (h6 k hk).2⟩⟩
theorem DD.more (h : DD x s1 q b s2 p c A B F) (hb : Below x.heap.size x y) : DD y s1 q b s2 p c A B (fun k => F k ∨ (x.heap.size ≤ k ∧ k < y.heap.size)) := by
  obtain ⟨D, E, h1, h2, h3, h4, h5, h6⟩ := h
  refine ⟨D, E, h1.keep hb, h2.keep hb, h3, h4, h5, fun k hk => ?_⟩
  rcases hk with hk | ⟨k1, k2⟩
  · exact ⟨Nat.lt_of_lt_of_le (h6 k hk).1 hb.size, (h6 k hk).2⟩
  · exact ⟨k2, fun ho => by have := (h1.ob ho).2; omega, fun ho => by have := (h2.ob ho).2; omega⟩
theorem DD.sub (h : DD x s1 q b s2 p c A B F) (hg : ∀ k, G k → F k) : DD x s1 q b s2 p c A B G := by
  obtain ⟨D, E, h1, h2, h3, h4, h5, h6⟩ := h
  exact ⟨D, E, h1, h2, h3, h4, h5, fun k hk => h6 k (hg k hk)⟩
theorem DD.mk2 (h : DA x s1 q b A) (hb : Below x.heap.size x y) (h2 : DA y x.heap.size p c B) : DD y s1 q b x.heap.size p c A B (fun _ => False) := by
  obtain ⟨D, h1, h3⟩ := h
  obtain ⟨E, h4, h5⟩ := h2
  exact ⟨D, E, h1.keep hb, h4, h3, h5, fun k hk ho => by have := (h1.ob hk).2; have := (h4.ob ho).1; omega, fun k hk => hk.elim⟩
/-- a call at the first disk -/
theorem DD.df (h : DD x s1 q b s2 p c A B F) : ∃ G, DF x s1 q b A G ∧ ∀ x' A', DF x' s1 q b A' G → (∀ k, G k → x'.heap[k]? = x.heap[k]?) → DD x' s1 q b s2 p c A' B F ∧ ∀ k, F k → x'.heap[k]? = x.heap[k]? := by
  obtain ⟨D, E, h1, h2, h3, h4, h5, h6⟩ := h
  refine ⟨fun k => Ob p c E.fs k ∨ F k, ⟨D, h1, h3, fun k hk => ?_⟩, fun x' A' hd hk1 => ?_⟩
  · rcases hk with hk | hk
    · exact ⟨(h2.ob hk).2, fun ho => h5 k ho hk⟩
    · exact ⟨(h6 k hk).1, (h6 k hk).2.1⟩
  · obtain ⟨D', hd1, hd2, hd3⟩ := hd
    exact ⟨⟨D', E, hd1, h2.same (fun k hk => hk1 k (.inl hk)), hd2, h4, fun k hk ho => (hd3 k (.inl ho)).2 hk, fun k hk => ⟨(hd3 k (.inr hk)).1, (hd3 k (.inr hk)).2, (h6 k hk).2.2⟩⟩, fun k hk => hk1 k (.inr hk)⟩
theorem fuse_D (h : DD x s1 q b s2 p c A B F) (n : Int) : Calls Try.prog 36 #[.pointer (some ⟨q, 0, none⟩), .int .i64 n] x fun r x' => r = .returned (.tuple #[]) ∧ DD x' s1 q b s2 p c (fuseA A n) B F ∧ Below s1 x x' := by
  obtain ⟨G, ⟨D, hd1, rfl, hF⟩, hback⟩ := h.df
  exact (fuse_any x s1 q b D hd1 n).mono (fun r x' hr => by
    obtain ⟨a1, a2, a3⟩ := hr.2.f hd1 hF (Below.refl _ _)
    exact ⟨hr.1, (hback _ _ a1 a2).1, a3⟩)
theorem call_D1 (h : DD x s1 q b s2 p c A B F) (ok : AkOk A) (o : Oa) (ho : OpIn x o) : Calls Try.prog 18 #[.pointer (some ⟨q, 0, none⟩), opV o] x fun r x' => ∃ v, r = .returned (.tuple #[v, .int .i64 (doA A o).2.2.1, .int .i64 ((doA A o).2.2.2 : Nat)]) ∧ DD x' s1 q b s2 p c (doA A o).1 B F ∧ (∀ k, F k → x'.heap[k]? = x.heap[k]?) ∧ Below s1 x x' := by
  obtain ⟨G, hd, hback⟩ := h.df
  exact (call_F x s1 q b A G hd ok o ho).mono (fun r x' hr => by
    obtain ⟨v, e, _, a1, a2, a3⟩ := hr
    exact ⟨v, e, (hback _ _ a1 a2).1, (hback _ _ a1 a2).2, a3⟩)
theorem call_D2 (h : DD x s1 q b s2 p c A B F) (ok : AkOk B) (o : Oa) (ho : OpIn x o) : Calls Try.prog 18 #[.pointer (some ⟨p, 0, none⟩), opV o] x fun r x' => ∃ v, r = .returned (.tuple #[v, .int .i64 (doA B o).2.2.1, .int .i64 ((doA B o).2.2.2 : Nat)]) ∧ DD x' s1 q b s2 p c A (doA B o).1 F ∧ (∀ k, F k → x'.heap[k]? = x.heap[k]?) ∧ Below s2 x x' :=
  (call_D1 h.swap ok o ho).mono (fun r x' hr => by
    obtain ⟨v, e, a1, a2, a3⟩ := hr
    exact ⟨v, e, a1.swap, a2, a3⟩)
end
theorem imk {x y : World} {base : Nat} {v : Value} {X : List (Fa × Value)} (h : OwnIm x base v X) (hs : ∀ k, base ≤ k → k < x.heap.size → y.heap[k]? = x.heap[k]?) : OwnIm y base v X := by
  refine ⟨⟨h.1.1, ?_⟩, fun p hp => ?_⟩
  · rcases h.1.2 with h1 | ⟨g, cap, cur, h1, h2, h3, h4⟩
    · exact .inl h1
    · exact .inr ⟨g, cap, cur, h1, h2, (hs g h2 (lt_of_heap h3)).trans h3, h4⟩
  · have h9 := h.2 p hp
    refine ⟨h9.1, h9.2.1, ?_⟩
    rcases h9.2.2 with h1 | ⟨g, cap, cur, h1, h2, h3, h4⟩
    · exact .inl h1
    · exact .inr ⟨g, cap, cur, h1, h2, (hs g h2 (lt_of_heap h3)).trans h3, h4⟩
theorem imf {w : World} {base : Nat} {a : Option Addr} {m c : Nat} {X : List (Fa × Value)} (h : OwnIm w base (.slice a m c) X) : FlsA w a X := by
  obtain ⟨a2, c2, e, h2, _⟩ := h.fls
  injection e with e1 e2 e3
  subst e1
  exact h2
/-- A: a disk whose fuse of n is not yet gone; B: the same disk without -/
structure Rz (n : Int) (A B : Ak) : Prop where
  a : A.off = false
  b : B.off = false
  z : B.fuse = 0
  fs : A.fs = B.fs
  room : A.room = B.room
  st : A.steps = B.steps
  s0 : 0 ≤ A.steps
  sum : A.steps + A.fuse = n
  f1 : 1 ≤ A.fuse
def Oz (n : Int) (A : Ak) (k : Int) (A' : Ak) (e : Nat) (B' : Ak) (bad : Nat) : Prop := (Rz n A' B' ∧ e = bad) ∨ (A'.off = true ∧ e = 3 ∧ bad = 0 ∧ A'.steps = n - 1 ∧ (k ≠ 1 → A'.fs = A.fs) ∧ (k = 1 → A'.fs = B'.fs))
section
variable {n : Int} {A B : Ak}
theorem Rz.start (h1 : 1 ≤ n) (room : Int) : Rz n (fuseA (newD room).ab n) (newD room).ab :=
  ⟨rfl, rfl, rfl, rfl, rfl, rfl, by show (0 : Int) ≤ 0; omega, by show (0 : Int) + (if n < 0 then 0 else n) = n; rw [if_neg (by omega)]; omega, by show 1 ≤ (if n < 0 then 0 else n); rw [if_neg (by omega)]; exact h1⟩
theorem bar_z (h : Rz n A B) (Ls : List (List UInt8)) : barA B Ls = barA A Ls := by unfold barA; rw [h.a, h.b]
theorem find_z (h : Rz n A B) (nm : List UInt8) : findA B nm = findA A nm := by unfold findA; rw [bar_z h, h.fs]
theorem Rz.same (h : Rz n A B) (k : Int) (e : Nat) : Oz n A k A e B e := .inl ⟨h, rfl⟩
theorem Rz.nb (h : Rz n A B) : ¬ B.fuse = 1 := by rw [h.z]; omega
theorem step_z (h : Rz n A B) (hn : n ≤ 9223372036854775807) (hf : ¬ A.fuse = 1) (L : List Fa) : Rz n ((stepA A).put L) ((stepA B).put L) := by
  have h1 := h.s0
  have h2 := h.sum
  have h3 := h.f1
  have e1 : stepA A = { A with off := false, fuse := (if 1 ≤ A.fuse then A.fuse - 1 else 0), steps := wrap64 (A.steps + 1) } := if_neg hf
  have e2 : stepA B = { B with off := false, fuse := (if 1 ≤ B.fuse then B.fuse - 1 else 0), steps := wrap64 (B.steps + 1) } := if_neg h.nb
  have e3 : (if 1 ≤ A.fuse then A.fuse - 1 else 0) = A.fuse - 1 := if_pos h3
  have e4 : (if 1 ≤ B.fuse then B.fuse - 1 else 0) = 0 := if_neg (by rw [h.z]; omega)
  have e5 : wrap64 (A.steps + 1) = A.steps + 1 := by unfold wrap64; omega
  rw [e1, e2, e3, e4, ← h.st, e5]
  exact ⟨rfl, rfl, rfl, rfl, h.room, rfl, by show 0 ≤ A.steps + 1; omega, by show A.steps + 1 + (A.fuse - 1) = n; omega, by show 1 ≤ A.fuse - 1; omega⟩
theorem gone_z (h : Rz n A B) (hf : A.fuse = 1) : (stepA A).off = true ∧ (stepA A).steps = n - 1 ∧ (stepA A).fs = A.fs := by
  have h2 := h.sum
  have e1 : stepA A = { A with off := true, fuse := 0 } := if_pos hf
  rw [e1]
  exact ⟨rfl, by show A.steps = n - 1; omega, rfl⟩
theorem to_z (h : Rz n A B) (hn : n ≤ 9223372036854775807) (L : List Fa) {k : Int} (hk : k ≠ 1) : Oz n A k (stepTo A L).1 (stepTo A L).2 (stepTo B L).1 (stepTo B L).2 := by
  have e2 : stepTo B L = ((stepA B).put L, 0) := if_neg h.nb
  rw [e2]
  by_cases hf : A.fuse = 1
  · have e1 : stepTo A L = (stepA A, 3) := if_pos hf
    rw [e1]
    obtain ⟨g1, g2, g3⟩ := gone_z h hf
    exact .inr ⟨g1, rfl, rfl, g2, fun _ => g3, fun h9 => absurd h9 hk⟩
  · have e1 : stepTo A L = ((stepA A).put L, 0) := if_neg hf
    rw [e1]
    exact .inl ⟨step_z h hn hf L, rfl⟩
theorem found_z {R : Type} (h : Rz n A B) {P : R → R → Prop} (nm : List UInt8) {bA bB : Nat → R} {XA XB : Fa → R} (h1 : ∀ e, P (bA e) (bB e)) (h2 : ∀ f, P (XA f) (XB f)) : P (foundA A nm bA XA) (foundA B nm bB XB) := by
  unfold foundA
  rw [← h.fs, find_z h, bar_z h]
  cases getA A.fs nm with
  | none => exact h1 _
  | some f =>
    simp only
    split
    · exact h1 _
    · exact h2 _
theorem do_z (h : Rz n A B) (hn : n ≤ 9223372036854775807) (o : Oa) (h0 : 0 ≤ o.k) (h7 : o.k ≤ 7) : Oz n A o.k (doA A o).1 (doA A o).2.2.2 (doA B o).1 (doA B o).2.2.2 := by
  unfold doA
  by_cases k0 : o.k = 0
  · simp only [if_pos k0]
    have hk : o.k ≠ 1 := by omega
    unfold createA
    rw [bar_z h, ← h.fs]
    by_cases c1 : barA A [o.nm] ≠ 0
    · rw [if_pos c1, if_pos c1]; exact h.same _ _
    · rw [if_neg c1, if_neg c1]
      by_cases c2 : (getA A.fs o.nm).isSome = true
      · rw [if_pos c2, if_pos c2]; exact h.same _ _
      · rw [if_neg c2, if_neg c2]
        by_cases c3 : 700 ≤ A.fs.length
        · rw [if_pos c3, if_pos c3]; exact h.same _ _
        · rw [if_neg c3, if_neg c3]; exact to_z h hn _ hk
  · by_cases k1 : o.k = 1
    · simp only [if_neg k0, if_pos k1]
      refine found_z h (P := fun (r s : Ak × Nat) => Oz n A o.k r.1 r.2 s.1 s.2) o.nm (fun e => h.same _ _) (fun f => ?_)
      rw [← h.fs, ← h.room]
      by_cases c1 : A.room - (usedA A.fs : Nat) < (o.lb.length : Int)
      · rw [if_pos c1, if_pos c1]; exact h.same _ _
      · rw [if_neg c1, if_neg c1]
        have e2 : stepAE B = 0 := if_neg h.nb
        by_cases hf : A.fuse = 1
        · obtain ⟨g1, g2, g3⟩ := gone_z h hf
          exact .inr ⟨g1, if_pos hf, e2, g2, fun h9 => absurd k1 h9, fun _ => rfl⟩
        · exact .inl ⟨step_z h hn hf _, by show stepAE A = stepAE B; rw [e2]; exact if_neg hf⟩
    · have hk := k1
      by_cases k2 : o.k = 2
      · simp only [if_neg k0, if_neg k1, if_pos k2]
        refine found_z h (P := fun (r s : Ak × Nat) => Oz n A o.k r.1 r.2 s.1 s.2) o.nm (fun e => h.same _ _) (fun f => ?_)
        rw [← h.fs]; exact to_z h hn _ hk
      · by_cases k3 : o.k = 3
        · simp only [if_neg k0, if_neg k1, if_neg k2, if_pos k3]
          unfold renameA
          rw [bar_z h]
          by_cases c1 : barA A [o.nm, o.to] ≠ 0
          · rw [if_pos c1, if_pos c1]; exact h.same _ _
          · rw [if_neg c1, if_neg c1]
            refine found_z h (P := fun (r s : Ak × Nat) => Oz n A o.k r.1 r.2 s.1 s.2) o.nm (fun e => h.same _ _) (fun f => ?_)
            rw [← h.fs]; exact to_z h hn _ hk
        · by_cases k4 : o.k = 4
          · simp only [if_neg k0, if_neg k1, if_neg k2, if_neg k3, if_pos k4]
            refine found_z h (P := fun (r s : Ak × Nat) => Oz n A o.k r.1 r.2 s.1 s.2) o.nm (fun e => h.same _ _) (fun f => ?_)
            rw [← h.fs]; exact to_z h hn _ hk
          · by_cases k5 : o.k = 5
            · simp only [if_neg k0, if_neg k1, if_neg k2, if_neg k3, if_neg k4, if_pos k5]
              refine found_z h (P := fun (r s : Ak × Nat) => Oz n A o.k r.1 r.2 s.1 s.2) o.nm (fun e => h.same _ _) (fun f => ?_)
              by_cases c1 : o.n < 0 ∨ (f.l.length : Int) < o.n
              · rw [if_pos c1, if_pos c1]; exact h.same _ _
              · rw [if_neg c1, if_neg c1, ← h.fs]; exact to_z h hn _ hk
            · by_cases k6 : o.k = 6
              · simp only [if_neg k0, if_neg k1, if_neg k2, if_neg k3, if_neg k4, if_neg k5, if_pos k6]
                refine found_z h (P := fun (r s : Ak × List Nat × Nat) => Oz n A o.k r.1 r.2.2 s.1 s.2.2) o.nm (fun e => h.same _ _) (fun f => ?_)
                by_cases c1 : o.n < 0 ∨ o.m < 0 ∨ (f.l.length : Int) < o.n ∨ (f.l.length : Int) - o.n < o.m
                · rw [if_pos c1, if_pos c1]; exact h.same _ _
                · rw [if_neg c1, if_neg c1]; exact .inl ⟨⟨h.a, h.b, h.z, h.fs, h.room, h.st, h.s0, h.sum, h.f1⟩, rfl⟩
              · have k7 : o.k = 7 := by omega
                simp only [if_neg k0, if_neg k1, if_neg k2, if_neg k3, if_neg k4, if_neg k5, if_neg k6, if_pos k7]
                exact .inl ⟨h, found_z h (P := fun (r s : Nat × Nat) => r.2 = s.2) o.nm (fun e => rfl) (fun f => rfl)⟩
theorem bar_d (h : A.off = true) (Ls : List (List UInt8)) : barA A Ls = 3 := if_pos h
theorem found_d {R : Type} (h : A.off = true) (nm : List UInt8) (bad : Nat → R) (X : Fa → R) : foundA A nm bad X = bad 3 := by
  unfold foundA
  have h1 : findA A nm = 3 := by unfold findA; rw [bar_d h, if_pos (by decide)]
  rw [h1, bar_d h]
  cases getA A.fs nm with
  | none => rfl
  | some f => exact if_pos (by decide)
theorem do_d (h : A.off = true) (o : Oa) (h0 : 0 ≤ o.k) (h7 : o.k ≤ 7) : (doA A o).1 = A ∧ (doA A o).2.2.2 = 3 := by
  unfold doA
  by_cases k0 : o.k = 0
  · simp only [if_pos k0]; unfold createA; rw [bar_d h, if_pos (by decide)]; exact ⟨rfl, rfl⟩
  · by_cases k1 : o.k = 1
    · simp only [if_neg k0, if_pos k1]; unfold appendA; rw [found_d h]; exact ⟨rfl, rfl⟩
    · by_cases k2 : o.k = 2
      · simp only [if_neg k0, if_neg k1, if_pos k2]; unfold syncA; rw [found_d h]; exact ⟨rfl, rfl⟩
      · by_cases k3 : o.k = 3
        · simp only [if_neg k0, if_neg k1, if_neg k2, if_pos k3]; unfold renameA; rw [bar_d h, if_pos (by decide)]; exact ⟨rfl, rfl⟩
        · by_cases k4 : o.k = 4
          · simp only [if_neg k0, if_neg k1, if_neg k2, if_neg k3, if_pos k4]; unfold removeA; rw [found_d h]; exact ⟨rfl, rfl⟩
          · by_cases k5 : o.k = 5
            · simp only [if_neg k0, if_neg k1, if_neg k2, if_neg k3, if_neg k4, if_pos k5]; unfold cutA; rw [found_d h]; exact ⟨rfl, rfl⟩
            · by_cases k6 : o.k = 6
              · simp only [if_neg k0, if_neg k1, if_neg k2, if_neg k3, if_neg k4, if_neg k5, if_pos k6]; unfold readA; rw [found_d h]; exact ⟨rfl, rfl⟩
              · have k7 : o.k = 7 := by omega
                simp only [if_neg k0, if_neg k1, if_neg k2, if_neg k3, if_neg k4, if_neg k5, if_neg k6, if_pos k7]
                unfold sizeA; rw [found_d h]; exact ⟨trivial, rfl⟩
end
theorem op_k {w : World} {k : Nat} {o : Oa} (h : OpAt w k o) : w.cell? ⟨k, 0, none⟩ = some (.int .i64 o.k) := cell_of_row _ _ 0 _ _ _ h
end Go.Proofs.Ytlnhhgmdajbepaa
