/- simfs: right names stay; an image mounted makes the same disk; Down, Steps. -/
import Derived.Test.YtlnhhgmdajbepaaFmu
namespace Go.Proofs.Ytlnhhgmdajbepaa
open Go.ChangeShapes Go.WideShapes Go.ChangeAt Go.RowKit
set_option linter.unusedVariables false
abbrev RtL (L : List Fa) : Prop := ∀ f ∈ L, rightS f.name = true
theorem rt_ins {L : List Fa} {f : Fa} (h : RtL L) (hf : rightS f.name = true) : RtL (insA f L) := fun g hg => by
  rcases mem_insA hg with h1 | h1
  · rw [h1]; exact hf
  · exact h g h1
theorem rt_del {L : List Fa} (h : RtL L) (t : List UInt8) : RtL (delA L t) := fun g hg => h g (delA_mem hg).1
theorem rt_step {A : Ak} (h : RtL A.fs) : RtL (stepA A).fs := by rw [stepA_fs]; exact h
theorem rt_to {A : Ak} (h : RtL A.fs) {L : List Fa} (hL : RtL L) : RtL (stepTo A L).1.fs := by
  unfold stepTo
  split
  · exact rt_step h
  · exact hL
theorem doA_right {A : Ak} (h : RtL A.fs) (o : Oa) : RtL (doA A o).1.fs := by
  have hm : ∀ {nm : List UInt8} {f : Fa}, getA A.fs nm = some f → rightS f.name = true := fun hf => h _ (getA_mem hf).1
  unfold doA
  split
  · show RtL (createA A o.nm).1.fs
    unfold createA
    by_cases h1 : barA A [o.nm] = 0
    · rw [if_neg (by omega)]
      split
      · exact h
      · split
        · exact h
        · split
          · exact rt_step h
          · exact rt_ins h ((bar_right h1).2 _ (List.mem_singleton.2 rfl))
    · rw [if_pos h1]; exact h
  · split
    · show RtL (appendA A o.nm o.lb).1.fs
      unfold appendA
      exact foundA_ok (P := fun r : Ak × Nat => RtL r.1.fs) (fun e => h) (fun f hf _ => by
        split
        · exact h
        · exact rt_ins (f := ⟨f.name, _, _⟩) h (show rightS f.name = true from hm hf))
    · split
      · exact foundA_ok (P := fun r : Ak × Nat => RtL r.1.fs) (fun e => h) (fun f hf _ => rt_to h (rt_ins (f := ⟨f.name, _, _⟩) h (show rightS f.name = true from hm hf)))
      · split
        · show RtL (renameA A o.nm o.to).1.fs
          unfold renameA
          by_cases h1 : barA A [o.nm, o.to] = 0
          · rw [if_neg (by omega)]
            exact foundA_ok (P := fun r : Ak × Nat => RtL r.1.fs) (fun e => h) (fun f hf _ => rt_to h (rt_ins (f := ⟨o.to, _, _⟩) (rt_del h _) ((bar_right h1).2 _ (by simp))))
          · rw [if_pos h1]; exact h
        · split
          · exact foundA_ok (P := fun r : Ak × Nat => RtL r.1.fs) (fun e => h) (fun f hf _ => rt_to h (rt_del h _))
          · split
            · exact foundA_ok (P := fun r : Ak × Nat => RtL r.1.fs) (fun e => h) (fun f hf _ => by
                split
                · exact h
                · exact rt_to h (rt_ins (f := ⟨f.name, _, _⟩) h (show rightS f.name = true from hm hf)))
            · split
              · exact foundA_ok (P := fun r : Ak × List Nat × Nat => RtL r.1.fs) (fun e => h) (fun f hf _ => by
                  split
                  · exact h
                  · exact h)
              · split
                · exact h
                · split
                  · intro g hg
                    obtain ⟨f, hf, k, e⟩ := lose_mem (show g ∈ loseA A.fs o.ks from hg)
                    rw [e]; exact h f hf
                  · split
                    · exact h
                    · exact h
theorem ins_last {f : Fa} : ∀ {P : List Fa}, (∀ g ∈ P, g.name < f.name) → insA f P = P ++ [f]
  | [], _ => rfl
  | g :: r, h => by
    have h1 := h g (by simp)
    unfold insA
    rw [if_neg (fun h3 => lt_irr _ (lt_tr h3 h1)), if_neg (fun h3 => by rw [h3] at h1; exact lt_irr _ h1), ins_last (fun x hx => h x (by simp [hx]))]
    rfl
def feOf (f : Fa) : Fe := ⟨f.name, f.l, (f.s : Int)⟩
theorem used_app (P R : List Fa) : usedA (P ++ R) = usedA P + usedA R := by unfold usedA; rw [List.map_append, List.sum_append]
theorem mnt_sorted : ∀ (R P : List Fa) (A : Ak), SortA (P ++ R) → RtL R → (∀ f ∈ R, f.s ≤ f.l.length) → (usedA (P ++ R) : Int) ≤ A.room → mntA (A.put P) (R.map feOf) = (0, A.put (P ++ R))
  | [], P, A, _, _, _, _ => by rw [List.append_nil]; rfl
  | f :: R, P, A, hs, hr, hsf, hu => by
    have hlt : ∀ g ∈ P, g.name < f.name := fun g hg => (List.pairwise_append.1 hs).2.2 g hg f (by simp)
    have hn : getA P f.name = none := getA_none.2 (fun g hg e => by have := hlt g hg; rw [e] at this; exact lt_irr _ this)
    have hfs := hsf f (by simp)
    have hu2 : (usedA P : Int) + f.l.length ≤ A.room := by rw [used_app, usedA_cons] at hu; omega
    have he : mntE (A.put P) (feOf f) = 0 := by
      unfold mntE
      rw [if_neg (by show ¬ rightS f.name = false; rw [hr f (by simp)]; simp), if_neg (by show ¬ (getA P f.name).isSome = true; rw [hn]; simp), if_neg (by show ¬ ((f.s : Int) < 0 ∨ (f.l.length : Int) < (f.s : Int)); omega), if_neg (by show ¬ A.room - (usedA P : Nat) < (f.l.length : Int); omega)]
    rw [List.map_cons]
    show (if mntE (A.put P) (feOf f) ≠ 0 then _ else mntA ((A.put P).put (insA ⟨f.name, f.l, ((f.s : Nat) : Int).toNat⟩ P)) (R.map feOf)) = _
    rw [if_neg (by rw [he]; simp), Int.toNat_natCast, ins_last hlt]
    have h2 := mnt_sorted R (P ++ [f]) A (by rw [List.append_assoc]; exact hs) (fun g hg => hr g (by simp [hg])) (fun g hg => hsf g (by simp [hg])) (by rw [List.append_assoc]; exact hu)
    rw [List.append_assoc] at h2
    exact h2
theorem mount_same {A : Ak} {room : Int} (h : AkOk A) (hr : RtL A.fs) (hroom : A.room = roomI room) : mountA room (A.fs.map feOf) = (0, (newD room).ab.put A.fs) := by
  unfold mountA
  rw [if_neg (by rw [List.length_map]; have := h.few; omega)]
  exact mnt_sorted A.fs [] (newD room).ab h.sort hr h.safe (by have := h.used; rw [hroom] at this; exact this)
theorem im_fe {w : World} {base : Nat} {a : Option Addr} {m c : Nat} {X : List (Fa × Value)} (h : OwnIm w base (.slice a m c) X) (hn : ∀ p ∈ X, p.1.name.length ≤ 24 ∧ p.1.l.length ≤ 140737488351232 ∧ p.1.s ≤ p.1.l.length) : FeA w a (X.map (fun p => (feOf p.1, p.2))) := by
  have hfl : FlsA w a X := by
    obtain ⟨a2, c2, e, h2, _⟩ := h.fls
    injection e with e1 e2 e3
    subst e1
    exact h2
  refine ⟨?_, fun p hp => ?_⟩
  · rcases hfl.lie with h1 | ⟨b, off, h1, h2, h3⟩
    · left; rw [h1]; rfl
    · refine .inr ⟨b, off, h1, h2, fun k p hp j v hj => ?_⟩
      rw [List.getElem?_map] at hp
      cases hx : X[k]? with
      | none => rw [hx] at hp; cases hp
      | some x =>
        rw [hx] at hp
        simp only [Option.map_some, Option.some.injEq] at hp
        subst hp
        have hk : k < X.length := (List.getElem?_eq_some_iff.1 hx).1
        obtain ⟨f0, f1, f2⟩ := imfl_get X k x hx
        match j, hj with
        | 0, hj => rw [Nat.add_zero, h3 (k * 3) (by omega), f0]; exact hj
        | 1, hj => rw [show off + k * 3 + 1 = off + (k * 3 + 1) from by omega, h3 (k * 3 + 1) (by omega), f1]; exact hj
        | 2, hj => rw [show off + k * 3 + 2 = off + (k * 3 + 2) from by omega, h3 (k * 3 + 2) (by omega), f2]; exact hj
        | j + 3, hj => simp at hj
  · obtain ⟨x, hx, rfl⟩ := List.mem_map.1 hp
    obtain ⟨a2, c2, e1, e2, _⟩ := hfl.byt x hx
    obtain ⟨n1, n2, n3⟩ := hn x hx
    exact ⟨⟨a2, c2, e1, e2⟩, by show x.1.name.length ≤ _; omega, n2, by show -9223372036854775808 ≤ (x.1.s : Int); omega, by show (x.1.s : Int) ≤ _; omega⟩
theorem down_A {x : World} {base q b : Nat} {A : Ak} (h : DA x base q b A) : Calls Try.prog 34 #[.pointer (some ⟨q, 0, none⟩)] x fun r x' => r = .returned (.bool A.off) ∧ x = x' := by
  obtain ⟨D, hd, rfl⟩ := h; exact down_any x base q b D hd
theorem steps_A {x : World} {base q b : Nat} {A : Ak} (h : DA x base q b A) : Calls Try.prog 37 #[.pointer (some ⟨q, 0, none⟩)] x fun r x' => r = .returned (.int .i64 A.steps) ∧ x = x' := by
  obtain ⟨D, hd, rfl⟩ := h; exact steps_any x base q b D hd
theorem image_n {x : World} {base q b : Nat} {A : Ak} (h : DA x base q b A) (ok : AkOk A) (m : Nat) (hm : A.fs.length = m) : Calls Try.prog 24 #[.pointer (some ⟨q, 0, none⟩)] x fun r x' => ∃ a c X, r = .returned (.slice a m c) ∧ OwnIm x' x.heap.size (.slice a m c) X ∧ X.map Prod.fst = A.fs ∧ X.length = m ∧ FlsA x' a X ∧ Below x.heap.size x x' := by
  refine (image_F h.df ok).mono (fun r x' ⟨v, X, e, hi, hx, hb⟩ => ?_)
  have hl : X.length = m := by rw [← hm, ← hx, List.length_map]
  obtain ⟨a, c, e2, h2, _⟩ := hi.fls
  rw [hl] at e2
  subst e2
  exact ⟨a, c, X, e, hi, hx, hl, h2, hb⟩
end Go.Proofs.Ytlnhhgmdajbepaa
