/- Own texts, joined: Tlh. -/
import Derived.Test.YtbdgiecnhgiogaaK09
import Derived.Defers
import Derived.Recover
import Derived.Laws.Pointers
namespace Go.Proofs.Ytbdgiecnhgiogaa
open Go.ChangeShapes Go.WideShapes Go.ChangeAt Go.RowKit
set_option linter.unusedVariables false
theorem own_nil (w : World) (base : Nat) : Own w base (.slice none 0 0) [] := ⟨by simp, World.ownsRow_nil w base _ 1⟩
theorem field_any (l : List Nat) (b off n cap i c : Nat) (ahead : Int) (w : World) (hc : CurAt w c (some ⟨b, off, none⟩) n cap i) (hn : l.length = n) (hb : Bytes w (some ⟨b, off, none⟩) l) (hbc : b ≠ c) (hcap : n ≤ cap) (hl : n ≤ 1024) (hi : i ≤ n) :
    Calls Try.prog 40 #[.pointer (some ⟨c, 0, none⟩), .int .i64 ahead] w fun r w' =>
      ((∃ F sz bv, next (l.drop i) ahead = (F, sz, 0) ∧ r = .returned (FV F.tag F.text F.num bv) ∧ Own w' w.heap.size bv F.bytes ∧ CurAt w' c (some ⟨b, off, none⟩) n cap (i + sz)) ∨ (∃ e : Nat, e ≠ 0 ∧ (next (l.drop i) ahead).2.2 = e ∧ r = errP e)) ∧ Kept c c w w' := by
  have hmem : ∀ j, ∀ x ∈ l.drop j, x < 256 := fun j x hx => hb.mem x (List.mem_of_mem_drop hx)
  rcases hd : dec 0 0 (l.drop i) with ⟨k, n1, e1⟩
  by_cases he1 : e1 = 0
  · subst he1
    have d1 := vdec_form (l.drop i) (hmem i) (by rw [hd])
    rw [hd] at d1
    simp only [List.length_drop, hn] at d1
    obtain ⟨a1, a2, a3, a4, a5⟩ := d1
    rcases hd2 : dec 0 0 (l.drop (i + n1)) with ⟨u, m, e2⟩
    have hd2' : dec 0 0 ((l.drop i).drop n1) = (u, m, e2) := by rw [List.drop_drop]; exact hd2
    have hx := next_two (l.drop i) ahead k n1 u m e2 hd hd2'
    unfold nextR at hx
    by_cases c1 : k < 2 ∨ 63 < k
    · rw [if_pos c1] at hx
      have he : (next (l.drop i) ahead).2.2 = 20 := by rw [hx]; rfl
      rcases c1 with c1 | c1
      · exact (field_tagA l b off n cap i k n1 c ahead w hc hn hb hbc hcap hl hi hd c1 a4).mono fun _ _ ⟨h1, h2⟩ => ⟨.inr ⟨20, by omega, he, h1⟩, h2⟩
      · exact (field_tagB l b off n cap i k n1 c ahead w hc hn hb hbc hcap hl hi hd c1 a4).mono fun _ _ ⟨h1, h2⟩ => ⟨.inr ⟨20, by omega, he, h1⟩, h2⟩
    rw [if_neg c1] at hx
    by_cases c2 : ((k / 2 : Nat) : Int) ≤ ahead
    · rw [if_pos c2] at hx
      have he : (next (l.drop i) ahead).2.2 = 21 := by rw [hx]; rfl
      exact (field_ord l b off n cap i k n1 c ahead w hc hn hb hbc hcap hl hi hd (by omega) (by omega) c2).mono fun _ _ ⟨h1, h2⟩ => ⟨.inr ⟨21, by omega, he, h1⟩, h2⟩
    rw [if_neg c2] at hx
    obtain ⟨T, hT⟩ : ∃ T, k / 2 = T := ⟨_, rfl⟩
    have hTk : (k : Int) / 2 = (T : Int) := by omega
    rw [hT] at hx c2
    have hodd : ((k : Int) % 2 == 1) = false ∨ ((k : Int) % 2 == 1) = true := by cases ((k : Int) % 2 == 1) <;> simp
    by_cases c3 : e2 = 0
    · subst c3
      rw [if_neg (by simp)] at hx
      have d2 := vdec_form (l.drop (i + n1)) (hmem _) (by rw [hd2])
      rw [hd2] at d2
      simp only [List.length_drop, hn] at d2
      obtain ⟨b1, b2, b3, b4, b5⟩ := d2
      by_cases c4 : u = 0
      · subst c4
        rw [if_pos rfl] at hx
        have he : (next (l.drop i) ahead).2.2 = 22 := by rw [hx]; rfl
        rcases hodd with hp | hp
        · exact (field_zeroN l b off n cap i k n1 T m c ahead w hc hn hb hbc hcap hl hi hd hTk hp (by omega) (by omega) (by omega) (by omega) hd2).mono fun _ _ ⟨h1, h2⟩ => ⟨.inr ⟨22, by omega, he, h1⟩, h2⟩
        · exact (field_zeroT l b off n cap i k n1 T m c ahead w hc hn hb hbc hcap hl hi hd hTk hp (by omega) (by omega) (by omega) (by omega) hd2).mono fun _ _ ⟨h1, h2⟩ => ⟨.inr ⟨22, by omega, he, h1⟩, h2⟩
      rw [if_neg c4] at hx
      by_cases c5 : k % 2 = 0
      · rw [if_pos c5] at hx
        have hp : ((k : Int) % 2 == 1) = false := by simp; omega
        refine (field_num l b off n cap i k n1 T u m c ahead w hc hn hb hbc hcap hl hi hd hTk hp (by omega) (by omega) (by omega) (by omega) c4 b4 hd2).mono ?_
        rintro r w' ⟨h1, h2, h3⟩
        exact ⟨.inl ⟨_, _, _, hx, h1, own_nil _ _, by rw [← Nat.add_assoc]; exact h2⟩, h3⟩
      rw [if_neg c5] at hx
      have hp : ((k : Int) % 2 == 1) = true := by simp; omega
      by_cases c6 : 200 < u
      · rw [if_pos c6] at hx
        have he : (next (l.drop i) ahead).2.2 = 23 := by rw [hx]; rfl
        exact (field_long l b off n cap i k n1 T u m c ahead w hc hn hb hbc hcap hl hi hd hTk hp (by omega) (by omega) (by omega) (by omega) c4 b4 hd2 (by omega) c6).mono fun _ _ ⟨h1, h2⟩ => ⟨.inr ⟨23, by omega, he, h1⟩, h2⟩
      rw [if_neg c6] at hx
      by_cases c7 : (l.drop i).length < n1 + m + u
      · rw [if_pos c7] at hx
        have he : (next (l.drop i) ahead).2.2 = 10 := by rw [hx]; rfl
        rw [List.length_drop, hn] at c7
        exact (field_short l b off n cap i k n1 T u m c ahead w hc hn hb hbc hcap hl hi hd hTk hp (by omega) (by omega) (by omega) (by omega) c4 b4 hd2 (by omega) c6 (by omega)).mono fun _ _ ⟨h1, h2⟩ => ⟨.inr ⟨10, by omega, he, h1⟩, h2⟩
      rw [if_neg c7] at hx
      rw [List.length_drop, hn] at c7
      refine (field_text l b off n cap i k n1 T u m c ahead w hc hn hb hbc hcap hl hi hd hTk hp (by omega) (by omega) (by omega) (by omega) c4 b4 hd2 (by omega) c6 (by omega)).mono ?_
      rintro r w' ⟨bv, h1, h2, h3, h4⟩
      refine ⟨.inl ⟨_, _, bv, hx, h1, ?_, ?_⟩, h4⟩
      · show Own w' w.heap.size bv (((l.drop i).drop (n1 + m)).take u)
        rw [List.drop_drop, ← Nat.add_assoc]; exact h2
      · rw [← Nat.add_assoc, ← Nat.add_assoc]; exact h3
    · rw [if_pos c3] at hx
      have hz := dec_zero 0 0 (l.drop (i + n1)) (by rw [hd2]; exact c3)
      rw [hd2] at hz
      simp only at hz
      obtain ⟨rfl, rfl⟩ := hz
      have he : (next (l.drop i) ahead).2.2 = e2 := by rw [hx]; rfl
      rcases hodd with hp | hp
      · exact (field_bad2N l b off n cap i k n1 T e2 c ahead w hc hn hb hbc hcap hl hi hd hTk hp (by omega) (by omega) (by omega) (by omega) c3 hd2).mono fun _ _ ⟨h1, h2⟩ => ⟨.inr ⟨e2, c3, he, h1⟩, h2⟩
      · exact (field_bad2T l b off n cap i k n1 T e2 c ahead w hc hn hb hbc hcap hl hi hd hTk hp (by omega) (by omega) (by omega) (by omega) c3 hd2).mono fun _ _ ⟨h1, h2⟩ => ⟨.inr ⟨e2, c3, he, h1⟩, h2⟩
  · have hz := dec_zero 0 0 (l.drop i) (by rw [hd]; exact he1)
    rw [hd] at hz
    simp only at hz
    obtain ⟨rfl, rfl⟩ := hz
    have he : (next (l.drop i) ahead).2.2 = e1 := by rw [next_bad _ _ _ _ _ hd he1]; rfl
    exact (field_bad1 l b off n cap i e1 c ahead w hc hn hb hbc hcap hl hi he1 hd).mono fun _ _ ⟨h1, h2⟩ => ⟨.inr ⟨e1, he1, he, h1⟩, h2⟩
end Go.Proofs.Ytbdgiecnhgiogaa
