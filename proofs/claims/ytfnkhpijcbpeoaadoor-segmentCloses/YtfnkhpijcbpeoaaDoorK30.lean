/- Own texts, joined: MkD. -/
import Derived.Test.YtfnkhpijcbpeoaaDoorK29
namespace Go.Proofs.YtfnkhpijcbpeoaaDoor
open Go.ChangeShapes Go.WideShapes Go.ChangeAt Go.RowKit
set_option linter.unusedVariables false
theorem decN_len : ∀ (c : Nat) (l : List Nat) (p : Nat) (acc : List Nat), (vdecN c l p acc).2.2 = 0 → (vdecN c l p acc).1.length = acc.length + c
  | 0, l, p, acc, h => rfl
  | c + 1, l, p, acc, h => by
    obtain ⟨u, k, e, hd⟩ : ∃ u k e, dec 0 0 (l.drop p) = (u, k, e) := ⟨_, _, _, rfl⟩
    rw [decN_succ c l p acc u k e hd] at h ⊢
    by_cases he : e = 0
    · rw [if_pos he] at h ⊢
      rw [decN_len c l (p + k) (acc ++ [u]) h, List.length_append]
      simp only [List.length_cons, List.length_nil]
      omega
    · rw [if_neg he] at h
      exact absurd h he
theorem decAll_len {l U : List Nat} {p : Nat} (h : decAll l 1024 = (U, p, 0)) : U.length ≤ 1024 := by
  unfold decAll at h
  split at h
  · rename_i h1
    have h2 := congrArg (fun x => x.2.2) h
    exact absurd h2 h1
  · split at h
    · cases h
    · rename_i h1 h2
      have h3 := decN_len (dec 0 0 l).1 l (dec 0 0 l).2.1 [] (by rw [h])
      rw [h] at h3
      simp only [List.length_nil] at h3
      have : (1024 : Int).toNat = 1024 := rfl
      omega
theorem mDec_bad {l U : List Nat} {p e : Nat} (h : decAll l 1024 = (U, p, e)) (he : e ≠ 0) : mDec l = ([], e) := by
  unfold mDec
  rw [h]
  simp only
  rw [if_pos he]
theorem mDec_eq {l U : List Nat} {p : Nat} (h : decAll l 1024 = (U, p, 0)) : mDec l = if p ≠ l.length ∨ (mksR U).2 = false ∨ validB (mksR U).1 = false then ([], 70) else ((mksR U).1, 0) := by
  unfold mDec mksR
  rw [h]
  simp only
  rw [if_neg (by simp)]
  by_cases h1 : p ≠ l.length
  · rw [if_pos (.inl h1), if_pos (.inl h1)]
  · by_cases h2 : U.length % 2 = 1
    · rw [if_pos (.inr h2), if_pos h2]
      simp
    · have h3 : ¬ (p ≠ l.length ∨ U.length % 2 = 1) := fun h => h.elim h1 h2
      rw [if_neg h3, if_neg h2]
      have h4 : p = l.length := by simpa using h1
      cases mkN [] 0 0 U with
      | none => simp
      | some M => by_cases hv : validB M = true <;> simp [hv, h4]
theorem nums_of {w : World} {base : Nat} {v : Value} {U : List Nat} (h : Own64 w base v U) (n : Nat) (hn : U.length = n) : ∃ a c, v = .slice a n c ∧ Nums w a U := by
  obtain ⟨a, c, h1, h2⟩ := h.slice
  exact ⟨a, c, by rw [h1, hn], h2⟩
theorem marks_of {w : World} {base : Nat} {v : Value} {L : List Mk} (h : OwnM w base v L) (n : Nat) (hn : L.length = n) : ∃ a c, v = .slice a n c ∧ Marks w a L ∧ n ≤ maxLen := by
  obtain ⟨a, c, h1, h2, h3, h4, _⟩ := h.shape
  exact ⟨a, c, by rw [h1, hn], h4, by omega⟩
set_option maxRecDepth 20000 in
set_option maxHeartbeats 4000000 in
theorem idec_any (l : List Nat) (n : Nat) (a : Option Addr) (cap : Nat) (w : World) (hn : l.length = n) (hb : Bytes w a l) (hcap : n ≤ cap) (hl : n ≤ 140737488351232) :
    Calls Tryd.prog 18 #[.slice a n cap] w fun e w' => ∃ v, e = .returned (.tuple #[v, .int .i64 (mDec l).2]) ∧ OwnM w' w.heap.size v (mDec l).1 ∧ Below w.heap.size w w' := by
  obtain ⟨U, p, e, hd⟩ : ∃ U p e, decAll l 1024 = (U, p, e) := ⟨_, _, _, rfl⟩
  have HD : Hid (decAll l 1024 = (U, p, e)) := hd
  have HX : Hid (l.length = n ∧ Bytes w a l ∧ n ≤ cap ∧ n ≤ 140737488351232) := ⟨hn, hb, hcap, hl⟩
  by_cases he : e = 0
  · subst he
    have hu := decAll_len hd
    have HE : Hid (mDec l = if p ≠ l.length ∨ (mksR U).2 = false ∨ validB (mksR U).1 = false then ([], 70) else ((mksR U).1, 0)) := mDec_eq hd
    have HN : Hid (l.length = n) := hn
    obtain ⟨m, hm⟩ : ∃ m, U.length = m := ⟨_, rfl⟩
    have HM : Hid (U.length = m) := hm
    obtain ⟨K, hK⟩ : ∃ K, (mksR U).1.length = K := ⟨_, rfl⟩
    have HK : Hid ((mksR U).1.length = K) := hK
    rw [hm] at hu
    cases hok : (mksR U).2 with
    | false =>
      have HOK : Hid ((mksR U).2 = false) := hok
      have HR : Hid (mDec l = ([], 70)) := by show _ = _; rw [HE.out, if_pos (.inr (.inl hok))]
      by_cases hpn : p = n
      · have hq : ((p : Int) != (n : Int)) = false := by simp [hpn]
        clear hd hn hb hm hK hpn hl hcap
        go_enter Tryd.func18, Tryd.ntmps18
        go_wp2_with (first
          | (go_at_call 39; refine (decAll_any l 1024 _ _ _ _ HX.out.1 HX.out.2.1 HX.out.2.2.1 HX.out.2.2.2 (by omega) (by omega) (by omega)).mono ?_; rw [HD.out]; rintro x w1 ⟨v1, rfl, ho1, hb1⟩; obtain ⟨a1, c1, rfl, hnm1⟩ := nums_of ho1 m HM.out; clear ho1; have hs1 := hb1.size)
          | (go_at_call 40; refine (marks_any U _ _ _ _ HM.out hnm1 (by omega)).mono ?_; rw [HOK.out]; rintro x w2 ⟨v2, rfl, ho2, hb2⟩; obtain ⟨a2, c2, rfl, hmk2, hln2⟩ := marks_of ho2 K HK.out; clear ho2; have hb2w := below_next hb1 hb2))
        go_ret2
        rw [HR.out]
        exact ⟨_, rfl, OwnM.nil _ _, hb2w⟩
      · have hq : ((p : Int) != (n : Int)) = true := by simp; omega
        clear hd hn hb hm hK hpn hl hcap
        go_enter Tryd.func18, Tryd.ntmps18
        go_wp2_with (first
          | (go_at_call 39; refine (decAll_any l 1024 _ _ _ _ HX.out.1 HX.out.2.1 HX.out.2.2.1 HX.out.2.2.2 (by omega) (by omega) (by omega)).mono ?_; rw [HD.out]; rintro x w1 ⟨v1, rfl, ho1, hb1⟩; obtain ⟨a1, c1, rfl, hnm1⟩ := nums_of ho1 m HM.out; clear ho1; have hs1 := hb1.size)
          | (go_at_call 40; refine (marks_any U _ _ _ _ HM.out hnm1 (by omega)).mono ?_; rw [HOK.out]; rintro x w2 ⟨v2, rfl, ho2, hb2⟩; obtain ⟨a2, c2, rfl, hmk2, hln2⟩ := marks_of ho2 K HK.out; clear ho2; have hb2w := below_next hb1 hb2))
        go_ret2
        rw [HR.out]
        exact ⟨_, rfl, OwnM.nil _ _, hb2w⟩
    | true =>
      have HOK : Hid ((mksR U).2 = true) := hok
      by_cases hpn : p = n
      · have hq : ((p : Int) != (n : Int)) = false := by simp [hpn]
        cases hvb : validB (mksR U).1 with
        | false =>
          have HV : Hid (validB (mksR U).1 = false) := hvb
          have HR : Hid (mDec l = ([], 70)) := by show _ = _; rw [HE.out, if_pos (.inr (.inr hvb))]
          clear hd hn hb hm hK hpn hl hcap
          go_enter Tryd.func18, Tryd.ntmps18
          go_wp2_with (first
            | (go_at_call 39; refine (decAll_any l 1024 _ _ _ _ HX.out.1 HX.out.2.1 HX.out.2.2.1 HX.out.2.2.2 (by omega) (by omega) (by omega)).mono ?_; rw [HD.out]; rintro x w1 ⟨v1, rfl, ho1, hb1⟩; obtain ⟨a1, c1, rfl, hnm1⟩ := nums_of ho1 m HM.out; clear ho1; have hs1 := hb1.size)
            | (go_at_call 40; refine (marks_any U _ _ _ _ HM.out hnm1 (by omega)).mono ?_; rw [HOK.out]; rintro x w2 ⟨v2, rfl, ho2, hb2⟩; obtain ⟨a2, c2, rfl, hmk2, hln2⟩ := marks_of ho2 K HK.out; clear ho2; have hb2w := below_next hb1 hb2)
            | (go_at_call 41; refine (valid_any (mksR U).1 _ _ _ _ HK.out hmk2 hln2).mono ?_; rw [HV.out]; rintro x w3 ⟨rfl, hb3⟩; have hb3w := below_next hb2w hb3))
          go_ret2
          rw [HR.out]
          exact ⟨_, rfl, OwnM.nil _ _, hb3w⟩
        | true =>
          have HV : Hid (validB (mksR U).1 = true) := hvb
          have HR : Hid (mDec l = ((mksR U).1, 0)) := by show _ = _; rw [HE.out, if_neg (by rw [hok, hvb, hn, hpn]; simp)]
          clear hd hn hb hm hK hpn hl hcap
          go_enter Tryd.func18, Tryd.ntmps18
          go_wp2_with (first
            | (go_at_call 39; refine (decAll_any l 1024 _ _ _ _ HX.out.1 HX.out.2.1 HX.out.2.2.1 HX.out.2.2.2 (by omega) (by omega) (by omega)).mono ?_; rw [HD.out]; rintro x w1 ⟨v1, rfl, ho1, hb1⟩; obtain ⟨a1, c1, rfl, hnm1⟩ := nums_of ho1 m HM.out; clear ho1; have hs1 := hb1.size)
            | (go_at_call 40; refine (marks_any U _ _ _ _ HM.out hnm1 (by omega)).mono ?_; rw [HOK.out]; rintro x w2 ⟨v2, rfl, ho2, hb2⟩; have HO2 : Hid (OwnM w2 w1.heap.size v2 (mksR U).1) := ho2; obtain ⟨a2, c2, rfl, hmk2, hln2⟩ := marks_of ho2 K HK.out; clear ho2; have hb2w := below_next hb1 hb2)
            | (go_at_call 41; refine (valid_any (mksR U).1 _ _ _ _ HK.out hmk2 hln2).mono ?_; rw [HV.out]; rintro x w3 ⟨rfl, hb3⟩; have hb3w := below_next hb2w hb3; have HO3 : Hid (OwnM w3 w.heap.size (.slice a2 K c2) (mksR U).1) := World.ownsRow.mono (own_below HO2.out hb3) hs1))
          go_ret2
          rw [HR.out]
          exact ⟨_, rfl, HO3.out, hb3w⟩
      · have hq : ((p : Int) != (n : Int)) = true := by simp; omega
        have HR : Hid (mDec l = ([], 70)) := by show _ = _; rw [HE.out, if_pos (.inl (by rw [hn]; exact hpn))]
        clear hd hn hb hm hK hpn hl hcap
        go_enter Tryd.func18, Tryd.ntmps18
        go_wp2_with (first
          | (go_at_call 39; refine (decAll_any l 1024 _ _ _ _ HX.out.1 HX.out.2.1 HX.out.2.2.1 HX.out.2.2.2 (by omega) (by omega) (by omega)).mono ?_; rw [HD.out]; rintro x w1 ⟨v1, rfl, ho1, hb1⟩; obtain ⟨a1, c1, rfl, hnm1⟩ := nums_of ho1 m HM.out; clear ho1; have hs1 := hb1.size)
          | (go_at_call 40; refine (marks_any U _ _ _ _ HM.out hnm1 (by omega)).mono ?_; rw [HOK.out]; rintro x w2 ⟨v2, rfl, ho2, hb2⟩; obtain ⟨a2, c2, rfl, hmk2, hln2⟩ := marks_of ho2 K HK.out; clear ho2; have hb2w := below_next hb1 hb2))
        go_ret2
        rw [HR.out]
        exact ⟨_, rfl, OwnM.nil _ _, hb2w⟩
  · have HR : Hid (mDec l = ([], e)) := mDec_bad hd he
    have heb : ((e : Int) != 0) = true := by simp; omega
    clear hd hn hb he hl hcap
    go_enter Tryd.func18, Tryd.ntmps18
    go_wp2_with (go_at_call 39; refine (decAll_any l 1024 _ _ _ _ HX.out.1 HX.out.2.1 HX.out.2.2.1 HX.out.2.2.2 (by omega) (by omega) (by omega)).mono ?_; rw [HD.out]; rintro x w1 ⟨v1, rfl, ho1, hb1⟩)
    go_ret2
    rw [HR.out]
    exact ⟨_, rfl, OwnM.nil _ _, hb1⟩
end Go.Proofs.YtfnkhpijcbpeoaaDoor
