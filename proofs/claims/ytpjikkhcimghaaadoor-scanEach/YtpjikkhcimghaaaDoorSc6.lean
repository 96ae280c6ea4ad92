/- The reference's All. -/
import Derived.Test.YtpjikkhcimghaaaDoorSc5
import Derived.Test.YtpjikkhcimghaaaDoorFr9
namespace Go.Proofs.YtpjikkhcimghaaaDoor
open Go.ChangeShapes Go.WideShapes Go.ChangeAt Go.RowKit Go.Shelf
set_option linter.unusedVariables false
attribute [local go_sem] Oper.semAt_some
/-- a slice of placed frames that is a call's own, their bodies too -/
def OwnP (w : World) (base : Nat) (v : Value) (xs : List It) : Prop := w.ownsRow base 34 5 v xs.length (pflt xs) ∧ ∀ x ∈ xs, Own w base x.bv x.fm.body
theorem OwnP.below {W W' : World} {base : Nat} {v : Value} {xs : List It} (h : OwnP W base v xs) (hb : Below W.heap.size W W') : OwnP W' base v xs :=
  ⟨own_below h.1 hb, fun x hx => ⟨(h.2 x hx).1, own_below (h.2 x hx).2 hb⟩⟩
theorem OwnP.drew {W : World} {base : Nat} {v : Value} {xs : List It} (h : OwnP W base v xs) : OwnP W.drew base v xs := h
theorem OwnP.mono {W : World} {base base' : Nat} {v : Value} {xs : List It} (h : OwnP W base v xs) (hb : base' ≤ base) : OwnP W base' v xs :=
  ⟨World.ownsRow.mono h.1 hb, fun x hx => ⟨(h.2 x hx).1, World.ownsRow.mono (h.2 x hx).2 hb⟩⟩
theorem OwnP.lit (w : World) : OwnP (w.alloc (.cells #[] 34)) w.heap.size (.slice (some ⟨w.heap.size, 0, none⟩) 0 0) [] := ⟨World.ownsRow_lit w #[] 0 (Nat.le_refl _) (by simp) rfl, fun x hx => by cases hx⟩
theorem OwnP.nil (w : World) (base : Nat) : OwnP w base (.slice none 0 0) [] := ⟨World.ownsRow_nil _ _ _ _, fun x hx => by cases hx⟩
theorem OwnP.shape {w : World} {base : Nat} {v : Value} {xs : List It} (h : OwnP w base v xs) : ∃ a c, v = .slice a xs.length c := row_shape h.1
theorem body_kept {W w5 : World} {base n base' : Nat} {v bv : Value} {xs : List Value} {l : List Nat} (ho : W.ownsRow base 34 5 v n xs) (hg : W.grownBy w5 v.ownBlock) (h : Own W base' bv l) : Own w5 base' bv l := by
  refine ⟨h.1, h.2.1, ?_⟩
  rcases h.2.2 with h2 | ⟨g, cap, cur, g3, g4, g5, g6⟩
  · exact .inl h2
  · refine .inr ⟨g, cap, cur, g3, g4, ?_, g6⟩
    rw [hg.block g (lt_of_heap g5) (fun e => ?_)]
    · exact g5
    · rcases ho.2 with ⟨rfl, _⟩ | ⟨g', cap', cur', rfl, _, hh, _⟩
      · simp [Value.ownBlock] at e
      · have : g = g' := by simpa [Value.ownBlock] using e
        subst this
        rw [g5] at hh
        cases hh
theorem OwnP.snoc {W w5 : World} {base : Nat} {v v' : Value} {xs : List It} {x : It} (h : OwnP W base v xs) (hx : Own W base x.bv x.fm.body) (hg : W.grownBy w5 v.ownBlock) (h5 : w5.ownsRow base 34 5 v' (xs.length + 1) (pflt xs ++ pflt [x])) : OwnP w5 base v' (xs ++ [x]) := by
  refine ⟨by rw [List.length_append, pflt_append]; exact h5, fun y hy => ?_⟩
  rcases List.mem_append.1 hy with hy | hy
  · exact body_kept h.1 hg (h.2 y hy)
  · simp at hy
    subst hy
    exact body_kept h.1 hg hx
set_option maxRecDepth 100000 in
set_option maxHeartbeats 4000000 in
theorem rall_any (l : List Nat) (m : Nat) (a : Option Addr) (cap : Nat) (w : World) (hm : l.length = m) (hb : Bytes w a l) (hcap : m ≤ cap) (hl : m ≤ 16777216) :
    Calls Tryd.prog 5 #[.slice a m cap] w fun e W' => ∃ (xs : List It) (v : Value), e = .returned (.tuple #[v, .int .i64 (endZ 0 (scanL l) : Int), .int .i64 (allE l : Int)]) ∧ xs.map It.fm = scanL l ∧ OwnP W' w.heap.size v xs ∧ Below w.heap.size w W' := by
  obtain ⟨i0, hi, hz0, hz1, hz2⟩ := info_parts Tryd.infoPl
  have HX : Hid (l.length = m ∧ Bytes w a l ∧ m ≤ cap) := ⟨hm, hb, hcap⟩
  have hmI : (m : Int) ≤ 16777216 := by omega
  clear hm hb hcap
  go_enter Tryd.func5, Tryd.ntmps5
  go_wp2
  go_loopw [5, 6] (fun vps vp wr => ∃ (v0 : Value) (pre : List It) (p k : Nat), v0 = vps ∧ vp = .int .i64 p ∧ p ≤ m ∧ pre.map It.fm ++ scanAt l p = scanL l ∧ p = endZ 0 (pre.map It.fm) ∧ pre.length = k ∧ 20 * k ≤ p ∧ OwnP wr w.heap.size v0 pre ∧ Below w.heap.size w wr) (fun _ vp _ => m - (intOf vp).toNat)
  case atStart => exact ⟨_, [], 0, 0, rfl, rfl, Nat.zero_le _, rfl, rfl, rfl, Nat.le_refl _, OwnP.lit w, (Below.refl _ _).alloc (Nat.le_refl _) _⟩
  case round =>
    obtain ⟨v0, pre, p, k, rfl, rfl, hp, hsc, hez, hk, hk20, hO, hbr⟩ := hrel
    have HSC : Hid (pre.map It.fm ++ scanAt l p = scanL l ∧ p = endZ 0 (pre.map It.fm) ∧ pre.length = k) := ⟨hsc, hez, hk⟩
    have HO : Hid (OwnP wr w.heap.size v0 pre) := hO
    clear hsc hez hk hO
    by_cases hpm : p < m
    · have hlp : p < l.length := by rw [HX.out.1]; exact hpm
      have hne : l ≠ [] := by intro h; rw [h] at hlp; simp at hlp
      obtain ⟨b, off, rfl, hlt, _⟩ := HX.out.2.1.nonempty hne
      obtain ⟨q, hq⟩ : ∃ q, l.drop p = q := ⟨_, rfl⟩
      have hql : q.length = m - p := by rw [← hq, List.length_drop, HX.out.1]
      have HQL : Hid (q.length = m - p ∧ q.length ≤ 281474976710656 ∧ q.length ≤ cap - p) := ⟨hql, by omega, by have := HX.out.2.2; omega⟩
      have HBQ : Hid (Bytes wr (some ⟨b, off + p, none⟩) q) := by show Bytes _ _ _; rw [← hq]; exact (HX.out.2.1.keep hbr).drop p
      have hpc : (p : Int) ≤ (cap : Int) := by have := HX.out.2.2; omega
      have hpn : (p : Int) ≤ (m : Int) := by omega
      have hpc2 : (p : Int) < (cap : Int) := by have := HX.out.2.2; omega
      have hpm2 : (p : Int) < (m : Int) := by omega
      obtain ⟨K, hK⟩ : ∃ K, decK q = K := ⟨_, rfl⟩
      obtain ⟨S, hS⟩ : ∃ S, decS q = S := ⟨_, rfl⟩
      obtain ⟨N, hN⟩ : ∃ N, decN q = N := ⟨_, rfl⟩
      obtain ⟨E, hE⟩ : ∃ E, decE q = E := ⟨_, rfl⟩
      obtain ⟨B, hB⟩ : ∃ B, decB q = B := ⟨_, rfl⟩
      have HV : Hid (∀ v, DV q v = .tuple #[FrV (K : Int) (S : Int) v, .int .i64 (N : Int), .int .i64 (E : Int)] ∧ decB q = B) := fun v => ⟨by rw [← hK, ← hS, ← hN, ← hE], hB⟩
      have hsz := hbr.size
      by_cases hE0 : E = 0
      · subst hE0
        have hdn := decN_pos hE
        have hN2 : 20 ≤ N ∧ p + N ≤ m ∧ N = B.length + 20 := by rw [← hN, ← hB]; omega
        have HST : Hid (scanAt l p = ⟨p, K, S, B⟩ :: scanAt l (p + N)) := by show _ = _; rw [scanAt_step l p hlp (by rw [hq]; exact hE), hq, hK, hS, hB, ← hN]
        obtain ⟨hN1, hN2, hN3⟩ := hN2
        subst hN3
        clear hq hql hK hS hN hE hB hdn hlp hne
        go_wp2_with (first
          | (go_at_call 12; refine (rfdec_any q _ _ _ _ HQL.out.1 HBQ.out HQL.out.2.1 HQL.out.2.2).mono ?_; rintro e w2 ⟨v2, rfl, ho2, hb2⟩; rw [(HV.out v2).1]; rw [(HV.out v2).2] at ho2; obtain ⟨a2, c2, hv2, _⟩ := ho2.shape; subst hv2; have HB4 : Hid (Below wr.heap.size wr ((w2.alloc (.cells #[.int .i64 (K : Int), .int .i64 (S : Int), .slice a2 B.length c2] 32)).alloc (.cells #[.int .i64 (p : Int), .int .i64 ((B.length : Int) + 20), .int .i64 (K : Int), .int .i64 (S : Int), .slice a2 B.length c2] 34))) := (hb2.alloc hb2.size _).alloc (by have := hb2.size; simp; omega) _; have HO4 : Hid (((w2.alloc (.cells #[.int .i64 (K : Int), .int .i64 (S : Int), .slice a2 B.length c2] 32)).alloc (.cells #[.int .i64 (p : Int), .int .i64 ((B.length : Int) + 20), .int .i64 (K : Int), .int .i64 (S : Int), .slice a2 B.length c2] 34)).ownsRow w.heap.size 34 5 v0 k (pflt pre)) := (by have h := own_below HO.out.1 HB4.out; rw [HSC.out.2.2] at h; exact h); have HX4 : Hid (Own ((w2.alloc (.cells #[.int .i64 (K : Int), .int .i64 (S : Int), .slice a2 B.length c2] 32)).alloc (.cells #[.int .i64 (p : Int), .int .i64 ((B.length : Int) + 20), .int .i64 (K : Int), .int .i64 (S : Int), .slice a2 B.length c2] 34)) w.heap.size (.slice a2 B.length c2) B) := ⟨ho2.1, World.ownsRow.alloc (World.ownsRow.alloc (World.ownsRow.mono ho2.2 hsz) _) _⟩; have HNW : Hid (∀ j u, [.int .i64 (p : Int), .int .i64 ((B.length : Int) + 20), .int .i64 (K : Int), .int .i64 (S : Int), .slice a2 B.length c2][j]? = some u → ((w2.alloc (.cells #[.int .i64 (K : Int), .int .i64 (S : Int), .slice a2 B.length c2] 32)).alloc (.cells #[.int .i64 (p : Int), .int .i64 ((B.length : Int) + 20), .int .i64 (K : Int), .int .i64 (S : Int), .slice a2 B.length c2] 34)).cell? ((⟨w2.heap.size + 1, 0, none⟩ : Addr).add j) = some u) := (by have h := cell_newL (w2.alloc (.cells #[.int .i64 (K : Int), .int .i64 (S : Int), .slice a2 B.length c2] 32)) [.int .i64 (p : Int), .int .i64 ((B.length : Int) + 20), .int .i64 (K : Int), .int .i64 (S : Int), .slice a2 B.length c2] 34; rw [World.size_alloc] at h; exact h); have HSZ : Hid (w.heap.size ≤ ((w2.alloc (.cells #[.int .i64 (K : Int), .int .i64 (S : Int), .slice a2 B.length c2] 32)).alloc (.cells #[.int .i64 (p : Int), .int .i64 ((B.length : Int) + 20), .int .i64 (K : Int), .int .i64 (S : Int), .slice a2 B.length c2] 34)).heap.size) := Nat.le_trans hsz HB4.out.size; clear ho2 hb2)
          | (at_builtin; refine wpList_append_own _ rfl _ _ 24 rfl w.heap.size 34 i0 (.agg #[.int .i64 0, .int .i64 0, .int .i64 0, .int .i64 0, .slice none 0 0]) 5 56 Tryd.underlying24 hi hz0 hz1 hz2 rfl (by decide) _ _ _ rfl HO4.out ⟨w2.heap.size + 1, 0, none⟩ 1 1 [.int .i64 (p : Int), .int .i64 ((B.length : Int) + 20), .int .i64 (K : Int), .int .i64 (S : Int), .slice a2 B.length c2] rfl rfl HNW.out (one5 _ _ _ _ _ _ _) (by unfold maxLen; omega) (by omega) HSZ.out ?_; intro v4 w5 ho5 hg5 _; have HO5 : Hid (OwnP w5 w.heap.size v4 (pre ++ [⟨⟨p, K, S, B⟩, .slice a2 B.length c2⟩])) := OwnP.snoc (HO.out.below HB4.out) HX4.out hg5 (by rw [HSC.out.2.2]; exact ho5); have HB5 : Hid (Below w.heap.size w w5) := grown_row (hbr.trans (HB4.out.mono hsz)) HO4.out HSZ.out hg5; clear ho5 hg5))
        go_roundw
        case rel => exact ⟨_, pre ++ [⟨⟨p, K, S, B⟩, .slice a2 B.length c2⟩], p + (B.length + 20), k + 1, rfl, by go_num, by omega, by rw [← HSC.out.1, HST.out]; simp, by rw [List.map_append, List.map_singleton, endF_snoc]; simp only; omega, by rw [List.length_append, HSC.out.2.2]; rfl, by omega, HO5.out, HB5.out⟩
        case measure => simp [intOf]; omega
      · have heb : ((E : Int) != 0) = true := by simp; omega
        have HFI : Hid (pre.map It.fm = scanL l) := by
          have h := HSC.out.1
          rw [scanAt_end l p (by rw [hq, hE]; exact fun h => hE0 h.2), List.append_nil] at h
          exact h
        have HEZ : Hid (endZ 0 (scanL l) = p) := by show _ = _; rw [← HFI.out]; exact HSC.out.2.1.symm
        have HAE : Hid (allE l = E) := by show _ = _; unfold allE; rw [HEZ.out, if_neg (by rw [HX.out.1]; omega), hq, hE]
        clear hq hql hK hS hN hE hB hlp hne hE0
        go_wp2_with (go_at_call 12; refine (rfdec_any q _ _ _ _ HQL.out.1 HBQ.out HQL.out.2.1 HQL.out.2.2).mono ?_; rintro e w2 ⟨v2, rfl, ho2, hb2⟩; rw [(HV.out v2).1]; rw [(HV.out v2).2] at ho2; obtain ⟨a2, c2, hv2, _⟩ := ho2.shape; subst hv2; have HB4 : Hid (Below wr.heap.size wr (w2.alloc (.cells #[.int .i64 (K : Int), .int .i64 (S : Int), .slice a2 B.length c2] 32))) := hb2.alloc hb2.size _; clear ho2 hb2)
        go_ret3
        exact ⟨pre, _, by rw [HEZ.out, HAE.out]; rfl, HFI.out, HO.out.below HB4.out, hbr.trans (HB4.out.mono hsz)⟩
    · have hpe : p = m := by omega
      subst hpe
      have HFI : Hid (pre.map It.fm = scanL l) := by
        have h := HSC.out.1
        rw [scanAt_end l p (by rw [HX.out.1]; exact fun h => hpm h.1), List.append_nil] at h
        exact h
      have HEZ : Hid (endZ 0 (scanL l) = p) := by show _ = _; rw [← HFI.out]; exact HSC.out.2.1.symm
      have HAE : Hid (allE l = 0) := by show _ = _; unfold allE; rw [HEZ.out, if_pos HX.out.1.symm]
      go_wp2
      go_ret3
      exact ⟨pre, _, by rw [HEZ.out, HAE.out]; rfl, HFI.out, HO.out, hbr⟩
end Go.Proofs.YtpjikkhcimghaaaDoor
