/- Own texts, joined: Sc6, Sc7, Apn, Fr7. -/
import Derived.Test.YtaegmeilhdbnnaaDoorJ05
import Derived.Test.YtaegmeilhdbnnaaDoorJ06
import Derived.Deep.RegionHeld3
import Derived.Test.YtaegmeilhdbnnaaDoorJ02
import Derived.Deep.AppendLies
import Derived.Laws.AppendOwnNone
import Derived.Deep.Onto
namespace Go.Proofs.YtaegmeilhdbnnaaDoor
open Go.ChangeShapes Go.WideShapes Go.ChangeAt Go.RowKit Go.Shelf
set_option linter.unusedVariables false
attribute [local go_sem] Oper.semAt_some
/-- a slice of placed frames that is a call's own, their bodies too -/
def OwnP (w : World) (base : Nat) (v : Value) (xs : List It) : Prop := w.ownsRow base 67 5 v xs.length (pflt xs) ∧ ∀ x ∈ xs, Own w base x.bv x.fm.body
theorem OwnP.below {W W' : World} {base : Nat} {v : Value} {xs : List It} (h : OwnP W base v xs) (hb : Below W.heap.size W W') : OwnP W' base v xs :=
  ⟨own_below h.1 hb, fun x hx => ⟨(h.2 x hx).1, own_below (h.2 x hx).2 hb⟩⟩
theorem OwnP.drew {W : World} {base : Nat} {v : Value} {xs : List It} (h : OwnP W base v xs) : OwnP W.drew base v xs := h
theorem OwnP.mono {W : World} {base base' : Nat} {v : Value} {xs : List It} (h : OwnP W base v xs) (hb : base' ≤ base) : OwnP W base' v xs :=
  ⟨World.ownsRow.mono h.1 hb, fun x hx => ⟨(h.2 x hx).1, World.ownsRow.mono (h.2 x hx).2 hb⟩⟩
theorem OwnP.lit (w : World) : OwnP (w.alloc (.cells #[] 67)) w.heap.size (.slice (some ⟨w.heap.size, 0, none⟩) 0 0) [] := ⟨World.ownsRow_lit w #[] 0 (Nat.le_refl _) (by simp) rfl, fun x hx => by cases hx⟩
theorem OwnP.nil (w : World) (base : Nat) : OwnP w base (.slice none 0 0) [] := ⟨World.ownsRow_nil _ _ _ _, fun x hx => by cases hx⟩
theorem OwnP.shape {w : World} {base : Nat} {v : Value} {xs : List It} (h : OwnP w base v xs) : ∃ a c, v = .slice a xs.length c := row_shape h.1
theorem body_kept {W w5 : World} {base n base' : Nat} {v bv : Value} {xs : List Value} {l : List Nat} (ho : W.ownsRow base 67 5 v n xs) (hg : W.grownBy w5 v.ownBlock) (h : Own W base' bv l) : Own w5 base' bv l := by
  refine ⟨h.1, h.2.1, ?_⟩
  rcases h.2.2 with h2 | ⟨g, cap, cur, g3, g4, g5, g6⟩
  · exact .inl h2
  · refine .inr ⟨g, cap, cur, g3, g4, ?_, g6⟩
    rw [hg.block g (lt_of_heap g5) (fun e => ?_)]
    · exact g5
    · rcases ho.2 with ⟨rfl, _⟩ | ⟨g', cap', cur', rfl, _, hh, _⟩
      · simp [Value.ownBlock] at e
      · have : g = g' := by simpa [Value.ownBlock] using e
        subst this
        rw [g5] at hh
        cases hh
theorem OwnP.snoc {W w5 : World} {base : Nat} {v v' : Value} {xs : List It} {x : It} (h : OwnP W base v xs) (hx : Own W base x.bv x.fm.body) (hg : W.grownBy w5 v.ownBlock) (h5 : w5.ownsRow base 67 5 v' (xs.length + 1) (pflt xs ++ pflt [x])) : OwnP w5 base v' (xs ++ [x]) := by
  refine ⟨by rw [List.length_append, pflt_append]; exact h5, fun y hy => ?_⟩
  rcases List.mem_append.1 hy with hy | hy
  · exact body_kept h.1 hg (h.2 y hy)
  · simp at hy
    subst hy
    exact body_kept h.1 hg hx
set_option maxRecDepth 100000 in
set_option maxHeartbeats 4000000 in
theorem rall_any (l : List Nat) (m : Nat) (a : Option Addr) (cap : Nat) (w : World) (hm : l.length = m) (hb : Bytes w a l) (hcap : m ≤ cap) (hl : m ≤ 16777216) :
    Calls Tryd.prog 68 #[.slice a m cap] w fun e W' => ∃ (xs : List It) (v : Value), e = .returned (.tuple #[v, .int .i64 (endZ 0 (scanL l) : Int), .int .i64 (allE l : Int)]) ∧ xs.map It.fm = scanL l ∧ OwnP W' w.heap.size v xs ∧ Below w.heap.size w W' := by
  obtain ⟨i0, hi, hz0, hz1, hz2⟩ := info_parts Tryd.infoPl
  have HX : Hid (l.length = m ∧ Bytes w a l ∧ m ≤ cap) := ⟨hm, hb, hcap⟩
  have hmI : (m : Int) ≤ 16777216 := by omega
  clear hm hb hcap
  go_enter Tryd.func68, Tryd.ntmps68
  go_wp2
  go_loopw [5, 6] (fun vps vp wr => ∃ (v0 : Value) (pre : List It) (p k : Nat), v0 = vps ∧ vp = .int .i64 p ∧ p ≤ m ∧ pre.map It.fm ++ scanAt l p = scanL l ∧ p = endZ 0 (pre.map It.fm) ∧ pre.length = k ∧ 20 * k ≤ p ∧ OwnP wr w.heap.size v0 pre ∧ Below w.heap.size w wr) (fun _ vp _ => m - (intOf vp).toNat)
  case atStart => exact ⟨_, [], 0, 0, rfl, rfl, Nat.zero_le _, rfl, rfl, rfl, Nat.le_refl _, OwnP.lit w, (Below.refl _ _).alloc (Nat.le_refl _) _⟩
  case round =>
    obtain ⟨v0, pre, p, k, rfl, rfl, hp, hsc, hez, hk, hk20, hO, hbr⟩ := hrel
    have HSC : Hid (pre.map It.fm ++ scanAt l p = scanL l ∧ p = endZ 0 (pre.map It.fm) ∧ pre.length = k) := ⟨hsc, hez, hk⟩
    have HO : Hid (OwnP wr w.heap.size v0 pre) := hO
    clear hsc hez hk hO
    by_cases hpm : p < m
    · have hlp : p < l.length := by rw [HX.out.1]; exact hpm
      have hne : l ≠ [] := by intro h; rw [h] at hlp; simp at hlp
      obtain ⟨b, off, rfl, hlt, _⟩ := HX.out.2.1.nonempty hne
      obtain ⟨q, hq⟩ : ∃ q, l.drop p = q := ⟨_, rfl⟩
      have hql : q.length = m - p := by rw [← hq, List.length_drop, HX.out.1]
      have HQL : Hid (q.length = m - p ∧ q.length ≤ 281474976710656 ∧ q.length ≤ cap - p) := ⟨hql, by omega, by have := HX.out.2.2; omega⟩
      have HBQ : Hid (Bytes wr (some ⟨b, off + p, none⟩) q) := by show Bytes _ _ _; rw [← hq]; exact (HX.out.2.1.keep hbr).drop p
      have hpc : (p : Int) ≤ (cap : Int) := by have := HX.out.2.2; omega
      have hpn : (p : Int) ≤ (m : Int) := by omega
      have hpc2 : (p : Int) < (cap : Int) := by have := HX.out.2.2; omega
      have hpm2 : (p : Int) < (m : Int) := by omega
      obtain ⟨K, hK⟩ : ∃ K, decK q = K := ⟨_, rfl⟩
      obtain ⟨S, hS⟩ : ∃ S, decS q = S := ⟨_, rfl⟩
      obtain ⟨N, hN⟩ : ∃ N, decN q = N := ⟨_, rfl⟩
      obtain ⟨E, hE⟩ : ∃ E, decE q = E := ⟨_, rfl⟩
      obtain ⟨B, hB⟩ : ∃ B, decB q = B := ⟨_, rfl⟩
      have HV : Hid (∀ v, DV q v = .tuple #[FrV (K : Int) (S : Int) v, .int .i64 (N : Int), .int .i64 (E : Int)] ∧ decB q = B) := fun v => ⟨by rw [← hK, ← hS, ← hN, ← hE], hB⟩
      have hsz := hbr.size
      by_cases hE0 : E = 0
      · subst hE0
        have hdn := decN_pos hE
        have hN2 : 20 ≤ N ∧ p + N ≤ m ∧ N = B.length + 20 := by rw [← hN, ← hB]; omega
        have HST : Hid (scanAt l p = ⟨p, K, S, B⟩ :: scanAt l (p + N)) := by show _ = _; rw [scanAt_step l p hlp (by rw [hq]; exact hE), hq, hK, hS, hB, ← hN]
        obtain ⟨hN1, hN2, hN3⟩ := hN2
        subst hN3
        clear hq hql hK hS hN hE hB hdn hlp hne
        go_wp2_with (first
          | (go_at_call 34; refine (rfdec_any q _ _ _ _ HQL.out.1 HBQ.out HQL.out.2.1 HQL.out.2.2).mono ?_; rintro e w2 ⟨v2, rfl, ho2, hb2⟩; rw [(HV.out v2).1]; rw [(HV.out v2).2] at ho2; obtain ⟨a2, c2, hv2, _⟩ := ho2.shape; subst hv2; have HB4 : Hid (Below wr.heap.size wr ((w2.alloc (.cells #[.int .i64 (K : Int), .int .i64 (S : Int), .slice a2 B.length c2] 65)).alloc (.cells #[.int .i64 (p : Int), .int .i64 ((B.length : Int) + 20), .int .i64 (K : Int), .int .i64 (S : Int), .slice a2 B.length c2] 67))) := (hb2.alloc hb2.size _).alloc (by have := hb2.size; simp; omega) _; have HO4 : Hid (((w2.alloc (.cells #[.int .i64 (K : Int), .int .i64 (S : Int), .slice a2 B.length c2] 65)).alloc (.cells #[.int .i64 (p : Int), .int .i64 ((B.length : Int) + 20), .int .i64 (K : Int), .int .i64 (S : Int), .slice a2 B.length c2] 67)).ownsRow w.heap.size 67 5 v0 k (pflt pre)) := (by have h := own_below HO.out.1 HB4.out; rw [HSC.out.2.2] at h; exact h); have HX4 : Hid (Own ((w2.alloc (.cells #[.int .i64 (K : Int), .int .i64 (S : Int), .slice a2 B.length c2] 65)).alloc (.cells #[.int .i64 (p : Int), .int .i64 ((B.length : Int) + 20), .int .i64 (K : Int), .int .i64 (S : Int), .slice a2 B.length c2] 67)) w.heap.size (.slice a2 B.length c2) B) := ⟨ho2.1, World.ownsRow.alloc (World.ownsRow.alloc (World.ownsRow.mono ho2.2 hsz) _) _⟩; have HNW : Hid (∀ j u, [.int .i64 (p : Int), .int .i64 ((B.length : Int) + 20), .int .i64 (K : Int), .int .i64 (S : Int), .slice a2 B.length c2][j]? = some u → ((w2.alloc (.cells #[.int .i64 (K : Int), .int .i64 (S : Int), .slice a2 B.length c2] 65)).alloc (.cells #[.int .i64 (p : Int), .int .i64 ((B.length : Int) + 20), .int .i64 (K : Int), .int .i64 (S : Int), .slice a2 B.length c2] 67)).cell? ((⟨w2.heap.size + 1, 0, none⟩ : Addr).add j) = some u) := (by have h := cell_newL (w2.alloc (.cells #[.int .i64 (K : Int), .int .i64 (S : Int), .slice a2 B.length c2] 65)) [.int .i64 (p : Int), .int .i64 ((B.length : Int) + 20), .int .i64 (K : Int), .int .i64 (S : Int), .slice a2 B.length c2] 67; rw [World.size_alloc] at h; exact h); have HSZ : Hid (w.heap.size ≤ ((w2.alloc (.cells #[.int .i64 (K : Int), .int .i64 (S : Int), .slice a2 B.length c2] 65)).alloc (.cells #[.int .i64 (p : Int), .int .i64 ((B.length : Int) + 20), .int .i64 (K : Int), .int .i64 (S : Int), .slice a2 B.length c2] 67)).heap.size) := Nat.le_trans hsz HB4.out.size; clear ho2 hb2)
          | (at_builtin; refine wpList_append_own _ rfl _ _ 39 rfl w.heap.size 67 i0 (.agg #[.int .i64 0, .int .i64 0, .int .i64 0, .int .i64 0, .slice none 0 0]) 5 56 Tryd.underlying39 hi hz0 hz1 hz2 rfl (by decide) _ _ _ rfl HO4.out ⟨w2.heap.size + 1, 0, none⟩ 1 1 [.int .i64 (p : Int), .int .i64 ((B.length : Int) + 20), .int .i64 (K : Int), .int .i64 (S : Int), .slice a2 B.length c2] rfl rfl HNW.out (one5 _ _ _ _ _ _ _) (by unfold maxLen; omega) (by omega) HSZ.out ?_; intro v4 w5 ho5 hg5 _; have HO5 : Hid (OwnP w5 w.heap.size v4 (pre ++ [⟨⟨p, K, S, B⟩, .slice a2 B.length c2⟩])) := OwnP.snoc (HO.out.below HB4.out) HX4.out hg5 (by rw [HSC.out.2.2]; exact ho5); have HB5 : Hid (Below w.heap.size w w5) := grown_row (hbr.trans (HB4.out.mono hsz)) HO4.out HSZ.out hg5; clear ho5 hg5))
        go_roundw
        case rel => exact ⟨_, pre ++ [⟨⟨p, K, S, B⟩, .slice a2 B.length c2⟩], p + (B.length + 20), k + 1, rfl, by go_num, by omega, by rw [← HSC.out.1, HST.out]; simp, by rw [List.map_append, List.map_singleton, endF_snoc]; simp only; omega, by rw [List.length_append, HSC.out.2.2]; rfl, by omega, HO5.out, HB5.out⟩
        case measure => simp [intOf]; omega
      · have heb : ((E : Int) != 0) = true := by simp; omega
        have HFI : Hid (pre.map It.fm = scanL l) := by
          have h := HSC.out.1
          rw [scanAt_end l p (by rw [hq, hE]; exact fun h => hE0 h.2), List.append_nil] at h
          exact h
        have HEZ : Hid (endZ 0 (scanL l) = p) := by show _ = _; rw [← HFI.out]; exact HSC.out.2.1.symm
        have HAE : Hid (allE l = E) := by show _ = _; unfold allE; rw [HEZ.out, if_neg (by rw [HX.out.1]; omega), hq, hE]
        clear hq hql hK hS hN hE hB hlp hne hE0
        go_wp2_with (go_at_call 34; refine (rfdec_any q _ _ _ _ HQL.out.1 HBQ.out HQL.out.2.1 HQL.out.2.2).mono ?_; rintro e w2 ⟨v2, rfl, ho2, hb2⟩; rw [(HV.out v2).1]; rw [(HV.out v2).2] at ho2; obtain ⟨a2, c2, hv2, _⟩ := ho2.shape; subst hv2; have HB4 : Hid (Below wr.heap.size wr (w2.alloc (.cells #[.int .i64 (K : Int), .int .i64 (S : Int), .slice a2 B.length c2] 65))) := hb2.alloc hb2.size _; clear ho2 hb2)
        go_ret3
        exact ⟨pre, _, by rw [HEZ.out, HAE.out]; rfl, HFI.out, HO.out.below HB4.out, hbr.trans (HB4.out.mono hsz)⟩
    · have hpe : p = m := by omega
      subst hpe
      have HFI : Hid (pre.map It.fm = scanL l) := by
        have h := HSC.out.1
        rw [scanAt_end l p (by rw [HX.out.1]; exact fun h => hpm h.1), List.append_nil] at h
        exact h
      have HEZ : Hid (endZ 0 (scanL l) = p) := by show _ = _; rw [← HFI.out]; exact HSC.out.2.1.symm
      have HAE : Hid (allE l = 0) := by show _ = _; unfold allE; rw [HEZ.out, if_pos HX.out.1.symm]
      go_wp2
      go_ret3
      exact ⟨pre, _, by rw [HEZ.out, HAE.out]; rfl, HFI.out, HO.out, hbr⟩
end Go.Proofs.YtaegmeilhdbnnaaDoor
namespace Go.Proofs.YtaegmeilhdbnnaaDoor
open Go.ChangeShapes Go.WideShapes Go.ChangeAt Go.RowKit Go.Shelf
set_option linter.unusedVariables false
theorem get_lt {α : Type} {L : List α} {k : Nat} {p : α} (h : L[k]? = some p) : k < L.length := (List.getElem?_eq_some_iff.1 h).1
theorem lt_get {α : Type} {L : List α} {k : Nat} (h : k < L.length) : ∃ p, L[k]? = some p := ⟨L[k], List.getElem?_eq_getElem h⟩
structure PlcA (w : World) (a : Option Addr) (xs : List It) : Prop where
  lie : xs = [] ∨ ∃ b off, a = some ⟨b, off, none⟩ ∧ b < w.heap.size ∧ ∀ j, j < xs.length * 5 → w.cell? ⟨b, off + j, none⟩ = (pflt xs)[j]?
  byt : ∀ x ∈ xs, ∃ a2 c2, x.bv = .slice a2 x.fm.body.length c2 ∧ Bytes w a2 x.fm.body ∧ x.fm.body.length ≤ maxLen
theorem PlcA.keep {w w' : World} {a : Option Addr} {xs : List It} (h : PlcA w a xs) (hb : Below w.heap.size w w') : PlcA w' a xs := by
  refine ⟨?_, fun x hx => ?_⟩
  · rcases h.lie with h1 | ⟨b, off, h1, h2, h3⟩
    · exact .inl h1
    · exact .inr ⟨b, off, h1, Nat.lt_of_lt_of_le h2 hb.size, fun j hj => (hb.cell (p := ⟨b, off + j, none⟩) h2).trans (h3 j hj)⟩
  · obtain ⟨a2, c2, h1, h2, h3⟩ := h.byt x hx
    exact ⟨a2, c2, h1, h2.keep hb, h3⟩
theorem OwnP.plc {w : World} {base : Nat} {v : Value} {xs : List It} (h : OwnP w base v xs) : ∃ a c, v = .slice a xs.length c ∧ PlcA w a xs := by
  have hby : ∀ x ∈ xs, ∃ a2 c2, x.bv = .slice a2 x.fm.body.length c2 ∧ Bytes w a2 x.fm.body ∧ x.fm.body.length ≤ maxLen := fun x hx => by
    obtain ⟨a2, c2, h1, h2, h3, h4, _⟩ := (h.2 x hx).shape
    exact ⟨a2, c2, h1, h4, Nat.le_trans h2 h3⟩
  rcases h.1.2 with ⟨h1, h2⟩ | ⟨g, cap, cur, h1, h3, h4, h5⟩
  · have : xs = [] := List.length_eq_zero_iff.1 h2
    subst this
    exact ⟨none, 0, h1, .inl rfl, hby⟩
  · refine ⟨_, cap, h1, .inr ⟨g, 0, rfl, lt_of_heap h4, fun j hj => ?_⟩, hby⟩
    have h' := h.1
    rw [h1] at h'
    rw [Nat.zero_add]
    exact h'.cellAt j hj
theorem pflt_get : ∀ (xs : List It) (k : Nat) (x : It), xs[k]? = some x → (pflt xs)[k * 5]? = some (.int .i64 (x.fm.pos : Int)) ∧ (pflt xs)[k * 5 + 1]? = some (.int .i64 ((x.fm.body.length : Int) + 20)) ∧ (pflt xs)[k * 5 + 2]? = some (.int .i64 (x.fm.kind : Int)) ∧ (pflt xs)[k * 5 + 3]? = some (.int .i64 (x.fm.seq : Int)) ∧ (pflt xs)[k * 5 + 4]? = some x.bv
  | [], k, x, h => by simp at h
  | y :: r, 0, x, h => by simp at h; subst h; simp [pflt]
  | y :: r, k + 1, x, h => by
    have := pflt_get r k x (by simpa using h)
    rw [show (k + 1) * 5 = k * 5 + 5 from by omega]
    simpa [pflt] using this
theorem PlcA.at {w : World} {a : Option Addr} {xs : List It} (h : PlcA w a xs) (k : Nat) (x : It) (hx : xs[k]? = some x) : ∃ b off, a = some ⟨b, off, none⟩ ∧ b < w.heap.size ∧ w.cell? ⟨b, off + k * 5, none⟩ = some (.int .i64 (x.fm.pos : Int)) ∧ w.cell? ⟨b, off + k * 5 + 1, none⟩ = some (.int .i64 ((x.fm.body.length : Int) + 20)) ∧ w.cell? ⟨b, off + k * 5 + 2, none⟩ = some (.int .i64 (x.fm.kind : Int)) ∧ w.cell? ⟨b, off + k * 5 + 3, none⟩ = some (.int .i64 (x.fm.seq : Int)) ∧ w.cell? ⟨b, off + k * 5 + 4, none⟩ = some x.bv := by
  have hk := get_lt hx
  obtain ⟨f0, f1, f2, f3, f4⟩ := pflt_get xs k x hx
  rcases h.lie with rfl | ⟨b, off, h1, h2, h3⟩
  · simp at hk
  · exact ⟨b, off, h1, h2, (h3 (k * 5) (by omega)).trans f0, (h3 (k * 5 + 1) (by omega)).trans f1, (h3 (k * 5 + 2) (by omega)).trans f2, (h3 (k * 5 + 3) (by omega)).trans f3, (h3 (k * 5 + 4) (by omega)).trans f4⟩
set_option maxRecDepth 20000 in
set_option maxHeartbeats 4000000 in
theorem psame_any (xs ys : List It) (n : Nat) (a a' : Option Addr) (cap cap' : Nat) (w : World) (hxy : xs.map It.fm = ys.map It.fm) (hn : xs.length = n) (h1 : PlcA w a xs) (h2 : PlcA w a' ys) (hl : n ≤ 16777216) :
    Calls Tryd.prog 19 #[.slice a n cap, .slice a' n cap'] w fun e w' => e = .returned (.bool true) ∧ Below w.heap.size w w' := by
  have hn2 : ys.length = n := by have := congrArg List.length hxy; simp at this; omega
  have HX : Hid (xs.map It.fm = ys.map It.fm ∧ xs.length = n ∧ ys.length = n ∧ PlcA w a xs ∧ PlcA w a' ys) := ⟨hxy, hn, hn2, h1, h2⟩
  have hnI : (n : Int) ≤ 16777216 := by omega
  clear hxy hn hn2 h1 h2
  go_enter Tryd.func19, Tryd.ntmps19
  go_wp2
  go_loopw [13] (fun i wr => ∃ k : Nat, k ≤ n ∧ i = .int .i64 k ∧ Below w.heap.size w wr) (fun i _ => n - (intOf i).toNat)
  case atStart => exact ⟨0, Nat.zero_le _, rfl, Below.refl _ _⟩
  case round =>
    obtain ⟨k, hk, rfl, hbe⟩ := hrel
    by_cases hkn : k < n
    · obtain ⟨⟨⟨p, K, S, B⟩, bv⟩, hp⟩ := lt_get (L := xs) (k := k) (by rw [HX.out.2.1]; exact hkn)
      obtain ⟨⟨fm', bv'⟩, hp'⟩ := lt_get (L := ys) (k := k) (by rw [HX.out.2.2.1]; exact hkn)
      have hfm : fm' = ⟨p, K, S, B⟩ := by
        have h := congrArg (fun L => L[k]?) HX.out.1
        simp only [List.getElem?_map, hp, hp', Option.map_some, Option.some.injEq] at h
        exact h.symm
      subst hfm
      obtain ⟨b, off, rfl, hlt, c0, c1, c2, c3, c4⟩ := (HX.out.2.2.2.1.keep hbe).at k _ hp
      obtain ⟨b', off', rfl, hlt', d0, d1, d2, d3, d4⟩ := (HX.out.2.2.2.2.keep hbe).at k _ hp'
      obtain ⟨a2, s2, e2, hy2, hm2⟩ := (HX.out.2.2.2.1.keep hbe).byt _ (List.mem_of_getElem? hp)
      obtain ⟨a3, s3, e3, hy3, hm3⟩ := (HX.out.2.2.2.2.keep hbe).byt _ (List.mem_of_getElem? hp')
      simp only at c0 c1 c2 c3 c4 d0 d1 d2 d3 d4 e2 e3 hy2 hy3 hm2 hm3
      subst e2 e3
      obtain ⟨N, hN⟩ : ∃ N, B.length = N := ⟨_, rfl⟩
      rw [hN] at c1 c4 d1 d4 hm2 hm3
      have HSM : Hid (∀ w1, Below wr.heap.size wr w1 → Calls Tryd.prog 44 #[FrV (K : Int) (S : Int) (.slice a2 N s2), FrV (K : Int) (S : Int) (.slice a3 N s3)] w1 fun e w' => e = .returned (.bool true) ∧ Below w1.heap.size w1 w') := fun w1 hw1 => (fsame_any K S K S B B N N a2 a3 s2 s3 w1 hN hN (hy2.keep hw1) (hy3.keep hw1) hm2 hm3 rfl rfl).mono (by rintro e w' ⟨rfl, h⟩; exact ⟨by simp, h⟩)
      have hsz := hbe.size
      clear hp hp' hy2 hy3 hm2 hm3 hN
      go_wp2
      go_region_held3 (fun w' => w'.cell? ⟨b, off + k * 5, none⟩ = some (.int .i64 (p : Int)) ∧ w'.cell? ⟨b, off + k * 5 + 1, none⟩ = some (.int .i64 ((N : Int) + 20)) ∧ w'.cell? ⟨b, off + k * 5 + 2, none⟩ = some (.int .i64 (K : Int)) ∧ w'.cell? ⟨b, off + k * 5 + 3, none⟩ = some (.int .i64 (S : Int)) ∧ w'.cell? ⟨b, off + k * 5 + 4, none⟩ = some (.slice a2 N s2) ∧ w'.cell? ⟨b', off' + k * 5, none⟩ = some (.int .i64 (p : Int)) ∧ w'.cell? ⟨b', off' + k * 5 + 1, none⟩ = some (.int .i64 ((N : Int) + 20)) ∧ w'.cell? ⟨b', off' + k * 5 + 2, none⟩ = some (.int .i64 (K : Int)) ∧ w'.cell? ⟨b', off' + k * 5 + 3, none⟩ = some (.int .i64 (S : Int)) ∧ w'.cell? ⟨b', off' + k * 5 + 4, none⟩ = some (.slice a3 N s3)) (go_keep) (first
        | (go_at_call 44; refine (HSM.out _ ?_).mono ?_; exact below_drewN (Below.refl _ _) _; rintro e w3 ⟨rfl, hb3⟩; have cc0 : w3.cell? ⟨b, off + k * 5, none⟩ = some (.int .i64 (p : Int)) := (hb3.cell (p := ⟨b, off + k * 5, none⟩) hlt).trans c0; have cc1 : w3.cell? ⟨b, off + k * 5 + 1, none⟩ = some (.int .i64 ((N : Int) + 20)) := (hb3.cell (p := ⟨b, off + k * 5 + 1, none⟩) hlt).trans c1; have cc2 : w3.cell? ⟨b, off + k * 5 + 2, none⟩ = some (.int .i64 (K : Int)) := (hb3.cell (p := ⟨b, off + k * 5 + 2, none⟩) hlt).trans c2; have cc3 : w3.cell? ⟨b, off + k * 5 + 3, none⟩ = some (.int .i64 (S : Int)) := (hb3.cell (p := ⟨b, off + k * 5 + 3, none⟩) hlt).trans c3; have cc4 : w3.cell? ⟨b, off + k * 5 + 4, none⟩ = some (.slice a2 N s2) := (hb3.cell (p := ⟨b, off + k * 5 + 4, none⟩) hlt).trans c4; have dd0 : w3.cell? ⟨b', off' + k * 5, none⟩ = some (.int .i64 (p : Int)) := (hb3.cell (p := ⟨b', off' + k * 5, none⟩) hlt').trans d0; have dd1 : w3.cell? ⟨b', off' + k * 5 + 1, none⟩ = some (.int .i64 ((N : Int) + 20)) := (hb3.cell (p := ⟨b', off' + k * 5 + 1, none⟩) hlt').trans d1; have dd2 : w3.cell? ⟨b', off' + k * 5 + 2, none⟩ = some (.int .i64 (K : Int)) := (hb3.cell (p := ⟨b', off' + k * 5 + 2, none⟩) hlt').trans d2; have dd3 : w3.cell? ⟨b', off' + k * 5 + 3, none⟩ = some (.int .i64 (S : Int)) := (hb3.cell (p := ⟨b', off' + k * 5 + 3, none⟩) hlt').trans d3; have dd4 : w3.cell? ⟨b', off' + k * 5 + 4, none⟩ = some (.slice a3 N s3) := (hb3.cell (p := ⟨b', off' + k * 5 + 4, none⟩) hlt').trans d4; have HB3 : Hid (Below wr.heap.size wr w3) := (below_drewN (Below.refl wr.heap.size wr) _).trans hb3; clear hb3)
        | fail)
      all_goals go_wp2
      all_goals go_roundw
      case rel => exact ⟨k + 1, by omega, by go_num, hbe.trans (HB3.out.mono hsz)⟩
      case measure => simp [intOf]; omega
    · go_wp2
      go_ret
      exact ⟨rfl, hbe⟩
end Go.Proofs.YtaegmeilhdbnnaaDoor
namespace Go.Proofs.YtaegmeilhdbnnaaDoor
open Go.ChangeShapes Go.WideShapes Go.ChangeAt Go.RowKit
set_option linter.unusedVariables false
theorem grownBy_refl (w : World) (r : Option Nat) : w.grownBy w r := ⟨rfl, rfl, rfl, Nat.le_refl _, fun _ _ _ => rfl⟩
theorem run_append_any {P : Program} (w : World) (t ty : TypeId) (base : Nat) (i : TypeInfo) (ht : P.underlying t = some (.slice 5)) (hi : P.info? 5 = some i) (hz : i.zero = some (.int .u8 0)) (hsize : i.size = 1) (hby : i.bytes = 1)
    (v : Value) (n : Nat) (xs : List Value) (hown : w.ownsRow base 5 1 v n xs) (hn : 0 < n) (xa : Option Addr) (m c : Nat) (l : List Nat) (hl : l.length = m) (hb : Bytes w xa l) (hc : xa = none → c = 0)
    (h63 : n + m ≤ 140737488355328) (hbase : base ≤ w.heap.size) :
    ∃ g cap w', (Builtin.append_ #[t, t] ty #[v, .slice xa m c]).run P w = .ok (.slice (some ⟨g, 0, none⟩) (n + m) cap) w' ∧
      w'.ownsRow base 5 1 (.slice (some ⟨g, 0, none⟩) (n + m) cap) (n + m) (xs ++ B8 l) ∧ w.grownBy w' v.ownBlock := by
  subst hl
  cases xa with
  | none =>
    obtain rfl := hc rfl
    have hl0 : l = [] := by
      rcases hb.2 with h | ⟨b, off, h, _⟩
      · exact h
      · cases h
    subst hl0
    obtain ⟨g, cap, rfl, _⟩ := hown.form hn
    exact ⟨g, cap, w, run_append_owned_none (P := P) (w := w) base t ty 5 i 1 ht hi _ n xs hown, by simpa [B8] using hown, grownBy_refl _ _⟩
  | some ad =>
    obtain ⟨v', w', hr, h2, h3, _, h5⟩ := run_append_own_at (P := P) w base t ty 5 i (.int .u8 0) 1 1 ht hi hz hsize hby rfl (by decide) v n xs hown ad l.length c (B8 l) (B8_length l) (bytes_cells hb) (B8_one l) (by unfold maxLen; omega) (by omega) hbase
    obtain ⟨g, cap, rfl, _⟩ := h2.form (by omega)
    exact ⟨g, cap, w', hr, h2, h3⟩
theorem wp_append_any {P : Program} (w : World) {o : Oper} {a : Act} {K : Act → World → Prop} {Q : Exit → Act → World → Prop} (s x : Operand) (t : TypeId)
    (ho : o.op = .call { callee := .builtin .append, args := #[s, x], argTypes := #[t, t] })
    (base : Nat) (i : TypeInfo) (ht : P.underlying t = some (.slice 5)) (hi : P.info? 5 = some i) (hz : i.zero = some (.int .u8 0)) (hsize : i.size = 1) (hby : i.bytes = 1)
    (v : Value) (n : Nat) (xs : List Value) (hs : a.eval s = v) (hown : w.ownsRow base 5 1 v n xs) (hn : 0 < n) (xa : Option Addr) (m c : Nat) (l : List Nat) (hx : a.eval x = .slice xa m c) (hl : l.length = m) (hb : Bytes w xa l) (hc : xa = none → c = 0)
    (h63 : n + m ≤ 140737488355328) (hbase : base ≤ w.heap.size)
    (h : ∀ g cap w', w'.ownsRow base 5 1 (.slice (some ⟨g, 0, none⟩) (n + m) cap) (n + m) (xs ++ B8 l) → w.grownBy w' v.ownBlock → K (a.put o.dst (.slice (some ⟨g, 0, none⟩) (n + m) cap)) w') : Oper.wp P o a w K Q := by
  obtain ⟨g, cap, w', hr, h2, h3⟩ := run_append_any (P := P) w t o.type base i ht hi hz hsize hby v n xs hown hn xa m c l hl hb hc h63 hbase
  unfold Oper.wp
  simp [execOp, ho, resolve, invoke, builtin, hs, hx, hr, Result.andThen]
  exact h g cap w' h2 h3
theorem wpList_append_any {P : Program} (w : World) {ops : Array Oper} {rest : List Oper} {o : Oper} {a : Act} {Q : Exit → Act → World → Prop} (hgd : o.guard = none) (s x : Operand) (t : TypeId)
    (ho : o.op = .call { callee := .builtin .append, args := #[s, x], argTypes := #[t, t] })
    (base : Nat) (i : TypeInfo) (ht : P.underlying t = some (.slice 5)) (hi : P.info? 5 = some i) (hz : i.zero = some (.int .u8 0)) (hsize : i.size = 1) (hby : i.bytes = 1)
    (v : Value) (n : Nat) (xs : List Value) (hs : a.eval s = v) (hown : w.ownsRow base 5 1 v n xs) (hn : 0 < n) (xa : Option Addr) (m c : Nat) (l : List Nat) (hx : a.eval x = .slice xa m c) (hl : l.length = m) (hb : Bytes w xa l) (hc : xa = none → c = 0)
    (h63 : n + m ≤ 140737488355328) (hbase : base ≤ w.heap.size)
    (h : ∀ g cap w', w'.ownsRow base 5 1 (.slice (some ⟨g, 0, none⟩) (n + m) cap) (n + m) (xs ++ B8 l) → w.grownBy w' v.ownBlock → wpList P ops Q rest (a.put o.dst (.slice (some ⟨g, 0, none⟩) (n + m) cap)) w') : wpList P ops Q (o :: rest) a w :=
  wpList_plain hgd fun K hK => wp_append_any w s x t ho base i ht hi hz hsize hby v n xs hs hown hn xa m c l hx hl hb hc h63 hbase (fun g cap w' h1 h2 => hK _ _ (h g cap w' h1 h2))
theorem step_append_any {P : Program} (w : World) {ops : Array Oper} {o : Oper} {a : Act} {K : Act → World → Prop} {Q : Exit → Act → World → Prop} {E : Prop} (hgd : o.guard = none) (s x : Operand) (t : TypeId)
    (ho : o.op = .call { callee := .builtin .append, args := #[s, x], argTypes := #[t, t] })
    (base : Nat) (i : TypeInfo) (ht : P.underlying t = some (.slice 5)) (hi : P.info? 5 = some i) (hz : i.zero = some (.int .u8 0)) (hsize : i.size = 1) (hby : i.bytes = 1)
    (v : Value) (n : Nat) (xs : List Value) (hs : a.eval s = v) (hown : w.ownsRow base 5 1 v n xs) (hn : 0 < n) (xa : Option Addr) (m c : Nat) (l : List Nat) (hx : a.eval x = .slice xa m c) (hl : l.length = m) (hb : Bytes w xa l) (hc : xa = none → c = 0)
    (h63 : n + m ≤ 140737488355328) (hbase : base ≤ w.heap.size)
    (h : ∀ g cap w', w'.ownsRow base 5 1 (.slice (some ⟨g, 0, none⟩) (n + m) cap) (n + m) (xs ++ B8 l) → w.grownBy w' v.ownBlock → K (a.put o.dst (.slice (some ⟨g, 0, none⟩) (n + m) cap)) w') :
    if Region.wanted o (yielded ops a.tmps) = true then Oper.wp P o a w K Q else E := by
  have hw : Region.wanted o (yielded ops a.tmps) = true := by simp [Region.wanted, hgd]
  rw [if_pos hw]
  exact wp_append_any w s x t ho base i ht hi hz hsize hby v n xs hs hown hn xa m c l hx hl hb hc h63 hbase h
end Go.Proofs.YtaegmeilhdbnnaaDoor
namespace Go.Proofs.YtaegmeilhdbnnaaDoor
open Go.ChangeShapes Go.WideShapes Go.ChangeAt Go.RowKit
set_option linter.unusedVariables false
theorem FrmAt.drew {w : World} {k : Nat} {kind seq : Int} {bv : Value} (h : FrmAt w k kind seq bv) : FrmAt w.drew k kind seq bv := h
theorem FrmAt.grown {w w' : World} {base n k : Nat} {v : Value} {xs : List Value} {kind seq : Int} {bv : Value} (h : FrmAt w k kind seq bv) (ho : w.ownsRow base 5 1 v n xs) (hg : w.grownBy w' v.ownBlock) : FrmAt w' k kind seq bv := h.nb (NB.of_grown ho hg)
theorem own_mono {w : World} {base base2 : Nat} {v : Value} {l : List Nat} (h : Own w base v l) (hb : base2 ≤ base) : Own w base2 v l := ⟨h.1, World.ownsRow.mono (base' := base2) h.2 hb⟩
set_option maxRecDepth 20000 in
set_option maxHeartbeats 1000000 in
theorem rfenc_ok (k s : Nat) (body : List Nat) (a : Option Addr) (n cap : Nat) (w : World) (hk1 : 1 ≤ k) (hk7 : k ≤ 7) (hs : s ≤ 1099511627776) (hN : body.length = n) (hn : n ≤ 16384) (hb : Bytes w a body) (hc : a = none → cap = 0) :
    Calls Tryd.prog 29 #[FrV (k : Int) (s : Int) (.slice a n cap)] w fun r w' => ∃ v, r = .returned (.tuple #[v, .int .i64 0]) ∧ Own w' w.heap.size v (frameL k s body) ∧ Below w.heap.size w w' := by
  obtain ⟨i0, hi, hz0, hz1, hz2⟩ := info_parts Tryd.info5f
  have hkI : (k : Int) ≤ 7 := by omega
  have hk1I : (1 : Int) ≤ (k : Int) := by omega
  have hnI : (n : Int) ≤ 16384 := by omega
  have hsI : (s : Int) ≤ 1099511627776 := by omega
  have HN : Hid (body.length = n) := hN
  have HC : Hid (a = none → cap = 0) := hc
  have HB : Hid (Bytes w a body) := hb
  have HSB : Hid (Crcm.sum body < 4294967296) := Crcm.sum_lt _ hb.mem
  have HSF : Hid (∀ y ∈ frameL k s body, y < 256) := frameL_lt k s body (by omega) hb.mem
  obtain ⟨W, hW⟩ : ∃ W, w.alloc (.cells #[.int .i64 (k : Int), .int .i64 (s : Int), .slice a n cap] 65) = W := ⟨_, rfl⟩
  have HF : Hid (FrmAt W w.heap.size k s (.slice a n cap) ∧ Below w.heap.size w W ∧ w.heap.size < W.heap.size) := by rw [← hW]; exact ⟨FrmAt.new _ _ _ _, (Below.refl _ _).alloc (Nat.le_refl _) _, by simp⟩
  have HW : Hid (_ = W) := hW
  clear hW hb hc hN
  go_enter Tryd.func29, Tryd.ntmps29
  go_wp2
  rw [HW.out]
  obtain ⟨c0, c1, c2⟩ := HF.out.1.cells
  go_region_held3 (fun w' => w'.cell? ⟨w.heap.size, 0, none⟩ = some (.int .i64 (k : Int)) ∧ w'.cell? ⟨w.heap.size, 1, none⟩ = some (.int .i64 (s : Int)) ∧ w'.cell? ⟨w.heap.size, 2, none⟩ = some (.slice a n cap)) (go_keep) (first
    | (go_at_call 54; refine (rhead_any k n s _ hk7 hn hs).mono ?_; rintro r w1 ⟨g1, p1, rfl, ho1, hb1⟩; have hf1 : FrmAt w1 w.heap.size k s (.slice a n cap) := (show FrmAt W.drew w.heap.size k s (.slice a n cap) from HF.out.1).keep hb1; obtain ⟨d0, d1, d2⟩ := hf1.cells; have HB1 : Hid (Below W.heap.size W.drew w1) := hb1; have HBw : Hid (Below w.heap.size w w1) := HF.out.2.1.trans ((((Below.refl W.heap.size W).drew).trans hb1).mono (Nat.le_of_lt HF.out.2.2)); have HO1 : Hid (Own w1 W.heap.size (.slice (some ⟨g1, 0, none⟩) 16 p1) (headL k n s)) := ho1; have HF1 : Hid (FrmAt w1 w.heap.size k s (.slice a n cap)) := hf1; have hs1 : W.heap.size ≤ w1.heap.size := hb1.size; clear hb1 ho1 hf1)
    | ((refine step_append_any _ (by rfl) _ _ 22 (by rfl) W.heap.size i0 Tryd.underlying22 hi hz0 hz1 hz2 (.slice (some ⟨g1, 0, none⟩) 16 p1) 16 (B8 (headL k n s)) (by rfl) (by have h := HO1.out.2; rw [headL_length] at h; exact h) (by omega) a n cap body (by rfl) HN.out (HB.out.keep HBw.out) HC.out (by omega) hs1 ?_; intro g3 p3 w3 hown3 hgrow3; have hf3 : FrmAt w3 w.heap.size k s (.slice a n cap) := HF1.out.grown HO1.out.2 hgrow3; obtain ⟨y0, y1, y2⟩ := hf3.cells; have HB3 : Hid (Below w.heap.size w w3) := HBw.out.grown hgrow3 (by have := HBw.out.size; omega) (fun k hk => Nat.le_trans (Nat.le_of_lt HF.out.2.2) ((HO1.out.2.lt k hk).1)); have HO3 : Hid (w3.ownsRow W.heap.size 5 1 (.slice (some ⟨g3, 0, none⟩) (16 + n) p3) (16 + n) (B8 (headL k n s) ++ B8 body)) := hown3; have HF3 : Hid (FrmAt w3 w.heap.size k s (.slice a n cap)) := hf3; have hs3 : W.heap.size ≤ w3.heap.size := Nat.le_trans hs1 hgrow3.size; clear hf3 hown3 hgrow3)))
  go_wp2_with (first
    | (go_at_call 56; refine (rsum_any body n _ _ _ HN.out (HB.out.keep HB3.out) (by rw [HN.out]; unfold maxLen; omega)).mono ?_; rintro r w4 ⟨rfl, rfl⟩)
    | (go_at_call 55; refine (rfour_any _ _ HSB.out).mono ?_; rintro r w5 ⟨g5, rfl, hy5, hb5⟩; have HO5 : Hid (w5.ownsRow W.heap.size 5 1 (.slice (some ⟨g3, 0, none⟩) (16 + n) p3) (16 + n) (B8 (headL k n s) ++ B8 body)) := own_below HO3.out hb5; have HB5 : Hid (Below w.heap.size w w5) := below_next HB3.out hb5; have HY5 : Hid (Bytes w5 (some ⟨g5, 0, none⟩) (Crcm.four (Crcm.sum body))) := hy5; have hs5 : W.heap.size ≤ w5.heap.size := Nat.le_trans hs3 hb5.size; clear hb5 hy5)
    | (at_builtin; refine wpList_append_any _ rfl _ _ 22 rfl W.heap.size i0 Tryd.underlying22 hi hz0 hz1 hz2 _ _ _ rfl HO5.out (by omega) _ 4 4 (Crcm.four (Crcm.sum body)) rfl rfl HY5.out (fun h => by cases h) (by omega) hs5 ?_; intro g6 p6 w6 hown6 hgrow6; have HB6 : Hid (Below w.heap.size w w6) := HB5.out.grown hgrow6 (by have := HB5.out.size; omega) (fun k hk => Nat.le_trans (Nat.le_of_lt HF.out.2.2) ((HO5.out.lt k hk).1)); have HO6 : Hid (w6.ownsRow W.heap.size 5 1 (.slice (some ⟨g6, 0, none⟩) (16 + n + 4) p6) (16 + n + 4) (B8 (headL k n s) ++ B8 body ++ B8 (Crcm.four (Crcm.sum body)))) := hown6; clear hown6 hgrow6))
  go_ret2
  refine ⟨.slice (some ⟨g6, 0, none⟩) (16 + n + 4) p6, rfl, ⟨fun i => getD_lt HSF.out i, World.ownsRow.mono (base' := w.heap.size) (base := W.heap.size) ?_ (Nat.le_of_lt HF.out.2.2)⟩, HB6.out⟩
  have h := HO6.out
  have e : frameL k s body = headL k n s ++ body ++ Crcm.four (Crcm.sum body) := by unfold frameL; rw [HN.out, List.append_assoc]
  rw [frameL_length, HN.out, e, B8_append, B8_append, show n + 20 = 16 + n + 4 from by omega]
  exact h
set_option maxRecDepth 20000 in
set_option maxHeartbeats 1000000 in
theorem rfenc_bad (kind seq : Int) (a : Option Addr) (n cap : Nat) (w : World) (hn : n ≤ 281474976710656) (hE : encE kind seq n ≠ 0) :
    Calls Tryd.prog 29 #[FrV kind seq (.slice a n cap)] w fun r w' => r = .returned (.tuple #[.slice none 0 0, .int .i64 (encE kind seq n : Nat)]) ∧ Below w.heap.size w w' := by
  by_cases h1 : inB kind seq = false
  · have HE : Hid (encE kind seq n = 63) := by show _ = _; unfold encE; rw [if_pos h1]
    clear hE
    have hnot : ¬ (1 ≤ kind ∧ kind ≤ 7 ∧ 0 ≤ seq ∧ seq ≤ 1099511627776) := of_decide_eq_false h1
    clear h1
    by_cases q1 : kind < 1
    · go_enter Tryd.func29, Tryd.ntmps29
      go_wp2
      go_ret2
      exact ⟨by rw [HE.out]; rfl, (Below.refl _ _).alloc (Nat.le_refl _) _⟩
    by_cases q2 : 7 < kind
    · go_enter Tryd.func29, Tryd.ntmps29
      go_wp2
      go_ret2
      exact ⟨by rw [HE.out]; rfl, (Below.refl _ _).alloc (Nat.le_refl _) _⟩
    by_cases q3 : seq < 0
    · go_enter Tryd.func29, Tryd.ntmps29
      go_wp2
      go_ret2
      exact ⟨by rw [HE.out]; rfl, (Below.refl _ _).alloc (Nat.le_refl _) _⟩
    have q4 : 1099511627776 < seq := by omega
    clear hnot
    go_enter Tryd.func29, Tryd.ntmps29
    go_wp2
    go_ret2
    exact ⟨by rw [HE.out]; rfl, (Below.refl _ _).alloc (Nat.le_refl _) _⟩
  · have h2 : 16384 < n := by
      unfold encE at hE
      rw [if_neg h1] at hE
      by_cases h : 16384 < n
      · exact h
      · rw [if_neg h] at hE; exact absurd rfl hE
    have HE : Hid (encE kind seq n = 24) := by show _ = _; unfold encE; rw [if_neg h1, if_pos h2]
    have hnI : (16384 : Int) < (n : Int) := by omega
    have hn2 : (n : Int) ≤ 281474976710656 := by omega
    obtain ⟨k1, k7, s0, s1⟩ := of_decide_eq_true (show inB kind seq = true by simpa using h1)
    clear h1 hE h2
    go_enter Tryd.func29, Tryd.ntmps29
    go_wp2
    go_ret2
    exact ⟨by rw [HE.out]; rfl, (Below.refl _ _).alloc (Nat.le_refl _) _⟩
theorem encE_ok {kind seq : Int} {n : Nat} (hE : encE kind seq n = 0) : ∃ k s : Nat, kind = k ∧ seq = s ∧ 1 ≤ k ∧ k ≤ 7 ∧ s ≤ 1099511627776 ∧ n ≤ 16384 := by
  have hx := hE
  unfold encE at hx
  have h1 : inB kind seq = true := by
    by_cases h : inB kind seq = false
    · rw [if_pos h] at hx; omega
    · simpa using h
  rw [if_neg (by rw [h1]; simp)] at hx
  have h2 : ¬ 16384 < n := fun h => by rw [if_pos h] at hx; omega
  obtain ⟨k1, k7, s0, s1⟩ := of_decide_eq_true h1
  obtain ⟨k, rfl⟩ := Int.eq_ofNat_of_zero_le (show 0 ≤ kind by omega)
  obtain ⟨s, rfl⟩ := Int.eq_ofNat_of_zero_le s0
  exact ⟨k, s, rfl, rfl, by omega, by omega, by omega, by omega⟩
theorem rfenc_any (kind seq : Int) (body : List Nat) (n : Nat) (a : Option Addr) (cap : Nat) (w : World) (hn : body.length = n) (hb : Bytes w a body) (hc : a = none → cap = 0) (hl : n ≤ 281474976710656) :
    Calls Tryd.prog 29 #[FrV kind seq (.slice a n cap)] w fun r w' => ∃ v, r = .returned (.tuple #[v, .int .i64 (encE kind seq n : Nat)]) ∧ Own w' w.heap.size v (encL kind seq body) ∧ Below w.heap.size w w' := by
  by_cases hE : encE kind seq n = 0
  · obtain ⟨k, s, rfl, rfl, h1, h2, h3, h4⟩ := encE_ok hE
    unfold encL
    rw [hn, hE, if_pos rfl]
    simp only [Int.toNat_natCast]
    exact rfenc_ok k s body a n cap w h1 h2 h3 hn h4 hb hc
  · refine (rfenc_bad kind seq a n cap w hl hE).mono ?_
    rintro r w' ⟨rfl, hb'⟩
    refine ⟨_, rfl, ?_, hb'⟩
    unfold encL
    rw [hn, if_neg hE]
    exact own_none _ _
end Go.Proofs.YtaegmeilhdbnnaaDoor
