/- For every kind, number and body, whatever stands behind it: what frame.Encode lays frame.Decode reads; any shorter beginning is torn; what is out of bounds is refused. Condition: the arguments hold together at most 1048576 values and letters (the second form). -/
import Derived.Test.YtogklgpghecclaaDoorCrcTie
import Derived.Test.YtogklgpghecclaaDoorFr5
import Derived.Test.YtogklgpghecclaaDoorFr7
import Derived.Test.YtogklgpghecclaaDoorCopy
import Derived.Test.YtogklgpghecclaaDoorBulk
import Derived.Deep.CondSized
import Derived.SizedLaws
import Derived.ChangeOld
namespace Go.Proofs.YtogklgpghecclaaDoor.frameBack
open Go.ChangeShapes Go.WideShapes Go.ChangeAt Go.RowKit
set_option linter.unusedVariables false
theorem own_bytes {w : World} {base g N M cap : Nat} {l m : List Nat} (h : w.ownsRow base 5 1 (.slice (some ⟨g, 0, none⟩) (N + M) cap) (N + M) (B8 l ++ B8 m)) (hl : ∀ i, l.getD i 0 < 256) (hm : ∀ i, m.getD i 0 < 256) (e1 : l.length = N) (e2 : m.length = M) : N + M ≤ cap ∧ Bytes w (some ⟨g, 0, none⟩) (l ++ m) := by
  subst e1 e2
  have ho := Own.append hl hm h
  obtain ⟨a, c, hv, hc, _, hy, _⟩ := ho.shape
  have hv2 : some (⟨g, 0, none⟩ : Addr) = a ∧ cap = c := by injection hv with h1 h2 h3; exact ⟨h1, h3⟩
  obtain ⟨rfl, rfl⟩ := hv2
  rw [List.length_append] at hc
  exact ⟨hc, hy⟩
set_option maxRecDepth 20000 in
set_option maxHeartbeats 4000000 in
theorem walk (kind seq : Int) (l : List Nat) (a : Option Addr) (cap : Nat) (l2 : List Nat) (ab : Option Addr) (capb : Nat) (short : Int) (w : World) (w0 : (Lit.int .i64 kind).wf = true) (w1 : (Lit.int .i64 seq).wf = true) (hb : Bytes w a l) (hc : Came w a l.length cap 1) (hb2 : Bytes w ab l2) (hc2 : Came w ab l2.length capb 1) (w4 : (Lit.int .i64 short).wf = true) (hsum : cap + capb ≤ 1048576) (ht : Tab w) :
    Calls Tryd.prog 6 #[.int .i64 kind, .int .i64 seq, .slice a l.length cap, .slice ab l2.length capb, .int .i64 short] w fun e w' => e = .returned (.bool true) ∧ Below w.heap.size w w' := by
  obtain ⟨i0, hi, hz0, hz1, hz2⟩ := info_parts Tryd.info5f
  obtain ⟨hf, hr, hn⟩ := hc
  obtain ⟨hf2, hr2, hn2⟩ := hc2
  have HB : Hid (Bytes w a l) := hb
  have HT : Hid (Tab w) := ht
  have HBb : Hid (Bytes w ab l2) := hb2
  have HNb : Hid (ab = none → capb = 0) := hn2
  obtain ⟨n, hN⟩ : ∃ n, l.length = n := ⟨_, rfl⟩
  have HN : Hid (l.length = n) := hN
  obtain ⟨nb, hNb⟩ : ∃ n, l2.length = n := ⟨_, rfl⟩
  have HNB : Hid (l2.length = nb) := hNb
  rw [hN] at hf ⊢
  rw [hNb] at hf2 ⊢
  have hl : n ≤ 1048576 := by omega
  have hlb : nb ≤ 1048576 := by omega
  have hlI : (n : Int) ≤ 1048576 := by omega
  have HCP : Hid (∀ w1, Below w.heap.size w w1 → Calls Tryd.prog 11 #[.slice a n cap] w1 fun e w' => ∃ v, e = .returned v ∧ Own w' w1.heap.size v l ∧ Below w1.heap.size w1 w') := fun w1 hb1 => by
    have := copy_any l a cap w1 (hb.keep hb1) (by rw [hN]; omega)
    rw [hN] at this
    exact this
  have HEN : Hid (∀ w1 a1 c1, Below w.heap.size w w1 → Bytes w1 a1 l → ((a1 = none ∧ l = [] ∧ c1 = 0) ∨ ∃ g, a1 = some ⟨g, 0, none⟩) → Calls Tryd.prog 13 #[FrV kind seq (.slice a1 n c1)] w1 fun r w' => ∃ v, r = .returned (.tuple #[v, .int .i64 (encE kind seq n : Nat)]) ∧ Own w' w1.heap.size v (encL kind seq l) ∧ Below w1.heap.size w1 w') := fun w1 a1 c1 hb1 hy1 hs1 => fenc_any kind seq l n a1 c1 w1 hN hy1 (fun h => by rcases hs1 with h2 | ⟨g, h2⟩; exact h2.2.2; rw [h] at h2; cases h2) (by omega) (fun x h => by rcases hs1 with h2 | ⟨g, h2⟩; rw [h2.1] at h; cases h; rw [h2] at h; cases h; exact ⟨g, 0, rfl⟩) (ht.keep hb1)
  have T1 : Hid True := trivial
  have T2 : Hid True := trivial
  have T3 : Hid True := trivial
  clear hb ht hN hb2 hNb w0 w1 w4 hn hn2 hr hr2 hsum
  by_cases hE : encE kind seq n = 0
  · obtain ⟨k, s, rfl, rfl, hk1, hk7, hs1, hn4⟩ := encE_ok hE
    have HE : Hid (encE (k : Int) (s : Int) n = 0) := hE
    have HEL : Hid (encL (k : Int) (s : Int) l = frameL k s l) := by show _ = _; unfold encL; rw [HN.out, hE, if_pos rfl]; rfl
    obtain ⟨L, hL⟩ : ∃ L, n + 20 = L := ⟨_, rfl⟩
    have HFL : Hid ((frameL k s l).length = L) := by show _ = _; rw [frameL_length, HN.out, hL]
    have hL1 : L ≤ 16404 := by omega
    have hL0 : 20 ≤ L := by omega
    have hLp : 0 < L := by omega
    have hLb : L + nb ≤ 140737488355328 := by omega
    have HFN : Hid (frameL k s l ≠ []) := by intro h; have := HFL.out; rw [h] at this; simp at this; omega
    have HFB : Hid (∀ i, (frameL k s l).getD i 0 < 256) := fun i => getD_lt (frameL_lt k s l (by omega) HB.out.mem) i
    have HFLb : Hid ((frameL k s l ++ l2).length = L + nb) := by show _ = _; rw [List.length_append, HFL.out, HNB.out]
    have HDV : Hid (∀ v, DV (frameL k s l ++ l2) v = .tuple #[FrV (k : Int) (s : Int) v, .int .i64 (L : Int), .int .i64 0] ∧ decB (frameL k s l ++ l2) = l) := fun v => by
      have h := dv_laid k s l l2 v HB.out.mem hk1 hk7 (by rw [HN.out]; exact hn4) hs1
      rw [HN.out, hL] at h
      exact h
    have HZ : Hid (fsz (n : Int) = (L : Int)) := by show _ = _; unfold fsz; rw [if_neg (by omega)]; omega
    have hnm : n ≤ maxLen := by unfold maxLen; omega
    have hLI : (L : Int) ≤ 16404 := by omega
    have hL0I : (20 : Int) ≤ (L : Int) := by omega
    have hkI1 : (1 : Int) ≤ (k : Int) := by omega
    have hkI7 : (k : Int) ≤ 7 := by omega
    have hsI : (s : Int) ≤ 1099511627776 := by omega
    have hs0 : (0 : Int) ≤ (s : Int) := by omega
    have hnI : (n : Int) ≤ 16384 := by omega
    have HSH : Hid (∀ m, m < L → ((frameL k s l).take m).length = m ∧ ∀ v, DV ((frameL k s l).take m) v = .tuple #[FrV 0 0 v, .int .i64 0, .int .i64 60]) := fun m hm => by
      refine ⟨by rw [List.length_take, HFL.out]; omega, fun v => (dv_none _ v 60 (dec_short k s m l HB.out.mem hk1 hk7 (by rw [HN.out]; exact hn4) hs1 (by rw [HN.out]; omega)) (by decide)).1⟩
    clear hE hL hn4
    by_cases h1 : short < 0
    · obtain ⟨m, hm⟩ : ∃ m, m + 1 = L := ⟨L - 1, by omega⟩
      have HML : Hid (((frameL k s l).take m).length = m) := (HSH.out m (by omega)).1
      have HDM : Hid (∀ v, _ ∧ True) := fun v => ⟨(HSH.out m (by omega)).2 v, trivial⟩
      have hmI : (L : Int) - 1 = (m : Int) := by omega
      have hmc : (m : Int) ≤ (L : Int) := by omega
      clear HSH hm
      go_enter Tryd.func6, Tryd.ntmps6
      go_wp2_with (first
        | (go_at_call 9; refine (head11_any w HT.out).mono ?_; rintro e w1 ⟨rfl, hb1⟩; have HB1 : Hid (Below w.heap.size w w1) := hb1; clear hb1)
        | (go_at_call 11; clear T1; refine (HCP.out _ HB1.out).mono ?_; rintro e w2 ⟨v2, rfl, ho2, hb2⟩; obtain ⟨a2, c2, hv2, hc2, _, hy2, hs2⟩ := ho2.shape; rw [HN.out] at hv2 hc2; subst hv2; have HB2 : Hid (Below w.heap.size w (w2.alloc (.cells #[.int .i64 (k : Int), .int .i64 (s : Int), .slice a2 n c2] 29))) := (below_next HB1.out hb2).alloc (below_next HB1.out hb2).size _; have HY2 : Hid (Bytes (w2.alloc (.cells #[.int .i64 (k : Int), .int .i64 (s : Int), .slice a2 n c2] 29)) a2 l) := hy2.keep ((Below.refl _ _).alloc (Nat.le_refl _) _); have HF2 : Hid (FrmAt (w2.alloc (.cells #[.int .i64 (k : Int), .int .i64 (s : Int), .slice a2 n c2] 29)) w2.heap.size (k : Int) (s : Int) (.slice a2 n c2)) := FrmAt.new _ _ _ _; have HS2 : Hid ((a2 = none ∧ l = [] ∧ c2 = 0) ∨ ∃ g, a2 = some ⟨g, 0, none⟩) := hs2.elim .inl (fun ⟨g, h, _⟩ => .inr ⟨g, h⟩); clear ho2 hb2 hy2 hs2)
        | (go_at_call 13; refine (HEN.out _ _ _ HB2.out HY2.out HS2.out).mono ?_; rw [HE.out]; rintro r w3 ⟨v3, rfl, ho3, hb3⟩; rw [HEL.out] at ho3; obtain ⟨g3, c3, hv3, hc3, hy3⟩ := ho3.row HFN.out; rw [HFL.out] at hv3 hc3; subst hv3; have HB3 : Hid (Below w.heap.size w w3) := below_next HB2.out hb3; have HY3 : Hid (Bytes w3 (some ⟨g3, 0, none⟩) (frameL k s l)) := hy3; have HF3 : Hid (FrmAt w3 w2.heap.size k s (.slice a2 n c2)) := HF2.out.keep hb3; have HYM3 : Hid (Bytes w3 a2 l) := HY2.out.keep hb3; have c3I : (L : Int) ≤ (c3 : Int) := (by omega); clear ho3 hb3 hy3)
        | (go_at_call 11; clear T2; have hcp := copy_any (frameL k s l) (some ⟨g3, 0, none⟩) c3 w3 HY3.out (by rw [HFL.out]; omega); rw [HFL.out] at hcp; refine hcp.mono ?_; rintro e w4 ⟨v4, rfl, ho4, hb4⟩; obtain ⟨g4, c4, hv4, hc4, _⟩ := ho4.row HFN.out; rw [HFL.out] at hv4 hc4; subst hv4; have HB4 : Hid (Below w.heap.size w w4) := below_next HB3.out hb4; have HB34 : Hid (Below w3.heap.size w3 w4) := hb4; have HO4 : Hid (w4.ownsRow w3.heap.size 5 1 (.slice (some ⟨g4, 0, none⟩) L c4) L (B8 (frameL k s l))) := (by have h := ho4.2; rw [HFL.out] at h; exact h); clear ho4 hb4 hcp)
        | (at_builtin; refine wpList_append_any _ rfl _ _ 22 rfl w3.heap.size i0 Tryd.underlying22 hi hz0 hz1 hz2 _ _ _ rfl HO4.out hLp ab nb capb l2 rfl HNB.out (HBb.out.keep HB4.out) HNb.out hLb HB34.out.size ?_; intro g5 c5 w5 ho5 hg5; have HB35 : Hid (Below w3.heap.size w3 w5) := grown_row HB34.out HO4.out HB34.out.size hg5; have HB5 : Hid (Below w.heap.size w w5) := below_next HB3.out HB35.out; obtain ⟨hc5, hy5⟩ := own_bytes ho5 HFB.out HBb.out.1 HFL.out HNB.out; have HY5 : Hid (Bytes w5 (some ⟨g5, 0, none⟩) (frameL k s l ++ l2)) := hy5; clear ho5 hg5 hy5)
        | (go_at_call 18; clear T3; refine (fdec_any (frameL k s l ++ l2) (L + nb) _ _ _ HFLb.out HY5.out (by rw [HFLb.out]; omega) (by rw [HFLb.out]; exact hc5) (HT.out.keep HB5.out)).mono ?_; rintro r w6 ⟨v6, rfl, ho6, hb6⟩; rw [(HDV.out v6).1]; rw [(HDV.out v6).2] at ho6; obtain ⟨a6, c6, hv6, _, _, hy6, _⟩ := ho6.shape; rw [HN.out] at hv6; subst hv6; have HB36 : Hid (Below w3.heap.size w3 (w6.alloc (.cells #[.int .i64 (k : Int), .int .i64 (s : Int), .slice a6 n c6] 29))) := (below_next HB35.out hb6).alloc (below_next HB35.out hb6).size _; have HB6 : Hid (Below w.heap.size w (w6.alloc (.cells #[.int .i64 (k : Int), .int .i64 (s : Int), .slice a6 n c6] 29))) := below_next HB3.out HB36.out; have HY6 : Hid (Bytes (w6.alloc (.cells #[.int .i64 (k : Int), .int .i64 (s : Int), .slice a6 n c6] 29)) a6 l) := hy6.keep ((Below.refl _ _).alloc (Nat.le_refl _) _); have HF6 : Hid (FrmAt (w6.alloc (.cells #[.int .i64 (k : Int), .int .i64 (s : Int), .slice a6 n c6] 29)) w6.heap.size k s (.slice a6 n c6)) := FrmAt.new _ _ _ _; have HF36 : Hid (FrmAt (w6.alloc (.cells #[.int .i64 (k : Int), .int .i64 (s : Int), .slice a6 n c6] 29)) w2.heap.size k s (.slice a2 n c2)) := HF3.out.keep HB36.out; obtain ⟨x0, x1, x2⟩ := FrmAt.cells HF36.out; obtain ⟨z0, z1, z2⟩ := FrmAt.cells HF6.out; clear ho6 hb6 hy6)
        | (go_at_call 10; refine (fsize_any (n : Int) _).mono ?_; rw [HZ.out]; rintro r w0 ⟨rfl, rfl⟩)
        | (go_at_call 19; refine (fsame_any (k : Int) (s : Int) (k : Int) (s : Int) l l n n a2 a6 c2 c6 _ HN.out HN.out (HYM3.out.keep HB36.out) HY6.out hnm hnm rfl rfl).mono ?_; simp only [decide_true]; rintro r w8 ⟨rfl, hb8⟩; have HB38 : Hid (Below w3.heap.size w3 w8) := below_next HB36.out hb8; have HB8 : Hid (Below w.heap.size w w8) := below_next HB3.out HB38.out; clear hb8 x0 x1 x2 z0 z1 z2)
        | (go_at_call 18; refine (fdec_any ((frameL k s l).take m) m _ _ _ HML.out ((HY3.out.keep HB38.out).take m) (by rw [HML.out]; omega) (by rw [HML.out]; omega) (HT.out.keep HB8.out)).mono ?_; rintro r w9 ⟨v9, rfl, ho9, hb9⟩; rw [(HDM.out v9).1]; obtain ⟨a9, c9, hv9, _⟩ := ho9.shape; subst hv9; have HB9 : Hid (Below w.heap.size w w9) := below_next HB8.out hb9; clear ho9 hb9))
      go_ret
      exact ⟨rfl, HB9.out.alloc HB9.out.size _⟩
    by_cases h2 : (L : Int) ≤ short
    · obtain ⟨m, hm⟩ : ∃ m, m + 1 = L := ⟨L - 1, by omega⟩
      have HML : Hid (((frameL k s l).take m).length = m) := (HSH.out m (by omega)).1
      have HDM : Hid (∀ v, _ ∧ True) := fun v => ⟨(HSH.out m (by omega)).2 v, trivial⟩
      have hmI : (L : Int) - 1 = (m : Int) := by omega
      have hmc : (m : Int) ≤ (L : Int) := by omega
      have h1' : 0 ≤ short := by omega
      clear HSH hm
      go_enter Tryd.func6, Tryd.ntmps6
      go_wp2_with (first
        | (go_at_call 9; refine (head11_any w HT.out).mono ?_; rintro e w1 ⟨rfl, hb1⟩; have HB1 : Hid (Below w.heap.size w w1) := hb1; clear hb1)
        | (go_at_call 11; clear T1; refine (HCP.out _ HB1.out).mono ?_; rintro e w2 ⟨v2, rfl, ho2, hb2⟩; obtain ⟨a2, c2, hv2, hc2, _, hy2, hs2⟩ := ho2.shape; rw [HN.out] at hv2 hc2; subst hv2; have HB2 : Hid (Below w.heap.size w (w2.alloc (.cells #[.int .i64 (k : Int), .int .i64 (s : Int), .slice a2 n c2] 29))) := (below_next HB1.out hb2).alloc (below_next HB1.out hb2).size _; have HY2 : Hid (Bytes (w2.alloc (.cells #[.int .i64 (k : Int), .int .i64 (s : Int), .slice a2 n c2] 29)) a2 l) := hy2.keep ((Below.refl _ _).alloc (Nat.le_refl _) _); have HF2 : Hid (FrmAt (w2.alloc (.cells #[.int .i64 (k : Int), .int .i64 (s : Int), .slice a2 n c2] 29)) w2.heap.size (k : Int) (s : Int) (.slice a2 n c2)) := FrmAt.new _ _ _ _; have HS2 : Hid ((a2 = none ∧ l = [] ∧ c2 = 0) ∨ ∃ g, a2 = some ⟨g, 0, none⟩) := hs2.elim .inl (fun ⟨g, h, _⟩ => .inr ⟨g, h⟩); clear ho2 hb2 hy2 hs2)
        | (go_at_call 13; refine (HEN.out _ _ _ HB2.out HY2.out HS2.out).mono ?_; rw [HE.out]; rintro r w3 ⟨v3, rfl, ho3, hb3⟩; rw [HEL.out] at ho3; obtain ⟨g3, c3, hv3, hc3, hy3⟩ := ho3.row HFN.out; rw [HFL.out] at hv3 hc3; subst hv3; have HB3 : Hid (Below w.heap.size w w3) := below_next HB2.out hb3; have HY3 : Hid (Bytes w3 (some ⟨g3, 0, none⟩) (frameL k s l)) := hy3; have HF3 : Hid (FrmAt w3 w2.heap.size k s (.slice a2 n c2)) := HF2.out.keep hb3; have HYM3 : Hid (Bytes w3 a2 l) := HY2.out.keep hb3; have c3I : (L : Int) ≤ (c3 : Int) := (by omega); clear ho3 hb3 hy3)
        | (go_at_call 11; clear T2; have hcp := copy_any (frameL k s l) (some ⟨g3, 0, none⟩) c3 w3 HY3.out (by rw [HFL.out]; omega); rw [HFL.out] at hcp; refine hcp.mono ?_; rintro e w4 ⟨v4, rfl, ho4, hb4⟩; obtain ⟨g4, c4, hv4, hc4, _⟩ := ho4.row HFN.out; rw [HFL.out] at hv4 hc4; subst hv4; have HB4 : Hid (Below w.heap.size w w4) := below_next HB3.out hb4; have HB34 : Hid (Below w3.heap.size w3 w4) := hb4; have HO4 : Hid (w4.ownsRow w3.heap.size 5 1 (.slice (some ⟨g4, 0, none⟩) L c4) L (B8 (frameL k s l))) := (by have h := ho4.2; rw [HFL.out] at h; exact h); clear ho4 hb4 hcp)
        | (at_builtin; refine wpList_append_any _ rfl _ _ 22 rfl w3.heap.size i0 Tryd.underlying22 hi hz0 hz1 hz2 _ _ _ rfl HO4.out hLp ab nb capb l2 rfl HNB.out (HBb.out.keep HB4.out) HNb.out hLb HB34.out.size ?_; intro g5 c5 w5 ho5 hg5; have HB35 : Hid (Below w3.heap.size w3 w5) := grown_row HB34.out HO4.out HB34.out.size hg5; have HB5 : Hid (Below w.heap.size w w5) := below_next HB3.out HB35.out; obtain ⟨hc5, hy5⟩ := own_bytes ho5 HFB.out HBb.out.1 HFL.out HNB.out; have HY5 : Hid (Bytes w5 (some ⟨g5, 0, none⟩) (frameL k s l ++ l2)) := hy5; clear ho5 hg5 hy5)
        | (go_at_call 18; clear T3; refine (fdec_any (frameL k s l ++ l2) (L + nb) _ _ _ HFLb.out HY5.out (by rw [HFLb.out]; omega) (by rw [HFLb.out]; exact hc5) (HT.out.keep HB5.out)).mono ?_; rintro r w6 ⟨v6, rfl, ho6, hb6⟩; rw [(HDV.out v6).1]; rw [(HDV.out v6).2] at ho6; obtain ⟨a6, c6, hv6, _, _, hy6, _⟩ := ho6.shape; rw [HN.out] at hv6; subst hv6; have HB36 : Hid (Below w3.heap.size w3 (w6.alloc (.cells #[.int .i64 (k : Int), .int .i64 (s : Int), .slice a6 n c6] 29))) := (below_next HB35.out hb6).alloc (below_next HB35.out hb6).size _; have HB6 : Hid (Below w.heap.size w (w6.alloc (.cells #[.int .i64 (k : Int), .int .i64 (s : Int), .slice a6 n c6] 29))) := below_next HB3.out HB36.out; have HY6 : Hid (Bytes (w6.alloc (.cells #[.int .i64 (k : Int), .int .i64 (s : Int), .slice a6 n c6] 29)) a6 l) := hy6.keep ((Below.refl _ _).alloc (Nat.le_refl _) _); have HF6 : Hid (FrmAt (w6.alloc (.cells #[.int .i64 (k : Int), .int .i64 (s : Int), .slice a6 n c6] 29)) w6.heap.size k s (.slice a6 n c6)) := FrmAt.new _ _ _ _; have HF36 : Hid (FrmAt (w6.alloc (.cells #[.int .i64 (k : Int), .int .i64 (s : Int), .slice a6 n c6] 29)) w2.heap.size k s (.slice a2 n c2)) := HF3.out.keep HB36.out; obtain ⟨x0, x1, x2⟩ := FrmAt.cells HF36.out; obtain ⟨z0, z1, z2⟩ := FrmAt.cells HF6.out; clear ho6 hb6 hy6)
        | (go_at_call 10; refine (fsize_any (n : Int) _).mono ?_; rw [HZ.out]; rintro r w0 ⟨rfl, rfl⟩)
        | (go_at_call 19; refine (fsame_any (k : Int) (s : Int) (k : Int) (s : Int) l l n n a2 a6 c2 c6 _ HN.out HN.out (HYM3.out.keep HB36.out) HY6.out hnm hnm rfl rfl).mono ?_; simp only [decide_true]; rintro r w8 ⟨rfl, hb8⟩; have HB38 : Hid (Below w3.heap.size w3 w8) := below_next HB36.out hb8; have HB8 : Hid (Below w.heap.size w w8) := below_next HB3.out HB38.out; clear hb8 x0 x1 x2 z0 z1 z2)
        | (go_at_call 18; refine (fdec_any ((frameL k s l).take m) m _ _ _ HML.out ((HY3.out.keep HB38.out).take m) (by rw [HML.out]; omega) (by rw [HML.out]; omega) (HT.out.keep HB8.out)).mono ?_; rintro r w9 ⟨v9, rfl, ho9, hb9⟩; rw [(HDM.out v9).1]; obtain ⟨a9, c9, hv9, _⟩ := ho9.shape; subst hv9; have HB9 : Hid (Below w.heap.size w w9) := below_next HB8.out hb9; clear ho9 hb9))
      go_ret
      exact ⟨rfl, HB9.out.alloc HB9.out.size _⟩
    obtain ⟨m, rfl⟩ := Int.eq_ofNat_of_zero_le (show 0 ≤ short by omega)
    have HML : Hid (((frameL k s l).take m).length = m) := (HSH.out m (by omega)).1
    have HDM : Hid (∀ v, _ ∧ True) := fun v => ⟨(HSH.out m (by omega)).2 v, trivial⟩
    have hmc : (m : Int) ≤ (L : Int) := by omega
    have hmL : m ≤ L := by omega
    clear HSH
    go_enter Tryd.func6, Tryd.ntmps6
    go_wp2_with (first
      | (go_at_call 9; refine (head11_any w HT.out).mono ?_; rintro e w1 ⟨rfl, hb1⟩; have HB1 : Hid (Below w.heap.size w w1) := hb1; clear hb1)
      | (go_at_call 11; clear T1; refine (HCP.out _ HB1.out).mono ?_; rintro e w2 ⟨v2, rfl, ho2, hb2⟩; obtain ⟨a2, c2, hv2, hc2, _, hy2, hs2⟩ := ho2.shape; rw [HN.out] at hv2 hc2; subst hv2; have HB2 : Hid (Below w.heap.size w (w2.alloc (.cells #[.int .i64 (k : Int), .int .i64 (s : Int), .slice a2 n c2] 29))) := (below_next HB1.out hb2).alloc (below_next HB1.out hb2).size _; have HY2 : Hid (Bytes (w2.alloc (.cells #[.int .i64 (k : Int), .int .i64 (s : Int), .slice a2 n c2] 29)) a2 l) := hy2.keep ((Below.refl _ _).alloc (Nat.le_refl _) _); have HF2 : Hid (FrmAt (w2.alloc (.cells #[.int .i64 (k : Int), .int .i64 (s : Int), .slice a2 n c2] 29)) w2.heap.size (k : Int) (s : Int) (.slice a2 n c2)) := FrmAt.new _ _ _ _; have HS2 : Hid ((a2 = none ∧ l = [] ∧ c2 = 0) ∨ ∃ g, a2 = some ⟨g, 0, none⟩) := hs2.elim .inl (fun ⟨g, h, _⟩ => .inr ⟨g, h⟩); clear ho2 hb2 hy2 hs2)
      | (go_at_call 13; refine (HEN.out _ _ _ HB2.out HY2.out HS2.out).mono ?_; rw [HE.out]; rintro r w3 ⟨v3, rfl, ho3, hb3⟩; rw [HEL.out] at ho3; obtain ⟨g3, c3, hv3, hc3, hy3⟩ := ho3.row HFN.out; rw [HFL.out] at hv3 hc3; subst hv3; have HB3 : Hid (Below w.heap.size w w3) := below_next HB2.out hb3; have HY3 : Hid (Bytes w3 (some ⟨g3, 0, none⟩) (frameL k s l)) := hy3; have HF3 : Hid (FrmAt w3 w2.heap.size k s (.slice a2 n c2)) := HF2.out.keep hb3; have HYM3 : Hid (Bytes w3 a2 l) := HY2.out.keep hb3; have c3I : (L : Int) ≤ (c3 : Int) := (by omega); clear ho3 hb3 hy3)
      | (go_at_call 11; clear T2; have hcp := copy_any (frameL k s l) (some ⟨g3, 0, none⟩) c3 w3 HY3.out (by rw [HFL.out]; omega); rw [HFL.out] at hcp; refine hcp.mono ?_; rintro e w4 ⟨v4, rfl, ho4, hb4⟩; obtain ⟨g4, c4, hv4, hc4, _⟩ := ho4.row HFN.out; rw [HFL.out] at hv4 hc4; subst hv4; have HB4 : Hid (Below w.heap.size w w4) := below_next HB3.out hb4; have HB34 : Hid (Below w3.heap.size w3 w4) := hb4; have HO4 : Hid (w4.ownsRow w3.heap.size 5 1 (.slice (some ⟨g4, 0, none⟩) L c4) L (B8 (frameL k s l))) := (by have h := ho4.2; rw [HFL.out] at h; exact h); clear ho4 hb4 hcp)
      | (at_builtin; refine wpList_append_any _ rfl _ _ 22 rfl w3.heap.size i0 Tryd.underlying22 hi hz0 hz1 hz2 _ _ _ rfl HO4.out hLp ab nb capb l2 rfl HNB.out (HBb.out.keep HB4.out) HNb.out hLb HB34.out.size ?_; intro g5 c5 w5 ho5 hg5; have HB35 : Hid (Below w3.heap.size w3 w5) := grown_row HB34.out HO4.out HB34.out.size hg5; have HB5 : Hid (Below w.heap.size w w5) := below_next HB3.out HB35.out; obtain ⟨hc5, hy5⟩ := own_bytes ho5 HFB.out HBb.out.1 HFL.out HNB.out; have HY5 : Hid (Bytes w5 (some ⟨g5, 0, none⟩) (frameL k s l ++ l2)) := hy5; clear ho5 hg5 hy5)
      | (go_at_call 18; clear T3; refine (fdec_any (frameL k s l ++ l2) (L + nb) _ _ _ HFLb.out HY5.out (by rw [HFLb.out]; omega) (by rw [HFLb.out]; exact hc5) (HT.out.keep HB5.out)).mono ?_; rintro r w6 ⟨v6, rfl, ho6, hb6⟩; rw [(HDV.out v6).1]; rw [(HDV.out v6).2] at ho6; obtain ⟨a6, c6, hv6, _, _, hy6, _⟩ := ho6.shape; rw [HN.out] at hv6; subst hv6; have HB36 : Hid (Below w3.heap.size w3 (w6.alloc (.cells #[.int .i64 (k : Int), .int .i64 (s : Int), .slice a6 n c6] 29))) := (below_next HB35.out hb6).alloc (below_next HB35.out hb6).size _; have HB6 : Hid (Below w.heap.size w (w6.alloc (.cells #[.int .i64 (k : Int), .int .i64 (s : Int), .slice a6 n c6] 29))) := below_next HB3.out HB36.out; have HY6 : Hid (Bytes (w6.alloc (.cells #[.int .i64 (k : Int), .int .i64 (s : Int), .slice a6 n c6] 29)) a6 l) := hy6.keep ((Below.refl _ _).alloc (Nat.le_refl _) _); have HF6 : Hid (FrmAt (w6.alloc (.cells #[.int .i64 (k : Int), .int .i64 (s : Int), .slice a6 n c6] 29)) w6.heap.size k s (.slice a6 n c6)) := FrmAt.new _ _ _ _; have HF36 : Hid (FrmAt (w6.alloc (.cells #[.int .i64 (k : Int), .int .i64 (s : Int), .slice a6 n c6] 29)) w2.heap.size k s (.slice a2 n c2)) := HF3.out.keep HB36.out; obtain ⟨x0, x1, x2⟩ := FrmAt.cells HF36.out; obtain ⟨z0, z1, z2⟩ := FrmAt.cells HF6.out; clear ho6 hb6 hy6)
      | (go_at_call 10; refine (fsize_any (n : Int) _).mono ?_; rw [HZ.out]; rintro r w0 ⟨rfl, rfl⟩)
      | (go_at_call 19; refine (fsame_any (k : Int) (s : Int) (k : Int) (s : Int) l l n n a2 a6 c2 c6 _ HN.out HN.out (HYM3.out.keep HB36.out) HY6.out hnm hnm rfl rfl).mono ?_; simp only [decide_true]; rintro r w8 ⟨rfl, hb8⟩; have HB38 : Hid (Below w3.heap.size w3 w8) := below_next HB36.out hb8; have HB8 : Hid (Below w.heap.size w w8) := below_next HB3.out HB38.out; clear hb8 x0 x1 x2 z0 z1 z2)
      | (go_at_call 18; refine (fdec_any ((frameL k s l).take m) m _ _ _ HML.out ((HY3.out.keep HB38.out).take m) (by rw [HML.out]; omega) (by rw [HML.out]; omega) (HT.out.keep HB8.out)).mono ?_; rintro r w9 ⟨v9, rfl, ho9, hb9⟩; rw [(HDM.out v9).1]; obtain ⟨a9, c9, hv9, _⟩ := ho9.shape; subst hv9; have HB9 : Hid (Below w.heap.size w w9) := below_next HB8.out hb9; clear ho9 hb9))
    go_ret
    exact ⟨rfl, HB9.out.alloc HB9.out.size _⟩
  · obtain ⟨e0, he⟩ : ∃ e, encE kind seq n = e := ⟨_, rfl⟩
    have HE : Hid (encE kind seq n = e0) := he
    have HEL : Hid (encL kind seq l = []) := by show _ = _; unfold encL; rw [HN.out, if_neg hE]
    have heI : ((e0 : Int) == 0) = false := by simp; omega
    have hor : kind < 1 ∨ 7 < kind ∨ seq < 0 ∨ 1099511627776 < seq ∨ 16384 < n := by
      apply Decidable.byContradiction
      intro hh
      apply hE
      unfold encE
      rw [if_neg (by unfold inB; simp; omega), if_neg (by omega)]
    clear hE he
    by_cases q1 : kind < 1
    · clear hor
      go_enter Tryd.func6, Tryd.ntmps6
      go_wp2_with (first
        | (go_at_call 9; refine (head11_any w HT.out).mono ?_; rintro e w1 ⟨rfl, hb1⟩; have HB1 : Hid (Below w.heap.size w w1) := hb1; clear hb1)
        | (go_at_call 11; clear T1; refine (HCP.out _ HB1.out).mono ?_; rintro e w2 ⟨v2, rfl, ho2, hb2⟩; obtain ⟨a2, c2, hv2, hc2, _, hy2, hs2⟩ := ho2.shape; rw [HN.out] at hv2 hc2; subst hv2; have HB2 : Hid (Below w.heap.size w (w2.alloc (.cells #[.int .i64 kind, .int .i64 seq, .slice a2 n c2] 29))) := (below_next HB1.out hb2).alloc (below_next HB1.out hb2).size _; have HY2 : Hid (Bytes (w2.alloc (.cells #[.int .i64 kind, .int .i64 seq, .slice a2 n c2] 29)) a2 l) := hy2.keep ((Below.refl _ _).alloc (Nat.le_refl _) _); have HF2 : Hid (FrmAt (w2.alloc (.cells #[.int .i64 kind, .int .i64 seq, .slice a2 n c2] 29)) w2.heap.size kind seq (.slice a2 n c2)) := FrmAt.new _ _ _ _; have HS2 : Hid ((a2 = none ∧ l = [] ∧ c2 = 0) ∨ ∃ g, a2 = some ⟨g, 0, none⟩) := hs2.elim .inl (fun ⟨g, h, _⟩ => .inr ⟨g, h⟩); clear ho2 hb2 hy2 hs2)
        | (go_at_call 13; refine (HEN.out _ _ _ HB2.out HY2.out HS2.out).mono ?_; rw [HE.out]; rintro r w3 ⟨v3, rfl, ho3, hb3⟩; rw [HEL.out] at ho3; obtain ⟨a3, c3, hv3, _⟩ := ho3.shape; rw [List.length_nil] at hv3; subst hv3; have HB3 : Hid (Below w.heap.size w w3) := below_next HB2.out hb3; clear ho3 hb3))
      go_ret
      exact ⟨rfl, HB3.out⟩
    have p1 : 1 ≤ kind := by omega
    by_cases q2 : 7 < kind
    · clear hor
      go_enter Tryd.func6, Tryd.ntmps6
      go_wp2_with (first
        | (go_at_call 9; refine (head11_any w HT.out).mono ?_; rintro e w1 ⟨rfl, hb1⟩; have HB1 : Hid (Below w.heap.size w w1) := hb1; clear hb1)
        | (go_at_call 11; clear T1; refine (HCP.out _ HB1.out).mono ?_; rintro e w2 ⟨v2, rfl, ho2, hb2⟩; obtain ⟨a2, c2, hv2, hc2, _, hy2, hs2⟩ := ho2.shape; rw [HN.out] at hv2 hc2; subst hv2; have HB2 : Hid (Below w.heap.size w (w2.alloc (.cells #[.int .i64 kind, .int .i64 seq, .slice a2 n c2] 29))) := (below_next HB1.out hb2).alloc (below_next HB1.out hb2).size _; have HY2 : Hid (Bytes (w2.alloc (.cells #[.int .i64 kind, .int .i64 seq, .slice a2 n c2] 29)) a2 l) := hy2.keep ((Below.refl _ _).alloc (Nat.le_refl _) _); have HF2 : Hid (FrmAt (w2.alloc (.cells #[.int .i64 kind, .int .i64 seq, .slice a2 n c2] 29)) w2.heap.size kind seq (.slice a2 n c2)) := FrmAt.new _ _ _ _; have HS2 : Hid ((a2 = none ∧ l = [] ∧ c2 = 0) ∨ ∃ g, a2 = some ⟨g, 0, none⟩) := hs2.elim .inl (fun ⟨g, h, _⟩ => .inr ⟨g, h⟩); clear ho2 hb2 hy2 hs2)
        | (go_at_call 13; refine (HEN.out _ _ _ HB2.out HY2.out HS2.out).mono ?_; rw [HE.out]; rintro r w3 ⟨v3, rfl, ho3, hb3⟩; rw [HEL.out] at ho3; obtain ⟨a3, c3, hv3, _⟩ := ho3.shape; rw [List.length_nil] at hv3; subst hv3; have HB3 : Hid (Below w.heap.size w w3) := below_next HB2.out hb3; clear ho3 hb3))
      go_ret
      exact ⟨rfl, HB3.out⟩
    have p2 : kind ≤ 7 := by omega
    by_cases q3 : seq < 0
    · clear hor
      go_enter Tryd.func6, Tryd.ntmps6
      go_wp2_with (first
        | (go_at_call 9; refine (head11_any w HT.out).mono ?_; rintro e w1 ⟨rfl, hb1⟩; have HB1 : Hid (Below w.heap.size w w1) := hb1; clear hb1)
        | (go_at_call 11; clear T1; refine (HCP.out _ HB1.out).mono ?_; rintro e w2 ⟨v2, rfl, ho2, hb2⟩; obtain ⟨a2, c2, hv2, hc2, _, hy2, hs2⟩ := ho2.shape; rw [HN.out] at hv2 hc2; subst hv2; have HB2 : Hid (Below w.heap.size w (w2.alloc (.cells #[.int .i64 kind, .int .i64 seq, .slice a2 n c2] 29))) := (below_next HB1.out hb2).alloc (below_next HB1.out hb2).size _; have HY2 : Hid (Bytes (w2.alloc (.cells #[.int .i64 kind, .int .i64 seq, .slice a2 n c2] 29)) a2 l) := hy2.keep ((Below.refl _ _).alloc (Nat.le_refl _) _); have HF2 : Hid (FrmAt (w2.alloc (.cells #[.int .i64 kind, .int .i64 seq, .slice a2 n c2] 29)) w2.heap.size kind seq (.slice a2 n c2)) := FrmAt.new _ _ _ _; have HS2 : Hid ((a2 = none ∧ l = [] ∧ c2 = 0) ∨ ∃ g, a2 = some ⟨g, 0, none⟩) := hs2.elim .inl (fun ⟨g, h, _⟩ => .inr ⟨g, h⟩); clear ho2 hb2 hy2 hs2)
        | (go_at_call 13; refine (HEN.out _ _ _ HB2.out HY2.out HS2.out).mono ?_; rw [HE.out]; rintro r w3 ⟨v3, rfl, ho3, hb3⟩; rw [HEL.out] at ho3; obtain ⟨a3, c3, hv3, _⟩ := ho3.shape; rw [List.length_nil] at hv3; subst hv3; have HB3 : Hid (Below w.heap.size w w3) := below_next HB2.out hb3; clear ho3 hb3))
      go_ret
      exact ⟨rfl, HB3.out⟩
    have p3 : 0 ≤ seq := by omega
    by_cases q4 : 1099511627776 < seq
    · clear hor
      go_enter Tryd.func6, Tryd.ntmps6
      go_wp2_with (first
        | (go_at_call 9; refine (head11_any w HT.out).mono ?_; rintro e w1 ⟨rfl, hb1⟩; have HB1 : Hid (Below w.heap.size w w1) := hb1; clear hb1)
        | (go_at_call 11; clear T1; refine (HCP.out _ HB1.out).mono ?_; rintro e w2 ⟨v2, rfl, ho2, hb2⟩; obtain ⟨a2, c2, hv2, hc2, _, hy2, hs2⟩ := ho2.shape; rw [HN.out] at hv2 hc2; subst hv2; have HB2 : Hid (Below w.heap.size w (w2.alloc (.cells #[.int .i64 kind, .int .i64 seq, .slice a2 n c2] 29))) := (below_next HB1.out hb2).alloc (below_next HB1.out hb2).size _; have HY2 : Hid (Bytes (w2.alloc (.cells #[.int .i64 kind, .int .i64 seq, .slice a2 n c2] 29)) a2 l) := hy2.keep ((Below.refl _ _).alloc (Nat.le_refl _) _); have HF2 : Hid (FrmAt (w2.alloc (.cells #[.int .i64 kind, .int .i64 seq, .slice a2 n c2] 29)) w2.heap.size kind seq (.slice a2 n c2)) := FrmAt.new _ _ _ _; have HS2 : Hid ((a2 = none ∧ l = [] ∧ c2 = 0) ∨ ∃ g, a2 = some ⟨g, 0, none⟩) := hs2.elim .inl (fun ⟨g, h, _⟩ => .inr ⟨g, h⟩); clear ho2 hb2 hy2 hs2)
        | (go_at_call 13; refine (HEN.out _ _ _ HB2.out HY2.out HS2.out).mono ?_; rw [HE.out]; rintro r w3 ⟨v3, rfl, ho3, hb3⟩; rw [HEL.out] at ho3; obtain ⟨a3, c3, hv3, _⟩ := ho3.shape; rw [List.length_nil] at hv3; subst hv3; have HB3 : Hid (Below w.heap.size w w3) := below_next HB2.out hb3; clear ho3 hb3))
      go_ret
      exact ⟨rfl, HB3.out⟩
    have p4 : seq ≤ 1099511627776 := by omega
    have q5 : (16384 : Int) < (n : Int) := by omega
    have d5 : decide ((n : Int) ≤ 16384) = false := by simp; omega
    clear hor q1 q2 q3 q4
    go_enter Tryd.func6, Tryd.ntmps6
    go_wp2_with (first
      | (go_at_call 9; refine (head11_any w HT.out).mono ?_; rintro e w1 ⟨rfl, hb1⟩; have HB1 : Hid (Below w.heap.size w w1) := hb1; clear hb1)
      | (go_at_call 11; clear T1; refine (HCP.out _ HB1.out).mono ?_; rintro e w2 ⟨v2, rfl, ho2, hb2⟩; obtain ⟨a2, c2, hv2, hc2, _, hy2, hs2⟩ := ho2.shape; rw [HN.out] at hv2 hc2; subst hv2; have HB2 : Hid (Below w.heap.size w (w2.alloc (.cells #[.int .i64 kind, .int .i64 seq, .slice a2 n c2] 29))) := (below_next HB1.out hb2).alloc (below_next HB1.out hb2).size _; have HY2 : Hid (Bytes (w2.alloc (.cells #[.int .i64 kind, .int .i64 seq, .slice a2 n c2] 29)) a2 l) := hy2.keep ((Below.refl _ _).alloc (Nat.le_refl _) _); have HF2 : Hid (FrmAt (w2.alloc (.cells #[.int .i64 kind, .int .i64 seq, .slice a2 n c2] 29)) w2.heap.size kind seq (.slice a2 n c2)) := FrmAt.new _ _ _ _; have HS2 : Hid ((a2 = none ∧ l = [] ∧ c2 = 0) ∨ ∃ g, a2 = some ⟨g, 0, none⟩) := hs2.elim .inl (fun ⟨g, h, _⟩ => .inr ⟨g, h⟩); clear ho2 hb2 hy2 hs2)
      | (go_at_call 13; refine (HEN.out _ _ _ HB2.out HY2.out HS2.out).mono ?_; rw [HE.out]; rintro r w3 ⟨v3, rfl, ho3, hb3⟩; rw [HEL.out] at ho3; obtain ⟨a3, c3, hv3, _⟩ := ho3.shape; rw [List.length_nil] at hv3; subst hv3; have HB3 : Hid (Below w.heap.size w w3) := below_next HB2.out hb3; clear ho3 hb3))
    go_ret
    exact ⟨rfl, HB3.out⟩
theorem own : ownKnob Tryd.prog.godebug = none := by kernel_rfl
theorem laidOut : laidOutB Tryd.prog = true := by kernel_rfl
set_option maxRecDepth 100000 in
theorem contract (H : Type) (enc : TypeId × Value → H) (W : World) (base : Nat) (args : Array Value) (ds gs : List (DataW H)) (before : List MemPlace)
    (hval : ∀ (j : Nat) t v, Tryd.f6.params[j]? = some t → args[j]? = some v → Value.okWide Tryd.prog W .any base t v)
    (hW : DataW.Whole enc Tryd.prog Tryd.f6.params.toList Rows.frameBackSpec.vars false W args.toList ds gs before)
    (hsz : (DataW.weightsEach Tryd.prog (Tryd.f6.params.toList ++ Rows.frameBackSpec.plain.varTypes Tryd.prog) (ds ++ gs)).all (· ≤ reachBytes) = true) (hk : Rows.uptoSmall H (ds ++ gs) = true) (hL : laidMetH Tryd.prog ([("daybook/crc.halves", Rows.laid_daybook_crc_halves)]) W) :
    Calls Tryd.prog 6 args W fun e W' => ∃ v, e = .returned v ∧ Rows.frameBackSpec.post enc Tryd.prog Tryd.f6 false true false false W args v W' := by
  have hW' := hW
  obtain ⟨p, q, hA0, hV, rfl, hfz, hnd⟩ := hW
  have hA : DataW.TrodAll enc Tryd.prog W 0 (fun _ => true) true Tryd.f6.params.toList args.toList ds p := hA0
  rw [Tryd.params6] at hA hval hsz
  obtain ⟨v0, vs0, d0, ds0, p0, q0, hargs, rfl, rfl, h0, r0⟩ := trodAll_cons hA
  obtain ⟨v1, vs1, d1, ds1, p1, q1, rfl, rfl, rfl, h1, r1⟩ := trodAll_cons r0
  obtain ⟨v2, vs2, d2, ds2, p2, q2, rfl, rfl, rfl, h2, r2⟩ := trodAll_cons r1
  obtain ⟨v3, vs3, d3, ds3, p3, q3, rfl, rfl, rfl, h3, r3⟩ := trodAll_cons r2
  obtain ⟨v4, vs4, d4, ds4, p4, q4, rfl, rfl, rfl, h4, r4⟩ := trodAll_cons r3
  obtain ⟨rfl, rfl, rfl⟩ := trodAll_nil r4
  obtain rfl : args = #[v0, v1, v2, v3, v4] := by cases args; simp_all
  obtain ⟨rfl, rfl⟩ := trodVars_none hV
  obtain ⟨a0, rfl, rfl, rfl, w0⟩ := open_int Tryd.underlying3 (hval 0 3 v0 rfl rfl) h0
  obtain ⟨a1, rfl, rfl, rfl, w1⟩ := open_int Tryd.underlying3 (hval 1 3 v1 rfl rfl) h1
  obtain ⟨a2, len2, cap2, rfl⟩ := okWide_slice Tryd.underlying22 (hval 2 22 v2 rfl rfl)
  have k2 := h2
  have lt2 : ∀ x ∈ p2, x.block < W.heap.size := by obtain ⟨m, hm⟩ := k2; exact DataW.trod_lt m _ _ _ hm
  obtain ⟨l2, hlen2, w2, c2, u2⟩ : ∃ l : List Nat, l.length = len2 ∧ Bytes W a2 l ∧ Came W a2 len2 cap2 1 ∧ cap2 + 1 ≤ Rows.uptoBulk d2 := by
    obtain ⟨fuel, hf⟩ := h2
    rcases open_ints Tryd.underlying22 Tryd.underlying5 (by kernel_rfl) hf with ⟨hcs, hx⟩ | ⟨x, l, c, zs, hcs, _, hl, hm, hz, hx, hcell, hwz⟩
    · simp [Value.cells] at hcs
      obtain ⟨rfl, rfl, rfl⟩ := hcs
      obtain ⟨rfl, rfl⟩ := Prod.mk.inj hx
      exact ⟨[], rfl, ⟨by simp, .inl rfl⟩, ⟨Nat.le_refl _, by simp, fun _ => rfl⟩, by simp [Rows.uptoBulk]⟩
    · simp [Value.cells] at hcs
      obtain ⟨rfl, rfl, rfl⟩ := hcs
      have hz2 : zs.length = cap2 := by simpa using hz
      obtain ⟨ll, e1, e2, e3⟩ := row_nats .u8 256 (by decide) wf_u8 W x zs len2 (by omega) hcell hwz
      have hd : d2 = .slice (lits .u8 (zs.take len2)) (lits .u8 (zs.drop len2)) := (Prod.mk.inj hx).1
      have hreach : cap2 * 1 ≤ 140737488351232 := by
        have := sized_slice hsz (j := 2) (t := 22) (e := 5) rfl (by rw [hd]; rfl) Tryd.underlying22
        rw [show Tryd.prog.bytesOf 5 = 1 from by kernel_rfl] at this
        simp only [lits, List.length_map, List.length_take, List.length_drop, reachBytes] at this
        have hmin : min len2 zs.length = len2 := Nat.min_eq_left (by omega)
        rw [hmin] at this
        have hcap : len2 + (zs.length - len2) = cap2 := by omega
        rw [hcap] at this
        exact this
      refine ⟨ll, e1, ⟨e2, e3⟩, ⟨hl, hreach, fun h => by cases h⟩, ?_⟩
      rw [hd]
      have := bulks.slice_le (lits (H := H) .u8 (zs.take len2)) (lits .u8 (zs.drop len2))
      simp only [lits, List.length_map, List.length_take, List.length_drop] at this ⊢
      omega
  subst hlen2
  obtain ⟨a3, len3, cap3, rfl⟩ := okWide_slice Tryd.underlying22 (hval 3 22 v3 rfl rfl)
  have k3 := h3
  have lt3 : ∀ x ∈ p3, x.block < W.heap.size := by obtain ⟨m, hm⟩ := k3; exact DataW.trod_lt m _ _ _ hm
  obtain ⟨l3, hlen3, w3, c3, u3⟩ : ∃ l : List Nat, l.length = len3 ∧ Bytes W a3 l ∧ Came W a3 len3 cap3 1 ∧ cap3 + 1 ≤ Rows.uptoBulk d3 := by
    obtain ⟨fuel, hf⟩ := h3
    rcases open_ints Tryd.underlying22 Tryd.underlying5 (by kernel_rfl) hf with ⟨hcs, hx⟩ | ⟨x, l, c, zs, hcs, _, hl, hm, hz, hx, hcell, hwz⟩
    · simp [Value.cells] at hcs
      obtain ⟨rfl, rfl, rfl⟩ := hcs
      obtain ⟨rfl, rfl⟩ := Prod.mk.inj hx
      exact ⟨[], rfl, ⟨by simp, .inl rfl⟩, ⟨Nat.le_refl _, by simp, fun _ => rfl⟩, by simp [Rows.uptoBulk]⟩
    · simp [Value.cells] at hcs
      obtain ⟨rfl, rfl, rfl⟩ := hcs
      have hz2 : zs.length = cap3 := by simpa using hz
      obtain ⟨ll, e1, e2, e3⟩ := row_nats .u8 256 (by decide) wf_u8 W x zs len3 (by omega) hcell hwz
      have hd : d3 = .slice (lits .u8 (zs.take len3)) (lits .u8 (zs.drop len3)) := (Prod.mk.inj hx).1
      have hreach : cap3 * 1 ≤ 140737488351232 := by
        have := sized_slice hsz (j := 3) (t := 22) (e := 5) rfl (by rw [hd]; rfl) Tryd.underlying22
        rw [show Tryd.prog.bytesOf 5 = 1 from by kernel_rfl] at this
        simp only [lits, List.length_map, List.length_take, List.length_drop, reachBytes] at this
        have hmin : min len3 zs.length = len3 := Nat.min_eq_left (by omega)
        rw [hmin] at this
        have hcap : len3 + (zs.length - len3) = cap3 := by omega
        rw [hcap] at this
        exact this
      refine ⟨ll, e1, ⟨e2, e3⟩, ⟨hl, hreach, fun h => by cases h⟩, ?_⟩
      rw [hd]
      have := bulks.slice_le (lits (H := H) .u8 (zs.take len3)) (lits .u8 (zs.drop len3))
      simp only [lits, List.length_map, List.length_take, List.length_drop] at this ⊢
      omega
  subst hlen3
  obtain ⟨a4, rfl, rfl, rfl, w4⟩ := open_int Tryd.underlying3 (hval 4 3 v4 rfl rfl) h4
  have hbk := bulks.bound hk
  simp only [List.append_nil, Rows.uptoBulkAll] at hbk
  have hsum : cap2 + cap3 ≤ 1048576 := by omega
  clear hA0
  refine (walk a0 a1 l2 a2 cap2 l3 a3 cap3 a4 W w0 w1 w2 c2 w3 c3 w4 hsum (tab_of hL)).mono fun e W' ⟨he, bel⟩ => ?_
  subst he
  exact ⟨_, rfl, _, _, _, [], _, [], hW', trodAll_mk1 (shut_bool Tryd.underlying4 _), (trodAll_cons_mk (shut_int Tryd.underlying3 w0) (trodAll_cons_mk (shut_int Tryd.underlying3 w1) (trodAll_cons_mk (Below.trod laidOut (by kernel_rfl) (of_decide_eq_true (by kernel_rfl)) k2 bel lt2) (trodAll_cons_mk (Below.trod laidOut (by kernel_rfl) (of_decide_eq_true (by kernel_rfl)) k3 bel lt3) (trodAll_cons_mk (shut_int Tryd.underlying3 w4) trodAll_mk0))))), rfl, bel.frame _, fun h => by cases h⟩
set_option maxRecDepth 100000 in
theorem start (os : Os) : ∃ w0 : World, w0.os = os ∧ (w0.forCall (fun _ _ => 0) ⟨#[], #[.int .i64 0, .int .i64 0, .slice none 0 0, .slice none 0 0, .int .i64 0], []⟩).variablesB Tryd.prog = true ∧
    ((w0.forCall (fun _ _ => 0) ⟨#[], #[.int .i64 0, .int .i64 0, .slice none 0 0, .slice none 0 0, .int .i64 0], []⟩).heap.toList.drop Tryd.prog.globals.size).take ((begin Tryd.prog (fun _ _ => 0) default).world.heap.size - Tryd.prog.globals.size) = (begin Tryd.prog (fun _ _ => 0) default).world.heap.toList.drop Tryd.prog.globals.size ∧
    Input.okWideB Tryd.prog (w0.forCall (fun _ _ => 0) ⟨#[], #[.int .i64 0, .int .i64 0, .slice none 0 0, .slice none 0 0, .int .i64 0], []⟩) 6 ⟨#[], #[.int .i64 0, .int .i64 0, .slice none 0 0, .slice none 0 0, .int .i64 0], []⟩ = true ∧
    laidMet Tryd.prog Rows.frameBackUptoRow.laid (w0.forCall (fun _ _ => 0) ⟨#[], #[.int .i64 0, .int .i64 0, .slice none 0 0, .slice none 0 0, .int .i64 0], []⟩).memory ∧
    ∀ (H : Type) (enc : TypeId × Value → H), DataW.whole enc Tryd.prog (w0.forCall (fun _ _ => 0) ⟨#[], #[.int .i64 0, .int .i64 0, .slice none 0 0, .slice none 0 0, .int .i64 0], []⟩).memory Tryd.f6.params.toList Rows.frameBackSpec.vars false (#[.int .i64 0, .int .i64 0, .slice none 0 0, .slice none 0 0, .int .i64 0] : Array Value).toList 8 = some ([.lit (.int .i64 0), .lit (.int .i64 0), .nil, .nil, .lit (.int .i64 0)], [], []) :=
  ⟨{ World.holding Tryd.prog os ⟨#[], #[], []⟩ with heap := (World.holding Tryd.prog os ⟨#[], #[], []⟩).heap.modify 0 fun
      | .cells _ t frozen => .cells #[.int .u32 0, .int .u32 498536548, .int .u32 997073096, .int .u32 651767980, .int .u32 1994146192, .int .u32 1802195444, .int .u32 1303535960, .int .u32 1342533948, .int .u32 3988292384, .int .u32 4027552580, .int .u32 3604390888, .int .u32 3412177804, .int .u32 2607071920, .int .u32 2262029012, .int .u32 2685067896, .int .u32 3183342108] t frozen
      | o => o }, rfl, by kernel_rfl, by kernel_rfl, by kernel_rfl, laidMet_of_run' 8 (by kernel_rfl) (by kernel_rfl), fun _ _ => by kernel_rfl⟩
set_option maxRecDepth 100000 in
theorem lifted (os : Os) (started : os.Started) (H : Type) (enc : TypeId × Value → H) (F : Stop.Interp) :
    ReturnsInHanded {} Tryd.checked os 6 .any ((Rows.OpenSpec.upto Rows.frameBackSpec).preRow enc Tryd.prog Tryd.f6 Rows.frameBackUptoRow.domain false Rows.frameBackUptoRow.laid) (((Rows.OpenSpec.upto Rows.frameBackSpec).at F).post enc Tryd.prog Tryd.f6 false true false false) := by
  obtain ⟨w0, h1, h2, h3, h4, h5, h6⟩ := start os
  refine returnsInHanded_of_row (C := Tryd.checked) (s := Rows.OpenSpec.upto Rows.frameBackSpec) own started (by kernel_rfl) Tryd.func6
    (witness_row_at (enc := enc) (C := Tryd.checked) false w0 #[.int .i64 0, .int .i64 0, .slice none 0 0, .slice none 0 0, .int .i64 0] h1 h2 h3 h4
      (OpenSpec.preRow_of_cond 8 (h6 H enc) (by kernel_rfl) (fun k hk => by cases hk; kernel_rfl) (by kernel_rfl) h5)) ?_
  intro W base args ds gs before hval hW _ hcond hsz hL _ _
  exact contract H enc W base args ds gs before hval hW hsz (hcond _ rfl) hL
theorem said : Rows.FrameBackUptoSaid :=
  OpenClaim.holds_of_cond 6 Tryd.f6 rfl rfl rfl rfl rfl rfl rfl ⟨rfl, rfl, rfl, rfl, rfl⟩ rfl rfl rfl rfl rfl (by kernel_rfl) Tryd.func6 (by kernel_rfl)
    (of_decide_eq_true (by kernel_rfl)) (by unfold Func.isWrapper; first | (rw [if_pos (by decide +kernel)]; kernel_rfl) | (rw [if_neg (by decide +kernel)]; exact ⟨rfl, rfl⟩))
    (fun os started H enc _ F => by rw [OpenClaim.pre_eq_preRow]; exact lifted os started H enc F)
theorem plain (f : FuncId) (fn : Func) (hf : Tryd.pinned.checked.prog.funcNamed "daybook/daybooklaw11.FrameBack" = some f) (hfn : Tryd.pinned.checked.prog.funcs[f]? = some fn) :
    false = Tryd.pinned.checked.prog.looks [] ∧ ∀ (j : Nat) t, fn.params[j]? = some t → Tryd.pinned.checked.prog.wantsStandIn t = false := by
  obtain rfl : f = 6 := Option.some.inj ((show Tryd.prog.funcNamed "daybook/daybooklaw11.FrameBack" = some 6 by kernel_rfl).symm.trans hf) |>.symm
  obtain rfl : fn = Tryd.f6 := (Option.some.inj (Tryd.func6.symm.trans hfn)).symm
  refine ⟨by kernel_rfl, fun j t ht => ?_⟩
  rw [Tryd.params6] at ht
  have hm := Array.mem_of_getElem? ht
  have hall : ∀ t ∈ (#[3, 3, 22, 22, 3] : Array TypeId), Tryd.prog.wantsStandIn t = false := by
    intro t ht
    simp only [List.mem_toArray, List.mem_cons, List.not_mem_nil, or_false] at ht
    rcases ht with rfl | rfl | rfl | rfl | rfl <;> kernel_rfl
  exact hall t hm
theorem card : Rows.FrameBackUptoCardSaid :=
  Claim7.holds_tied_plain_at .later [] _ _ _ _ said (fun _ h => by cases h) (by kernel_rfl) (fun _ h => by cases h) frameBackUpto_row_tie rfl ⟨rfl, rfl⟩ (by kernel_rfl) rfl plain (by kernel_rfl)
end Go.Proofs.YtogklgpghecclaaDoor.frameBack
