/- For every number and every list of numbers, where they hold together at most 1048576 values: what is answered is new memory each time. -/
import Derived.Test.YtiehkgcfaebmhaaHead02
import Derived.Test.YtiehkgcfaebmhaaSame
import Derived.Test.YtiehkgcfaebmhaaSameN
import Derived.Test.YtiehkgcfaebmhaaRenc
import Derived.Test.YtiehkgcfaebmhaaLmath
import Derived.Test.YtiehkgcfaebmhaaBulk
import Derived.Test.YtiehkgcfaebmhaaTwo
import Derived.SizedLaws
import Derived.ChangeOld
import Derived.JoinedCond
import Derived.Deep.CondSized
import Derived.Laws.AppendOwnNone
import Derived.Deep.RegionWith
namespace Go.Proofs.Ytiehkgcfaebmhaa.varintOwn
open Go.ChangeShapes Go.WideShapes Go.ChangeAt Go.RowKit
set_option linter.unusedVariables false
theorem below_next {w a b : World} (h : Below w.heap.size w a) (k : Below a.heap.size a b) : Below w.heap.size w b := h.trans (k.mono h.size)
theorem lit0 (w : World) : Own64 (w.alloc (.cells #[] 22)) w.heap.size (.slice (some ⟨w.heap.size, 0, none⟩) 0 0) [] :=
  ⟨by simp, World.ownsRow_lit w #[] 0 (Nat.le_refl _) (by simp) rfl⟩
/-- append([]uint64{}, us...) -/
theorem wpList_append_came (w : World) {ops : Array Oper} {rest : List Oper} {o : Oper} {act : Act} {Q : Exit → Act → World → Prop}
    (hg : o.guard = none) (s x : Operand) (hop : o.op = Op.call { callee := Callee.builtin Builtin.append, args := #[s, x], argTypes := #[23, 23] })
    (l : List Nat) (a : Option Addr) (n cap : Nat) (hs : act.eval s = .slice (some ⟨w.heap.size, 0, none⟩) 0 0) (hx : act.eval x = .slice a n cap) (hln : l.length = n) (hb : Nums w a l) (hn : a = none → cap = 0) (hnc : n ≤ cap) (hl : n ≤ 1048576)
    (hK : ∀ v' w', Own64 w' w.heap.size v' l → Below w.heap.size w w' → wpList Try.prog ops Q rest (act.put o.dst v') w') :
    wpList Try.prog ops Q (o :: rest) act (w.alloc (.cells #[] 22)) := by
  subst hln
  obtain ⟨i0, hi, hz0, hz1, hz2⟩ := info_parts Try.info64
  cases a with
  | none =>
    have hc := hn rfl
    have hl0 : l = [] := List.length_eq_zero_iff.1 (by omega)
    subst hl0
    refine wpList_append_own_none hg s x 23 hop w.heap.size 22 i0 1 Try.underlying23 hi _ _ _ hs (lit0 w).2 (by rw [hx, hc]; rfl) ?_
    exact hK _ _ (lit0 w) ((Below.refl _ _).alloc (Nat.le_refl _) _)
  | some x0 =>
    have hN1 : Nums (w.alloc (.cells #[] 22)) (some x0) l := hb.keep ((Below.refl _ _).alloc (Nat.le_refl _) _)
    refine wpList_append_own _ hg s x 23 hop w.heap.size 22 i0 (.int .u64 0) 1 8 Try.underlying23 hi hz0 hz1 hz2 rfl (by decide) _ _ _ hs (lit0 w).2 x0 l.length cap (B64 l) hx (B64_length l) (nums_cells hN1) (B64_one l) (by unfold maxLen; simp; omega) (by simp; omega) (by simp) ?_
    intro v2 w2 ho2 hg2 _
    exact hK v2 w2 ⟨hb.1, by simpa [B64] using ho2⟩ (((Below.refl w.heap.size w).alloc (Nat.le_refl _) _).grown hg2 (by simp) (fun k hk => by cases hk; exact Nat.le_refl _))
theorem own_mono {w : World} {base base' e size n : Nat} {v : Value} {xs : List Value} (h : w.ownsRow base e size v n xs) (hb : base' ≤ base) : w.ownsRow base' e size v n xs := by
  refine ⟨h.1, ?_⟩
  rcases h.2 with h | ⟨g, cap, cur, h1, h2, h3⟩
  · exact .inl h
  · exact .inr ⟨g, cap, cur, h1, Nat.le_trans hb h2, h3⟩
/-- the two rows that are written, at a place of the law's second half -/
structure Rws (w W wr : World) (ga gc ga' gc' na capa nc capc : Nat) : Prop where
  a : ∃ xs, wr.ownsRow w.heap.size 5 1 (.slice (some ⟨ga', 0, none⟩) na capa) na xs
  c : ∃ xs, wr.ownsRow w.heap.size 5 1 (.slice (some ⟨gc', 0, none⟩) nc capc) nc xs
  kept : Kept ga gc W wr
  pa : ga' = ga ∨ W.heap.size ≤ ga'
  pc : gc' = gc ∨ W.heap.size ≤ gc'
  ne : ga' ≠ gc'
theorem Rws.size {w W wr : World} {ga gc ga' gc' na capa nc capc : Nat} (h : Rws w W wr ga gc ga' gc' na capa nc capc) : ga' < wr.heap.size ∧ gc' < wr.heap.size := by
  obtain ⟨xs, hx⟩ := h.a
  obtain ⟨ys, hy⟩ := h.c
  exact ⟨(hx.lt ga' rfl).2, (hy.lt gc' rfl).2⟩
theorem Rws.readA {w W wr : World} {ga gc ga' gc' na capa nc capc : Nat} (h : Rws w W wr ga gc ga' gc' na capa nc capc) (k : Nat) (hk : k < na) (u : Value) :
    (∃ z, wr.cell? ⟨ga', k, none⟩ = some z) ∧ wr.frozen? ⟨ga', k, none⟩ = false ∧ Rws w W (wr.setCell ⟨ga', k, none⟩ u) ga gc ga' gc' na capa nc capc := by
  obtain ⟨xs, hx⟩ := h.a
  obtain ⟨ys, hy⟩ := h.c
  have e2 := hx.cellAt k (by omega)
  have hl := hx.1
  refine ⟨by rw [e2]; exact ⟨_, List.getElem?_eq_getElem (by omega)⟩, hx.frozenAt k, ?_⟩
  have hst := hx.stored k u
  exact ⟨⟨_, hst.1⟩, ⟨ys, hy.kept hst.2 (.inr (fun hh => h.ne (Option.some.inj hh).symm))⟩, h.kept.grown hst.2 (fun j hj => by cases hj; rcases h.pa with h | h; exact .inl h; exact .inr (.inr h)), h.pa, h.pc, h.ne⟩
theorem Rws.readC {w W wr : World} {ga gc ga' gc' na capa nc capc : Nat} (h : Rws w W wr ga gc ga' gc' na capa nc capc) (k : Nat) (hk : k < nc) (u : Value) :
    (∃ z, wr.cell? ⟨gc', k, none⟩ = some z) ∧ wr.frozen? ⟨gc', k, none⟩ = false ∧ Rws w W (wr.setCell ⟨gc', k, none⟩ u) ga gc ga' gc' na capa nc capc := by
  obtain ⟨xs, hx⟩ := h.a
  obtain ⟨ys, hy⟩ := h.c
  have e2 := hy.cellAt k (by omega)
  have hl := hy.1
  refine ⟨by rw [e2]; exact ⟨_, List.getElem?_eq_getElem (by omega)⟩, hy.frozenAt k, ?_⟩
  have hst := hy.stored k u
  exact ⟨⟨xs, hx.kept hst.2 (.inr (fun hh => h.ne (Option.some.inj hh)))⟩, ⟨_, hst.1⟩, h.kept.grown hst.2 (fun j hj => by cases hj; rcases h.pc with h | h; exact .inr (.inl h); exact .inr (.inr h)), h.pa, h.pc, h.ne⟩
theorem Rws.alloc {w W wr : World} {ga gc ga' gc' na capa nc capc : Nat} (h : Rws w W wr ga gc ga' gc' na capa nc capc) (o : Obj) : Rws w W (wr.alloc o) ga gc ga' gc' na capa nc capc := by
  obtain ⟨xs, hx⟩ := h.a
  obtain ⟨ys, hy⟩ := h.c
  exact ⟨⟨xs, hx.alloc o⟩, ⟨ys, hy.alloc o⟩, h.kept.alloc o, h.pa, h.pc, h.ne⟩
theorem Rws.appA {w W wr w' : World} {ga gc ga' gc' na capa nc capc g' cap' m : Nat} {xs : List Value} (h : Rws w W wr ga gc ga' gc' na capa nc capc) (hw : W.heap.size ≤ wr.heap.size) (hg : g' = ga' ∨ wr.heap.size ≤ g') (ho : w'.ownsRow w.heap.size 5 1 (.slice (some ⟨g', 0, none⟩) m cap') m xs) (hgr : wr.grownBy w' (some ga')) : Rws w W w' ga gc g' gc' m cap' nc capc := by
  obtain ⟨ys, hy⟩ := h.c
  have hs := h.size
  refine ⟨⟨_, ho⟩, ⟨ys, hy.kept hgr (.inr (fun hh => h.ne (Option.some.inj hh).symm))⟩, h.kept.grown hgr (fun j hj => by cases hj; rcases h.pa with h | h; exact .inl h; exact .inr (.inr h)), ?_, h.pc, ?_⟩
  · rcases hg with rfl | hg
    · exact h.pa
    · exact .inr (by omega)
  · rcases hg with rfl | hg
    · exact h.ne
    · omega
theorem Rws.appC {w W wr w' : World} {ga gc ga' gc' na capa nc capc g' cap' m : Nat} {xs : List Value} (h : Rws w W wr ga gc ga' gc' na capa nc capc) (hw : W.heap.size ≤ wr.heap.size) (hg : g' = gc' ∨ wr.heap.size ≤ g') (ho : w'.ownsRow w.heap.size 5 1 (.slice (some ⟨g', 0, none⟩) m cap') m xs) (hgr : wr.grownBy w' (some gc')) : Rws w W w' ga gc ga' g' na capa m cap' := by
  obtain ⟨xs, hx⟩ := h.a
  have hs := h.size
  refine ⟨⟨xs, hx.kept hgr (.inr (fun hh => h.ne (Option.some.inj hh)))⟩, ⟨_, ho⟩, h.kept.grown hgr (fun j hj => by cases hj; rcases h.pc with h | h; exact .inr (.inl h); exact .inr (.inr h)), h.pa, ?_, ?_⟩
  · rcases hg with rfl | hg
    · exact h.pc
    · exact .inr (by omega)
  · rcases hg with rfl | hg
    · exact h.ne
    · omega
/-- what is known behind the five answers -/
theorem start {w w1 wa wb w3 wc wd : World} {ga capa gb capb gc capc gd capd : Nat} {F E l : List Nat} {a : Option Addr}
    (hb1 : Below w.heap.size w w1) (hba : Below w1.heap.size w1 wa) (hbb : Below wa.heap.size wa wb) (hb3 : Below wb.heap.size wb w3) (hbc : Below w3.heap.size w3 wc) (hbd : Below wc.heap.size wc wd)
    (hoa : Own wa w1.heap.size (.slice (some ⟨ga, 0, none⟩) F.length capa) F) (hob : Own wb wa.heap.size (.slice (some ⟨gb, 0, none⟩) F.length capb) F)
    (hoc : Own wc w3.heap.size (.slice (some ⟨gc, 0, none⟩) E.length capc) E) (hod : Own wd wc.heap.size (.slice (some ⟨gd, 0, none⟩) E.length capd) E)
    (hbyb : Bytes wb (some ⟨gb, 0, none⟩) F) (hbyd : Bytes wd (some ⟨gd, 0, none⟩) E) (hu : Nums w a l) :
    Rws w wd wd ga gc ga gc F.length capa E.length capc ∧ Bytes wd (some ⟨gb, 0, none⟩) F ∧ Bytes wd (some ⟨gd, 0, none⟩) E ∧ Below w.heap.size w wd ∧ w.heap.size ≤ ga ∧ w.heap.size ≤ gc ∧ gb ≠ ga ∧ gb ≠ gc ∧ gd ≠ ga ∧ gd ≠ gc := by
  have a1 := hoa.2.lt ga rfl
  have a2 := hob.2.lt gb rfl
  have a3 := hoc.2.lt gc rfl
  have a4 := hod.2.lt gd rfl
  have s1 := hb1.size
  have s2 := hba.size
  have s3 := hbb.size
  have s4 := hb3.size
  have s5 := hbc.size
  have s6 := hbd.size
  have bbd : Below wb.heap.size wb wd := below_next (below_next hb3 hbc) hbd
  have bad : Below wa.heap.size wa wd := below_next hbb bbd
  have bd : Below w.heap.size w wd := below_next (below_next hb1 hba) bad
  refine ⟨⟨⟨_, own_mono (own_row_keep hoa.2 bad) s1⟩, ⟨_, own_mono (own_row_keep hoc.2 hbd) (by omega)⟩, Kept.refl _ _ _, .inl rfl, .inl rfl, by omega⟩, hbyb.keep bbd, hbyd, bd, by omega, by omega, by omega, by omega, by omega, by omega⟩
theorem own64_row {w : World} {base : Nat} {v : Value} {l : List Nat} (h : Own64 w base v l) (hl : l ≠ []) : ∃ g cap, v = .slice (some ⟨g, 0, none⟩) l.length cap ∧ base ≤ g ∧ g < w.heap.size := by
  rcases h.2.2 with ⟨_, h0⟩ | ⟨g, cap, cur, hv, _⟩
  · exact absurd (List.length_eq_zero_iff.1 h0) hl
  · have hlt := h.2.lt g (by rw [hv]; rfl)
    exact ⟨g, cap, hv, hlt.1, hlt.2⟩
theorem wrap_u64b (n : Int) : 0 ≤ IntKind.u64.wrap n ∧ IntKind.u64.wrap n < 18446744073709551616 := by
  have h : IntKind.u64.wrap n = n % 18446744073709551616 := by simp [IntKind.wrap, IntKind.signed, IntKind.bits]
  rw [h]; omega
/-- one row of numbers that is written -/
def Rw1 (base : Nat) (W wr : World) (g n cap : Nat) : Prop := Kept g g W wr ∧ ∃ m : List Nat, m.length = n ∧ Own64 wr base (.slice (some ⟨g, 0, none⟩) n cap) m
theorem B64_set (t : List Nat) (k v : Nat) : B64 (t.set k v) = (B64 t).set k (.int .u64 (v : Nat)) := by simp [B64, List.map_set]
theorem Rw1.step {base : Nat} {W wr : World} {g n cap : Nat} (h : Rw1 base W wr g n cap) (k : Nat) (hk : k < n) :
    ∃ z : Nat, z < 18446744073709551616 ∧ wr.cell? ⟨g, k, none⟩ = some (.int .u64 (z : Int)) ∧ wr.frozen? ⟨g, k, none⟩ = false ∧ ∀ u : Int, 0 ≤ u → u < 18446744073709551616 → Rw1 base W (wr.setCell ⟨g, k, none⟩ (.int .u64 u)) g n cap := by
  obtain ⟨hK, m, rfl, hm, ho⟩ := h
  refine ⟨m.getD k 0, hm k, ?_, ho.frozenAt k, fun u hu0 hu1 => ?_⟩
  · rw [ho.cellAt k (by omega), B64_get m k hk]
  · obtain ⟨U, rfl⟩ : ∃ U : Nat, u = (U : Int) := ⟨u.toNat, by omega⟩
    have hst := ho.stored k (.int .u64 (U : Int))
    refine ⟨hK.grown hst.2 (fun j hj => by cases hj; exact .inl rfl), m.set k U, by simp, ?_, ?_⟩
    · intro i
      rw [List.getD_eq_getElem?_getD, List.getElem?_set]
      split
      · first | (show U < 18446744073709551616; omega) | (split; · (show U < 18446744073709551616; omega); · simp)
      · rw [← List.getD_eq_getElem?_getD]; exact hm i
    · have h1 := hst.1
      rw [← B64_set] at h1
      simpa using h1
set_option maxRecDepth 20000 in
set_option maxHeartbeats 2000000 in
theorem walk (u : Int) (l : List Nat) (a : Option Addr) (cap : Nat) (w : World) (hu : (Lit.int .u64 u).wf = true) (hb : Nums w a l) (hc : Came w a l.length cap 8) (hsum : cap ≤ 1048576) :
    Calls Try.prog 3 #[.int .u64 u, .slice a l.length cap] w fun e w' => e = .returned (.bool true) ∧ Below w.heap.size w w' := by
  obtain ⟨i5, hi5, hy0, hy1, hy2⟩ := info_parts Try.info5
  obtain ⟨h0, h1⟩ := wf_u64 u hu
  obtain ⟨hf, hr, hn⟩ := hc
  obtain ⟨U, rfl⟩ : ∃ U : Nat, u = (U : Int) := ⟨u.toNat, by omega⟩
  have HU : Hid (U ≤ 18446744073709551615) := by show U ≤ 18446744073709551615; omega
  have hmem := nums_mem hb
  obtain ⟨hE1, hE2⟩ := encAll_length l (by omega) hmem
  have HBK : Hid (decAll (encAll l) (l.length : Int) = (l, (encAll l).length, 0)) := by have h := decAll_back l [] (by omega) hmem; rw [List.append_nil] at h; exact h
  have HN : Hid (Nums w a l) := hb
  have HNN : Hid (a = none → cap = 0) := hn
  obtain ⟨E, hEE⟩ : ∃ E, E = encAll l := ⟨_, rfl⟩
  rw [← hEE] at hE1 hE2 HBK
  have HEE : Hid (E = encAll l) := hEE
  have HENE : Hid (E ≠ []) := hE2
  obtain ⟨F, hFF⟩ : ∃ F, F = enc U := ⟨_, rfl⟩
  have HFF : Hid (F = enc U) := hFF
  have hF := enc_length_le U HU.out
  rw [← hFF] at hF
  obtain ⟨hF1, hF2⟩ := hF
  have HFNE : Hid (F ≠ []) := fun h => by rw [h] at hF1; simp at hF1
  clear hb hmem hEE hE2 hFF hn h0 h1 hu
  go_enter Try.func3, Try.ntmps3
  have T1 : Hid True := trivial
  have T2 : Hid True := trivial
  have T3 : Hid True := trivial
  go_wp2_with (first
    | (go_at_call 4; refine (head02_any w).mono ?_; rintro e w1 ⟨rfl, hb1⟩)
    | (go_at_call 5; clear T1; refine (encode_any U _ HU.out).mono ?_; rw [← HFF.out]; rintro e wa ⟨va, rfl, hoa, hba⟩; obtain ⟨ga, capa, rfl, hcapa, hbya⟩ := hoa.row HFNE.out)
    | (go_at_call 5; clear T2; refine (encode_any U _ HU.out).mono ?_; rw [← HFF.out]; rintro e wb ⟨vb, rfl, hob, hbb⟩; obtain ⟨gb, capb, rfl, hcapb, hbyb⟩ := hob.row HFNE.out)
    | (at_builtin; refine wpList_append_came _ rfl _ _ rfl l a _ cap rfl rfl rfl (HN.out.keep (below_next (below_next hb1 hba) hbb)) HNN.out hf (by omega) ?_; intro v3 w3 ho3 hb3; obtain ⟨a3, cap3, rfl, hnm3⟩ := ho3.slice)
    | (go_at_call 6; clear T3; refine (encAll_any l _ _ _ _ rfl hnm3 (by omega)).mono ?_; rw [← HEE.out]; rintro e wc ⟨vc, rfl, hoc, hbc⟩; obtain ⟨gc, capc, rfl, hcapc, hbyc⟩ := hoc.row HENE.out)
    | (go_at_call 6; refine (encAll_any l _ _ _ _ rfl (hnm3.keep hbc) (by omega)).mono ?_; rw [← HEE.out]; rintro e wd ⟨vd, rfl, hod, hbd⟩; obtain ⟨gd, capd, rfl, hcapd, hbyd⟩ := hod.row HENE.out
       have HST : Hid (_ ∧ _) := start hb1 hba hbb hb3 hbc hbd hoa hob hoc hod hbyb hbyd HN.out
       clear hb1 hba hbb hb3 hbc hbd hoa hob hoc hod hbyb hbyd hbya hbyc ho3 hnm3))
  obtain ⟨hR, hBb, hBd, hBw, hga, hgc, n1, n2, n3, n4⟩ := HST.out
  have HBb : Hid (Bytes wd (some ⟨gb, 0, none⟩) F) := hBb
  have HBd : Hid (Bytes wd (some ⟨gd, 0, none⟩) E) := hBd
  have HBw : Hid (Below w.heap.size w wd) := hBw
  have HNE : Hid (w.heap.size ≤ ga ∧ w.heap.size ≤ gc ∧ gb ≠ ga ∧ gb ≠ gc ∧ gd ≠ ga ∧ gd ≠ gc) := ⟨hga, hgc, n1, n2, n3, n4⟩
  have HR : Hid (Rws w wd wd ga gc ga gc F.length capa E.length capc) := hR
  clear HST hR hBb hBd hBw hga hgc n1 n2 n3 n4
  go_loopw [10, 36] (fun vi i wr => ∃ k : Nat, k ≤ F.length ∧ i = .int .i64 k ∧ Rws w wd wr ga gc ga gc F.length capa E.length capc) (fun _ i _ => F.length - (intOf i).toNat)
  case atStart => exact ⟨0, Nat.zero_le _, rfl, HR.out⟩
  case round =>
    obtain ⟨k, hk, rfl, hRk⟩ := hrel
    clear HR
    by_cases hkl : k < F.length
    · obtain ⟨⟨z, hz⟩, hfz, hRn⟩ := hRk.readA k hkl (.int .u8 238)
      have HRn : Hid (Rws _ _ _ _ _ _ _ _ _ _ _) := hRn
      clear hRn hRk
      go_wp2
      go_roundw
      case rel => exact ⟨k + 1, by omega, by go_num, HRn.out⟩
      case measure => simp [intOf]; omega
    · have HRk : Hid (Rws _ _ _ _ _ _ _ _ _ _ _) := hRk
      have hk2 : k = F.length := by omega
      clear hRk
      subst hk2
      clear hkl hk
      go_wp2
      go_loopw [11, 45] (fun vi i wr => ∃ k : Nat, k ≤ E.length ∧ i = .int .i64 k ∧ Rws w wd wr ga gc ga gc F.length capa E.length capc) (fun _ i _ => E.length - (intOf i).toNat)
      case atStart => exact ⟨0, Nat.zero_le _, rfl, HRk.out⟩
      case round =>
        obtain ⟨k, hk, rfl, hRk⟩ := hrel
        clear HRk
        by_cases hkl : k < E.length
        · obtain ⟨⟨z, hz⟩, hfz, hRn⟩ := hRk.readC k hkl (.int .u8 221)
          have HRn : Hid (Rws _ _ _ _ _ _ _ _ _ _ _) := hRn
          clear hRn hRk
          go_wp2
          go_roundw
          case rel => exact ⟨k + 1, by omega, by go_num, HRn.out⟩
          case measure => simp [intOf]; omega
        · have HRk : Hid (Rws _ _ _ _ _ _ _ _ _ _ _) := hRk
          clear hRk
          have hk3 : k = E.length := by omega
          subst hk3
          clear hkl hk
          go_wp2
          have T4 : Hid True := trivial
          go_loopw [5, 8, 12] (fun va vc i wr => ∃ k ga' capa' gc' capc' : Nat, k ≤ 16 ∧ i = .int .i64 k ∧ va = .slice (some ⟨ga', 0, none⟩) (F.length + k) capa' ∧ vc = .slice (some ⟨gc', 0, none⟩) (E.length + k) capc' ∧ Rws w wd wr ga gc ga' gc' (F.length + k) capa' (E.length + k) capc') (fun _ _ i _ => 16 - (intOf i).toNat)
          case atStart => exact ⟨0, ga, capa, gc, capc, by omega, rfl, rfl, rfl, HRk.out⟩
          case round =>
            obtain ⟨k, ga', capa', gc', capc', hk, rfl, rfl, rfl, hRk⟩ := hrel
            clear HRk
            have HRk : Hid (Rws _ _ _ _ _ _ _ _ _ _ _) := hRk
            clear hRk
            by_cases hkl : k < 16
            · go_wp2_with (first
                | (at_builtin; clear T4; obtain ⟨xs, hx⟩ := (HRk.out.alloc (.cells #[.int .u8 204] 5)).a; refine wpList_append_two _ rfl _ _ 25 rfl w.heap.size 5 i5 (.int .u8 0) 1 Try.underlying25 hi5 hy0 hy1 hy2 rfl ga' _ capa' xs rfl hx ⟨wr.heap.size, 0, none⟩ 1 1 [.int .u8 204] rfl rfl (cell_new _ _ _) (one_new _) (by omega) (by unfold maxLen; omega) (by omega) (Nat.le_trans HBw.out.size (HRk.out.alloc (.cells #[.int .u8 204] 5)).kept.size) ?_
                   intro g1 cap1 w1 hg1 hlt1 ho1 hgr1
                   have HR1 : Hid (Rws _ _ _ _ _ _ _ _ _ _ _) := (HRk.out.alloc (.cells #[.int .u8 204] 5)).appA (HRk.out.alloc (.cells #[.int .u8 204] 5)).kept.size hg1 ho1 hgr1
                   clear hg1 hlt1 ho1 hgr1 hx)
                | (at_builtin; obtain ⟨xs2, hx2⟩ := (HR1.out.alloc (.cells #[.int .u8 187] 5)).c; refine wpList_append_two _ rfl _ _ 25 rfl w.heap.size 5 i5 (.int .u8 0) 1 Try.underlying25 hi5 hy0 hy1 hy2 rfl gc' _ capc' xs2 rfl hx2 ⟨w1.heap.size, 0, none⟩ 1 1 [.int .u8 187] rfl rfl (cell_new _ _ _) (one_new _) (by omega) (by unfold maxLen; omega) (by omega) (Nat.le_trans HBw.out.size (HR1.out.alloc (.cells #[.int .u8 187] 5)).kept.size) ?_
                   intro g2 cap2 w2 hg2 hlt2 ho2 hgr2
                   have HR2 : Hid (Rws _ _ _ _ _ _ _ _ _ _ _) := (HR1.out.alloc (.cells #[.int .u8 187] 5)).appC (HR1.out.alloc (.cells #[.int .u8 187] 5)).kept.size hg2 ho2 hgr2
                   clear hg2 hlt2 ho2 hgr2 hx2))
              go_roundw
              case rel => exact ⟨k + 1, g1, cap1, g2, cap2, by omega, by go_num, rfl, rfl, HR2.out⟩
              case measure => simp [intOf]; omega
            · have hk16 : k = 16 := by omega
              subst hk16
              obtain ⟨hga, hgc, n1, n2, n3, n4⟩ := HNE.out
              have HBr : Hid (Below w.heap.size w wr) := HRk.out.kept.below HBw.out hga hgc
              have HYb : Hid (Bytes wr (some ⟨gb, 0, none⟩) F) := HRk.out.kept.bytes HBb.out n1 n2
              have HYd : Hid (Bytes wr (some ⟨gd, 0, none⟩) E) := HRk.out.kept.bytes HBd.out n3 n4
              have HNr : Hid (Nums wr a l) := HN.out.keep HBr.out
              clear hga hgc n1 n2 n3 n4 HRk HBb HBd HNE HBw hkl
              have T5 : Hid True := trivial
              go_wp2_with (first
                | (go_at_call 7; refine (rencAll_any l _ _ _ _ rfl HNr.out (by omega)).mono ?_; rw [← HEE.out]; rintro e wf ⟨vf, rfl, hof, hbf⟩; obtain ⟨gf, capf, rfl, hcapf, hbyf⟩ := hof.row HENE.out)
                | (go_at_call 9; refine (renc_any 9 U _ HU.out (lt_pow10 U HU.out)).mono ?_; rw [show encF (9 + 1) U = F from HFF.out.symm]; rintro e wg ⟨vg, rfl, hog, hbg⟩; obtain ⟨gg, capg, rfl, hcapg, hbyg⟩ := hog.row HFNE.out)
                | (go_at_call 8; clear T5; refine (same_at F F _ _ _ _ _ _ _ rfl rfl ((HYb.out.keep hbf).keep hbg) hbyg (by unfold maxLen; omega) (by unfold maxLen; omega)).mono ?_; rw [decide_eq_true (rfl : F = F)]; rintro e wh ⟨rfl, q1, rfl⟩)
                | (go_at_call 8; refine (same_at E E _ _ _ _ _ _ _ rfl rfl (((HYd.out.keep hbf).keep hbg).drewN q1) ((hbyf.keep hbg).drewN q1) (by unfold maxLen; omega) (by unfold maxLen; omega)).mono ?_; rw [decide_eq_true (rfl : E = E)]; rintro e wi ⟨rfl, q2, rfl⟩; rw [drewN_add]
                   have hbF : Bytes (wg.drewN (q1 + q2)) (some ⟨gf, 0, none⟩) E := (hbyf.keep hbg).drewN (q1 + q2)
                   have HBh : Hid (Below w.heap.size w (wg.drewN (q1 + q2))) := below_drewN (below_next (below_next HBr.out hbf) hbg) (q1 + q2)
                   clear hbf hbg hbyg hbyf hog hof HYb HYd HNr HBr)
                | (go_at_call 10; refine (decAll_any E (l.length : Int) _ _ _ _ rfl hbF hcapf (by omega) (by omega) (by omega)).mono ?_; rw [HBK.out]; rintro e wx ⟨vx, rfl, hox, hbx⟩; obtain ⟨ax, capx, rfl, hnmx⟩ := hox.slice)
                | (go_at_call 10; refine (decAll_any E (l.length : Int) _ _ _ _ rfl (hbF.keep hbx) hcapf (by omega) (by omega) (by omega)).mono ?_; rw [HBK.out]; rintro e wy ⟨vy, rfl, hoy, hby⟩; obtain ⟨ay, capy, rfl, hnmy⟩ := hoy.slice))
              have HBy : Hid (Below w.heap.size w wy) := below_next (below_next HBh.out hbx) hby
              by_cases hl0 : l = []
              · subst hl0
                have HNu : Hid (Nums wy a []) := HN.out.keep HBy.out
                have HNy : Hid (Nums wy ay []) := hnmy
                clear hnmy hnmx hox hoy hbx hby hbF HBh hE1
                refine wp_loop_rounds 1 ?_
                rw [rounds_succ]
                go_wp2_with (first
                  | (go_at_call 11; refine (sameN_at [] [] _ _ _ _ _ _ _ rfl rfl HNy.out HNu.out (by simp [maxLen]) (by simp [maxLen])).mono ?_; rw [decide_eq_true (rfl : [] = [])]; rintro e w8 ⟨rfl, nq, rfl⟩))
                go_ret
                exact ⟨rfl, below_drewN HBy.out nq⟩
              · obtain ⟨gx, cx, hvx, hgx0, hgx1⟩ := own64_row hox hl0
                cases hvx
                obtain ⟨gy, cy, hvy, hgy0, hgy1⟩ := own64_row hoy hl0
                cases hvy
                have hs1 := HBh.out.size
                have HG : Hid (w.heap.size ≤ gx ∧ gy ≠ gx) := ⟨by omega, by omega⟩
                have HRx : Hid (Rw1 w.heap.size wy wy gx l.length capx) := ⟨Kept.refl _ _ _, l, rfl, hox.1, own_mono (own_row_keep hox.2 hby) hs1⟩
                have HNy : Hid (Nums wy (some ⟨gy, 0, none⟩) l) := hnmy
                have hl1 : 0 < l.length := List.length_pos_iff.2 hl0
                clear hnmy hnmx hox hoy hbx hby hbF HBh hgx0 hgx1 hgy0 hgy1 hs1 hl0
                go_loopw [20, 93] (fun vi i wr => ∃ k : Nat, k ≤ l.length ∧ i = .int .i64 k ∧ Rw1 w.heap.size wy wr gx l.length capx) (fun _ i _ => l.length - (intOf i).toNat)
                case atStart => exact ⟨0, Nat.zero_le _, rfl, HRx.out⟩
                case round =>
                  obtain ⟨k, hk, rfl, hRk⟩ := hrel
                  clear HRx
                  by_cases hkl : k < l.length
                  · obtain ⟨z, hz, hc, hfz, hRn⟩ := hRk.step k hkl
                    have HRn : Hid (∀ u : Int, 0 ≤ u → u < 18446744073709551616 → Rw1 w.heap.size wy _ gx l.length capx) := hRn
                    clear hRn hRk
                    go_wp2
                    go_roundw
                    case rel => exact ⟨k + 1, by omega, by go_num, HRn.out _ (wrap_u64b _).1 (wrap_u64b _).2⟩
                    case measure => simp [intOf]; omega
                  · have hk4 : k = l.length := by omega
                    subst hk4
                    have HBr : Hid (Below w.heap.size w wr) := hRk.1.below HBy.out HG.out.1 HG.out.1
                    have HNu : Hid (Nums wr a l) := HN.out.keep HBr.out
                    have HNr : Hid (Nums wr (some ⟨gy, 0, none⟩) l) := hRk.1.nums HNy.out (fun b off hb _ _ => by cases hb; exact ⟨HG.out.2, HG.out.2⟩)
                    clear hkl hk hRk
                    go_wp2_with (first
                      | (go_at_call 11; refine (sameN_at l l _ _ _ _ _ _ _ rfl rfl HNr.out HNu.out (by unfold maxLen; omega) (by unfold maxLen; omega)).mono ?_; rw [decide_eq_true (rfl : l = l)]; rintro e w8 ⟨rfl, nq, rfl⟩))
                    go_ret
                    exact ⟨rfl, below_drewN HBr.out nq⟩
theorem own : ownKnob Try.prog.godebug = none := by kernel_rfl
theorem laidOut : laidOutB Try.prog = true := by kernel_rfl
set_option maxRecDepth 100000 in
theorem contract (H : Type) (enc : TypeId × Value → H) (W : World) (base : Nat) (args : Array Value) (ds gs : List (DataW H)) (before : List MemPlace)
    (hval : ∀ (j : Nat) t v, Try.f3.params[j]? = some t → args[j]? = some v → Value.okWide Try.prog W .any base t v)
    (hW : DataW.Whole enc Try.prog Try.f3.params.toList Rows.varintOwnSpec.vars false W args.toList ds gs before)
    (hsz : (DataW.weightsEach Try.prog (Try.f3.params.toList ++ Rows.varintOwnSpec.plain.varTypes Try.prog) (ds ++ gs)).all (· ≤ reachBytes) = true) (hk : Rows.uptoSmall H (ds ++ gs) = true) :
    Calls Try.prog 3 args W fun e W' => ∃ v, e = .returned v ∧ Rows.varintOwnSpec.post enc Try.prog Try.f3 false true false false W args v W' := by
  have hW' := hW
  obtain ⟨p, q, hA0, hV, rfl, hfz, hnd⟩ := hW
  have hA : DataW.TrodAll enc Try.prog W 0 (fun _ => true) true Try.f3.params.toList args.toList ds p := hA0
  rw [Try.params3] at hA hval hsz
  obtain ⟨v0, vs0, d0, ds0, p0, q0, hargs, rfl, rfl, h0, r0⟩ := trodAll_cons hA
  obtain ⟨v1, vs1, d1, ds1, p1, q1, rfl, rfl, rfl, h1, r1⟩ := trodAll_cons r0
  obtain ⟨rfl, rfl, rfl⟩ := trodAll_nil r1
  obtain rfl : args = #[v0, v1] := by cases args; simp_all
  obtain ⟨rfl, rfl⟩ := trodVars_none hV
  obtain ⟨a0, rfl, rfl, rfl, w0⟩ := open_int Try.underlying22 (hval 0 22 v0 rfl rfl) h0
  obtain ⟨a1, len1, cap1, rfl⟩ := okWide_slice Try.underlying23 (hval 1 23 v1 rfl rfl)
  have k1 := h1
  have lt1 : ∀ x ∈ p1, x.block < W.heap.size := by obtain ⟨m, hm⟩ := k1; exact DataW.trod_lt m _ _ _ hm
  obtain ⟨l1, hlen1, w1, c1, u1⟩ : ∃ l : List Nat, l.length = len1 ∧ Nums W a1 l ∧ Came W a1 len1 cap1 8 ∧ cap1 + 1 ≤ Rows.uptoBulk d1 := by
    obtain ⟨fuel, hf⟩ := h1
    rcases open_ints Try.underlying23 Try.underlying22 (by kernel_rfl) hf with ⟨hcs, hx⟩ | ⟨x, l, c, zs, hcs, _, hl, hm, hz, hx, hcell, hwz⟩
    · simp [Value.cells] at hcs
      obtain ⟨rfl, rfl, rfl⟩ := hcs
      obtain ⟨rfl, rfl⟩ := Prod.mk.inj hx
      exact ⟨[], rfl, ⟨by simp, .inl rfl⟩, ⟨Nat.le_refl _, by simp, fun _ => rfl⟩, by simp [Rows.uptoBulk]⟩
    · simp [Value.cells] at hcs
      obtain ⟨rfl, rfl, rfl⟩ := hcs
      have hz2 : zs.length = cap1 := by simpa using hz
      obtain ⟨ll, e1, e2, e3⟩ := row_nats .u64 18446744073709551616 (by decide) wf_u64 W x zs len1 (by omega) hcell hwz
      have hd : d1 = .slice (lits .u64 (zs.take len1)) (lits .u64 (zs.drop len1)) := (Prod.mk.inj hx).1
      have hreach : cap1 * 8 ≤ 140737488351232 := by
        have := sized_slice hsz (j := 1) (t := 23) (e := 22) rfl (by rw [hd]; rfl) Try.underlying23
        rw [show Try.prog.bytesOf 22 = 8 from by kernel_rfl] at this
        simp only [lits, List.length_map, List.length_take, List.length_drop, reachBytes] at this
        have hmin : min len1 zs.length = len1 := Nat.min_eq_left (by omega)
        rw [hmin] at this
        have hcap : len1 + (zs.length - len1) = cap1 := by omega
        rw [hcap] at this
        exact this
      refine ⟨ll, e1, ⟨e2, e3⟩, ⟨hl, hreach, fun h => by cases h⟩, ?_⟩
      rw [hd]
      have := bulks.slice_le (lits (H := H) .u64 (zs.take len1)) (lits .u64 (zs.drop len1))
      simp only [lits, List.length_map, List.length_take, List.length_drop] at this ⊢
      omega
  subst hlen1
  have hbk := bulks.bound hk
  simp only [List.append_nil, Rows.uptoBulkAll] at hbk
  have hsum : cap1 ≤ 1048576 := by omega
  clear hA0
  refine (walk a0 l1 a1 cap1 W w0 w1 c1 hsum).mono fun e W' ⟨he, bel⟩ => ?_
  subst he
  exact ⟨_, rfl, _, _, _, [], _, [], hW', trodAll_mk1 (shut_bool Try.underlying4 _), (trodAll_cons_mk (shut_int Try.underlying22 w0) (trodAll_cons_mk (Below.trod laidOut (by kernel_rfl) (of_decide_eq_true (by kernel_rfl)) k1 bel lt1) trodAll_mk0)), rfl, bel.frame _, fun h => by cases h⟩
set_option maxRecDepth 100000 in
theorem lifted (os : Os) (started : os.Started) (H : Type) (enc : TypeId × Value → H) (F : Stop.Interp) :
    ReturnsInHanded {} Try.checked os 3 .any ((Rows.OpenSpec.upto Rows.varintOwnSpec).pre6 enc Try.prog Try.f3 Rows.varintOwnUptoRow.domain false) (((Rows.OpenSpec.upto Rows.varintOwnSpec).at F).post enc Try.prog Try.f3 false true false false) := by
  refine returnsInHanded_of_cond_sized (C := Try.checked) (s := Rows.OpenSpec.upto Rows.varintOwnSpec) (k := Rows.uptoSmall) rfl own started (by kernel_rfl) Try.func3
    (OpenSpec.witness (enc := enc) (C := Try.checked) (s := Rows.OpenSpec.upto Rows.varintOwnSpec) (k := Rows.uptoSmall) rfl false ⟨#[], #[.int .u64 0, .slice none 0 0], []⟩ 8 (by kernel_rfl) (by kernel_rfl) (by kernel_rfl)
      (x := ([.lit (.int .u64 0), .nil], [], [])) (by kernel_rfl) rfl (by kernel_rfl)) ?_
  intro W base args ds gs before hval hW _ hk hsz _
  exact contract H enc W base args ds gs before hval hW hsz hk
theorem over : Rows.varintOwnUptoRow.holds Try.pinned (Rows.OpenSpec.upto Rows.varintOwnSpec) :=
  OpenClaim.holds_of_cond 3 Try.f3 rfl rfl rfl rfl rfl rfl rfl ⟨rfl, rfl, rfl, rfl, rfl⟩ rfl rfl rfl rfl rfl (by kernel_rfl) Try.func3 (by kernel_rfl)
    (of_decide_eq_true (by kernel_rfl)) (by unfold Func.isWrapper; first | (rw [if_pos (by decide +kernel)]; kernel_rfl) | (rw [if_neg (by decide +kernel)]; exact ⟨rfl, rfl⟩))
    (fun os started H enc _ F => lifted os started H enc F)
theorem proved : Rows.VarintOwnUptoSaid := over
end Go.Proofs.Ytiehkgcfaebmhaa.varintOwn
