/- Every text: manifest.Decode answers as the document says; the text stays; nothing is shared. No condition. -/
import Derived.Test.YtoneaannbmkeiaaDoorK23
import Derived.Test.YtoneaannbmkeiaaDoorK21
import Derived.Test.YtoneaannbmkeiaaDoorK34
import Derived.Test.YtoneaannbmkeiaaDoorK09
import Derived.Test.YtoneaannbmkeiaaDoorK35
import Derived.SizedLaws
import Derived.ChangeOld
import Derived.JoinedCond
import Derived.Laws.OwnMore
namespace Go.Proofs.YtoneaannbmkeiaaDoor.manifestDecodes
open Go.ChangeShapes Go.WideShapes Go.ChangeAt Go.RowKit
set_option linter.unusedVariables false
theorem own_bytes {w : World} {base : Nat} {a : Option Addr} {k c : Nat} {m : List Nat} (h : Own w base (.slice a k c) m) : Bytes w a m := by
  obtain ⟨a2, c2, hv, _, _, hb, _⟩ := h.shape
  injection hv with h1
  subst h1
  exact hb
theorem sm_own {w : World} {base : Nat} {a : Option Addr} {k c : Nat} {L : List Sm} (h : OwnSm w base (.slice a k c) L) : Sms w a L := by
  obtain ⟨a2, c2, hv, _, _, hb, _⟩ := h.shape
  injection hv with h1
  subst h1
  exact hb
theorem ob_ne {a : Option Addr} {k c g : Nat} (h : ∀ x, a = some x → x.block ≠ g) : (Value.slice a k c).ownBlock ≠ some g := by
  cases a with
  | none => simp [Value.ownBlock]
  | some x => have := h x rfl; simpa [Value.ownBlock] using this
/-- while the first answer's segments are turned: its box, its row; the others -/
structure Fl (w x : World) (bv bu bw n0 n1 n2 z : Nat) (M : Mf) (ap : Option Addr) (cp : Nat) (vq vw : Value) : Prop where
  bel : Below w.heap.size w x
  box : MfAt x bv M (.slice ap z cp)
  p : ∃ xs, x.ownsRow n0 43 4 (.slice ap z cp) z xs ∧ ∀ u ∈ xs, ∃ y : Int, u = .int .i64 y
  u : MfAt x bu M vq
  q : OwnSm x n1 vq M.segs
  v : MfAt x bw M vw
  r : OwnSm x n2 vw M.segs
theorem Fl.step {w x : World} {bv bu bw n0 n1 n2 z : Nat} {M : Mf} {ap : Option Addr} {cp : Nat} {vq vw : Value} (h : Fl w x bv bu bw n0 n1 n2 z M ap cp vq vw) (hw : w.heap.size ≤ n0) (hs : ∀ g, ap = some ⟨g, 0, none⟩ → vq.ownBlock ≠ some g ∧ vw.ownBlock ≠ some g) (j : Nat) (hj : j < z) :
    ∃ g, ap = some ⟨g, 0, none⟩ ∧ (∃ y : Int, x.cell? ⟨g, j * 4, none⟩ = some (.int .i64 y)) ∧ x.frozen? ⟨g, j * 4, none⟩ = false ∧ ∀ y : Int, Fl w (x.setCell ⟨g, j * 4, none⟩ (.int .i64 y)) bv bu bw n0 n1 n2 z M ap cp vq vw := by
  obtain ⟨xs, hx, hz⟩ := h.p
  have hx2 := hx
  rcases hx2.2 with ⟨_, hn⟩ | ⟨g, cap, cur, hv, hb, hg, hnc, hcm, hcs, htk⟩
  · omega
  · injection hv with h1 h2 h3
    subst h1
    have hst := hx.stored (j * 4)
    obtain ⟨s1, s2⟩ := hs g rfl
    have hlen : xs.length = z * 4 := hx.1
    obtain ⟨v, hv⟩ : ∃ v, xs[j * 4]? = some v := ⟨_, List.getElem?_eq_getElem (by omega)⟩
    have hcell := (hx.cellAt (j * 4) (by omega)).trans hv
    have ne : ∀ b m u, MfAt x b m u → b ≠ g := fun b m u hm hh => by subst hh; rw [MfAt, hg] at hm; cases hm
    obtain ⟨y0, rfl⟩ := hz v (List.mem_of_getElem? hv)
    refine ⟨g, rfl, ⟨y0, hcell⟩, hx.frozenAt (j * 4), fun y => ?_⟩
    · refine ⟨h.bel.setCell (p := ⟨g, j * 4, none⟩) (Nat.le_trans hw hb) _, (heap_setCell_other x ⟨g, j * 4, none⟩ _ _ (ne _ _ _ h.box)).trans h.box, ⟨_, (hst (.int .i64 y)).1, fun u hu => by rcases List.mem_or_eq_of_mem_set hu with h9 | rfl; exact hz u h9; exact ⟨y, rfl⟩⟩, (heap_setCell_other x ⟨g, j * 4, none⟩ _ _ (ne _ _ _ h.u)).trans h.u, h.q.kept (hst (.int .i64 y)).2 (.inr s1), (heap_setCell_other x ⟨g, j * 4, none⟩ _ _ (ne _ _ _ h.v)).trans h.v, h.r.kept (hst (.int .i64 y)).2 (.inr s2)⟩
set_option maxRecDepth 20000 in
set_option maxHeartbeats 8000000 in
theorem walk (l : List Nat) (a : Option Addr) (cap : Nat) (w : World) (hb : Bytes w a l) (hcm : Came w a l.length cap 1) (ht : Tab w) :
    Calls Tryd.prog 4 #[.slice a l.length cap] w fun e w' => e = .returned (.bool true) ∧ Below w.heap.size w w' := by
  obtain ⟨hf, hr, hnn⟩ := hcm
  have hcap : l.length ≤ cap := by omega
  have hl : l.length ≤ 140737488351232 := by omega
  clear hf hr hnn
  obtain ⟨n, hn⟩ : ∃ n, l.length = n := ⟨_, rfl⟩
  obtain ⟨M, hM⟩ : ∃ M, mdM l = M := ⟨_, rfl⟩
  obtain ⟨E, hE⟩ : ∃ E, mdE l = E := ⟨_, rfl⟩
  obtain ⟨z, hz⟩ : ∃ z, M.segs.length = z := ⟨_, rfl⟩
  have hz2 : z ≤ 257 := by rw [← hz, ← hM]; have := md_few l hb.mem; omega
  have HN : Hid (l.length = n) := hn
  have HBY : Hid (Bytes w a l) := hb
  have HT : Hid (Tab w) := ht
  have HD : Hid (mdM l = M ∧ mdE l = E) := ⟨hM, hE⟩
  have HZ : Hid (M.segs.length = z) := hz
  rw [hn] at hcap hl ⊢
  have HX : Hid (n ≤ 140737488351232 ∧ n ≤ cap ∧ z ≤ maxLen) := ⟨hl, hcap, by unfold maxLen; omega⟩
  have HNM : Hid (n ≤ maxLen) := by show _ ≤ _; unfold maxLen; omega
  have HB0 : Hid (Below w.heap.size w w) := Below.refl _ _
  have hq : ((E : Int) != (E : Int)) = false := by simp
  obtain ⟨i0, hi, hz0, hz1, hz2⟩ := info_parts Tryd.infoSm
  have TC1 : Hid True := trivial
  have TD1 : Hid True := trivial
  have TD2 : Hid True := trivial
  have TSW : Hid True := trivial
  have TSV : Hid True := trivial
  have TSU : Hid True := trivial
  have TG1 : Hid True := trivial
  have TG2 : Hid True := trivial
  have TM1 : Hid True := trivial
  clear hn hM hE hz hb ht
  go_enter Tryd.func4, Tryd.ntmps4
  go_wp2_with (first
    | (go_at_call 6; refine (head16_any _ HT.out).mono ?_; rintro _ x1 ⟨rfl, hb⟩; have HB1 : Hid (Below w.heap.size w x1) := below_next HB0.out hb; clear hb)
    | (go_at_call 14; clear TC1; refine (copy_nn l a n cap _ HN.out (HBY.out.keep HB1.out) (by omega)).mono ?_; rintro _ x2 ⟨a2, c2, rfl, hc2, _, ho, hb⟩; have HLC : Hid (n ≤ c2) := hc2; have HB2 : Hid (Below w.heap.size w x2) := below_next HB1.out hb; have HC2 : Hid (Own x2 w.heap.size (.slice a2 n c2) l) := ⟨ho.1, ho.2.mono HB1.out.size⟩; clear ho hb hc2)
    | (go_at_call 15; refine (rmdec_any l n a cap _ HN.out (HBY.out.keep HB2.out) HX.out.2.1 HX.out.1).mono ?_; rw [HD.out.1, HD.out.2]; rintro _ x3 ⟨v3, rfl, ho, hb⟩; obtain ⟨a3, c3, hv3, _, _, _, hs5⟩ := ho.shape; rw [HZ.out] at hv3; subst hv3; have HB3 : Hid (Below w.heap.size w x3) := below_next HB2.out hb; have HC3 : Hid (Own x3 w.heap.size (.slice a2 n c2) l) := ⟨HC2.out.1, own_below HC2.out.2 hb⟩; have HWR3 : Hid (OwnSm x3 x2.heap.size (.slice a3 z c3) M.segs) := ho; have HWL3 : Hid ((∀ x, a3 = some x → x.block < x3.heap.size)) := (fun x hx => by rcases hs5 with ⟨h1, _⟩ | ⟨g2, h1, h3, h4⟩ <;> rw [h1] at hx <;> cases hx; exact h4); clear ho hb hs5)
    | ((with_reducible refine frm_store 24 ?_); clear TSW; refine wpList_store_mf rfl _ _ rfl rfl (MfAt.new x3 zeroM (.slice none 0 0)) rfl (m2 := M) (a2 := a3) (n2 := z) (c2 := c3) rfl ?_; intro x4 hf ho hh hs; have hb : Below x3.heap.size x3 x4 := ho _ _ ((Below.refl _ _).alloc (Nat.le_refl _) _) (Nat.le_refl _); have HB4 : Hid (Below w.heap.size w x4) := below_next HB3.out hb; have HC4 : Hid (Own x4 w.heap.size (.slice a2 n c2) l) := ⟨HC3.out.1, own_below HC3.out.2 hb⟩; have HWR4 : Hid (OwnSm x4 x2.heap.size (.slice a3 z c3) M.segs) := HWR3.out.keep hb; have HWL4 : Hid ((∀ x, a3 = some x → x.block < x3.heap.size)) := HWL3.out; have HW4 : Hid (MfAt x4 x3.heap.size M (.slice a3 z c3)) := hf; have HSs4 : Hid (x3.heap.size ≤ x4.heap.size) := hb.size; clear hf ho hh hs hb)
    | (go_at_call 16; clear TD1; refine (mdec_any l n a2 c2 _ HN.out (own_bytes HC4.out) HLC.out HX.out.1 (HT.out.keep HB4.out)).mono ?_; rw [HD.out.1, HD.out.2]; rintro _ x5 ⟨v5, rfl, ho, hb⟩; obtain ⟨a5, c5, hv5, hc5, _, _, hs5⟩ := ho.shape; rw [HZ.out] at hv5 hc5; subst hv5; have HLQ : Hid (z ≤ c5) := hc5; have HB5 : Hid (Below w.heap.size w x5) := below_next HB4.out hb; have HC5 : Hid (Own x5 w.heap.size (.slice a2 n c2) l) := ⟨HC4.out.1, own_below HC4.out.2 hb⟩; have HWR5 : Hid (OwnSm x5 x2.heap.size (.slice a3 z c3) M.segs) := HWR4.out.keep hb; have HWL5 : Hid ((∀ x, a3 = some x → x.block < x3.heap.size)) := HWL4.out; have HW5 : Hid (MfAt x5 x3.heap.size M (.slice a3 z c3)) := HW4.out.after hb; have HP5 : Hid (OwnSm x5 x4.heap.size (.slice a5 z c5) M.segs) := ho; have HPL5 : Hid ((∀ g, a5 = some ⟨g, 0, none⟩ → x4.heap.size ≤ g ∧ g < x5.heap.size)) := (fun g hg => by rcases hs5 with ⟨h1, _⟩ | ⟨g2, h1, h3, h4⟩ <;> rw [h1] at hg <;> cases hg; exact ⟨h3, h4⟩); clear ho hb hs5 hc5)
    | ((with_reducible refine frm_store 24 ?_); clear TSV; refine wpList_store_mf rfl _ _ rfl rfl (MfAt.new x5 zeroM (.slice none 0 0)) rfl (m2 := M) (a2 := a5) (n2 := z) (c2 := c5) rfl ?_; intro x6 hf ho hh hs; have hb : Below x5.heap.size x5 x6 := ho _ _ ((Below.refl _ _).alloc (Nat.le_refl _) _) (Nat.le_refl _); have HB6 : Hid (Below w.heap.size w x6) := below_next HB5.out hb; have HC6 : Hid (Own x6 w.heap.size (.slice a2 n c2) l) := ⟨HC5.out.1, own_below HC5.out.2 hb⟩; have HWR6 : Hid (OwnSm x6 x2.heap.size (.slice a3 z c3) M.segs) := HWR5.out.keep hb; have HWL6 : Hid ((∀ x, a3 = some x → x.block < x3.heap.size)) := HWL5.out; have HW6 : Hid (MfAt x6 x3.heap.size M (.slice a3 z c3)) := HW5.out.after hb; have HP6 : Hid (OwnSm x6 x4.heap.size (.slice a5 z c5) M.segs) := HP5.out.keep hb; have HPL6 : Hid ((∀ g, a5 = some ⟨g, 0, none⟩ → x4.heap.size ≤ g ∧ g < x5.heap.size)) := HPL5.out; have HV6 : Hid (MfAt x6 x5.heap.size M (.slice a5 z c5)) := hf; have HSs6 : Hid (x5.heap.size ≤ x6.heap.size) := hb.size; clear hf ho hh hs hb)
    | (go_at_call 16; clear TD2; refine (mdec_any l n a2 c2 _ HN.out (own_bytes HC6.out) HLC.out HX.out.1 (HT.out.keep HB6.out)).mono ?_; rw [HD.out.1, HD.out.2]; rintro _ x7 ⟨v7, rfl, ho, hb⟩; obtain ⟨a7, c7, hv7, _, _, _, hs5⟩ := ho.shape; rw [HZ.out] at hv7; subst hv7; have HB7 : Hid (Below w.heap.size w x7) := below_next HB6.out hb; have HC7 : Hid (Own x7 w.heap.size (.slice a2 n c2) l) := ⟨HC6.out.1, own_below HC6.out.2 hb⟩; have HWR7 : Hid (OwnSm x7 x2.heap.size (.slice a3 z c3) M.segs) := HWR6.out.keep hb; have HWL7 : Hid ((∀ x, a3 = some x → x.block < x3.heap.size)) := HWL6.out; have HW7 : Hid (MfAt x7 x3.heap.size M (.slice a3 z c3)) := HW6.out.after hb; have HP7 : Hid (OwnSm x7 x4.heap.size (.slice a5 z c5) M.segs) := HP6.out.keep hb; have HPL7 : Hid ((∀ g, a5 = some ⟨g, 0, none⟩ → x4.heap.size ≤ g ∧ g < x5.heap.size)) := HPL6.out; have HV7 : Hid (MfAt x7 x5.heap.size M (.slice a5 z c5)) := HV6.out.after hb; have HQ7 : Hid (OwnSm x7 x6.heap.size (.slice a7 z c7) M.segs) := ho; have HQL7 : Hid ((∀ x, a7 = some x → x6.heap.size ≤ x.block)) := (fun x hx => by rcases hs5 with ⟨h1, _⟩ | ⟨g2, h1, h3, h4⟩ <;> rw [h1] at hx <;> cases hx; exact h3); clear ho hb hs5)
    | ((with_reducible refine frm_store 24 ?_); clear TSU; refine wpList_store_mf rfl _ _ rfl rfl (MfAt.new x7 zeroM (.slice none 0 0)) rfl (m2 := M) (a2 := a7) (n2 := z) (c2 := c7) rfl ?_; intro x8 hf ho hh hs; have hb : Below x7.heap.size x7 x8 := ho _ _ ((Below.refl _ _).alloc (Nat.le_refl _) _) (Nat.le_refl _); have HB8 : Hid (Below w.heap.size w x8) := below_next HB7.out hb; have HC8 : Hid (Own x8 w.heap.size (.slice a2 n c2) l) := ⟨HC7.out.1, own_below HC7.out.2 hb⟩; have HWR8 : Hid (OwnSm x8 x2.heap.size (.slice a3 z c3) M.segs) := HWR7.out.keep hb; have HWL8 : Hid ((∀ x, a3 = some x → x.block < x3.heap.size)) := HWL7.out; have HW8 : Hid (MfAt x8 x3.heap.size M (.slice a3 z c3)) := HW7.out.after hb; have HP8 : Hid (OwnSm x8 x4.heap.size (.slice a5 z c5) M.segs) := HP7.out.keep hb; have HPL8 : Hid ((∀ g, a5 = some ⟨g, 0, none⟩ → x4.heap.size ≤ g ∧ g < x5.heap.size)) := HPL7.out; have HV8 : Hid (MfAt x8 x5.heap.size M (.slice a5 z c5)) := HV7.out.after hb; have HQ8 : Hid (OwnSm x8 x6.heap.size (.slice a7 z c7) M.segs) := HQ7.out.keep hb; have HQL8 : Hid ((∀ x, a7 = some x → x6.heap.size ≤ x.block)) := HQL7.out; have HU8 : Hid (MfAt x8 x7.heap.size M (.slice a7 z c7)) := hf; have HSs8 : Hid (x7.heap.size ≤ x8.heap.size) := hb.size; clear hf ho hh hs hb)
    | ((with_reducible refine mf_loadg 24 ?_); clear TG1; refine wpList_load_mfg rfl _ rfl HV8.out rfl ?_)
    | ((with_reducible refine mf_loadg 24 ?_); clear TG2; refine wpList_load_mfg rfl _ rfl HW8.out rfl ?_)
    | (go_at_call 13; clear TM1; refine (msame_yes M z a5 a3 c5 c3 _ HZ.out (sm_own HP8.out) (sm_own HWR8.out) HX.out.2.2).mono ?_; rintro _ x9 ⟨rfl, hb⟩; have HB9 : Hid (Below w.heap.size w x9) := below_next HB8.out hb; have HC9 : Hid (Own x9 w.heap.size (.slice a2 n c2) l) := ⟨HC8.out.1, own_below HC8.out.2 hb⟩; have HWR9 : Hid (OwnSm x9 x2.heap.size (.slice a3 z c3) M.segs) := HWR8.out.keep hb; have HWL9 : Hid ((∀ x, a3 = some x → x.block < x3.heap.size)) := HWL8.out; have HW9 : Hid (MfAt x9 x3.heap.size M (.slice a3 z c3)) := HW8.out.after hb; have HP9 : Hid (OwnSm x9 x4.heap.size (.slice a5 z c5) M.segs) := HP8.out.keep hb; have HPL9 : Hid ((∀ g, a5 = some ⟨g, 0, none⟩ → x4.heap.size ≤ g ∧ g < x5.heap.size)) := HPL8.out; have HV9 : Hid (MfAt x9 x5.heap.size M (.slice a5 z c5)) := HV8.out.after hb; have HQ9 : Hid (OwnSm x9 x6.heap.size (.slice a7 z c7) M.segs) := HQ8.out.keep hb; have HQL9 : Hid ((∀ x, a7 = some x → x6.heap.size ≤ x.block)) := HQL8.out; have HU9 : Hid (MfAt x9 x7.heap.size M (.slice a7 z c7)) := HU8.out.after hb; clear hb)
    | (go_at_call 10; refine (same_yes l n n a2 a c2 cap _ HN.out HN.out (own_bytes HC9.out) (HBY.out.keep HB9.out) HNM.out).mono ?_; rintro _ x10 ⟨rfl, hb⟩; have HB10 : Hid (Below w.heap.size w x10) := below_next HB9.out hb; have HC10 : Hid (Own x10 w.heap.size (.slice a2 n c2) l) := ⟨HC9.out.1, own_below HC9.out.2 hb⟩; have HWR10 : Hid (OwnSm x10 x2.heap.size (.slice a3 z c3) M.segs) := HWR9.out.keep hb; have HWL10 : Hid ((∀ x, a3 = some x → x.block < x3.heap.size)) := HWL9.out; have HW10 : Hid (MfAt x10 x3.heap.size M (.slice a3 z c3)) := HW9.out.after hb; have HP10 : Hid (OwnSm x10 x4.heap.size (.slice a5 z c5) M.segs) := HP9.out.keep hb; have HPL10 : Hid ((∀ g, a5 = some ⟨g, 0, none⟩ → x4.heap.size ≤ g ∧ g < x5.heap.size)) := HPL9.out; have HV10 : Hid (MfAt x10 x5.heap.size M (.slice a5 z c5)) := HV9.out.after hb; have HQ10 : Hid (OwnSm x10 x6.heap.size (.slice a7 z c7) M.segs) := HQ9.out.keep hb; have HQL10 : Hid ((∀ x, a7 = some x → x6.heap.size ≤ x.block)) := HQL9.out; have HU10 : Hid (MfAt x10 x7.heap.size M (.slice a7 z c7)) := HU9.out.after hb; have v5 := HV10.out.cell 5 (.slice a5 z c5) rfl; clear hb))
  have HFL : Hid (Fl w x10 x5.heap.size x7.heap.size x3.heap.size x4.heap.size x6.heap.size x2.heap.size z M a5 c5 (.slice a7 z c7) (.slice a3 z c3)) := ⟨HB10.out, HV10.out, ⟨_, by have h := HP10.out; unfold OwnSm at h; rw [HZ.out] at h; exact h, sfl_int _⟩, HU10.out, HQ10.out, HW10.out, HWR10.out⟩
  have HSZ : Hid (w.heap.size ≤ x4.heap.size) := HB4.out.size
  have HSEP : Hid (∀ g, a5 = some ⟨g, 0, none⟩ → (Value.slice a7 z c7).ownBlock ≠ some g ∧ (Value.slice a3 z c3).ownBlock ≠ some g) := fun g hg => by
    have h5 := HPL10.out g hg
    exact ⟨ob_ne fun x hx => by have h1 := HQL10.out x hx; have := HSs6.out; omega, ob_ne fun x hx => by have h1 := HWL10.out x hx; have := HSs4.out; omega⟩
  obtain ⟨HV9, HP9⟩ : Hid (MfAt x10 x5.heap.size M (.slice a5 z c5)) ∧ Hid (z ≤ c5) := ⟨HV10.out, HLQ.out⟩
  have hzI : (0 : Int) ≤ (z : Int) := by omega
  have hzI2 : (z : Int) ≤ 257 := by omega
  clear v5
  go_loopw [48] (fun vi y => ∃ j : Nat, j ≤ z ∧ vi = .int .i64 (j : Int) ∧ Hid (Fl w y x5.heap.size x7.heap.size x3.heap.size x4.heap.size x6.heap.size x2.heap.size z M a5 c5 (.slice a7 z c7) (.slice a3 z c3))) (fun vi _ => z - (intOf vi).toNat)
  case atStart => exact ⟨0, by omega, rfl, HFL.out⟩
  case round =>
    obtain ⟨j, hj, rfl, HI⟩ := hrel
    by_cases hjl : j < z
    · obtain ⟨g, hap, ⟨y, c0⟩, f0, hnew⟩ := HI.out.step HSZ.out HSEP.out j hjl
      have HNEW : Hid (_) := hnew
      have v5 := HI.out.box.cell 5 _ rfl
      subst hap
      clear hnew
      go_wp2
      go_roundw
      case rel => exact ⟨j + 1, by omega, by go_num, HNEW.out _⟩
      case measure => simp [intOf]; omega
    · obtain rfl : z = j := by omega
      have TL1 : Hid True := trivial
      go_wp2_with (first
        | ((with_reducible refine frm_load 24 ?_); clear TL1; refine wpList_load_mf rfl _ rfl HI.out.u rfl ?_)
        | ((with_reducible refine frm_load 24 ?_); refine wpList_load_mf rfl _ rfl HI.out.v rfl ?_)
        | (go_at_call 13; refine (msame_yes M z a7 a3 c7 c3 _ HZ.out (sm_own HI.out.q) (sm_own HI.out.r) HX.out.2.2).mono ?_; rintro _ y7 ⟨rfl, hb7⟩; have HB17 : Hid (Below w.heap.size w y7) := below_next HI.out.bel hb7; clear hb7))
      go_ret
      exact ⟨rfl, HB17.out⟩
theorem own : ownKnob Tryd.prog.godebug = none := by kernel_rfl
theorem laidOut : laidOutB Tryd.prog = true := by kernel_rfl
set_option maxRecDepth 100000 in
theorem contract (H : Type) (enc : TypeId × Value → H) (W : World) (base : Nat) (args : Array Value) (ds gs : List (DataW H)) (before : List MemPlace)
    (hval : ∀ (j : Nat) t v, Tryd.f4.params[j]? = some t → args[j]? = some v → Value.okWide Tryd.prog W .any base t v)
    (hW : DataW.Whole enc Tryd.prog Tryd.f4.params.toList Rows.manifestDecodesSpec.vars false W args.toList ds gs before)
    (hsz : (DataW.weightsEach Tryd.prog (Tryd.f4.params.toList ++ Rows.manifestDecodesSpec.plain.varTypes Tryd.prog) (ds ++ gs)).all (· ≤ reachBytes) = true) (hL : laidMetH Tryd.prog ([("daybook/crc.halves", Rows.laid_daybook_crc_halves)]) W) :
    Calls Tryd.prog 4 args W fun e W' => ∃ v, e = .returned v ∧ Rows.manifestDecodesSpec.post enc Tryd.prog Tryd.f4 false true false false W args v W' := by
  have hW' := hW
  obtain ⟨p, q, hA0, hV, rfl, hfz, hnd⟩ := hW
  have hA : DataW.TrodAll enc Tryd.prog W 0 (fun _ => true) true Tryd.f4.params.toList args.toList ds p := hA0
  rw [Tryd.params4] at hA hval hsz
  obtain ⟨v0, vs0, d0, ds0, p0, q0, hargs, rfl, rfl, h0, r0⟩ := trodAll_cons hA
  obtain ⟨rfl, rfl, rfl⟩ := trodAll_nil r0
  obtain rfl : args = #[v0] := by cases args; simp_all
  obtain ⟨rfl, rfl⟩ := trodVars_none hV
  obtain ⟨a0, len0, cap0, rfl⟩ := okWide_slice Tryd.underlying27 (hval 0 27 v0 rfl rfl)
  have k0 := h0
  have lt0 : ∀ x ∈ p0, x.block < W.heap.size := by obtain ⟨m, hm⟩ := k0; exact DataW.trod_lt m _ _ _ hm
  obtain ⟨l0, hlen0, w0, c0⟩ : ∃ l : List Nat, l.length = len0 ∧ Bytes W a0 l ∧ Came W a0 len0 cap0 1 := by
    obtain ⟨fuel, hf⟩ := h0
    rcases open_ints Tryd.underlying27 Tryd.underlying5 (by kernel_rfl) hf with ⟨hcs, hx⟩ | ⟨x, l, c, zs, hcs, _, hl, hm, hz, hx, hcell, hwz⟩
    · simp [Value.cells] at hcs
      obtain ⟨rfl, rfl, rfl⟩ := hcs
      exact ⟨[], rfl, ⟨by simp, .inl rfl⟩, ⟨Nat.le_refl _, by simp, fun _ => rfl⟩⟩
    · simp [Value.cells] at hcs
      obtain ⟨rfl, rfl, rfl⟩ := hcs
      have hz2 : zs.length = cap0 := by simpa using hz
      obtain ⟨ll, e1, e2, e3⟩ := row_nats .u8 256 (by decide) wf_u8 W x zs len0 (by omega) hcell hwz
      have hd : d0 = .slice (lits .u8 (zs.take len0)) (lits .u8 (zs.drop len0)) := (Prod.mk.inj hx).1
      have hreach : cap0 * 1 ≤ 140737488351232 := by
        have := sized_slice hsz (j := 0) (t := 27) (e := 5) rfl (by rw [hd]; rfl) Tryd.underlying27
        rw [show Tryd.prog.bytesOf 5 = 1 from by kernel_rfl] at this
        simp only [lits, List.length_map, List.length_take, List.length_drop, reachBytes] at this
        have hmin : min len0 zs.length = len0 := Nat.min_eq_left (by omega)
        rw [hmin] at this
        have hcap : len0 + (zs.length - len0) = cap0 := by omega
        rw [hcap] at this
        exact this
      exact ⟨ll, e1, ⟨e2, e3⟩, ⟨hl, hreach, fun h => by cases h⟩⟩
  subst hlen0
  clear hA0
  refine (walk l0 a0 cap0 W w0 c0 (tab_of hL)).mono fun e W' ⟨he, bel⟩ => ?_
  subst he
  exact ⟨_, rfl, _, _, _, [], _, [], hW', trodAll_mk1 (shut_bool Tryd.underlying4 _), (trodAll_cons_mk (Below.trod laidOut (by kernel_rfl) (of_decide_eq_true (by kernel_rfl)) k0 bel lt0) trodAll_mk0), rfl, bel.frame _, fun h => by cases h⟩
set_option maxRecDepth 100000 in
theorem start (os : Os) : ∃ w0 : World, w0.os = os ∧ (w0.forCall (fun _ _ => 0) ⟨#[], #[.slice none 0 0], []⟩).variablesB Tryd.prog = true ∧
    ((w0.forCall (fun _ _ => 0) ⟨#[], #[.slice none 0 0], []⟩).heap.toList.drop Tryd.prog.globals.size).take ((begin Tryd.prog (fun _ _ => 0) default).world.heap.size - Tryd.prog.globals.size) = (begin Tryd.prog (fun _ _ => 0) default).world.heap.toList.drop Tryd.prog.globals.size ∧
    Input.okWideB Tryd.prog (w0.forCall (fun _ _ => 0) ⟨#[], #[.slice none 0 0], []⟩) 4 ⟨#[], #[.slice none 0 0], []⟩ = true ∧
    laidMet Tryd.prog Rows.manifestDecodesRow.laid (w0.forCall (fun _ _ => 0) ⟨#[], #[.slice none 0 0], []⟩).memory ∧
    ∀ (H : Type) (enc : TypeId × Value → H), DataW.whole enc Tryd.prog (w0.forCall (fun _ _ => 0) ⟨#[], #[.slice none 0 0], []⟩).memory Tryd.f4.params.toList Rows.manifestDecodesSpec.vars false (#[.slice none 0 0] : Array Value).toList 8 = some ([.nil], [], []) :=
  ⟨{ World.holding Tryd.prog os ⟨#[], #[], []⟩ with heap := (World.holding Tryd.prog os ⟨#[], #[], []⟩).heap.modify 0 fun
      | .cells _ t frozen => .cells #[.int .u32 0, .int .u32 498536548, .int .u32 997073096, .int .u32 651767980, .int .u32 1994146192, .int .u32 1802195444, .int .u32 1303535960, .int .u32 1342533948, .int .u32 3988292384, .int .u32 4027552580, .int .u32 3604390888, .int .u32 3412177804, .int .u32 2607071920, .int .u32 2262029012, .int .u32 2685067896, .int .u32 3183342108] t frozen
      | o => o }, rfl, by kernel_rfl, by kernel_rfl, by kernel_rfl, laidMet_of_run' 8 (by kernel_rfl) (by kernel_rfl), fun _ _ => by kernel_rfl⟩
set_option maxRecDepth 100000 in
theorem lifted (os : Os) (started : os.Started) (H : Type) (enc : TypeId × Value → H) (F : Stop.Interp) :
    ReturnsInHanded {} Tryd.checked os 4 .any ((OpenSpec.ofChange Rows.manifestDecodesSpec).preRow enc Tryd.prog Tryd.f4 Rows.manifestDecodesRow.domain false Rows.manifestDecodesRow.laid) (((OpenSpec.ofChange Rows.manifestDecodesSpec).at F).post enc Tryd.prog Tryd.f4 false true false false) := by
  obtain ⟨w0, h1, h2, h3, h4, h5, h6⟩ := start os
  refine returnsInHanded_of_row (C := Tryd.checked) (s := OpenSpec.ofChange Rows.manifestDecodesSpec) own started (by kernel_rfl) Tryd.func4
    (witness_row_at (enc := enc) (C := Tryd.checked) false w0 #[.slice none 0 0] h1 h2 h3 h4
      (OpenSpec.preRow_of_cond 8 (h6 H enc) (by kernel_rfl) (fun k hk => by cases hk) (by kernel_rfl) h5)) ?_
  intro W base args ds gs before hval hW _ hcond hsz hL _ _
  exact contract H enc W base args ds gs before hval hW hsz hL
theorem said : Rows.ManifestDecodesSaid :=
  OpenClaim.holds_of_cond 4 Tryd.f4 rfl rfl rfl rfl rfl rfl rfl ⟨rfl, rfl, rfl, rfl, rfl⟩ rfl rfl rfl rfl rfl (by kernel_rfl) Tryd.func4 (by kernel_rfl)
    (of_decide_eq_true (by kernel_rfl)) (by unfold Func.isWrapper; first | (rw [if_pos (by decide +kernel)]; kernel_rfl) | (rw [if_neg (by decide +kernel)]; exact ⟨rfl, rfl⟩))
    (fun os started H enc _ F => by rw [OpenClaim.pre_eq_preRow]; exact lifted os started H enc F)
theorem plain (f : FuncId) (fn : Func) (hf : Tryd.pinned.checked.prog.funcNamed "daybook/daybooklaw16.ManifestDecodes" = some f) (hfn : Tryd.pinned.checked.prog.funcs[f]? = some fn) :
    false = Tryd.pinned.checked.prog.looks [] ∧ ∀ (j : Nat) t, fn.params[j]? = some t → Tryd.pinned.checked.prog.wantsStandIn t = false := by
  obtain rfl : f = 4 := Option.some.inj ((show Tryd.prog.funcNamed "daybook/daybooklaw16.ManifestDecodes" = some 4 by kernel_rfl).symm.trans hf) |>.symm
  obtain rfl : fn = Tryd.f4 := (Option.some.inj (Tryd.func4.symm.trans hfn)).symm
  refine ⟨by kernel_rfl, fun j t ht => ?_⟩
  rw [Tryd.params4] at ht
  have hm := Array.mem_of_getElem? ht
  have hall : ∀ t ∈ (#[27] : Array TypeId), Tryd.prog.wantsStandIn t = false := by
    intro t ht
    simp only [List.mem_toArray, List.mem_cons, List.not_mem_nil, or_false] at ht
    rcases ht with rfl <;> kernel_rfl
  exact hall t hm
theorem card : Rows.ManifestDecodesCardSaid :=
  Claim7.holds_tied_plain_at .later [] _ _ _ _ said (fun _ h => by cases h) (by kernel_rfl) (fun _ h => by cases h) manifestDecodes_row_tie rfl ⟨rfl, rfl⟩ (by kernel_rfl) rfl plain (by kernel_rfl)
end Go.Proofs.YtoneaannbmkeiaaDoor.manifestDecodes
