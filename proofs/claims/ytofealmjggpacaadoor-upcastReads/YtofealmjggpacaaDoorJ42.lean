/- Own texts, joined: Sdc, Sr1, Sr2, Renc. -/
import Derived.Test.YtofealmjggpacaaDoorJ37
import Derived.Test.YtofealmjggpacaaDoorJ39
import Derived.Test.YtofealmjggpacaaDoorJ16
import Derived.Deep.AppendLies
import Derived.Test.YtofealmjggpacaaDoorRows
import Derived.Test.YtofealmjggpacaaDoorJ00
namespace Go.Proofs.YtofealmjggpacaaDoor
open Go.ChangeShapes Go.WideShapes Go.ChangeAt Go.RowKit
set_option linter.unusedVariables false
theorem capN_inv {u : Nat} {x : Int} (h : x = capN u) (h1 : x ≤ 1099511627776) : x.toNat = u := by
  unfold capN at h
  split at h <;> omega
/-- fields that were read: rising, each right -/
structure Fine (v : Int) (fs : List Fld) : Prop where
  rise : fs.Pairwise (fun f g => f.tag < g.tag)
  right : ∀ f ∈ fs, FRight f ∧ flt f 0 = 0
  tags : ∀ f ∈ fs, 1 ≤ f.tag ∧ f.tag ≤ hasV v
  forms : ∀ f ∈ fs, f.text = isT f.tag
theorem hasV_le (v : Int) : hasV v ≤ 10 := by unfold hasV; repeat' split <;> omega
theorem Fine.nzf {v : Int} {fs : List Fld} (h : Fine v fs) : ∀ f ∈ fs, nz f = true := by
  intro f hf
  have h1 := h.tags f hf
  have h2 := hasV_le v
  obtain ⟨⟨_, hb, _, _⟩, hz⟩ := h.right f hf
  have h3 := flt_nz (F := f) (A := 0) (by omega) h1.1 (by omega) (fun _ => hb)
  rw [hz] at h3
  by_cases hn : nz f = true
  · exact hn
  · rw [if_neg hn] at h3; cases h3
theorem Fine.num {v : Int} {fs : List Fld} (h : Fine v fs) {t : Int} (ht : isT t = false) : getF fs t = if numF fs t = 0 then none else some ⟨t, false, numF fs t, []⟩ := by
  unfold numF
  rcases hg : getF fs t with _ | f
  · rfl
  · obtain ⟨m1, m2⟩ := getF_mem hg
    have hx := h.forms f m1
    rw [m2, ht] at hx
    obtain ⟨⟨_, _, hn, _⟩, hf⟩ := h.right f m1
    have hnz : f.num ≠ 0 := by
      intro e
      have h9 := h.nzf f m1
      unfold nz at h9
      rw [if_neg (by rw [hx]; simp), e] at h9
      cases h9
    have hb : f.bytes = [] := by
      have h9 : norm f = { f with bytes := [] } := by unfold norm; rw [if_neg (by rw [hx]; simp)]
      rw [h9] at hn
      exact (congrArg Fld.bytes hn).symm
    simp only [hx, if_true]
    rw [if_neg hnz]
    obtain ⟨a, b, c, d⟩ := f
    simp only at m2 hx hb
    rw [m2, hx, hb]
theorem Fine.txt {v : Int} {fs : List Fld} (h : Fine v fs) {t : Int} (ht : isT t = true) : getF fs t = if txtF fs t = [] then none else some ⟨t, true, 0, txtF fs t⟩ := by
  unfold txtF
  rcases hg : getF fs t with _ | f
  · rfl
  · obtain ⟨m1, m2⟩ := getF_mem hg
    have hx := h.forms f m1
    rw [m2, ht] at hx
    obtain ⟨⟨_, _, hn, _⟩, hf⟩ := h.right f m1
    have hnz : f.bytes ≠ [] := by
      intro e
      have h9 := h.nzf f m1
      unfold nz at h9
      rw [if_pos hx, e] at h9
      cases h9
    have hb : f.num = 0 := by
      have h9 : norm f = { f with num := 0 } := by unfold norm; rw [if_pos hx]
      rw [h9] at hn
      exact (congrArg Fld.num hn).symm
    simp only [hx, if_true]
    rw [if_neg hnz]
    obtain ⟨a, b, c, d⟩ := f
    simp only at m2 hx hb
    rw [m2, hx, hb]
theorem Fine.off {v : Int} {fs : List Fld} (h : Fine v fs) {t : Int} (ht : hasV v < t) : numF fs t = 0 ∧ txtF fs t = [] := by
  have hg : getF fs t = none := getF_none.2 (fun f hf e => by have := (h.tags f hf).2; omega)
  unfold numF txtF
  rw [hg]
  exact ⟨rfl, rfl⟩
theorem nz_num (t : Int) (n : Nat) : (some (⟨t, false, n, []⟩ : Fld)).bind (fun f => if nz f = true then some f else none) = if n = 0 then none else some ⟨t, false, n, []⟩ := by
  show (if nz ⟨t, false, n, []⟩ = true then some (⟨t, false, n, []⟩ : Fld) else none) = _
  by_cases hn : n = 0
  · subst hn; rfl
  · rw [if_pos (by simp [nz, hn]), if_neg hn]
theorem nz_txt (t : Int) (l : List Nat) : (some (⟨t, true, 0, l⟩ : Fld)).bind (fun f => if nz f = true then some f else none) = if l = [] then none else some ⟨t, true, 0, l⟩ := by
  show (if nz ⟨t, true, 0, l⟩ = true then some (⟨t, true, 0, l⟩ : Fld) else none) = _
  cases l with
  | nil => rfl
  | cons x s => rw [if_pos (show nz ⟨t, true, 0, x :: s⟩ = true from rfl), if_neg (List.cons_ne_nil x s)]
/-- what the version took, back as it was written -/
theorem took {v : Int} {fs : List Fld} (h : Fine v fs) {E : Ev} (hE : ({ evV v fs with qty := qtyV v fs } : Ev) = E) (r : Right v E) : E.kind.toNat = numF fs 1 ∧ E.order.toNat = numF fs 2 ∧ E.item.toNat = numF fs 3 ∧ qN v E = numF fs 4 ∧ E.price.toNat = numF fs 5 ∧ E.cur.toNat = numF fs 6 ∧ E.tax.toNat = numF fs 7 ∧ nums8 E.who = txtF fs 8 ∧ E.stamp.toNat = numF fs 9 ∧ nums8 E.note = txtF fs 10 := by
  have hk : lastK v ≤ 10 := by unfold lastK; repeat' split <;> omega
  have hp : hiP v ≤ 100000000 := by unfold hiP; split <;> omega
  have h8 := (txtF_lt (fun f hf => (h.right f hf).1) 8).1
  have h10 := (txtF_lt (fun f hf => (h.right f hf).1) 10).1
  have bk := r.kind1
  have bo := r.order1
  have bi := r.item1
  have bp := r.price1
  have bc := r.cur1
  have bt := r.tax1
  have bs := r.stamp1
  have bq := r.qty1
  have bq0 := r.qty0
  have off := fun t ht => h.off (t := t) ht
  have hq : E.qty = qtyV v fs := by rw [← hE]
  have q4 : qN v E = numF fs 4 := by
    unfold qN
    rw [hq]
    unfold qtyV
    by_cases h2 : v ≤ 2
    · rw [if_pos h2, if_pos h2, zig_zag _ (by omega)]; omega
    · rw [if_neg h2, if_neg h2]
      refine capN_inv rfl ?_
      have : qtyV v fs = capN (numF fs 4) := if_neg h2
      rw [hq, this] at bq
      omega
  have hv : v = 1 ∨ v = 2 ∨ v = 3 ∨ v = 4 ∨ v = 5 := by have := r.v1; have := r.v5; omega
  clear r hq bq bq0
  refine ⟨?_, ?_, ?_, q4, ?_, ?_, ?_, ?_, ?_, ?_⟩
  all_goals clear q4
  · refine capN_inv ?_ (by omega); rw [← hE]; rcases hv with rfl | rfl | rfl | rfl | rfl <;> rfl
  · refine capN_inv ?_ (by omega); rw [← hE]; rcases hv with rfl | rfl | rfl | rfl | rfl <;> rfl
  · refine capN_inv ?_ (by omega); rw [← hE]; rcases hv with rfl | rfl | rfl | rfl | rfl <;> rfl
  · refine capN_inv ?_ (by omega); rw [← hE]; rcases hv with rfl | rfl | rfl | rfl | rfl <;> rfl
  · by_cases h1 : v ≤ 1
    · have : v = 1 := by omega
      subst this
      rw [(off 6 (by decide)).1, ← hE]; rfl
    · refine capN_inv ?_ (by omega); rw [← hE]; rcases hv with rfl | rfl | rfl | rfl | rfl
      · omega
      all_goals rfl
  · by_cases h1 : v ≤ 2
    · rcases hv with rfl | rfl | rfl | rfl | rfl
      · rw [(off 7 (by decide)).1, ← hE]; rfl
      · rw [(off 7 (by decide)).1, ← hE]; rfl
      all_goals omega
    · refine capN_inv ?_ (by omega); rw [← hE]; rcases hv with rfl | rfl | rfl | rfl | rfl
      · omega
      · omega
      all_goals rfl
  · by_cases h1 : v ≤ 3
    · rcases hv with rfl | rfl | rfl | rfl | rfl
      · rw [(off 8 (by decide)).2, ← hE]; rfl
      · rw [(off 8 (by decide)).2, ← hE]; rfl
      · rw [(off 8 (by decide)).2, ← hE]; rfl
      all_goals omega
    · have : E.who = str8 (txtF fs 8) := by
        rw [← hE]; rcases hv with rfl | rfl | rfl | rfl | rfl
        · omega
        · omega
        · omega
        all_goals rfl
      rw [this, nums8_str8 _ h8]
  · by_cases h1 : v ≤ 4
    · rcases hv with rfl | rfl | rfl | rfl | rfl
      · rw [(off 9 (by decide)).1, ← hE]; rfl
      · rw [(off 9 (by decide)).1, ← hE]; rfl
      · rw [(off 9 (by decide)).1, ← hE]; rfl
      · rw [(off 9 (by decide)).1, ← hE]; rfl
      · omega
    · have : v = 5 := by omega
      subst this
      refine capN_inv ?_ (by omega); rw [← hE]; rfl
  · by_cases h1 : v ≤ 4
    · rcases hv with rfl | rfl | rfl | rfl | rfl
      · rw [(off 10 (by decide)).2, ← hE]; rfl
      · rw [(off 10 (by decide)).2, ← hE]; rfl
      · rw [(off 10 (by decide)).2, ← hE]; rfl
      · rw [(off 10 (by decide)).2, ← hE]; rfl
      · omega
    · have : v = 5 := by omega
      subst this
      have : E.note = str8 (txtF fs 10) := by rw [← hE]; rfl
      rw [this, nums8_str8 _ h10]
theorem efs_eq {v : Int} {fs : List Fld} (h : Fine v fs) {E : Ev} (hE : ({ evV v fs with qty := qtyV v fs } : Ev) = E) (r : Right v E) : efs v E = fs := by
  obtain ⟨t1, t2, t3, t4, t5, t6, t7, t8, t9, t10⟩ := took h hE r
  have hpw := r.ris.pw.1
  have hh := hasV_le v
  refine rise_ext _ _ (hpw.filter _) h.rise (fun t => ?_)
  by_cases ht : 1 ≤ t ∧ t ≤ 10
  · show getF ((evF v E).filter nz) t = _
    rw [getF_filter nz _ t hpw]
    have hv : t = 1 ∨ t = 2 ∨ t = 3 ∨ t = 4 ∨ t = 5 ∨ t = 6 ∨ t = 7 ∨ t = 8 ∨ t = 9 ∨ t = 10 := by omega
    rcases hv with rfl | rfl | rfl | rfl | rfl | rfl | rfl | rfl | rfl | rfl
    · rw [show getF (evF v E) 1 = some ⟨1, false, E.kind.toNat, []⟩ from rfl, nz_num, t1, h.num rfl]
    · rw [show getF (evF v E) 2 = some ⟨2, false, E.order.toNat, []⟩ from rfl, nz_num, t2, h.num rfl]
    · rw [show getF (evF v E) 3 = some ⟨3, false, E.item.toNat, []⟩ from rfl, nz_num, t3, h.num rfl]
    · rw [show getF (evF v E) 4 = some ⟨4, false, qN v E, []⟩ from rfl, nz_num, t4, h.num rfl]
    · rw [show getF (evF v E) 5 = some ⟨5, false, E.price.toNat, []⟩ from rfl, nz_num, t5, h.num rfl]
    · rw [show getF (evF v E) 6 = some ⟨6, false, E.cur.toNat, []⟩ from rfl, nz_num, t6, h.num rfl]
    · rw [show getF (evF v E) 7 = some ⟨7, false, E.tax.toNat, []⟩ from rfl, nz_num, t7, h.num rfl]
    · rw [show getF (evF v E) 8 = some ⟨8, true, 0, nums8 E.who⟩ from rfl, nz_txt, t8, h.txt rfl]
    · rw [show getF (evF v E) 9 = some ⟨9, false, E.stamp.toNat, []⟩ from rfl, nz_num, t9, h.num rfl]
    · rw [show getF (evF v E) 10 = some ⟨10, true, 0, nums8 E.note⟩ from rfl, nz_txt, t10, h.txt rfl]
  · rw [getF_none.2 (fun f hf e => ?_), getF_none.2 (fun f hf e => ?_)]
    · have := h.tags f hf; omega
    · have := (evF_text f (List.mem_filter.1 hf).1).2.2; omega
theorem fine_of {v : Int} {l : List Nat} (hl : ∀ x ∈ l, x < 256) (h1 : 1 ≤ v) (h5 : v ≤ 5) (h : (recs l).2.2 = 0) (he : errR (tkF (recs l).1 (tgV v)) (tkE (recs l).1 (tgV v)) = 0) : Fine v (recs l).1 := by
  obtain ⟨_, r2, r3, _⟩ := recs_ok l hl h
  obtain ⟨r5, r6⟩ := encs_rise _ _ _ _ r2
  obtain ⟨e1, e2⟩ := errR_zero.1 he
  refine ⟨r5, fun f hf => ⟨r3 f hf, (r6 f hf).2.2.2⟩, fun f hf => (tgV_mem h1 h5 f.tag).1 (e2 f hf), fun f hf => ?_⟩
  obtain ⟨x, hx, hfx⟩ := e2 f hf
  rw [hfx, ← tgV_text h1 h5 x hx]
  exact tk_right (tgV v) _ (tgV_apart h1 h5) e1 x hx f (by rw [← hfx]; exact getF_of_mem r5 hf)
/-- what schema.Decode reads is a right event, and its record is what was read -/
theorem sdec_form {v : Int} {l : List Nat} (hl : ∀ x ∈ l, x < 256) (h : (sdec v l).2 = 0) : Right v (sdec v l).1 ∧ ones (efs v (sdec v l).1) = l := by
  by_cases hv : v < 1 ∨ 5 < v
  · rw [show sdec v l = (zeroE, 30) from if_pos hv] at h; cases h
  · rw [show sdec v l = sdR v (evV v) (qtyV v) (tgV v) l from if_neg hv] at h ⊢
    unfold sdR at h ⊢
    by_cases c1 : (recs l).2.2 = 0
    · rw [if_neg (by simp [c1])] at h ⊢
      by_cases c2 : errR (tkF (recs l).1 (tgV v)) (tkE (recs l).1 (tgV v)) = 0
      · rw [if_neg (by simp [c2])] at h ⊢
        by_cases c3 : chk v { evV v (recs l).1 with qty := qtyV v (recs l).1 } = 0
        · rw [if_neg (by simp [c3])]
          have hf := fine_of hl (by omega) (by omega) c1 c2
          have r := right_of c3
          refine ⟨r, ?_⟩
          have h7 := efs_encs r
          have h8 := efs_eq hf rfl r
          simp only at h7 ⊢
          rw [h8] at h7 ⊢
          rw [(recs_ok l hl c1).2.1] at h7
          exact (Prod.mk.inj h7).1.symm
        · rw [if_pos c3] at h; exact absurd h c3
      · rw [if_pos c2] at h; simp only at h; omega
    · rw [if_pos c1] at h; simp only at h; omega
/-- where there is an error there is no event -/
theorem sdec_err {v : Int} {l : List Nat} (h : (sdec v l).2 ≠ 0) : (sdec v l).1 = zeroE := by
  by_cases hv : v < 1 ∨ 5 < v
  · rw [show sdec v l = (zeroE, 30) from if_pos hv]
  · rw [show sdec v l = sdR v (evV v) (qtyV v) (tgV v) l from if_neg hv] at h ⊢
    unfold sdR at h ⊢
    split
    · rfl
    · rename_i c1
      rw [if_neg c1] at h
      split
      · rfl
      · rename_i c2
        rw [if_neg c2] at h
        split
        · rfl
        · rename_i c3
          rw [if_neg c3] at h
          exact absurd rfl h
end Go.Proofs.YtofealmjggpacaaDoor
namespace Go.Proofs.YtofealmjggpacaaDoor
open Go.ChangeShapes Go.WideShapes Go.ChangeAt Go.RowKit
set_option linter.unusedVariables false
/-- a text in a block of bytes -/
def TxtAt (w : World) (bv : Value) (l : List Nat) : Prop := ∃ a cap, bv = .slice a l.length cap ∧ l.length ≤ cap ∧ (l = [] ∨ ∃ g C m, a = some ⟨g, 0, none⟩ ∧ w.heap[g]? = some (.cells C 5 m)) ∧ Bytes w a l
theorem TxtAt.keep {w w' : World} {bv : Value} {l : List Nat} (h : TxtAt w bv l) (hb : Below w.heap.size w w') : TxtAt w' bv l := by
  obtain ⟨a, cap, h1, h2, h3, h4⟩ := h
  refine ⟨a, cap, h1, h2, ?_, h4.keep hb⟩
  rcases h3 with h3 | ⟨g, C, m, h5, h6⟩
  · exact .inl h3
  · exact .inr ⟨g, C, m, h5, (hb.block g (lt_of_heap h6)).trans h6⟩
theorem TxtAt.nil (w : World) : TxtAt w (.slice none 0 0) [] := ⟨none, 0, rfl, by simp, .inl rfl, ⟨by simp, .inl rfl⟩⟩
theorem TxtAt.cv (w : World) (s : ByteArray) (hc : s.size ≤ cvC w s) : TxtAt (cvW w s) (.slice (some ⟨w.heap.size, 0, none⟩) s.size (cvC w s)) (nums8 s) := by
  refine ⟨some ⟨w.heap.size, 0, none⟩, cvC w s, by rw [nums8_len], by rw [nums8_len]; exact hc, .inr ⟨w.heap.size, _, _, rfl, Lib.bytesWorld_at_new w 5 s⟩, cv_bytes s w⟩
/-- a row of fields of one's own, their texts in blocks of bytes -/
structure Rwt (w : World) (base : Nat) (v : Value) (L : List (Fld × Value)) : Prop where
  own : w.ownsRow base 142 4 v L.length (flat L)
  byt : ∀ p ∈ L, TxtAt w p.2 p.1.bytes
theorem Rwt.keep {w w' : World} {base : Nat} {v : Value} {L : List (Fld × Value)} (h : Rwt w base v L) (hb : Below w.heap.size w w') : Rwt w' base v L :=
  ⟨own_same2 h.own (fun k _ hk => hb.block k hk), fun p hp => (h.byt p hp).keep hb⟩
theorem txt_grown {w w' : World} {base n : Nat} {v bv : Value} {xs : List Value} {l : List Nat} (ho : w.ownsRow base 142 4 v n xs) (hg : w.grownBy w' v.ownBlock) (hp : TxtAt w bv l) : TxtAt w' bv l := by
  obtain ⟨a, cap, h1, h2, h3, h4⟩ := hp
  rcases h3 with h3 | ⟨g, C, m, h5, h6⟩
  · subst h3
    exact ⟨a, cap, h1, h2, .inl rfl, ⟨h4.1, .inl rfl⟩⟩
  · have hblk : w'.heap[g]? = w.heap[g]? := by
      refine hg.block g (lt_of_heap h6) (fun h => ?_)
      rcases ho.2 with ⟨rfl, _⟩ | ⟨g2, cap2, cur2, rfl, _, hh, _⟩
      · simp [Value.ownBlock] at h
      · have : g = g2 := by simpa [Value.ownBlock] using h
        subst this
        rw [h6] at hh
        cases hh
    refine ⟨a, cap, h1, h2, .inr ⟨g, C, m, h5, hblk.trans h6⟩, ⟨h4.1, ?_⟩⟩
    rcases h4.2 with h7 | ⟨b, off, h8, h9, h10⟩
    · exact .inl h7
    · rw [h5] at h8
      cases h8
      exact .inr ⟨g, 0, h5, Nat.lt_of_lt_of_le h9 hg.size, fun i hi => (World.cell?_of_block (w := w) (a := ⟨g, 0 + i, none⟩) hblk).trans (h10 i hi)⟩
theorem Rwt.fs {w : World} {base : Nat} {v : Value} {L : List (Fld × Value)} (h : Rwt w base v L) (hn : ∀ p ∈ L, p.1.num ≤ 18446744073709551615 ∧ p.1.bytes.length ≤ maxLen) : ∃ a cap, v = .slice a L.length cap ∧ FsAt w a L := by
  have hf : ∀ p ∈ L, FOk w p := by
    intro p hp
    obtain ⟨a, cap, h1, h2, _, h3⟩ := h.byt p hp
    exact ⟨(hn p hp).1, ⟨a, cap, h1, h2, h3⟩, (hn p hp).2⟩
  rcases h.own.2 with ⟨rfl, h2⟩ | ⟨g, cap, cur, rfl, _, h5, _⟩
  · have : L = [] := List.length_eq_zero_iff.1 h2
    subst this
    exact ⟨none, 0, rfl, .inl rfl, hf⟩
  · refine ⟨some ⟨g, 0, none⟩, cap, rfl, .inr ⟨g, 0, rfl, lt_of_heap h5, fun j hj => ?_⟩, hf⟩
    rw [Nat.zero_add]
    exact h.own.cellAt j hj
/-- append of one field to a row of one's own -/
theorem wpList_append_fld {ops : Array Oper} {rest : List Oper} {o : Oper} {a : Act} {W : World} {Q : Exit → Act → World → Prop} (hgd : o.guard = none) (s x : Operand) (ho : o.op = .call { callee := .builtin .append, args := #[s, x], argTypes := #[138, 138] })
    (base : Nat) (v : Value) (L : List (Fld × Value)) (hs : a.eval s = v) (hown : Rwt W base v L) (g : Nat) (F : Fld) (bv : Value) (hx : a.eval x = .slice (some ⟨g, 0, none⟩) 1 1) (hg : FldAt W g F.tag F.text F.num bv) (hbv : TxtAt W bv F.bytes) (hL : L.length ≤ 1000) (hbase : base ≤ W.heap.size)
    (h : ∀ v' w', Rwt w' base v' (L ++ [(F, bv)]) → W.grownBy w' v.ownBlock → wpList Tryd.prog ops Q rest (a.put o.dst v') w') : wpList Tryd.prog ops Q (o :: rest) a W := by
  obtain ⟨i0, hi, hz0, hz1, hz2⟩ := info_parts Tryd.infoFd
  have hone : bv.oneCell' = true := by
    obtain ⟨ad, cap, h1, _⟩ := hbv
    rw [h1]; rfl
  refine wpList_append_own W hgd s x 138 ho base 142 i0 _ 4 48 Tryd.underlying138 hi hz0 hz1 hz2 rfl (by decide) v L.length (flat L) hs hown.own ⟨g, 0, none⟩ 1 1 [.int .i64 F.tag, .bool F.text, .int .u64 (F.num : Int), bv] hx rfl (fun j u hj => ?_) (one4 F bv hone) (by unfold maxLen; omega) (by omega) hbase (fun v' w' h1 h2 _ => h v' w' ⟨?_, fun p hp => ?_⟩ h2)
  · have e1 : (⟨g, 0, none⟩ : Addr).add j = ⟨g, j, none⟩ := by unfold Addr.add; split <;> simp_all
    rw [e1, cell_of_row _ _ j _ _ _ hg]
    simpa using hj
  · have e2 : flat (L ++ [(F, bv)]) = flat L ++ [.int .i64 F.tag, .bool F.text, .int .u64 (F.num : Int), bv] := by rw [flat_append]; rfl
    rw [e2, List.length_append]
    exact h1
  · rcases List.mem_append.1 hp with hp | hp
    · exact txt_grown hown.own h2 (hown.byt p hp)
    · obtain rfl := List.mem_singleton.1 hp
      exact txt_grown hown.own h2 hbv
theorem hasK_hasV {v : Int} (h1 : 1 ≤ v) (h5 : v ≤ 5) : ((hasK v : Nat) : Int) = hasV v := by
  have hv : v = 1 ∨ v = 2 ∨ v = 3 ∨ v = 4 ∨ v = 5 := by omega
  rcases hv with rfl | rfl | rfl | rfl | rfl <;> rfl
theorem filter_step {Fs : List Fld} {k : Nat} {F : Fld} (h : Fs[k]? = some F) : (Fs.take (k + 1)).filter nz = if nz F = true then (Fs.take k).filter nz ++ [F] else (Fs.take k).filter nz := by
  have hk : k < Fs.length := by
    by_cases hh : k < Fs.length
    · exact hh
    · rw [List.getElem?_eq_none (by omega)] at h; cases h
  rw [List.getElem?_eq_getElem hk] at h
  rw [List.take_succ_eq_append_getElem hk, Option.some.inj h, List.filter_append, List.filter_cons]
  split
  · simp
  · simp
/-- the numbers and texts of an event beside a row of fields -/
structure Fst (w w1 wr : World) (b : Nat) (v : Int) (E : Ev) (vf : Value) (L : List (Fld × Value)) (k : Nat) : Prop where
  bel : Below w1.heap.size w1 wr
  row : Rwt wr w1.heap.size vf L
  fld : L.map Prod.fst = ((evF v E).take k).filter nz
  len : L.length ≤ k
  ev : EvAt w1 w.heap.size E
  num : RowI w1 b (numL E)
  b0 : Below w.heap.size w w1
theorem Fst.keep {w w1 wr wx : World} {b : Nat} {v : Int} {E : Ev} {vf : Value} {L : List (Fld × Value)} {k : Nat} (h : Fst w w1 wr b v E vf L k) (hb : Below wr.heap.size wr wx) : Fst w w1 wx b v E vf L k :=
  ⟨below_next h.bel hb, h.row.keep hb, h.fld, h.len, h.ev, h.num, h.b0⟩
theorem Fst.skip {w w1 wr : World} {b : Nat} {v : Int} {E : Ev} {vf : Value} {L : List (Fld × Value)} {k : Nat} (h : Fst w w1 wr b v E vf L k) {F : Fld} (hF : (evF v E)[k]? = some F) (hz : nz F = false) : Fst w w1 wr b v E vf L (k + 1) :=
  ⟨h.bel, h.row, by rw [filter_step hF, if_neg (by rw [hz]; simp)]; exact h.fld, by have := h.len; omega, h.ev, h.num, h.b0⟩
theorem Fst.app {w w1 wr wx : World} {b : Nat} {v : Int} {E : Ev} {vf v' bv : Value} {L : List (Fld × Value)} {k : Nat} (h : Fst w w1 wr b v E vf L k) {F : Fld} (hF : (evF v E)[k]? = some F) (hz : nz F = true) (hr : Rwt wx w1.heap.size v' (L ++ [(F, bv)])) (hg : wr.grownBy wx vf.ownBlock) : Fst w w1 wx b v E v' (L ++ [(F, bv)]) (k + 1) :=
  ⟨grown_row h.bel h.row.own h.bel.size hg, hr, by rw [filter_step hF, if_pos hz, List.map_append, h.fld]; rfl, by rw [List.length_append]; have := h.len; simp; omega, h.ev, h.num, h.b0⟩
/-- a box for one field behind the row -/
theorem Fst.box {w w1 wr : World} {b : Nat} {v : Int} {E : Ev} {vf : Value} {L : List (Fld × Value)} {k : Nat} (h : Fst w w1 wr b v E vf L k) (t : Int) (x : Bool) (u : Nat) (bv : Value) : Fst w w1 (wr.alloc (.cells #[.int .i64 t, .bool x, .int .u64 (u : Int), bv] 142)) b v E vf L k := h.keep ((Below.refl _ _).alloc (Nat.le_refl _) _)
theorem num_le11 {v : Int} {E : Ev} (r : Right v E) {k : Nat} (h8 : k ≠ 7) (h10 : k ≠ 9) (h : k < 10) (h4 : k = 3 → 2 < v) : ∃ n : Nat, (evF v E)[k]? = some ⟨((k + 1 : Nat) : Int), false, n, []⟩ ∧ (numL E).getD (k + 1) 0 = (n : Int) ∧ n ≤ 1099511627776 := by
  have hk : lastK v ≤ 10 := by unfold lastK; repeat' split <;> omega
  have hp : hiP v ≤ 100000000 := by unfold hiP; split <;> omega
  have b1 := r.kind0
  have b2 := r.kind1
  have b3 := r.order0
  have b4 := r.order1
  have b5 := r.item0
  have b6 := r.item1
  have b7 := r.price0
  have b8 := r.price1
  have b9 := r.cur0
  have c1 := r.cur1
  have c2 := r.tax0
  have c3 := r.tax1
  have c4 := r.stamp0
  have c5 := r.stamp1
  have c6 := r.qty0
  have c7 := r.qty1
  have hv : k = 0 ∨ k = 1 ∨ k = 2 ∨ k = 3 ∨ k = 4 ∨ k = 5 ∨ k = 6 ∨ k = 8 := by omega
  rcases hv with rfl | rfl | rfl | rfl | rfl | rfl | rfl | rfl
  · exact ⟨E.kind.toNat, rfl, by show E.kind = _; omega, by omega⟩
  · exact ⟨E.order.toNat, rfl, by show E.order = _; omega, by omega⟩
  · exact ⟨E.item.toNat, rfl, by show E.item = _; omega, by omega⟩
  · have h2 := h4 rfl
    have : loQ v = 0 := if_neg (by omega)
    have hq : qN v E = E.qty.toNat := if_neg (by omega)
    exact ⟨qN v E, rfl, by show E.qty = _; rw [hq]; omega, by rw [hq]; omega⟩
  · exact ⟨E.price.toNat, rfl, by show E.price = _; omega, by omega⟩
  · exact ⟨E.cur.toNat, rfl, by show E.cur = _; omega, by omega⟩
  · exact ⟨E.tax.toNat, rfl, by show E.tax = _; omega, by omega⟩
  · exact ⟨E.stamp.toNat, rfl, by show E.stamp = _; omega, by omega⟩
end Go.Proofs.YtofealmjggpacaaDoor
namespace Go.Proofs.YtofealmjggpacaaDoor
open Go.ChangeShapes Go.WideShapes Go.ChangeAt Go.RowKit
set_option linter.unusedVariables false
theorem numsE (E : Ev) (w : World) : Calls Tryd.prog 73 #[.agg (evA E)] w fun x w' => x = .returned (.slice (some ⟨w.heap.size + 1, 0, none⟩) 11 11) ∧ RowI w' (w.heap.size + 1) (numL E) ∧ Below w.heap.size w w' :=
  rnums_any E.kind E.order E.item E.qty E.price E.cur E.tax E.who E.stamp E.note w
theorem Fst.start {w w1 : World} {b : Nat} {v : Int} {E : Ev} (he : EvAt w1 w.heap.size E) (hn : RowI w1 b (numL E)) (hb : Below w.heap.size w w1) : Fst w w1 (w1.alloc (.cells #[] 142)) b v E (.slice (some ⟨w1.heap.size, 0, none⟩) 0 0) [] 0 :=
  ⟨(Below.refl _ _).alloc (Nat.le_refl _) _, ⟨⟨by simp [flat], .inr ⟨w1.heap.size, 0, #[], rfl, Nat.le_refl _, heap_alloc_new w1 _, by simp, by simp, by simp, by simp [flat]⟩⟩, fun p hp => by cases hp⟩, rfl, by simp, he, hn, hb⟩
/-- behind the version's last tag nothing is left -/
theorem take_tags {v : Int} {E : Ev} {H : Nat} (h : ∀ f ∈ efs v E, f.tag ≤ (H : Int)) : ((evF v E).take H).filter nz = efs v E := by
  have key : ∀ (Fs : List Fld) (A : Nat), (∀ (i : Nat) (f : Fld), Fs[i]? = some f → f.tag = ((i + A + 1 : Nat) : Int)) → (∀ f ∈ Fs.filter nz, f.tag ≤ ((H + A : Nat) : Int)) → (Fs.take H).filter nz = Fs.filter nz := by
    intro Fs A hi hf
    conv => rhs; rw [← List.take_append_drop H Fs, List.filter_append]
    rw [show (Fs.drop H).filter nz = [] from ?_, List.append_nil]
    rw [List.filter_eq_nil_iff]
    intro f hfm hz
    obtain ⟨i, hi2, hi3⟩ := List.mem_iff_getElem.1 hfm
    have h1 : Fs[H + i]? = some f := by
      rw [List.getElem_drop] at hi3
      rw [List.length_drop] at hi2
      rw [List.getElem?_eq_getElem (by omega), hi3]
    have h2 := hi _ f h1
    have h3 := hf f (List.mem_filter.2 ⟨List.mem_of_getElem? h1, hz⟩)
    omega
  refine key (evF v E) 0 (fun i f hf => ?_) (fun f hf => by simpa using h f hf)
  have hi : i < 10 := by
    by_cases hh : i < 10
    · exact hh
    · rw [List.getElem?_eq_none (by show 10 ≤ i; omega)] at hf; cases hf
  have hv : i = 0 ∨ i = 1 ∨ i = 2 ∨ i = 3 ∨ i = 4 ∨ i = 5 ∨ i = 6 ∨ i = 7 ∨ i = 8 ∨ i = 9 := by omega
  rcases hv with rfl | rfl | rfl | rfl | rfl | rfl | rfl | rfl | rfl | rfl <;> (obtain rfl := Option.some.inj hf; rfl)
end Go.Proofs.YtofealmjggpacaaDoor
namespace Go.Proofs.YtofealmjggpacaaDoor
open Go.ChangeShapes Go.WideShapes Go.ChangeAt Go.RowKit
theorem Tryd.info5r : (Tryd.prog.info? 5).map (fun i => (i.zero, i.size, i.bytes)) = some (some (.int .u8 0), 1, 1) := by kernel_rfl
theorem encF_succ (f u : Nat) : encF (f + 1) u = if u < 128 then [u] else (128 + u % 128) :: encF f (u / 128) := rfl
theorem own_one (w : World) (c : Nat) (h : c < 256) : Own (w.alloc (.cells #[.int .u8 (c : Int)] 5)) w.heap.size (.slice (some ⟨w.heap.size, 0, none⟩) 1 1) [c] := by
  refine ⟨getD_lt (by simpa using h), ?_⟩
  exact World.ownsRow_lit w #[.int .u8 (c : Int)] 1 (Nat.le_refl _) (by unfold maxLen; omega) rfl
theorem own_keep {w w' : World} {o : Obj} {v : Value} {l : List Nat} (h : Own (w.alloc o) w.heap.size v l) (hb : Below (w.heap.size + 1) (w.alloc o) w') : w'.ownsRow w.heap.size 5 1 v l.length (B8 l) := by
  obtain ⟨_, h1, h2⟩ := h
  refine ⟨h1, ?_⟩
  rcases h2 with h2 | ⟨g, cap, cur, h3, h4, h5, h6, h7, h8, h9⟩
  · exact .inl h2
  · refine .inr ⟨g, cap, cur, h3, h4, ?_, h6, h7, h8, h9⟩
    have hlt : g < w.heap.size + 1 := by
      by_cases hh : g < (w.alloc o).heap.size
      · rw [World.size_alloc] at hh; exact hh
      · rw [Array.getElem?_eq_none (by omega)] at h5; cases h5
    rw [hb.block g hlt]; exact h5
set_option maxRecDepth 20000 in
set_option maxHeartbeats 1000000 in
theorem renc_any (f u : Nat) (w : World) (h64 : u ≤ 18446744073709551615) (hp : u < 128 ^ (f + 1)) :
    Calls Tryd.prog 85 #[.int .u64 u] w fun e w' => ∃ v, e = .returned v ∧ Own w' w.heap.size v (encF (f + 1) u) ∧ Below w.heap.size w w' := by
  obtain ⟨i0, hi, hz0, hz1, hz2⟩ := info_parts Tryd.info5r
  induction f generalizing u w with
  | zero =>
    have hlt : u < 128 := by simpa using hp
    have HE : Hid (encF 1 u = [u]) := by show _ = _; unfold encF; rw [if_pos hlt]
    have HO : Hid (_) := own_one w u (by omega)
    have hu8 : (u : Int) ≤ 255 := by omega
    clear hp
    go_enter Tryd.func85, Tryd.ntmps85
    go_wp2
    go_ret
    exact ⟨_, rfl, by rw [HE.out]; exact HO.out, (Below.refl _ _).alloc (Nat.le_refl _) _⟩
  | succ f ih =>
    by_cases hlt : u < 128
    · have HE : Hid (encF (f + 1 + 1) u = [u]) := by show _ = _; unfold encF; rw [if_pos hlt]
      have HO : Hid (_) := own_one w u (by omega)
      have hu8 : (u : Int) ≤ 255 := by omega
      clear hp ih
      go_enter Tryd.func85, Tryd.ntmps85
      go_wp2
      go_ret
      exact ⟨_, rfl, by rw [HE.out]; exact HO.out, (Below.refl _ _).alloc (Nat.le_refl _) _⟩
    · have HE : Hid (encF (f + 1 + 1) u = [128 + u % 128] ++ encF (f + 1) (u / 128)) := by
        show _ = _
        rw [encF_succ, if_neg hlt]
        rfl
      have HO : Hid (Own (w.alloc (.cells #[.int .u8 (128 + (u : Int) % 128)] 5)) w.heap.size (.slice (some ⟨w.heap.size, 0, none⟩) 1 1) [128 + u % 128]) := by
        have h := own_one w (128 + u % 128) (by omega)
        rw [show ((128 + u % 128 : Nat) : Int) = 128 + (u : Int) % 128 from by omega] at h
        exact h
      have hp2 : u / 128 < 128 ^ (f + 1) := by rw [Nat.pow_succ] at hp; exact Nat.div_lt_of_lt_mul (by rw [Nat.mul_comm]; exact hp)
      have IH : Hid (Calls Tryd.prog 85 #[.int .u64 ((u : Int) / 128)] (w.alloc (.cells #[.int .u8 (128 + (u : Int) % 128)] 5)) fun e w' => ∃ v, e = .returned v ∧ Own w' (w.heap.size + 1) v (encF (f + 1) (u / 128)) ∧ Below (w.heap.size + 1) (w.alloc (.cells #[.int .u8 (128 + (u : Int) % 128)] 5)) w') := by
        have h := ih (u / 128) (w.alloc (.cells #[.int .u8 (128 + (u : Int) % 128)] 5)) (by omega) hp2
        rw [show ((u / 128 : Nat) : Int) = (u : Int) / 128 from by omega, World.size_alloc] at h
        exact h
      have hlen : (encF (f + 1) (u / 128)).length ≤ 10 := by
        rw [encF_length f _ hp2]
        have h2 : bitLen (u / 128 ||| 1) ≤ 64 := bitLen_lt _ 64 (by rw [or_one]; omega)
        omega
      have HNE : Hid (encF (f + 1) (u / 128) ≠ []) := by
        show _ ≠ _
        unfold encF
        split <;> simp
      have hge : ¬ (u : Int) < 128 := by omega
      clear hp ih hp2 hlt
      generalize hL : encF (f + 1) (u / 128) = L at *
      clear hL
      go_enter Tryd.func85, Tryd.ntmps85
      go_wp2_with (first
        | (go_at_call 85; refine (IH.out).mono ?_; rintro e w2 ⟨v, rfl, ho, hb⟩; have HBY : Hid (∀ i, L.getD i 0 < 256) := ho.1; obtain ⟨g, cap, rfl, hcap, hby⟩ := ho.row HNE.out; clear ho; have HO2 : Hid (w2.ownsRow w.heap.size 5 1 (.slice (some ⟨w.heap.size, 0, none⟩) 1 1) 1 (B8 [128 + u % 128])) := own_keep HO.out hb; have hs2 : w.heap.size ≤ w2.heap.size := by have := hb.size; rw [World.size_alloc] at this; omega)
        | (at_builtin; refine wpList_append_own _ rfl _ _ 22 rfl w.heap.size 5 i0 (.int .u8 0) 1 1 Tryd.underlying22 hi hz0 hz1 hz2 rfl (by decide) _ _ _ rfl HO2.out ⟨g, 0, none⟩ L.length cap (B8 L) rfl (B8_length L) (bytes_cells hby) (B8_one L) (by unfold maxLen; omega) (by omega) hs2 ?_; intro v4 w4 ho4 hg4 _))
      have hb4 := grown_row (Below.refl w.heap.size w2) HO2.out hs2 hg4
      clear hg4
      go_wp2
      go_ret
      refine ⟨v4, rfl, ?_, ((Below.refl _ _).alloc (Nat.le_refl _) _).trans ((hb.mono (by omega)).trans hb4)⟩
      rw [HE.out]
      refine Own.append (getD_lt (by intro x hx; simp at hx; omega)) HBY.out ?_
      exact ho4
end Go.Proofs.YtofealmjggpacaaDoor
