/- Own texts, joined: Nsv, Op0, Op1. -/
import Derived.Test.YtblfmfanfpohbaaGreatNsu
import Derived.Test.YtblfmfanfpohbaaGreatG13
import Derived.Deep.DeepCutAuto
namespace Go.Proofs.YtblfmfanfpohbaaGreat
open Go.ChangeShapes Go.WideShapes Go.ChangeAt Go.RowKit Go.Sort
set_option linter.unusedVariables false
set_option maxRecDepth 20000 in
set_option maxHeartbeats 4000000 in
theorem rshare_any (t : Int) (l : List Int) (n : Nat) (a : Option Addr) (cap : Nat) (w : World) (ht : inI t) (hI : Ints w a l) (hn : l.length = n) :
    Calls Tryz.prog 15 #[.int .i64 t, .slice a n cap] w (ShP w t l n) := by
  by_cases h0 : t < 0
  · have HNO : Hid (shB t l = false) := by show _ = _; unfold shB; rw [decide_eq_false_iff_not]; rintro ⟨h, _⟩; omega
    clear hI hn ht
    go_enter Tryz.func15, Tryz.ntmps15
    go_wp2
    go_ret2
    exact ShP.no HNO.out (Below.refl _ _)
  · by_cases h64 : 64 < n
    · have h64z : (64 : Int) < (n : Int) := by omega
      have HNO : Hid (shB t l = false) := by show _ = _; unfold shB; rw [decide_eq_false_iff_not]; rintro ⟨_, h, _⟩; omega
      clear hI hn ht
      go_enter Tryz.func15, Tryz.ntmps15
      go_wp2
      go_ret2
      exact ShP.no HNO.out (Below.refl _ _)
    · obtain ⟨T, rfl⟩ : ∃ T : Nat, t = (T : Int) := ⟨t.toNat, by omega⟩
      unfold inI at ht
      exact rshare_nat T l n a cap w (by omega) hI hn (by omega)
/-- v is a row made behind base, and holds P -/
def NewI (base : Nat) (w : World) (v : Value) (P : List Int) : Prop := ∃ a c, v = .slice a P.length c ∧ Ints w a P ∧ (P = [] ∨ ∃ g, a = some ⟨g, 0, none⟩ ∧ base ≤ g ∧ RowF (.int .i64) w g P.length (fun i => P.getD i 0))
theorem NewI.void (base : Nat) (w : World) : NewI base w (.slice none 0 0) [] := ⟨_, _, rfl, ⟨by simp, .inl rfl⟩, .inl rfl⟩
theorem NewI.own {w : World} {base : Nat} {v : Value} {P : List Int} (h : OwnI w base v P) : NewI base w v P := by
  obtain ⟨a, c, hv, _, _, hI⟩ := h.shape
  refine ⟨a, c, hv, hI, ?_⟩
  by_cases hp : P = []
  · exact .inl hp
  · obtain ⟨h0, h1, h2⟩ := h
    rcases h2 with ⟨hv2, hn⟩ | ⟨g, cap, cur, hv2, hbg, hg, hr⟩
    · exact absurd (List.length_eq_zero_iff.1 hn) hp
    · rw [hv] at hv2
      cases hv2
      have ho : w.ownsRow base 2 1 (.slice (some ⟨g, 0, none⟩) P.length c) P.length (BI P) := ⟨h1, .inr ⟨g, c, cur, rfl, hbg, hg, hr⟩⟩
      refine .inr ⟨g, rfl, hbg, fun i hi => ?_, fun i hi => frozen_of_row w g i _ _ hg, (own_lt ho).1⟩
      rw [World.ownsRow.cellAt ho i (by omega), BI_get P i hi]
theorem NewI.dealt {w w' : World} {l : List Int} {n b : Nat} {t : Int} (h : Dealt w' l n t b) (hb : w.heap.size ≤ b) : NewI w.heap.size w' (.slice (some ⟨b, 0, none⟩) n n) (shpL l n t.toNat l.sum.toNat) := by
  have hl := shpL_len l n t.toNat l.sum.toNat
  refine ⟨some ⟨b, 0, none⟩, n, by rw [hl], h.ints, .inr ⟨b, rfl, hb, ?_⟩⟩
  rw [hl]
  exact h.row
theorem NewI.keep {base : Nat} {w w' : World} {v : Value} {P : List Int} (h : NewI base w v P) (hb : Below w.heap.size w w') : NewI base w' v P := by
  obtain ⟨a, c, h1, h2, h3⟩ := h
  refine ⟨a, c, h1, h2.keep hb, ?_⟩
  rcases h3 with h3 | ⟨g, h4, h5, h6⟩
  · exact .inl h3
  · exact .inr ⟨g, h4, h5, h6.keep hb h6.lt⟩
theorem Ints.same {w w' : World} {b : Nat} {l : List Int} (h : Ints w (some ⟨b, 0, none⟩) l) (hs : w.heap.size ≤ w'.heap.size) (hb : w'.heap[b]? = w.heap[b]?) : Ints w' (some ⟨b, 0, none⟩) l := by
  refine ⟨h.1, ?_⟩
  rcases h.2 with h2 | ⟨b2, off, e, hlt, hc⟩
  · exact .inl h2
  · cases e
    exact .inr ⟨b, 0, rfl, Nat.lt_of_lt_of_le hlt hs, fun i hi => (World.cell?_of_block (w := w) (a := ⟨b, 0 + i, none⟩) hb).trans (hc i hi)⟩
theorem heap_set_other (w : World) (a : Addr) (v : Value) (k : Nat) (h : k ≠ a.block) : (w.setCell a v).heap[k]? = w.heap[k]? := heap_setCell_other w a k v h
/-- what both answer of a dealing -/
def parts (t : Int) (l : List Int) (n : Nat) : List Int := if shB t l = true then shpL l n t.toNat l.sum.toNat else []
theorem ShP.new {w w' : World} {t : Int} {l : List Int} {n : Nat} {e : Ending} (h : ShP w t l n e w') : ∃ v, e = .returned (.tuple #[v, .bool (shB t l)]) ∧ Below w.heap.size w w' ∧ NewI w.heap.size w' v (parts t l n) := by
  obtain ⟨v, h1, h2, h3, h4⟩ := h
  refine ⟨v, h1, h2, ?_⟩
  unfold parts
  cases hs : shB t l with
  | false => rw [if_neg (by simp), h3 hs]; exact NewI.void _ _
  | true => rw [if_pos rfl]; exact NewI.own (h4 hs)
theorem share_new (t : Int) (l : List Int) (n : Nat) (a : Option Addr) (cap : Nat) (w : World) (ht : inI t) (hI : Ints w a l) (hn : l.length = n) :
    Calls Tryz.prog 18 #[.int .i64 t, .slice a n cap] w fun e w' => ∃ v, e = .returned (.tuple #[v, .bool (shB t l)]) ∧ Below w.heap.size w w' ∧ NewI w.heap.size w' v (parts t l n) := by
  refine (share_any t l n a cap w ht hI hn).mono ?_
  rintro e w' ⟨v, h1, h2, h3, h4⟩
  refine ⟨v, h1, h2, ?_⟩
  unfold parts
  cases hs : shB t l with
  | false => rw [if_neg (by simp), h3 hs]; exact NewI.void _ _
  | true =>
    rw [if_pos rfl]
    obtain ⟨b, rfl, g1, g2⟩ := h4 hs
    exact NewI.dealt g2 g1
theorem rshare_new (t : Int) (l : List Int) (n : Nat) (a : Option Addr) (cap : Nat) (w : World) (ht : inI t) (hI : Ints w a l) (hn : l.length = n) :
    Calls Tryz.prog 15 #[.int .i64 t, .slice a n cap] w fun e w' => ∃ v, e = .returned (.tuple #[v, .bool (shB t l)]) ∧ Below w.heap.size w w' ∧ NewI w.heap.size w' v (parts t l n) :=
  (rshare_any t l n a cap w ht hI hn).mono fun _ _ h => h.new
theorem RowF.same {mk : Int → Value} {w w' : World} {b n : Nat} {g : Nat → Int} (h : RowF mk w b n g) (hs : w.heap.size ≤ w'.heap.size) (hb : w'.heap[b]? = w.heap[b]?) : RowF mk w' b n g := by
  refine ⟨fun i hi => (World.cell?_of_block (w := w) (a := ⟨b, i, none⟩) hb).trans (h.cell i hi), fun i hi => ?_, Nat.lt_of_lt_of_le h.lt hs⟩
  rw [← h.free i hi]
  unfold World.frozen?
  rw [hb]
/-- the block of a row that was made behind base -/
theorem NewI.block {base : Nat} {w : World} {a : Option Addr} {n c : Nat} {P : List Int} (h : NewI base w (.slice a n c) P) : ∃ g, base ≤ g ∧ (P.length = 0 ∨ (a = some ⟨g, 0, none⟩ ∧ RowF (.int .i64) w g P.length (fun i => P.getD i 0))) := by
  obtain ⟨a2, c2, h1, h2, h3⟩ := h
  cases h1
  rcases h3 with rfl | ⟨g, h4, h5, h6⟩
  · exact ⟨base, Nat.le_refl _, .inl rfl⟩
  · exact ⟨g, h5, .inr ⟨h4, h6⟩⟩
theorem NewI.ints {base : Nat} {w : World} {a : Option Addr} {n c : Nat} {P : List Int} (h : NewI base w (.slice a n c) P) : Ints w a P := by
  obtain ⟨a2, c2, h1, h2, h3⟩ := h
  cases h1
  exact h2
theorem ints_void (w : World) (a : Option Addr) {P : List Int} (h : P.length = 0) : Ints w a P := by
  have := List.length_eq_zero_iff.1 h
  subst this
  exact ⟨by simp, .inl rfl⟩
end Go.Proofs.YtblfmfanfpohbaaGreat
namespace Go.Proofs.YtblfmfanfpohbaaGreat
open Go.ChangeShapes Go.WideShapes Go.ChangeAt Go.RowKit Go.Sort
set_option linter.unusedVariables false
/-- what the lines are worth -/
def wsL (L : List Ln) : List Int := L.map fun p => p.qty * p.price
theorem wsL_len (L : List Ln) : (wsL L).length = L.length := by simp [wsL]
theorem wsL_sum : ∀ L : List Ln, (wsL L).sum = net L
  | [] => rfl
  | p :: r => by show p.qty * p.price + (wsL r).sum = _; rw [wsL_sum r]; rfl
theorem wsL_take (L : List Ln) (k : Nat) (p : Ln) (hp : L[k]? = some p) : BI (wsL (L.take (k + 1))) = BI (wsL (L.take k)) ++ [.int .i64 (p.qty * p.price)] := by
  rw [ln_take _ _ _ hp]
  simp [wsL, BI]
theorem wsL_mem {L : List Ln} (h : linesB L = true) : ∀ x ∈ wsL L, 0 ≤ x ∧ x ≤ 10000000000000 := by
  intro x hx
  unfold wsL at hx
  rw [List.mem_map] at hx
  obtain ⟨p, hp, rfl⟩ := hx
  obtain ⟨k, hk, rfl⟩ := List.getElem_of_mem hp
  have f := (linesB_facts h).2 k L[k] (List.getElem?_eq_getElem hk)
  exact worth_bound (q := L[k].qty) (p := L[k].price) (by omega) (by omega) (by omega) (by omega)
theorem wsL_in {L : List Ln} (h : linesB L = true) : ∀ x ∈ wsL L, inI x := fun x hx => by
  have := wsL_mem h x hx
  unfold inI; omega
/-- do the lines deal: of a state that is valid -/
theorem sh_lines {s : St} (h : vldB s = true) : shB (dueS s) (wsL s.lines) = decide (0 < net s.lines) ∧ 0 ≤ dueS s ∧ dueS s ≤ 240000000000000 ∧ 0 ≤ net s.lines := by
  have hd := vld_due h
  have hb := net_bound hd.1
  have h16 := (linesB_facts hd.1).1
  have h0 : 0 ≤ dueS s := by omega
  refine ⟨?_, h0, by omega, hb.1⟩
  unfold shB wgB
  rw [wsL_sum, wsL_len]
  have hf : fitB (net s.lines) = true := by unfold fitB; exact decide_eq_true (by unfold inI; omega)
  by_cases hn : 0 < net s.lines
  · rw [decide_eq_true hn]
    exact decide_eq_true ⟨h0, by omega, decide_eq_true ⟨fun x hx => (wsL_mem hd.1 x hx).1, hf, hn⟩⟩
  · rw [decide_eq_false hn]
    refine decide_eq_false ?_
    rintro ⟨_, _, h3⟩
    exact hn (of_decide_eq_true h3).2.2
/-- are there parts, and which -/
def ptB (s : St) : Bool := vldB s && decide (0 < net s.lines)
def ptL (s : St) : List Int := if ptB s = true then shpL (wsL s.lines) s.lines.length (dueS s).toNat (net s.lines).toNat else []
theorem pt_parts {s : St} (h : vldB s = true) : parts (dueS s) (wsL s.lines) s.lines.length = ptL s := by
  unfold parts ptL ptB
  rw [(sh_lines h).1, wsL_sum, h, Bool.true_and]
theorem NewI.row {e : TypeId} {w : World} {base : Nat} {v : Value} {P : List Int} (hin : ∀ x ∈ P, inI x) (h : w.ownsRow base e 1 v P.length (BI P)) : NewI base w v P := by
  have h' := h
  obtain ⟨h1, h2⟩ := h
  rcases h2 with ⟨rfl, hn⟩ | ⟨g, cap, cur, rfl, hbg, hg, hr⟩
  · have : P = [] := List.length_eq_zero_iff.1 hn
    subst this
    exact ⟨Option.none, 0, rfl, ⟨hin, .inl rfl⟩, .inl rfl⟩
  · have hR : RowF (.int .i64) w g P.length (fun i => P.getD i 0) := ⟨fun i hi => by rw [World.ownsRow.cellAt h' i (by omega), BI_get P i hi], fun i hi => frozen_of_row w g i _ _ hg, (own_lt h').1⟩
    exact ⟨some ⟨g, 0, Option.none⟩, cap, rfl, hR.ints P rfl (fun _ _ => rfl) hin, .inr ⟨g, rfl, hbg, hR⟩⟩
theorem mk0_row (t e : TypeId) (z : Value) (ht : Tryz.prog.underlying t = some (.slice e)) (hi : (Tryz.prog.info? e).map (fun i => (i.zero, i.size, i.bytes)) = some (some z, 1, 8)) (hz : z.cells = #[z]) (n : Nat) (hn : n ≤ 64) (w : World) :
    (Instr.makeSlice t (.int .i64 0) (.int .i64 (n : Int))).run Tryz.prog w = .ok (.slice (some ⟨w.heap.size, 0, none⟩) 0 n) (w.alloc (.cells (madeCells #[z] n) e)) := by
  obtain ⟨i0, h0, h1, h2, h3⟩ := info_parts hi
  have := run_make (P := Tryz.prog) w t e i0 z ht h0 h1 .i64 .i64 0 n (Int.le_refl _) (by omega) (by rw [h3]; omega) (by omega)
  rw [Int.toNat_natCast, h2, Nat.mul_one, hz] at this
  exact this
theorem share_sum (t : Int) (l : List Int) (n : Nat) (a : Option Addr) (cap : Nat) (w : World) (ht : inI t) (hI : Ints w a l) (hn : l.length = n) :
    Calls Tryz.prog 18 #[.int .i64 t, .slice a n cap] w fun e w' => ∃ v, e = .returned (.tuple #[v, .bool (shB t l)]) ∧ Below w.heap.size w w' ∧ NewI w.heap.size w' v (parts t l n) ∧ (shB t l = true → (parts t l n).sum = t) := by
  refine (share_any t l n a cap w ht hI hn).mono ?_
  rintro e w' ⟨v, h1, h2, h3, h4⟩
  refine ⟨v, h1, h2, ?_, fun hs => ?_⟩
  · unfold parts
    cases hs : shB t l with
    | false => rw [if_neg (by simp), h3 hs]; exact NewI.void _ _
    | true =>
      rw [if_pos rfl]
      obtain ⟨b, rfl, g1, g2⟩ := h4 hs
      exact NewI.dealt g2 g1
  · obtain ⟨b, _, _, g2⟩ := h4 hs
    unfold parts
    rw [if_pos hs, shpL_sum g2.deal g2.ord]
    have := g2.pos
    omega
theorem ptL_len {s : St} (h : ptB s = true) : (ptL s).length = s.lines.length := by
  unfold ptL
  rw [if_pos h, shpL_len]
theorem BI_take (P : List Int) (k : Nat) (hk : k < P.length) : BI (P.take (k + 1)) = BI (P.take k) ++ [.int .i64 (P.getD k 0)] := by
  rw [ln_take P k P[k] (List.getElem?_eq_getElem hk), BI_append]
  congr 1
  simp [BI, List.getD_eq_getElem?_getD, hk]
/-- the state in its box, a row of the call's own beside it -/
def StW (w : World) (s : St) (a : Option Addr) (n cap : Nat) (e : TypeId) (g k c : Nat) (xs : List Int) (x : World) : Prop :=
  StAt x w.heap.size s (.slice a n cap) ∧ Below w.heap.size w x ∧ x.ownsRow w.heap.size e 1 (.slice (some ⟨g, 0, none⟩) k c) k (BI xs) ∧ g ≠ w.heap.size
theorem StW.keep {w x y : World} {s : St} {a : Option Addr} {n cap : Nat} {e : TypeId} {g k c : Nat} {xs : List Int} (h : StW w s a n cap e g k c xs x) (hb : Below x.heap.size x y) : StW w s a n cap e g k c xs y :=
  ⟨h.1.after hb, bnx h.2.1 hb, own_at h.2.2.1 (hb.block _ (own_lt h.2.2.1).1), h.2.2.2⟩
theorem StW.grow {w x y : World} {s : St} {a : Option Addr} {n cap : Nat} {e : TypeId} {g k c g2 c2 : Nat} {xs ys : List Int} (h : StW w s a n cap e g k c xs x) (hgr : x.grownBy y (some g)) (ho : y.ownsRow w.heap.size e 1 (.slice (some ⟨g2, 0, none⟩) (k + 1) c2) (k + 1) (BI ys)) (hg : g2 = g ∨ x.heap.size ≤ g2) : StW w s a n cap e g2 (k + 1) c2 ys y := by
  have hlt : w.heap.size < x.heap.size := lt_of_heap h.1
  refine ⟨(hgr.block w.heap.size hlt (by simpa using fun e => h.2.2.2 e.symm)).trans h.1, h.2.1.grown hgr h.2.1.size (fun k hk => by cases hk; exact (own_lt h.2.2.1).2), ho, ?_⟩
  rcases hg with rfl | hg
  · exact h.2.2.2
  · omega
theorem StW.stc {w x : World} {s : St} {a : Option Addr} {n cap : Nat} {e : TypeId} {g k c : Nat} {xs : List Int} (h : StW w s a n cap e g k c xs x) (hl : Lns w a s.lines) : StC w w.heap.size s a n cap x := ⟨h.1, hl.keep h.2.1, h.2.1⟩
theorem StW.grow2 {w x y : World} {s : St} {a : Option Addr} {n cap : Nat} {e : TypeId} {g k c : Nat} {v : Value} {xs ys : List Int} (he : e ≠ 25) (h : StW w s a n cap e g k c xs x) (hgr : x.grownBy y (some g)) (ho : y.ownsRow w.heap.size e 1 v (k + 1) (BI ys)) : ∃ g2 c2, v = .slice (some ⟨g2, 0, none⟩) (k + 1) c2 ∧ StW w s a n cap e g2 (k + 1) c2 ys y := by
  have hlt : w.heap.size < x.heap.size := lt_of_heap h.1
  have hst : StAt y w.heap.size s (.slice a n cap) := (hgr.block w.heap.size hlt (by simpa using fun e => h.2.2.2 e.symm)).trans h.1
  have ho' := ho
  obtain ⟨h1, h2⟩ := ho
  rcases h2 with ⟨_, hn⟩ | ⟨g2, c2, cur, rfl, hbg, hg, hr⟩
  · omega
  · refine ⟨g2, c2, rfl, hst, h.2.1.grown hgr h.2.1.size (fun k hk => by cases hk; exact (own_lt h.2.2.1).2), ho', fun hh => ?_⟩
    unfold StAt at hst
    rw [hh, hst] at hg
    injection hg with hg
    injection hg with h3 h4
    exact he h4.symm
theorem step_append_int {P : Program} (w : World) {ops : Array Oper} {o : Oper} {a : Act} {K : Act → World → Prop} {Q : Exit → Act → World → Prop} {E : Prop} (hgd : o.guard = none) (s x : Operand) (t : TypeId)
    (ho : o.op = .call { callee := .builtin .append, args := #[s, x], argTypes := #[t, t] })
    (base : Nat) (e : TypeId) (i : TypeInfo) (z : Value) (bytes : Nat) (ht : P.underlying t = some (.slice e)) (hi : P.info? e = some i) (hz : i.zero = some z) (hsize : i.size = 1) (hby : i.bytes = bytes) (hzs : z.cells.size = 1)
    (v : Value) (n : Nat) (xs : List Value) (hs : a.eval s = v) (hown : w.ownsRow base e 1 v n xs)
    (ad : Addr) (m c : Nat) (news : List Value) (hx : a.eval x = .slice (some ad) m c) (hl : news.length = m * 1) (hnews : ∀ j u, news[j]? = some u → w.cell? (ad.add j) = some u) (h1 : ∀ u ∈ news, u.oneCell' = true)
    (h63 : n + m ≤ maxLen) (hbytes : (n + m) * bytes ≤ 140737488355328) (hbase : base ≤ w.heap.size)
    (h : ∀ v' w', w'.ownsRow base e 1 v' (n + m) (xs ++ news) → w.grownBy w' v.ownBlock → K (a.put o.dst v') w') :
    if Region.wanted o (yielded ops a.tmps) = true then Oper.wp P o a w K Q else E := by
  have hw : Region.wanted o (yielded ops a.tmps) = true := by simp [Region.wanted, hgd]
  rw [if_pos hw]
  exact wp_append_own w s x t ho base e i z 1 bytes ht hi hz hsize hby hzs (by decide) v n xs hs hown ad m c news hx hl hnews h1 h63 hbytes hbase fun v' w' h2 h3 _ => h v' w' h2 h3
theorem NewI.mono {b1 b2 : Nat} {w : World} {v : Value} {P : List Int} (h : NewI b2 w v P) (hb : b1 ≤ b2) : NewI b1 w v P := by
  obtain ⟨a, c, h1, h2, h3⟩ := h
  refine ⟨a, c, h1, h2, ?_⟩
  rcases h3 with h3 | ⟨g, h4, h5, h6⟩
  · exact .inl h3
  · exact .inr ⟨g, h4, Nat.le_trans hb h5, h6⟩
theorem ptL_in {s : St} (h : vldB s = true) : ∀ x ∈ ptL s, inI x := by
  unfold ptL
  split
  · rename_i hp
    have hs := (sh_lines h).1
    have hw : shB (dueS s) (wsL s.lines) = true := by rw [hs]; unfold ptB at hp; rw [h, Bool.true_and] at hp; exact hp
    unfold shB at hw
    rw [decide_eq_true_iff] at hw
    obtain ⟨g1, g2, g3⟩ := hw
    obtain ⟨_, h2, h3, h4⟩ := sh_lines h
    obtain ⟨W, hD, hv⟩ := deal_of (wsL s.lines) s.lines.length (dueS s).toNat (wsL_len _) (by rw [wsL_len] at g2; exact g2) (by omega) g3
    have hW : (net s.lines).toNat = W := by have := hD.s; rw [wsL_sum] at this; rw [this]; simp
    rw [hW]
    exact shp_in hD
  · simp
theorem sum_pre : ∀ (P : List Int), (∀ x ∈ P, 0 ≤ x) → ∀ j, 0 ≤ (P.take j).sum ∧ (P.take j).sum ≤ P.sum
  | [], _, j => by simp
  | x :: r, h, j => by
    have h0 := h x (List.mem_cons_self ..)
    have ih := sum_pre r fun y hy => h y (List.mem_cons_of_mem _ hy)
    cases j with
    | zero =>
      have := (ih r.length).1
      rw [List.take_length] at this
      rw [List.take_zero, List.sum_nil, List.sum_cons]
      omega
    | succ j =>
      have := ih j
      rw [List.take_succ_cons, List.sum_cons, List.sum_cons]
      omega
theorem ptL_pos (s : St) : ∀ x ∈ ptL s, 0 ≤ x := by
  intro x hx
  unfold ptL at hx
  split at hx
  · unfold shpL at hx
    rw [List.mem_map] at hx
    obtain ⟨i, _, rfl⟩ := hx
    omega
  · simp at hx
theorem ptL_bound {s : St} (h : ptB s = true → (ptL s).sum = dueS s) (j : Nat) : 0 ≤ ((ptL s).take j).sum ∧ ((ptL s).take j).sum ≤ 240000000000000 := by
  have h1 := sum_pre (ptL s) (ptL_pos s) j
  cases hb : ptB s with
  | false =>
    have : ptL s = [] := by unfold ptL; rw [if_neg (by rw [hb]; simp)]
    rw [this]
    simp
  | true =>
    have hv : vldB s = true := by unfold ptB at hb; cases hv : vldB s with | true => rfl | false => rw [hv] at hb; cases hb
    have h2 := h hb
    have h3 := (sh_lines hv).2.2.1
    omega
end Go.Proofs.YtblfmfanfpohbaaGreat
namespace Go.Proofs.YtblfmfanfpohbaaGreat
open Go.ChangeShapes Go.WideShapes Go.ChangeAt Go.RowKit Go.Sort
set_option linter.unusedVariables false
/-- what Parts leaves -/
def PtP (w : World) (s : St) (e : Ending) (w' : World) : Prop := ∃ v, e = .returned (.tuple #[v, .bool (ptB s)]) ∧ Below w.heap.size w w' ∧ NewI w.heap.size w' v (ptL s)
theorem PtP.no {w w' : World} {s : St} (h : ptB s = false) (hb : Below w.heap.size w w') : PtP w s (.returned (.tuple #[.slice none 0 0, .bool false])) w' := by
  refine ⟨_, by rw [h], hb, ?_⟩
  unfold ptL
  rw [if_neg (by rw [h]; simp)]
  exact NewI.void _ _
theorem row_one (w : World) (x : Int) (t : TypeId) : ∀ j v, ([.int .i64 x] : List Value)[j]? = some v → (w.alloc (.cells #[.int .i64 x] t)).cell? ((⟨w.heap.size, 0, none⟩ : Addr).add j) = some v := by
  intro j v hj
  cases j with
  | zero =>
    have h1 : v = .int .i64 x := by simpa using hj.symm
    subst h1
    simp [go_sem, Addr.add]
  | succ j => simp at hj
set_option maxRecDepth 20000 in
set_option maxHeartbeats 8000000 in
theorem oparts_any (s : St) (a : Option Addr) (n cap : Nat) (w : World) (hn : s.lines.length = n) (hl : Lns w a s.lines) (hm : n ≤ maxLen) :
    Calls Tryz.prog 6 #[.agg (stA s (.slice a n cap))] w fun e w' => PtP w s e w' ∧ (ptB s = true → (ptL s).sum = dueS s) := by
  have HN : Hid (s.lines.length = n) := hn
  have HC0 : Hid (StC w w.heap.size s a n cap (w.alloc (.cells (stA s (.slice a n cap)) 25))) := StC.new w s a n cap hl
  cases hv : vldB s with
  | false =>
    have HV : Hid (vldB s = false) := hv
    have HNO : Hid (ptB s = false) := by show _ = _; unfold ptB; rw [hv]; rfl
    clear hn hl hv
    go_enter Tryz.func6, Tryz.ntmps6
    go_wp2_with (first
      | ((with_reducible refine guard_load 25 ?_); refine wpList_load_st rfl _ rfl HC0.out.1 rfl ?_)
      | (go_at_call 12; refine (valid_st s a n cap _ HN.out HC0.out.2.1 hm).mono ?_; rw [HV.out]; rintro _ x1 ⟨rfl, hb1⟩; have HC1 : Hid (StC w w.heap.size s a n cap x1) := StC.keep HC0.out hb1; clear hb1))
    go_ret2
    exact ⟨PtP.no HNO.out HC1.out.2.2, fun h => absurd (HNO.out.symm.trans h) (by decide)⟩
  | true =>
    have HV : Hid (vldB s = true) := hv
    have HDU : Hid (linesB s.lines = true ∧ 0 ≤ s.tax ∧ s.tax ≤ 5000) := by have h := vld_due hv; exact ⟨h.1, h.2.1, h.2.2.1⟩
    have hn16 : n ≤ 16 := by rw [← hn]; exact (linesB_facts HDU.out.1).1
    have HSH : Hid (shB (dueS s) (wsL s.lines) = ptB s ∧ inI (dueS s)) := by
      obtain ⟨h1, h2, h3, _⟩ := sh_lines hv
      exact ⟨by rw [h1]; unfold ptB; rw [hv, Bool.true_and], by unfold inI; omega⟩
    have HPT : Hid (parts (dueS s) (wsL s.lines) n = ptL s) := by rw [← hn]; exact pt_parts hv
    have hmk := mk0_row 46 2 (.int .i64 0) Tryz.underlying46 Tryz.infoI rfl n (by omega)
    obtain ⟨i0, hi, hz0, hz1, hz2⟩ := info_parts Tryz.infoI
    obtain ⟨j0, hj0, hy0, hy1, hy2⟩ := info_parts Tryz.infoInt
    have hlw := hl
    clear hn hl hv
    go_enter Tryz.func6, Tryz.ntmps6
    go_upto_region 4 with (first
      | ((with_reducible refine guard_load 25 ?_); refine wpList_load_st rfl _ rfl HC0.out.1 rfl ?_)
      | (go_at_call 12; refine (valid_st s a n cap _ HN.out HC0.out.2.1 hm).mono ?_; rw [HV.out]; rintro _ x1 ⟨rfl, hb1⟩; have HC1 : Hid (StC w w.heap.size s a n cap x1) := StC.keep HC0.out hb1; have c5 : x1.cell? ⟨w.heap.size, 5, none⟩ = some (.slice a n cap) := HC1.out.1.cell 5 _ rfl; clear hb1))
    obtain ⟨g0, hg0⟩ : ∃ g, g = x1.heap.size := ⟨_, rfl⟩
    have HW0 : Hid (StW w s a n cap 2 g0 0 n (wsL (s.lines.take 0)) (x1.alloc (.cells (madeCells #[.int .i64 0] n) 2))) := by
      have hlt : w.heap.size < x1.heap.size := lt_of_heap HC1.out.1
      rw [hg0]
      refine ⟨HC1.out.1.after (bal (Below.refl _ _) _), bal HC1.out.2.2 _, ?_, by omega⟩
      have h := World.ownsRow_made (base := w.heap.size) (e := 2) (size := 1) x1 (madeCells #[.int .i64 0] n) n HC1.out.2.2.size (by unfold maxLen; omega) (by rw [size_madeCells, Nat.mul_one])
      simpa [wsL, BI] using h
    have HL : Hid (Lns w a s.lines) := hlw
    rw [← hg0]
    obtain ⟨x2, hx2⟩ : ∃ x2, x2 = x1.alloc (.cells (madeCells #[.int .i64 0] n) 2) := ⟨_, rfl⟩
    rw [← hx2] at HW0
    rw [← hx2]
    have c6 : x2.cell? ⟨w.heap.size, 5, none⟩ = some (.slice a n cap) := HW0.out.1.cell 5 _ rfl
    clear hg0 hx2 hmk HC0 HC1 c5 hlw
    go_wp2
    go_loopw [4, 22] (fun v4 vi wr => ∃ (k g c : Nat), v4 = .slice (some ⟨g, 0, none⟩) k c ∧ vi = .int .i64 k ∧ k ≤ n ∧ Hid (StW w s a n cap 2 g k c (wsL (s.lines.take k)) wr)) (fun _ vi _ => n - (intOf vi).toNat)
    case atStart => exact ⟨0, g0, n, rfl, rfl, Nat.zero_le _, HW0.out⟩
    case round =>
      obtain ⟨k, g, c, rfl, rfl, hk, HW⟩ := hrel
      clear HW0 c6
      by_cases hkn : k < n
      · obtain ⟨p, hp⟩ := ln_get (L := s.lines) (k := k) (by rw [HN.out]; exact hkn)
        obtain ⟨b, off, rfl, hlt, q0, q1, q2, q3⟩ := (HL.out.keep HW.out.2.1).cells k p hp
        have f := (linesB_facts HDU.out.1).2 k p hp
        obtain ⟨b1, b2⟩ := worth_bound (q := p.qty) (p := p.price) (by omega) (by omega) (by omega) (by omega)
        obtain ⟨W, hW⟩ : ∃ W, p.qty * p.price = W := ⟨_, rfl⟩
        have HWT : Hid (BI (wsL (s.lines.take (k + 1))) = BI (wsL (s.lines.take k)) ++ [.int .i64 W]) := by show _ = _; rw [← hW]; exact wsL_take s.lines k p hp
        rw [hW] at b1 b2
        have HWW : Hid (wrap64 (p.qty * p.price) = W) := by show _ = _; rw [hW]; exact wrap64_in (by omega) (by omega)
        have hkz : (k : Int) < (n : Int) := by omega
        clear f hW hp
        go_wp2_with (first
          | (go_at_call 17; refine (worth_any _ _ _ _ W _ HWW.out).mono ?_; rintro _ x3 ⟨rfl, hb3⟩; have HW3 : Hid (StW w s (some ⟨b, off, none⟩) n cap 2 g k c (wsL (s.lines.take k)) x3) := HW.out.keep (bnx (bal (Below.refl _ _) _) hb3); clear hb3)
          | (at_builtin; refine wpList_append_twoK _ rfl _ _ 46 rfl w.heap.size 2 i0 (.int .i64 0) 1 8 (by decide) Tryz.underlying46 hi hz0 hz1 hz2 rfl g k c (BI (wsL (s.lines.take k))) rfl (HW3.out.keep (bal (Below.refl _ _) (.cells #[.int .i64 W] 2))).2.2.1 ⟨x3.heap.size, 0, none⟩ 1 1 [.int .i64 W] rfl rfl (row_one x3 W _) (by simp [Value.oneCell']) (by decide) (by unfold maxLen; omega) (by omega) (by have h1 := HW3.out.2.1.size; simp; omega) ?_; intro g2 c2 x4 hg2 hlt2 ho2 hgr2; rw [← HWT.out] at ho2; have HW4 : Hid (StW w s (some ⟨b, off, none⟩) n cap 2 g2 (k + 1) c2 (wsL (s.lines.take (k + 1))) x4) := (HW3.out.keep (bal (Below.refl _ _) (.cells #[.int .i64 W] 2))).grow hgr2 ho2 hg2; clear hg2 hlt2 ho2 hgr2))
        go_roundw
        case rel => exact ⟨k + 1, g2, c2, rfl, by go_num, by omega, HW4.out⟩
        case measure => first | (simp [intOf]; done) | (simp [intOf]; omega)
      · obtain rfl : k = n := by omega
        have HWN : Hid (StW w s a k cap 2 g k c (wsL s.lines) wr) := by have h := HW.out; rw [List.take_of_length_le (by rw [HN.out]; omega)] at h; exact h
        clear HW
        have HIN : Hid (∀ x : World, StW w s a k cap 2 g k c (wsL s.lines) x → Ints x (some ⟨g, 0, none⟩) (wsL s.lines)) := by
          intro x h
          have hlen : (wsL s.lines).length = k := (wsL_len _).trans HN.out
          refine ⟨wsL_in HDU.out.1, ?_⟩
          by_cases h0 : k = 0
          · exact .inl (List.length_eq_zero_iff.1 (by omega))
          · refine .inr ⟨g, 0, rfl, (own_lt h.2.2.1).1, fun i hi => ?_⟩
            rw [Nat.zero_add, World.ownsRow.cellAt h.2.2.1 i (by omega), BI_get _ i hi]
        have HWL : Hid ((wsL s.lines).length = k) := (wsL_len _).trans HN.out
        go_upto_region 10 with (first
          | ((with_reducible refine guard_load 25 ?_); refine wpList_load_st rfl _ rfl HWN.out.1 rfl ?_)
          | (go_at_call 19; refine (due_any s a k cap _ HN.out (HWN.out.stc HL.out).2.1 HDU.out.1 HDU.out.2.1 HDU.out.2.2).mono ?_; rintro _ x5 ⟨rfl, hb5⟩; have HW5 : Hid (StW w s a k cap 2 g k c (wsL s.lines) x5) := HWN.out.keep hb5; clear hb5)
          | (go_at_call 18; refine (share_sum (dueS s) (wsL s.lines) k (some ⟨g, 0, none⟩) c x5 HSH.out.2 (HIN.out x5 HW5.out) HWL.out).mono ?_; rw [HSH.out.1, HPT.out]; rintro _ x6 ⟨v6, rfl, hb6, ⟨av, cv, rfl, hiv, hrv⟩, hsum⟩; have HB6 : Hid (Below w.heap.size w x6) := bnx HW5.out.2.1 hb6; have HP6 : Hid (Ints x6 av (ptL s)) := hiv; have HSU : Hid (ptB s = true → (ptL s).sum = dueS s) := hsum; clear hb6 hiv hrv hsum))
        have HPI : Hid (∀ x ∈ ptL s, inI x) := ptL_in HV.out
        obtain ⟨P, hP⟩ : ∃ P, ptL s = P := ⟨_, rfl⟩
        have HPE : Hid (ptL s = P) := hP
        rw [hP] at HP6 HPI
        simp only [hP]
        obtain ⟨pb, hpb⟩ : ∃ pb, ptB s = pb := ⟨_, rfl⟩
        have HPB : Hid (ptB s = pb) := hpb
        rw [hpb]
        obtain ⟨np, hnp⟩ : ∃ np, P.length = np := ⟨_, rfl⟩
        have HNP : Hid (P.length = np) := hnp
        rw [hnp]
        clear hP hpb hnp HW5 HWN
        cases pb with
        | false =>
          go_wp2
          go_ret2
          exact ⟨PtP.no HPB.out HB6.out, fun h => absurd (HPB.out.symm.trans h) (by decide)⟩
        | true =>
          have hnk : np = k := by rw [← HNP.out, ← HPE.out, ptL_len HPB.out]; exact HN.out
          have hnp16 : np ≤ 16 := by omega
          clear hnk
          have hmk2 := mk0_row 27 3 (.int .i64 0) Tryz.underlying27 Tryz.infoInt rfl np (by omega)
          go_upto_region 13 with fail
          have HR0 : Hid (Below x6.heap.size x6 (x6.alloc (.cells (madeCells #[.int .i64 0] np) 3)) ∧ (x6.alloc (.cells (madeCells #[.int .i64 0] np) 3)).ownsRow x6.heap.size 3 1 (.slice (some ⟨x6.heap.size, 0, none⟩) 0 np) 0 (BI (P.take 0))) := by
            refine ⟨bal (Below.refl _ _) _, ?_⟩
            have h := World.ownsRow_made (base := x6.heap.size) (e := 3) (size := 1) x6 (madeCells #[.int .i64 0] np) np (Nat.le_refl _) (by unfold maxLen; omega) (by rw [size_madeCells, Nat.mul_one])
            simpa [BI] using h
          obtain ⟨g1, hg1⟩ : ∃ g, g = x6.heap.size := ⟨_, rfl⟩
          obtain ⟨x7, hx7⟩ : ∃ x7, x7 = x6.alloc (.cells (madeCells #[.int .i64 0] np) 3) := ⟨_, rfl⟩
          rw [← hx7] at HR0
          rw [← hx7]
          have HR1 : Hid (Below x6.heap.size x6 x7 ∧ x7.ownsRow x6.heap.size 3 1 (.slice (some ⟨g1, 0, none⟩) 0 np) 0 (BI (P.take 0))) := by rw [hg1]; exact HR0.out
          rw [← hg1]
          clear hg1 hx7 HR0 hmk2
          go_wp2
          go_loopw [9, 46] (fun v9 vi wx => ∃ (j g c : Nat), v9 = .slice (some ⟨g, 0, none⟩) j c ∧ vi = .int .i64 j ∧ j ≤ np ∧ Hid (Below x6.heap.size x6 wx ∧ wx.ownsRow x6.heap.size 3 1 (.slice (some ⟨g, 0, none⟩) j c) j (BI (P.take j)))) (fun _ vi _ => np - (intOf vi).toNat)
          case atStart => exact ⟨0, g1, np, rfl, rfl, Nat.zero_le _, HR1.out⟩
          case round =>
            obtain ⟨j, g, c, rfl, rfl, hj, HR⟩ := hrel
            clear HR1
            by_cases hjn : j < np
            · obtain ⟨ba, oa, hav, hx⟩ : ∃ ba oa, av = some ⟨ba, oa, none⟩ ∧ wr.cell? ⟨ba, oa + j, none⟩ = some (.int .i64 (P.getD j 0)) := by
                rcases (HP6.out.keep HR.out.1).2 with h | ⟨ba, oa, ha, _, hc⟩
                · have := HNP.out; rw [h] at this; simp at this; omega
                · exact ⟨ba, oa, ha, hc j (by rw [HNP.out]; exact hjn)⟩
              subst hav
              obtain ⟨u, eu⟩ : ∃ u, P.getD j 0 = u := ⟨_, rfl⟩
              have HPT2 : Hid (BI (P.take (j + 1)) = BI (P.take j) ++ [.int .i64 u]) := by show _ = _; rw [← eu]; exact BI_take P j (by rw [HNP.out]; exact hjn)
              rw [eu] at hx
              have hjz : (j : Int) < (np : Int) := by omega
              clear eu
              go_wp2_with (first
                | (at_builtin; refine wpList_append_twoK _ rfl _ _ 27 rfl x6.heap.size 3 j0 (.int .i64 0) 1 8 (by decide) Tryz.underlying27 hj0 hy0 hy1 hy2 rfl g j c (BI (P.take j)) rfl (own_at HR.out.2 ((bal (Below.refl wr.heap.size wr) (.cells #[.int .i64 u] 3)).block _ (own_lt HR.out.2).1)) ⟨wr.heap.size, 0, none⟩ 1 1 [.int .i64 u] rfl rfl (row_one wr u _) (by simp [Value.oneCell']) (by decide) (by unfold maxLen; omega) (by omega) (by have h1 := HR.out.1.size; simp; omega) ?_; intro g2 c2 x8 hg2 hlt2 ho2 hgr2; rw [← HPT2.out] at ho2; have HR8 : Hid (Below x6.heap.size x6 x8 ∧ x8.ownsRow x6.heap.size 3 1 (.slice (some ⟨g2, 0, none⟩) (j + 1) c2) (j + 1) (BI (P.take (j + 1)))) := ⟨(bnx HR.out.1 (bal (Below.refl wr.heap.size wr) (.cells #[.int .i64 u] 3))).grown hgr2 (by have h1 := HR.out.1.size; simp; omega) (fun k hk => by cases hk; exact (own_lt HR.out.2).2), ho2⟩; clear hg2 hlt2 ho2 hgr2))
              go_roundw
              case rel => exact ⟨j + 1, g2, c2, rfl, by go_num, by omega, HR8.out⟩
              case measure => first | (simp [intOf]; done) | (simp [intOf]; omega)
            · obtain rfl : j = np := by omega
              go_wp2
              go_ret2
              refine ⟨⟨.slice (some ⟨g, 0, none⟩) j c, by rw [HPB.out]; rfl, bnx HB6.out HR.out.1, ?_⟩, HSU.out⟩
              rw [HPE.out]
              have h := HR.out.2
              rw [List.take_of_length_le (by rw [HNP.out]; omega)] at h
              refine (NewI.row (e := 3) HPI.out ?_).mono HB6.out.size
              rw [HNP.out]
              exact h
end Go.Proofs.YtblfmfanfpohbaaGreat
