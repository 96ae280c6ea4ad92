/- Own texts, joined: Sr1, Sr2, Renc, Tlen. -/
import Derived.Test.YtfhcbdmmckjmaaaJ20
import Derived.Test.YtfhcbdmmckjmaaaJ17
import Derived.Test.YtfhcbdmmckjmaaaJ14
import Derived.Deep.AppendLies
import Derived.Test.YtfhcbdmmckjmaaaRows
import Derived.Test.YtfhcbdmmckjmaaaJ00
import Derived.Test.YtfhcbdmmckjmaaaJ07
namespace Go.Proofs.Ytfhcbdmmckjmaaa
open Go.ChangeShapes Go.WideShapes Go.ChangeAt Go.RowKit
set_option linter.unusedVariables false
/-- a text in a block of bytes -/
def TxtAt (w : World) (bv : Value) (l : List Nat) : Prop := ∃ a cap, bv = .slice a l.length cap ∧ l.length ≤ cap ∧ (l = [] ∨ ∃ g C m, a = some ⟨g, 0, none⟩ ∧ w.heap[g]? = some (.cells C 5 m)) ∧ Bytes w a l
theorem TxtAt.keep {w w' : World} {bv : Value} {l : List Nat} (h : TxtAt w bv l) (hb : Below w.heap.size w w') : TxtAt w' bv l := by
  obtain ⟨a, cap, h1, h2, h3, h4⟩ := h
  refine ⟨a, cap, h1, h2, ?_, h4.keep hb⟩
  rcases h3 with h3 | ⟨g, C, m, h5, h6⟩
  · exact .inl h3
  · exact .inr ⟨g, C, m, h5, (hb.block g (lt_of_heap h6)).trans h6⟩
theorem TxtAt.nil (w : World) : TxtAt w (.slice none 0 0) [] := ⟨none, 0, rfl, by simp, .inl rfl, ⟨by simp, .inl rfl⟩⟩
theorem TxtAt.cv (w : World) (s : ByteArray) (hc : s.size ≤ cvC w s) : TxtAt (cvW w s) (.slice (some ⟨w.heap.size, 0, none⟩) s.size (cvC w s)) (nums8 s) := by
  refine ⟨some ⟨w.heap.size, 0, none⟩, cvC w s, by rw [nums8_len], by rw [nums8_len]; exact hc, .inr ⟨w.heap.size, _, _, rfl, Lib.bytesWorld_at_new w 5 s⟩, cv_bytes s w⟩
/-- a row of fields of one's own, their texts in blocks of bytes -/
structure Rwt (w : World) (base : Nat) (v : Value) (L : List (Fld × Value)) : Prop where
  own : w.ownsRow base 70 4 v L.length (flat L)
  byt : ∀ p ∈ L, TxtAt w p.2 p.1.bytes
theorem Rwt.keep {w w' : World} {base : Nat} {v : Value} {L : List (Fld × Value)} (h : Rwt w base v L) (hb : Below w.heap.size w w') : Rwt w' base v L :=
  ⟨own_same2 h.own (fun k _ hk => hb.block k hk), fun p hp => (h.byt p hp).keep hb⟩
theorem txt_grown {w w' : World} {base n : Nat} {v bv : Value} {xs : List Value} {l : List Nat} (ho : w.ownsRow base 70 4 v n xs) (hg : w.grownBy w' v.ownBlock) (hp : TxtAt w bv l) : TxtAt w' bv l := by
  obtain ⟨a, cap, h1, h2, h3, h4⟩ := hp
  rcases h3 with h3 | ⟨g, C, m, h5, h6⟩
  · subst h3
    exact ⟨a, cap, h1, h2, .inl rfl, ⟨h4.1, .inl rfl⟩⟩
  · have hblk : w'.heap[g]? = w.heap[g]? := by
      refine hg.block g (lt_of_heap h6) (fun h => ?_)
      rcases ho.2 with ⟨rfl, _⟩ | ⟨g2, cap2, cur2, rfl, _, hh, _⟩
      · simp [Value.ownBlock] at h
      · have : g = g2 := by simpa [Value.ownBlock] using h
        subst this
        rw [h6] at hh
        cases hh
    refine ⟨a, cap, h1, h2, .inr ⟨g, C, m, h5, hblk.trans h6⟩, ⟨h4.1, ?_⟩⟩
    rcases h4.2 with h7 | ⟨b, off, h8, h9, h10⟩
    · exact .inl h7
    · rw [h5] at h8
      cases h8
      exact .inr ⟨g, 0, h5, Nat.lt_of_lt_of_le h9 hg.size, fun i hi => (World.cell?_of_block (w := w) (a := ⟨g, 0 + i, none⟩) hblk).trans (h10 i hi)⟩
theorem Rwt.fs {w : World} {base : Nat} {v : Value} {L : List (Fld × Value)} (h : Rwt w base v L) (hn : ∀ p ∈ L, p.1.num ≤ 18446744073709551615 ∧ p.1.bytes.length ≤ maxLen) : ∃ a cap, v = .slice a L.length cap ∧ FsAt w a L := by
  have hf : ∀ p ∈ L, FOk w p := by
    intro p hp
    obtain ⟨a, cap, h1, h2, _, h3⟩ := h.byt p hp
    exact ⟨(hn p hp).1, ⟨a, cap, h1, h2, h3⟩, (hn p hp).2⟩
  rcases h.own.2 with ⟨rfl, h2⟩ | ⟨g, cap, cur, rfl, _, h5, _⟩
  · have : L = [] := List.length_eq_zero_iff.1 h2
    subst this
    exact ⟨none, 0, rfl, .inl rfl, hf⟩
  · refine ⟨some ⟨g, 0, none⟩, cap, rfl, .inr ⟨g, 0, rfl, lt_of_heap h5, fun j hj => ?_⟩, hf⟩
    rw [Nat.zero_add]
    exact h.own.cellAt j hj
/-- append of one field to a row of one's own -/
theorem wpList_append_fld {ops : Array Oper} {rest : List Oper} {o : Oper} {a : Act} {W : World} {Q : Exit → Act → World → Prop} (hgd : o.guard = none) (s x : Operand) (ho : o.op = .call { callee := .builtin .append, args := #[s, x], argTypes := #[58, 58] })
    (base : Nat) (v : Value) (L : List (Fld × Value)) (hs : a.eval s = v) (hown : Rwt W base v L) (g : Nat) (F : Fld) (bv : Value) (hx : a.eval x = .slice (some ⟨g, 0, none⟩) 1 1) (hg : FldAt W g F.tag F.text F.num bv) (hbv : TxtAt W bv F.bytes) (hL : L.length ≤ 1000) (hbase : base ≤ W.heap.size)
    (h : ∀ v' w', Rwt w' base v' (L ++ [(F, bv)]) → W.grownBy w' v.ownBlock → wpList Try.prog ops Q rest (a.put o.dst v') w') : wpList Try.prog ops Q (o :: rest) a W := by
  obtain ⟨i0, hi, hz0, hz1, hz2⟩ := info_parts Try.infoFd
  have hone : bv.oneCell' = true := by
    obtain ⟨ad, cap, h1, _⟩ := hbv
    rw [h1]; rfl
  refine wpList_append_own W hgd s x 58 ho base 70 i0 _ 4 48 Try.underlying58 hi hz0 hz1 hz2 rfl (by decide) v L.length (flat L) hs hown.own ⟨g, 0, none⟩ 1 1 [.int .i64 F.tag, .bool F.text, .int .u64 (F.num : Int), bv] hx rfl (fun j u hj => ?_) (one4 F bv hone) (by unfold maxLen; omega) (by omega) hbase (fun v' w' h1 h2 _ => h v' w' ⟨?_, fun p hp => ?_⟩ h2)
  · have e1 : (⟨g, 0, none⟩ : Addr).add j = ⟨g, j, none⟩ := by unfold Addr.add; split <;> simp_all
    rw [e1, cell_of_row _ _ j _ _ _ hg]
    simpa using hj
  · have e2 : flat (L ++ [(F, bv)]) = flat L ++ [.int .i64 F.tag, .bool F.text, .int .u64 (F.num : Int), bv] := by rw [flat_append]; rfl
    rw [e2, List.length_append]
    exact h1
  · rcases List.mem_append.1 hp with hp | hp
    · exact txt_grown hown.own h2 (hown.byt p hp)
    · obtain rfl := List.mem_singleton.1 hp
      exact txt_grown hown.own h2 hbv
theorem hasK_hasV {v : Int} (h1 : 1 ≤ v) (h5 : v ≤ 5) : ((hasK v : Nat) : Int) = hasV v := by
  have hv : v = 1 ∨ v = 2 ∨ v = 3 ∨ v = 4 ∨ v = 5 := by omega
  rcases hv with rfl | rfl | rfl | rfl | rfl <;> rfl
theorem filter_step {Fs : List Fld} {k : Nat} {F : Fld} (h : Fs[k]? = some F) : (Fs.take (k + 1)).filter nz = if nz F = true then (Fs.take k).filter nz ++ [F] else (Fs.take k).filter nz := by
  have hk : k < Fs.length := by
    by_cases hh : k < Fs.length
    · exact hh
    · rw [List.getElem?_eq_none (by omega)] at h; cases h
  rw [List.getElem?_eq_getElem hk] at h
  rw [List.take_succ_eq_append_getElem hk, Option.some.inj h, List.filter_append, List.filter_cons]
  split
  · simp
  · simp
/-- the numbers and texts of an event beside a row of fields -/
structure Fst (w w1 wr : World) (b : Nat) (v : Int) (E : Ev) (vf : Value) (L : List (Fld × Value)) (k : Nat) : Prop where
  bel : Below w1.heap.size w1 wr
  row : Rwt wr w1.heap.size vf L
  fld : L.map Prod.fst = ((evF v E).take k).filter nz
  len : L.length ≤ k
  ev : EvAt w1 w.heap.size E
  num : RowI w1 b (numL E)
  b0 : Below w.heap.size w w1
theorem Fst.keep {w w1 wr wx : World} {b : Nat} {v : Int} {E : Ev} {vf : Value} {L : List (Fld × Value)} {k : Nat} (h : Fst w w1 wr b v E vf L k) (hb : Below wr.heap.size wr wx) : Fst w w1 wx b v E vf L k :=
  ⟨below_next h.bel hb, h.row.keep hb, h.fld, h.len, h.ev, h.num, h.b0⟩
theorem Fst.skip {w w1 wr : World} {b : Nat} {v : Int} {E : Ev} {vf : Value} {L : List (Fld × Value)} {k : Nat} (h : Fst w w1 wr b v E vf L k) {F : Fld} (hF : (evF v E)[k]? = some F) (hz : nz F = false) : Fst w w1 wr b v E vf L (k + 1) :=
  ⟨h.bel, h.row, by rw [filter_step hF, if_neg (by rw [hz]; simp)]; exact h.fld, by have := h.len; omega, h.ev, h.num, h.b0⟩
theorem Fst.app {w w1 wr wx : World} {b : Nat} {v : Int} {E : Ev} {vf v' bv : Value} {L : List (Fld × Value)} {k : Nat} (h : Fst w w1 wr b v E vf L k) {F : Fld} (hF : (evF v E)[k]? = some F) (hz : nz F = true) (hr : Rwt wx w1.heap.size v' (L ++ [(F, bv)])) (hg : wr.grownBy wx vf.ownBlock) : Fst w w1 wx b v E v' (L ++ [(F, bv)]) (k + 1) :=
  ⟨grown_row h.bel h.row.own h.bel.size hg, hr, by rw [filter_step hF, if_pos hz, List.map_append, h.fld]; rfl, by rw [List.length_append]; have := h.len; simp; omega, h.ev, h.num, h.b0⟩
/-- a box for one field behind the row -/
theorem Fst.box {w w1 wr : World} {b : Nat} {v : Int} {E : Ev} {vf : Value} {L : List (Fld × Value)} {k : Nat} (h : Fst w w1 wr b v E vf L k) (t : Int) (x : Bool) (u : Nat) (bv : Value) : Fst w w1 (wr.alloc (.cells #[.int .i64 t, .bool x, .int .u64 (u : Int), bv] 70)) b v E vf L k := h.keep ((Below.refl _ _).alloc (Nat.le_refl _) _)
theorem num_le11 {v : Int} {E : Ev} (r : Right v E) {k : Nat} (h8 : k ≠ 7) (h10 : k ≠ 9) (h : k < 10) (h4 : k = 3 → 2 < v) : ∃ n : Nat, (evF v E)[k]? = some ⟨((k + 1 : Nat) : Int), false, n, []⟩ ∧ (numL E).getD (k + 1) 0 = (n : Int) ∧ n ≤ 1099511627776 := by
  have hk : lastK v ≤ 10 := by unfold lastK; repeat' split <;> omega
  have hp : hiP v ≤ 100000000 := by unfold hiP; split <;> omega
  have b1 := r.kind0
  have b2 := r.kind1
  have b3 := r.order0
  have b4 := r.order1
  have b5 := r.item0
  have b6 := r.item1
  have b7 := r.price0
  have b8 := r.price1
  have b9 := r.cur0
  have c1 := r.cur1
  have c2 := r.tax0
  have c3 := r.tax1
  have c4 := r.stamp0
  have c5 := r.stamp1
  have c6 := r.qty0
  have c7 := r.qty1
  have hv : k = 0 ∨ k = 1 ∨ k = 2 ∨ k = 3 ∨ k = 4 ∨ k = 5 ∨ k = 6 ∨ k = 8 := by omega
  rcases hv with rfl | rfl | rfl | rfl | rfl | rfl | rfl | rfl
  · exact ⟨E.kind.toNat, rfl, by show E.kind = _; omega, by omega⟩
  · exact ⟨E.order.toNat, rfl, by show E.order = _; omega, by omega⟩
  · exact ⟨E.item.toNat, rfl, by show E.item = _; omega, by omega⟩
  · have h2 := h4 rfl
    have : loQ v = 0 := if_neg (by omega)
    have hq : qN v E = E.qty.toNat := if_neg (by omega)
    exact ⟨qN v E, rfl, by show E.qty = _; rw [hq]; omega, by rw [hq]; omega⟩
  · exact ⟨E.price.toNat, rfl, by show E.price = _; omega, by omega⟩
  · exact ⟨E.cur.toNat, rfl, by show E.cur = _; omega, by omega⟩
  · exact ⟨E.tax.toNat, rfl, by show E.tax = _; omega, by omega⟩
  · exact ⟨E.stamp.toNat, rfl, by show E.stamp = _; omega, by omega⟩
end Go.Proofs.Ytfhcbdmmckjmaaa
namespace Go.Proofs.Ytfhcbdmmckjmaaa
open Go.ChangeShapes Go.WideShapes Go.ChangeAt Go.RowKit
set_option linter.unusedVariables false
theorem numsE (E : Ev) (w : World) : Calls Try.prog 26 #[.agg (evA E)] w fun x w' => x = .returned (.slice (some ⟨w.heap.size + 1, 0, none⟩) 11 11) ∧ RowI w' (w.heap.size + 1) (numL E) ∧ Below w.heap.size w w' :=
  rnums_any E.kind E.order E.item E.qty E.price E.cur E.tax E.who E.stamp E.note w
theorem Fst.start {w w1 : World} {b : Nat} {v : Int} {E : Ev} (he : EvAt w1 w.heap.size E) (hn : RowI w1 b (numL E)) (hb : Below w.heap.size w w1) : Fst w w1 (w1.alloc (.cells #[] 70)) b v E (.slice (some ⟨w1.heap.size, 0, none⟩) 0 0) [] 0 :=
  ⟨(Below.refl _ _).alloc (Nat.le_refl _) _, ⟨⟨by simp [flat], .inr ⟨w1.heap.size, 0, #[], rfl, Nat.le_refl _, heap_alloc_new w1 _, by simp, by simp, by simp, by simp [flat]⟩⟩, fun p hp => by cases hp⟩, rfl, by simp, he, hn, hb⟩
/-- behind the version's last tag nothing is left -/
theorem take_tags {v : Int} {E : Ev} {H : Nat} (h : ∀ f ∈ efs v E, f.tag ≤ (H : Int)) : ((evF v E).take H).filter nz = efs v E := by
  have key : ∀ (Fs : List Fld) (A : Nat), (∀ (i : Nat) (f : Fld), Fs[i]? = some f → f.tag = ((i + A + 1 : Nat) : Int)) → (∀ f ∈ Fs.filter nz, f.tag ≤ ((H + A : Nat) : Int)) → (Fs.take H).filter nz = Fs.filter nz := by
    intro Fs A hi hf
    conv => rhs; rw [← List.take_append_drop H Fs, List.filter_append]
    rw [show (Fs.drop H).filter nz = [] from ?_, List.append_nil]
    rw [List.filter_eq_nil_iff]
    intro f hfm hz
    obtain ⟨i, hi2, hi3⟩ := List.mem_iff_getElem.1 hfm
    have h1 : Fs[H + i]? = some f := by
      rw [List.getElem_drop] at hi3
      rw [List.length_drop] at hi2
      rw [List.getElem?_eq_getElem (by omega), hi3]
    have h2 := hi _ f h1
    have h3 := hf f (List.mem_filter.2 ⟨List.mem_of_getElem? h1, hz⟩)
    omega
  refine key (evF v E) 0 (fun i f hf => ?_) (fun f hf => by simpa using h f hf)
  have hi : i < 10 := by
    by_cases hh : i < 10
    · exact hh
    · rw [List.getElem?_eq_none (by show 10 ≤ i; omega)] at hf; cases hf
  have hv : i = 0 ∨ i = 1 ∨ i = 2 ∨ i = 3 ∨ i = 4 ∨ i = 5 ∨ i = 6 ∨ i = 7 ∨ i = 8 ∨ i = 9 := by omega
  rcases hv with rfl | rfl | rfl | rfl | rfl | rfl | rfl | rfl | rfl | rfl <;> (obtain rfl := Option.some.inj hf; rfl)
set_option maxRecDepth 20000 in
set_option maxHeartbeats 4000000 in
theorem rfields_any (v : Int) (E : Ev) (w : World) (r : Right v E) :
    Calls Try.prog 29 #[.int .i64 v, .agg (evA E)] w fun x w' => ∃ vf L, x = .returned vf ∧ L.map Prod.fst = efs v E ∧ L.length ≤ 10 ∧ Rwt w' w.heap.size vf L ∧ Below w.heap.size w w' := by
  have hv1 := r.v1
  have hv5 := r.v5
  obtain ⟨H, hH⟩ : ∃ H, hasK v = H := ⟨_, rfl⟩
  have HHK : Hid (hasK v = H) := hH
  have hHV : (H : Int) = hasV v := by rw [← hH]; exact hasK_hasV hv1 hv5
  have hH10 : H ≤ 10 := by have := hasV_le v; omega
  have HTAG : Hid (∀ f ∈ efs v E, f.tag ≤ (H : Int)) := fun f hf => by rw [hHV]; exact (efs_tags r f hf).2
  have HR : Hid (Right v E) := r
  have HVV : Hid (1 ≤ v ∧ v ≤ 5) := ⟨hv1, hv5⟩
  have HA : Hid (EvAt (w.alloc (.cells (evA E) 24)) w.heap.size E) := evAt_new w E
  have HAB : Hid (Below w.heap.size w (w.alloc (.cells (evA E) 24))) := (Below.refl _ _).alloc (Nat.le_refl _) _
  have hcv := cv_run
  clear r hv1 hv5 hH hHV
  go_enter Try.func29, Try.ntmps29
  go_wp2_with (first
    | ((with_reducible refine guard_load 24 ?_); refine wpList_load_ev rfl _ rfl HA.out rfl ?_)
    | (go_at_call 26; refine (numsE E _).mono ?_; rintro _ w1 ⟨rfl, hn1, hb1⟩; obtain ⟨b, hbe⟩ : ∃ b, (w.alloc (.cells (evA E) 24)).heap.size + 1 = b := ⟨_, rfl⟩; rw [hbe] at hn1 ⊢; have HF : Hid (_) := Fst.start (v := v) (HA.out.after hb1) hn1 (below_next HAB.out hb1); clear hn1 hb1 hbe))
  go_loopw [6, 7] (fun vf vi wr => ∃ (k : Nat) (L : List (Fld × Value)), k ≤ H ∧ vi = .int .i64 ((k + 1 : Nat) : Int) ∧ Hid (Fst w w1 wr b v E vf L k)) (fun _ vi _ => H + 1 - (intOf vi).toNat)
  case atStart => exact ⟨0, [], Nat.zero_le _, rfl, HF.out⟩
  case round =>
    obtain ⟨k, L, hk, rfl, HI⟩ := hrel
    by_cases hkl : k < H
    · have hkI : ((k + 1 : Nat) : Int) ≤ (H : Int) := by omega
      have hk0 : (0 : Int) ≤ ((k + 1 : Nat) : Int) := by omega
      have hk11 : ((k + 1 : Nat) : Int) < 11 := by omega
      by_cases h78 : k = 7
      · subst h78
        have hF : (evF v E)[7]? = some ⟨((8 : Nat) : Int), true, 0, nums8 E.who⟩ := rfl
        have HFF : Hid (_) := hF
        obtain ⟨S, hS⟩ : ∃ S, E.who = S := ⟨_, rfl⟩
        rw [hS] at HFF
        have HSS : Hid (E.who = S) := hS
        clear hF hS
        by_cases hn0 : nilB S = true
        · have HSK : Hid (nz ⟨((8 : Nat) : Int), true, 0, nums8 S⟩ = false) := by show _ = _; rw [(nilB_iff S).1 hn0]; rfl
          have hem : S.toList.isEmpty = true := hn0
          go_wp2_with (first
            | (go_at_call 27; refine (rhas_any v _ HVV.out.1 HVV.out.2).mono ?_; rw [HHK.out]; rintro _ x1 ⟨rfl, hb1⟩; have h1 := HI.out.keep hb1; have hev := HI.out.ev.after (below_next HI.out.bel hb1); obtain ⟨_, _, _, _, _, _, _, c7, _, c9⟩ := hev.cells; rw [HSS.out] at c7; clear hev; clear HI hb1; have HI : Hid (Fst w w1 x1 b v E u6 L 7) := h1; clear h1))
          go_roundw
          case rel => exact ⟨8, L, by omega, by go_num, HI.out.skip HFF.out HSK.out⟩
          case measure => simp [intOf]; omega
        · have HSZ : Hid (nz ⟨((8 : Nat) : Int), true, 0, nums8 S⟩ = true) := by
            show _ = _
            have h1 : nums8 S ≠ [] := fun h => hn0 ((nilB_iff S).2 h)
            unfold nz
            rw [if_pos rfl]
            cases h2 : nums8 S with
            | nil => exact absurd h2 h1
            | cons x r => rfl
          have hem : S.toList.isEmpty = false := by cases h9 : S.toList.isEmpty with | false => rfl | true => exact absurd h9 hn0
          go_wp2_with (first
            | (go_at_call 27; refine (rhas_any v _ HVV.out.1 HVV.out.2).mono ?_; rw [HHK.out]; rintro _ x1 ⟨rfl, hb1⟩; have h1 := HI.out.keep hb1; have hev := HI.out.ev.after (below_next HI.out.bel hb1); obtain ⟨_, _, _, _, _, _, _, c7, _, c9⟩ := hev.cells; rw [HSS.out] at c7; clear hev; clear HI hb1; have HI : Hid (Fst w w1 x1 b v E u6 L 7) := h1; clear h1)
            | (at_builtin; have hbx := (HI.out.keep (cv_below S x1)).box ((8 : Nat) : Int) true 0 (.slice (some ⟨x1.heap.size, 0, none⟩) S.size (cvC x1 S)); refine wpList_append_fld rfl _ _ rfl w1.heap.size u6 L rfl hbx.row (cvW x1 S).heap.size ⟨((8 : Nat) : Int), true, 0, nums8 S⟩ (.slice (some ⟨x1.heap.size, 0, none⟩) S.size (cvC x1 S)) rfl (FldAt.new (cvW x1 S) _ _ _ _) ((TxtAt.cv x1 S (grownCap_ge _ _ _ _)).keep ((Below.refl _ _).alloc (Nat.le_refl _) _)) (by have := HI.out.len; omega) hbx.bel.size ?_; intro v3 w3 hr3 hg3; have HR3 : Hid (Fst w w1 w3 b v E v3 (L ++ [(⟨((8 : Nat) : Int), true, 0, nums8 S⟩, .slice (some ⟨x1.heap.size, 0, none⟩) S.size (cvC x1 S))]) (7 + 1)) := hbx.app HFF.out HSZ.out hr3 hg3; clear hr3 hg3 hbx))
          go_roundw
          case rel => exact ⟨8, _, by omega, by go_num, HR3.out⟩
          case measure => simp [intOf]; omega
      · by_cases h99 : k = 9
        · subst h99
          have hF : (evF v E)[9]? = some ⟨((10 : Nat) : Int), true, 0, nums8 E.note⟩ := rfl
          have HFF : Hid (_) := hF
          obtain ⟨S, hS⟩ : ∃ S, E.note = S := ⟨_, rfl⟩
          rw [hS] at HFF
          have HSS : Hid (E.note = S) := hS
          clear hF hS
          by_cases hn0 : nilB S = true
          · have HSK : Hid (nz ⟨((10 : Nat) : Int), true, 0, nums8 S⟩ = false) := by show _ = _; rw [(nilB_iff S).1 hn0]; rfl
            have hem : S.toList.isEmpty = true := hn0
            go_wp2_with (first
              | (go_at_call 27; refine (rhas_any v _ HVV.out.1 HVV.out.2).mono ?_; rw [HHK.out]; rintro _ x1 ⟨rfl, hb1⟩; have h1 := HI.out.keep hb1; have hev := HI.out.ev.after (below_next HI.out.bel hb1); obtain ⟨_, _, _, _, _, _, _, c7, _, c9⟩ := hev.cells; rw [HSS.out] at c9; clear hev; clear HI hb1; have HI : Hid (Fst w w1 x1 b v E u6 L 9) := h1; clear h1))
            go_roundw
            case rel => exact ⟨10, L, by omega, by go_num, HI.out.skip HFF.out HSK.out⟩
            case measure => simp [intOf]; omega
          · have HSZ : Hid (nz ⟨((10 : Nat) : Int), true, 0, nums8 S⟩ = true) := by
              show _ = _
              have h1 : nums8 S ≠ [] := fun h => hn0 ((nilB_iff S).2 h)
              unfold nz
              rw [if_pos rfl]
              cases h2 : nums8 S with
              | nil => exact absurd h2 h1
              | cons x r => rfl
            have hem : S.toList.isEmpty = false := by cases h9 : S.toList.isEmpty with | false => rfl | true => exact absurd h9 hn0
            go_wp2_with (first
              | (go_at_call 27; refine (rhas_any v _ HVV.out.1 HVV.out.2).mono ?_; rw [HHK.out]; rintro _ x1 ⟨rfl, hb1⟩; have h1 := HI.out.keep hb1; have hev := HI.out.ev.after (below_next HI.out.bel hb1); obtain ⟨_, _, _, _, _, _, _, c7, _, c9⟩ := hev.cells; rw [HSS.out] at c9; clear hev; clear HI hb1; have HI : Hid (Fst w w1 x1 b v E u6 L 9) := h1; clear h1)
              | (at_builtin; have hbx := (HI.out.keep (cv_below S x1)).box ((10 : Nat) : Int) true 0 (.slice (some ⟨x1.heap.size, 0, none⟩) S.size (cvC x1 S)); refine wpList_append_fld rfl _ _ rfl w1.heap.size u6 L rfl hbx.row (cvW x1 S).heap.size ⟨((10 : Nat) : Int), true, 0, nums8 S⟩ (.slice (some ⟨x1.heap.size, 0, none⟩) S.size (cvC x1 S)) rfl (FldAt.new (cvW x1 S) _ _ _ _) ((TxtAt.cv x1 S (grownCap_ge _ _ _ _)).keep ((Below.refl _ _).alloc (Nat.le_refl _) _)) (by have := HI.out.len; omega) hbx.bel.size ?_; intro v3 w3 hr3 hg3; have HR3 : Hid (Fst w w1 w3 b v E v3 (L ++ [(⟨((10 : Nat) : Int), true, 0, nums8 S⟩, .slice (some ⟨x1.heap.size, 0, none⟩) S.size (cvC x1 S))]) (9 + 1)) := hbx.app HFF.out HSZ.out hr3 hg3; clear hr3 hg3 hbx))
            go_roundw
            case rel => exact ⟨10, _, by omega, by go_num, HR3.out⟩
            case measure => simp [intOf]; omega
        · by_cases h4 : k = 3 ∧ v ≤ 2
          · obtain ⟨rfl, hv2⟩ := h4
            have hF : (evF v E)[3]? = some ⟨((4 : Nat) : Int), false, qN v E, []⟩ := rfl
            obtain ⟨n, hn⟩ : ∃ n, qN v E = n := ⟨_, rfl⟩
            have HQ : Hid (-9223372036854775808 ≤ E.qty ∧ E.qty ≤ 9223372036854775807 ∧ zig E.qty = (n : Int)) := by
              have h1 := HR.out.qty0
              have h2 := HR.out.qty1
              have h3 := loQ_le v
              refine ⟨by omega, by omega, ?_⟩
              rw [← hn, show qN v E = (zig E.qty).toNat from if_pos hv2, nat_of (zig_nn _)]
            rw [hn] at hF
            have HFF : Hid (_) := hF
            have hcell : wr.cell? ⟨b, 4, none⟩ = some (.int .i64 E.qty) := by
              have h1 := (HI.out.num.2 4 (by show 4 < 11; omega))
              exact (HI.out.bel.cell (p := ⟨b, 4, none⟩) HI.out.num.1).trans h1
            have v3 : v < 3 := by omega
            obtain ⟨K, hK⟩ : ∃ K, 3 + 1 = K := ⟨_, rfl⟩
            have hKK : K = 4 := by omega
            subst hKK
            clear hF hn
            by_cases hn0 : n = 0
            · have HSK : Hid (nz ⟨((4 : Nat) : Int), false, n, []⟩ = false) := by show _ = _; simp [nz, hn0]
              have hnb : ((n : Int) != 0) = false := by simp; omega
              clear hn0
              go_wp2_with (first
                | (go_at_call 27; refine (rhas_any v _ HVV.out.1 HVV.out.2).mono ?_; rw [HHK.out]; rintro _ x1 ⟨rfl, hb1⟩; have h1 := HI.out.keep hb1; have hc1 : x1.cell? ⟨b, 4, none⟩ = some (.int .i64 E.qty) := (hb1.cell (p := ⟨b, 4, none⟩) (Nat.lt_of_lt_of_le HI.out.num.1 HI.out.bel.size)).trans hcell; clear HI hb1; have HI : Hid (Fst w w1 x1 b v E u6 L 3) := h1; clear h1)
                | (go_at_call 48; refine (rzig_any E.qty _ HQ.out.1 HQ.out.2.1).mono ?_; rw [HQ.out.2.2]; rintro _ x2 ⟨rfl, rfl⟩))
              go_roundw
              case rel => exact ⟨4, L, by omega, by go_num,  HI.out.skip HFF.out HSK.out⟩
              case measure => simp [intOf]; omega
            · have hnb : ((n : Int) != 0) = true := by simp; omega
              have hnb2 : ¬ (n : Int) = 0 := by omega
              go_wp2_with (first
                | (go_at_call 27; refine (rhas_any v _ HVV.out.1 HVV.out.2).mono ?_; rw [HHK.out]; rintro _ x1 ⟨rfl, hb1⟩; have h1 := HI.out.keep hb1; have hc1 : x1.cell? ⟨b, 4, none⟩ = some (.int .i64 E.qty) := (hb1.cell (p := ⟨b, 4, none⟩) (Nat.lt_of_lt_of_le HI.out.num.1 HI.out.bel.size)).trans hcell; clear HI hb1; have HI : Hid (Fst w w1 x1 b v E u6 L 3) := h1; clear h1)
                | (go_at_call 48; refine (rzig_any E.qty _ HQ.out.1 HQ.out.2.1).mono ?_; rw [HQ.out.2.2]; rintro _ x2 ⟨rfl, rfl⟩)
                | (at_builtin; refine wpList_append_fld rfl _ _ rfl w1.heap.size u6 L rfl (HI.out.box ((4 : Nat) : Int) false n (.slice none 0 0)).row x1.heap.size ⟨((4 : Nat) : Int), false, n, []⟩ (.slice none 0 0) rfl (FldAt.new x1 _ _ _ _) (TxtAt.nil _) (by have := HI.out.len; omega) (HI.out.box ((4 : Nat) : Int) false n (.slice none 0 0)).bel.size ?_; intro v3 w3 hr3 hg3; have HR3 : Hid (Fst w w1 w3 b v E v3 (L ++ [(⟨((4 : Nat) : Int), false, n, []⟩, .slice none 0 0)]) (3 + 1)) := (HI.out.box ((4 : Nat) : Int) false n (.slice none 0 0)).app HFF.out (by simp [nz, hn0]) hr3 hg3; clear hr3 hg3))
              go_roundw
              case rel => exact ⟨4, _, by omega, by go_num,  HR3.out⟩
              case measure => simp [intOf]; omega
          · obtain ⟨n, hF, hnum, hn41⟩ := num_le11 HR.out h78 h99 (by omega) (fun h => by omega)
            have t8 : (((k + 1 : Nat) : Int) == 8) = false := by simp; omega
            have t10 : (((k + 1 : Nat) : Int) == 10) = false := by simp; omega
            have hcell : wr.cell? ⟨b, k + 1, none⟩ = some (.int .i64 (n : Int)) := by
              have h1 := (HI.out.num.2 (k + 1) (by show k + 1 < 11; omega))
              rw [hnum] at h1
              exact (HI.out.bel.cell (p := ⟨b, k + 1, none⟩) HI.out.num.1).trans h1
            have hwr := wrapN (k := n) (by omega)
            have HFF : Hid (_) := hF
            obtain ⟨K, hK⟩ : ∃ K, k + 1 = K := ⟨_, rfl⟩
            rw [hK] at hkI hk0 hk11 t8 t10 hcell HFF ⊢
            by_cases k3 : k = 3
            · have t4 : ((K : Int) == 4) = true := by simp; omega
              have v3 : decide (v < 3) = false := by simp; omega
              by_cases hn0 : n = 0
              · have HSK : Hid (nz ⟨(K : Int), false, n, []⟩ = false) := by show _ = _; simp [nz, hn0]
                have hnb : ((n : Int) != 0) = false := by simp; omega
                clear hn0
                go_wp2_with (first
                  | (go_at_call 27; refine (rhas_any v _ HVV.out.1 HVV.out.2).mono ?_; rw [HHK.out]; rintro _ x1 ⟨rfl, hb1⟩; have h1 := HI.out.keep hb1; have hc1 : x1.cell? ⟨b, K, none⟩ = some (.int .i64 (n : Int)) := (hb1.cell (p := ⟨b, K, none⟩) (Nat.lt_of_lt_of_le HI.out.num.1 HI.out.bel.size)).trans hcell; clear HI hb1; have HI : Hid (Fst w w1 x1 b v E u6 L k) := h1; clear h1))
                go_roundw
                case rel => exact ⟨K, L, by omega, by go_num, by rw [← hK]; exact HI.out.skip HFF.out HSK.out⟩
                case measure => simp [intOf]; omega
              · have hnb : ((n : Int) != 0) = true := by simp; omega
                have hnb2 : ¬ (n : Int) = 0 := by omega
                go_wp2_with (first
                  | (go_at_call 27; refine (rhas_any v _ HVV.out.1 HVV.out.2).mono ?_; rw [HHK.out]; rintro _ x1 ⟨rfl, hb1⟩; have h1 := HI.out.keep hb1; have hc1 : x1.cell? ⟨b, K, none⟩ = some (.int .i64 (n : Int)) := (hb1.cell (p := ⟨b, K, none⟩) (Nat.lt_of_lt_of_le HI.out.num.1 HI.out.bel.size)).trans hcell; clear HI hb1; have HI : Hid (Fst w w1 x1 b v E u6 L k) := h1; clear h1)
                  | (at_builtin; refine wpList_append_fld rfl _ _ rfl w1.heap.size u6 L rfl (HI.out.box (K : Int) false n (.slice none 0 0)).row x1.heap.size ⟨(K : Int), false, n, []⟩ (.slice none 0 0) rfl (FldAt.new x1 _ _ _ _) (TxtAt.nil _) (by have := HI.out.len; omega) (HI.out.box (K : Int) false n (.slice none 0 0)).bel.size ?_; intro v3 w3 hr3 hg3; have HR3 : Hid (Fst w w1 w3 b v E v3 (L ++ [(⟨(K : Int), false, n, []⟩, .slice none 0 0)]) (k + 1)) := (HI.out.box (K : Int) false n (.slice none 0 0)).app HFF.out (by simp [nz, hn0]) hr3 hg3; clear hr3 hg3))
                go_roundw
                case rel => exact ⟨K, _, by omega, by go_num, by rw [← hK]; exact HR3.out⟩
                case measure => simp [intOf]; omega
            · have t4 : ((K : Int) == 4) = false := by simp; omega
              by_cases hn0 : n = 0
              · have HSK : Hid (nz ⟨(K : Int), false, n, []⟩ = false) := by show _ = _; simp [nz, hn0]
                have hnb : ((n : Int) != 0) = false := by simp; omega
                clear hn0
                go_wp2_with (first
                  | (go_at_call 27; refine (rhas_any v _ HVV.out.1 HVV.out.2).mono ?_; rw [HHK.out]; rintro _ x1 ⟨rfl, hb1⟩; have h1 := HI.out.keep hb1; have hc1 : x1.cell? ⟨b, K, none⟩ = some (.int .i64 (n : Int)) := (hb1.cell (p := ⟨b, K, none⟩) (Nat.lt_of_lt_of_le HI.out.num.1 HI.out.bel.size)).trans hcell; clear HI hb1; have HI : Hid (Fst w w1 x1 b v E u6 L k) := h1; clear h1))
                go_roundw
                case rel => exact ⟨K, L, by omega, by go_num, by rw [← hK]; exact HI.out.skip HFF.out HSK.out⟩
                case measure => simp [intOf]; omega
              · have hnb : ((n : Int) != 0) = true := by simp; omega
                have hnb2 : ¬ (n : Int) = 0 := by omega
                go_wp2_with (first
                  | (go_at_call 27; refine (rhas_any v _ HVV.out.1 HVV.out.2).mono ?_; rw [HHK.out]; rintro _ x1 ⟨rfl, hb1⟩; have h1 := HI.out.keep hb1; have hc1 : x1.cell? ⟨b, K, none⟩ = some (.int .i64 (n : Int)) := (hb1.cell (p := ⟨b, K, none⟩) (Nat.lt_of_lt_of_le HI.out.num.1 HI.out.bel.size)).trans hcell; clear HI hb1; have HI : Hid (Fst w w1 x1 b v E u6 L k) := h1; clear h1)
                  | (at_builtin; refine wpList_append_fld rfl _ _ rfl w1.heap.size u6 L rfl (HI.out.box (K : Int) false n (.slice none 0 0)).row x1.heap.size ⟨(K : Int), false, n, []⟩ (.slice none 0 0) rfl (FldAt.new x1 _ _ _ _) (TxtAt.nil _) (by have := HI.out.len; omega) (HI.out.box (K : Int) false n (.slice none 0 0)).bel.size ?_; intro v3 w3 hr3 hg3; have HR3 : Hid (Fst w w1 w3 b v E v3 (L ++ [(⟨(K : Int), false, n, []⟩, .slice none 0 0)]) (k + 1)) := (HI.out.box (K : Int) false n (.slice none 0 0)).app HFF.out (by simp [nz, hn0]) hr3 hg3; clear hr3 hg3))
                go_roundw
                case rel => exact ⟨K, _, by omega, by go_num, by rw [← hK]; exact HR3.out⟩
                case measure => simp [intOf]; omega
    · obtain rfl : k = H := by omega
      go_wp2_with (go_at_call 27; refine (rhas_any v _ HVV.out.1 HVV.out.2).mono ?_; rw [HHK.out]; rintro _ x1 ⟨rfl, hb1⟩; have h1 := HI.out.keep hb1; clear HI hb1; have HI : Hid (Fst w w1 x1 b v E u6 L k) := h1; clear h1)
      go_ret
      refine ⟨_, L, rfl, ?_, by have := HI.out.len; omega, ⟨HI.out.row.own.mono HI.out.b0.size, HI.out.row.byt⟩, below_next HI.out.b0 HI.out.bel⟩
      rw [HI.out.fld]
      exact take_tags HTAG.out
end Go.Proofs.Ytfhcbdmmckjmaaa
namespace Go.Proofs.Ytfhcbdmmckjmaaa
open Go.ChangeShapes Go.WideShapes Go.ChangeAt Go.RowKit
theorem Try.info5r : (Try.prog.info? 5).map (fun i => (i.zero, i.size, i.bytes)) = some (some (.int .u8 0), 1, 1) := by kernel_rfl
theorem encF_succ (f u : Nat) : encF (f + 1) u = if u < 128 then [u] else (128 + u % 128) :: encF f (u / 128) := rfl
theorem own_one (w : World) (c : Nat) (h : c < 256) : Own (w.alloc (.cells #[.int .u8 (c : Int)] 5)) w.heap.size (.slice (some ⟨w.heap.size, 0, none⟩) 1 1) [c] := by
  refine ⟨getD_lt (by simpa using h), ?_⟩
  exact World.ownsRow_lit w #[.int .u8 (c : Int)] 1 (Nat.le_refl _) (by unfold maxLen; omega) rfl
theorem own_keep {w w' : World} {o : Obj} {v : Value} {l : List Nat} (h : Own (w.alloc o) w.heap.size v l) (hb : Below (w.heap.size + 1) (w.alloc o) w') : w'.ownsRow w.heap.size 5 1 v l.length (B8 l) := by
  obtain ⟨_, h1, h2⟩ := h
  refine ⟨h1, ?_⟩
  rcases h2 with h2 | ⟨g, cap, cur, h3, h4, h5, h6, h7, h8, h9⟩
  · exact .inl h2
  · refine .inr ⟨g, cap, cur, h3, h4, ?_, h6, h7, h8, h9⟩
    have hlt : g < w.heap.size + 1 := by
      by_cases hh : g < (w.alloc o).heap.size
      · rw [World.size_alloc] at hh; exact hh
      · rw [Array.getElem?_eq_none (by omega)] at h5; cases h5
    rw [hb.block g hlt]; exact h5
set_option maxRecDepth 20000 in
set_option maxHeartbeats 1000000 in
theorem renc_any (f u : Nat) (w : World) (h64 : u ≤ 18446744073709551615) (hp : u < 128 ^ (f + 1)) :
    Calls Try.prog 39 #[.int .u64 u] w fun e w' => ∃ v, e = .returned v ∧ Own w' w.heap.size v (encF (f + 1) u) ∧ Below w.heap.size w w' := by
  obtain ⟨i0, hi, hz0, hz1, hz2⟩ := info_parts Try.info5r
  induction f generalizing u w with
  | zero =>
    have hlt : u < 128 := by simpa using hp
    have HE : Hid (encF 1 u = [u]) := by show _ = _; unfold encF; rw [if_pos hlt]
    have HO : Hid (_) := own_one w u (by omega)
    have hu8 : (u : Int) ≤ 255 := by omega
    clear hp
    go_enter Try.func39, Try.ntmps39
    go_wp2
    go_ret
    exact ⟨_, rfl, by rw [HE.out]; exact HO.out, (Below.refl _ _).alloc (Nat.le_refl _) _⟩
  | succ f ih =>
    by_cases hlt : u < 128
    · have HE : Hid (encF (f + 1 + 1) u = [u]) := by show _ = _; unfold encF; rw [if_pos hlt]
      have HO : Hid (_) := own_one w u (by omega)
      have hu8 : (u : Int) ≤ 255 := by omega
      clear hp ih
      go_enter Try.func39, Try.ntmps39
      go_wp2
      go_ret
      exact ⟨_, rfl, by rw [HE.out]; exact HO.out, (Below.refl _ _).alloc (Nat.le_refl _) _⟩
    · have HE : Hid (encF (f + 1 + 1) u = [128 + u % 128] ++ encF (f + 1) (u / 128)) := by
        show _ = _
        rw [encF_succ, if_neg hlt]
        rfl
      have HO : Hid (Own (w.alloc (.cells #[.int .u8 (128 + (u : Int) % 128)] 5)) w.heap.size (.slice (some ⟨w.heap.size, 0, none⟩) 1 1) [128 + u % 128]) := by
        have h := own_one w (128 + u % 128) (by omega)
        rw [show ((128 + u % 128 : Nat) : Int) = 128 + (u : Int) % 128 from by omega] at h
        exact h
      have hp2 : u / 128 < 128 ^ (f + 1) := by rw [Nat.pow_succ] at hp; exact Nat.div_lt_of_lt_mul (by rw [Nat.mul_comm]; exact hp)
      have IH : Hid (Calls Try.prog 39 #[.int .u64 ((u : Int) / 128)] (w.alloc (.cells #[.int .u8 (128 + (u : Int) % 128)] 5)) fun e w' => ∃ v, e = .returned v ∧ Own w' (w.heap.size + 1) v (encF (f + 1) (u / 128)) ∧ Below (w.heap.size + 1) (w.alloc (.cells #[.int .u8 (128 + (u : Int) % 128)] 5)) w') := by
        have h := ih (u / 128) (w.alloc (.cells #[.int .u8 (128 + (u : Int) % 128)] 5)) (by omega) hp2
        rw [show ((u / 128 : Nat) : Int) = (u : Int) / 128 from by omega, World.size_alloc] at h
        exact h
      have hlen : (encF (f + 1) (u / 128)).length ≤ 10 := by
        rw [encF_length f _ hp2]
        have h2 : bitLen (u / 128 ||| 1) ≤ 64 := bitLen_lt _ 64 (by rw [or_one]; omega)
        omega
      have HNE : Hid (encF (f + 1) (u / 128) ≠ []) := by
        show _ ≠ _
        unfold encF
        split <;> simp
      have hge : ¬ (u : Int) < 128 := by omega
      clear hp ih hp2 hlt
      generalize hL : encF (f + 1) (u / 128) = L at *
      clear hL
      go_enter Try.func39, Try.ntmps39
      go_wp2_with (first
        | (go_at_call 39; refine (IH.out).mono ?_; rintro e w2 ⟨v, rfl, ho, hb⟩; have HBY : Hid (∀ i, L.getD i 0 < 256) := ho.1; obtain ⟨g, cap, rfl, hcap, hby⟩ := ho.row HNE.out; clear ho; have HO2 : Hid (w2.ownsRow w.heap.size 5 1 (.slice (some ⟨w.heap.size, 0, none⟩) 1 1) 1 (B8 [128 + u % 128])) := own_keep HO.out hb; have hs2 : w.heap.size ≤ w2.heap.size := by have := hb.size; rw [World.size_alloc] at this; omega)
        | (at_builtin; refine wpList_append_own _ rfl _ _ 30 rfl w.heap.size 5 i0 (.int .u8 0) 1 1 Try.underlying30 hi hz0 hz1 hz2 rfl (by decide) _ _ _ rfl HO2.out ⟨g, 0, none⟩ L.length cap (B8 L) rfl (B8_length L) (bytes_cells hby) (B8_one L) (by unfold maxLen; omega) (by omega) hs2 ?_; intro v4 w4 ho4 hg4 _))
      have hb4 := grown_row (Below.refl w.heap.size w2) HO2.out hs2 hg4
      clear hg4
      go_wp2
      go_ret
      refine ⟨v4, rfl, ?_, ((Below.refl _ _).alloc (Nat.le_refl _) _).trans ((hb.mono (by omega)).trans hb4)⟩
      rw [HE.out]
      refine Own.append (getD_lt (by intro x hx; simp at hx; omega)) HBY.out ?_
      exact ho4
end Go.Proofs.Ytfhcbdmmckjmaaa
namespace Go.Proofs.Ytfhcbdmmckjmaaa
open Go.ChangeShapes Go.WideShapes Go.ChangeAt Go.RowKit
set_option linter.unusedVariables false
set_option maxRecDepth 20000 in
set_option maxHeartbeats 1000000 in
theorem rfault_any (f : Fld) (last : Int) (a : Option Addr) (cap : Nat) (w : World) (hn : f.num ≤ 18446744073709551615) :
    Calls Try.prog 46 #[FV f.tag f.text f.num (.slice a f.bytes.length cap), .int .i64 last] w fun r w' => r = .returned (.int .i64 (flt f last : Int)) ∧ Below w.heap.size w w' := by
  obtain ⟨tag, text, num, bytes⟩ := f
  simp only at hn ⊢
  obtain ⟨L, hL⟩ : ∃ L, bytes.length = L := ⟨_, rfl⟩
  rw [hL]
  by_cases c1 : tag < 1
  · have HF : Hid (flt ⟨tag, text, num, bytes⟩ last = 20) := by show _ = _; unfold flt; rw [if_pos (.inl c1)]
    go_enter Try.func46, Try.ntmps46
    go_wp2
    go_ret
    exact ⟨by rw [HF.out]; rfl, (Below.refl _ _).alloc (Nat.le_refl _) _⟩
  by_cases c2 : 31 < tag
  · have HF : Hid (flt ⟨tag, text, num, bytes⟩ last = 20) := by show _ = _; unfold flt; rw [if_pos (.inr c2)]
    go_enter Try.func46, Try.ntmps46
    go_wp2
    go_ret
    exact ⟨by rw [HF.out]; rfl, (Below.refl _ _).alloc (Nat.le_refl _) _⟩
  have c12 : ¬ (tag < 1 ∨ 31 < tag) := by omega
  by_cases c3 : tag ≤ last
  · have HF : Hid (flt ⟨tag, text, num, bytes⟩ last = 21) := by show _ = _; unfold flt; rw [if_neg c12, if_pos c3]
    go_enter Try.func46, Try.ntmps46
    go_wp2
    go_ret
    exact ⟨by rw [HF.out]; rfl, (Below.refl _ _).alloc (Nat.le_refl _) _⟩
  cases text with
  | true =>
    by_cases c4 : L = 0
    · have HF : Hid (flt ⟨tag, true, num, bytes⟩ last = 22) := by show _ = _; unfold flt; rw [if_neg c12, if_neg c3, if_pos rfl, if_pos (List.length_eq_zero_iff.1 (hL.trans c4))]
      subst c4
      clear hL
      go_enter Try.func46, Try.ntmps46
      go_wp2
      go_ret
      exact ⟨by rw [HF.out]; rfl, (Below.refl _ _).alloc (Nat.le_refl _) _⟩
    have c4' : bytes ≠ [] := by intro h; subst h; simp at hL; omega
    by_cases c5 : 200 < L
    · have HF : Hid (flt ⟨tag, true, num, bytes⟩ last = 23) := by show _ = _; unfold flt; rw [if_neg c12, if_neg c3, if_pos rfl, if_neg c4', if_pos (by rw [hL]; exact c5)]
      clear hL
      go_enter Try.func46, Try.ntmps46
      go_wp2
      go_ret
      exact ⟨by rw [HF.out]; rfl, (Below.refl _ _).alloc (Nat.le_refl _) _⟩
    · have HF : Hid (flt ⟨tag, true, num, bytes⟩ last = 0) := by show _ = _; unfold flt; rw [if_neg c12, if_neg c3, if_pos rfl, if_neg c4', if_neg (by rw [hL]; exact c5)]
      clear hL
      go_enter Try.func46, Try.ntmps46
      go_wp2
      go_ret
      exact ⟨by rw [HF.out]; rfl, (Below.refl _ _).alloc (Nat.le_refl _) _⟩
  | false =>
    by_cases c4 : num = 0
    · have HF : Hid (flt ⟨tag, false, num, bytes⟩ last = 22) := by show _ = _; unfold flt; rw [if_neg c12, if_neg c3, if_neg (by simp), if_pos c4]
      subst c4
      clear hL
      go_enter Try.func46, Try.ntmps46
      go_wp2
      go_ret
      exact ⟨by rw [HF.out]; rfl, (Below.refl _ _).alloc (Nat.le_refl _) _⟩
    · have HF : Hid (flt ⟨tag, false, num, bytes⟩ last = 0) := by show _ = _; unfold flt; rw [if_neg c12, if_neg c3, if_neg (by simp), if_neg c4]
      clear hL
      go_enter Try.func46, Try.ntmps46
      go_wp2
      go_ret
      exact ⟨by rw [HF.out]; rfl, (Below.refl _ _).alloc (Nat.le_refl _) _⟩
theorem rencode_at (x : Int) (u : Nat) (hx : x = u) (w : World) (hu : u ≤ 18446744073709551615) :
    Calls Try.prog 39 #[.int .u64 x] w fun e w' => ∃ v, e = .returned v ∧ Own w' w.heap.size v (enc u) ∧ Below w.heap.size w w' := by
  subst hx
  exact renc_any 9 u w hu (lt_pow10 u hu)
end Go.Proofs.Ytfhcbdmmckjmaaa
