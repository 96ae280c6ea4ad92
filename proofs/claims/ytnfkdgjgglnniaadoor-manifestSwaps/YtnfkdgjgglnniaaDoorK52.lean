/- Own texts, joined: Fsl. -/
import Derived.Test.YtnfkdgjgglnniaaDoorK50
import Derived.Test.YtnfkdgjgglnniaaDoorK51
import Derived.Test.YtnfkdgjgglnniaaDoorShelf
namespace Go.Proofs.YtnfkdgjgglnniaaDoor
open Go.ChangeShapes Go.WideShapes Go.ChangeAt Go.RowKit Go.Maps Go.Sort
set_option linter.unusedVariables false
set_option linter.unusedSimpArgs false
/-- a row of texts of one's own -/
def OwnT (w : World) (base : Nat) (v : Value) (L : List (List UInt8)) : Prop := w.ownsRow base 9 1 v L.length (L.map encStr)
theorem OwnT.keep {w w' : World} {base : Nat} {v : Value} {L : List (List UInt8)} (h : OwnT w base v L) (hb : Below w.heap.size w w') : OwnT w' base v L := by
  refine ⟨h.1, ?_⟩
  rcases h.2 with h1 | ⟨g, cap, cur, h1, h2, h3, h4⟩
  · exact .inl h1
  · exact .inr ⟨g, cap, cur, h1, h2, (hb.block g (lt_of_heap h3)).trans h3, h4⟩
theorem OwnT.lower {w : World} {b0 b1 : Nat} {v : Value} {L : List (List UInt8)} (h : OwnT w b1 v L) (hb : b0 ≤ b1) : OwnT w b0 v L := by
  refine ⟨h.1, ?_⟩
  rcases h.2 with h1 | ⟨g, cap, cur, h1, h2, h3⟩
  · exact .inl h1
  · exact .inr ⟨g, cap, cur, h1, Nat.le_trans hb h2, h3⟩
theorem ownT_nil (w : World) (b0 : Nat) : OwnT w b0 (.slice none 0 0) [] := ⟨rfl, .inl ⟨rfl, rfl⟩⟩
theorem Tryd.infoStr : (Tryd.prog.info? 9).map (fun i => (i.zero, i.size, i.bytes)) = some (some (.string ⟨#[]⟩), 1, 16) := by kernel_rfl
structure SoR (w wr : World) (b r n : Nat) (M : DataW Value) (left : Lit → Bool) (cnt : Nat) (ss : List (List UInt8)) (v : Value) : Prop where
  rng : wr.ranges Tryd.prog 9 hvS b r n M left cnt
  col : Collected M left ss
  row : wr.ownsRow w.heap.size 9 1 v ss.length (ss.map encStr)
  nn : v ≠ .slice none 0 0
  low : Below w.heap.size w wr
  cap : ss.length + cnt ≤ Maps.size M
theorem sor_step {w wr w1 x2 : World} {b r n cnt cnt1 : Nat} {M : DataW Value} {left : Lit → Bool} {ss : List (List UInt8)} {v v' : Value} {t : List UInt8} {y : DataW Value} (h : SoR w wr b r n M left cnt ss v) (hbw : b < w.heap.size) (hrw : w.heap.size ≤ r)
    (hrg : w1.ranges Tryd.prog 9 hvS b r n M (fun z => left z && !z.sameKey (.string t)) cnt1) (hlt : cnt1 < cnt) (hg1 : wr.grownBy w1 (some r)) (hlk : left (.string t) = true) (hat : ∀ zd, M.atKey (.string t) zd = y)
    (ho : x2.ownsRow w.heap.size 9 1 v' (ss.length + 1) (ss.map encStr ++ [.string (bs t)])) (hg2 : (w1.alloc (.cells #[.string (bs t)] 9)).grownBy x2 v.ownBlock) (hn : v' ≠ .slice none 0 0) : SoR w x2 b r n M (fun z => left z && !z.sameKey (.string t)) cnt1 (ss ++ [t]) v' := by
  have hbl := hrg.owns.lt
  have hrl := hrg.lt
  have hne1 : some r ≠ v.ownBlock := row_ne_iter h.row h.rng
  have hne2 : some b ≠ v.ownBlock := row_ne_low h.row hbw
  have hk : ∀ k, k < w1.heap.size → some k ≠ v.ownBlock → x2.heap[k]? = w1.heap[k]? := fun k hk hne => (hg2.block k (by rw [World.size_alloc]; omega) hne).trans (Below.heap_alloc _ _ k hk)
  refine ⟨ranges_same hrg (hk b hbl hne2) (hk r hrl hne1), h.col.step hlk hat, ?_, hn, ?_, by simp; have := h.cap; omega⟩
  · rw [List.map_append, List.length_append]; exact ho
  · have hb1 : Below w.heap.size w w1 := h.low.grown hg1 h.low.size (fun j hj => by cases hj; exact hrw)
    exact (hb1.alloc hb1.size _).grown hg2 (by rw [World.size_alloc]; have := hb1.size; omega) (fun j hj => (h.row.lt j hj).1)
theorem sor_own {w wr w1 : World} {b r n cnt : Nat} {M : DataW Value} {left : Lit → Bool} {ss : List (List UInt8)} {v : Value} {t : List UInt8} (h : SoR w wr b r n M left cnt ss v) (hg1 : wr.grownBy w1 (some r)) : (w1.alloc (.cells #[.string (bs t)] 9)).ownsRow w.heap.size 9 1 v ss.length (ss.map encStr) := by
  refine ⟨h.row.1, ?_⟩
  have hne := row_ne_iter h.row h.rng
  rcases h.row.2 with h1 | ⟨g, cap, cur, h1, h2, h3, h4⟩
  · exact .inl h1
  · have hgl := lt_of_heap h3
    refine .inr ⟨g, cap, cur, h1, h2, ?_, h4⟩
    rw [h1] at hne
    rw [Below.heap_alloc _ _ g (Nat.lt_of_lt_of_le hgl hg1.size), hg1.block g hgl (fun e => hne (by cases e; rfl))]
    exact h3
set_option maxRecDepth 100000 in
set_option maxHeartbeats 4000000 in
theorem sorted_any (w : World) (base q b : Nat) (D : Dk) (h : DkAt w base q b D) (hfew : D.fs.length ≤ 700) :
    Calls Tryd.prog 27 #[.pointer (some ⟨q, 0, none⟩)] w fun r w' => ∃ v, r = .returned v ∧ OwnT w' w.heap.size v (namesN D.fs) ∧ Below w.heap.size w w' := by
  obtain ⟨i0, hi, hz0, hz1, hz2⟩ := info_parts Tryd.infoStr
  obtain ⟨M, hm, hr⟩ := h.map
  have c1 := h.cells.2.1
  have hlen0 : ∀ ty, (Builtin.len_ #[46] ty #[.map (some b)]).run Tryd.prog w = .ok (.int .i64 (D.fs.length : Nat)) w := fun ty => len_mapS h ty
  have HR : Hid (RepN M D.fs) := hr
  have HS : Hid (SortN D.fs) := h.srt
  have HD : Hid (DkAt w base q b D) := h
  obtain ⟨n, hn⟩ : ∃ n, D.fs.length = n := ⟨_, rfl⟩
  rw [hn] at hm hlen0 hfew
  have hlen := hlen0
  have hn0 : (0 : Int) ≤ (n : Int) := by omega
  have HFN : Hid (n ≤ 700 ∧ D.fs.length = n) := ⟨hfew, hn⟩
  have HM : Hid (w.ownsMap Tryd.prog 9 hvS b n M) := hm
  have HSZ : Hid (Maps.size M = n) := by show _ = _; rw [hr.sz, hn]
  have HQ : Hid (q < w.heap.size ∧ b < w.heap.size) := h.lt
  clear hn hm hr h hlen0
  go_enter Tryd.func27, Tryd.ntmps27
  go_wp2_with (first
    | (at_make; refine wpList_make_own _ rfl _ _ 56 rfl w.heap.size 9 i0 (.string ⟨#[]⟩) 1 Tryd.underlying56 hi hz0 hz1 _ _ _ n rfl rfl rfl (by rw [hz2]; omega) (by unfold maxLen; omega) (Nat.le_refl _) ?_; intro w1 ho1 hg1; have HB1 : Hid (Below w.heap.size w w1) := (Below.refl _ _).grown hg1 (Nat.le_refl _) (fun j hj => by cases hj); have HO1 : Hid (_) := ho1; have cq1 := (HD.out.keep HB1.out).cells.2.1; have HM1 : Hid (w1.ownsMap Tryd.prog 9 hvS b n M) := owns_sameS HM.out (HB1.out.block b HQ.out.2); clear ho1 hg1)
    | (at_range; refine wpList_range_own _ rfl _ 46 rfl 9 60 fs_keyed Tryd.underlying46 _ b n _ rfl HM1.out ?_; intro w0 hrg0 hg0 hs0; have HRG0 : Hid (w0.ranges Tryd.prog 9 hvS b w1.heap.size n M _ _) := hrg0; have HG0 : Hid (w1.grownBy w0 none) := hg0; clear hrg0 hg0 hs0)
    | go_in)
  go_loopw [3] (fun v3 wr => ∃ (left : Lit → Bool) (cnt : Nat) (ss : List (List UInt8)) (g cp : Nat), v3 = .slice (some ⟨g, 0, none⟩) ss.length cp ∧ Hid (SoR w wr b w1.heap.size n M left cnt ss v3))
    (fun _ wr => wr.rangeLeft b w1.heap.size)
  case atStart =>
    refine ⟨_, _, [], w.heap.size, n, rfl, ⟨HRG0.out, Collected.start _, ?_, by simp, HB1.out.grown HG0.out HB1.out.size (fun j hj => by cases hj), ?_⟩⟩
    · exact ⟨rfl, by
        rcases HO1.out.2 with h1 | ⟨g, cap, cur, h1, h2, h3, h4⟩
        · exact absurd h1.1 (by simp)
        · exact .inr ⟨g, cap, cur, h1, h2, (HG0.out.block g (lt_of_heap h3) (by simp)).trans h3, h4⟩⟩
    · simp
  case round =>
    obtain ⟨left, cnt, ss, g, cp, hv3, HSR⟩ := hrel
    subst hv3
    have HSL : Hid (ss.length + cnt ≤ 700) := by have h1 := HSR.out.cap; rw [HSZ.out] at h1; have := HFN.out.1; show _ ≤ _; omega
    obtain ⟨m, hm⟩ : ∃ m, ss.length = m := ⟨_, rfl⟩
    have HMS : Hid (ss.length = m) := hm
    rw [hm] at HSR ⊢
    clear hm
    go_wp2_with (first
      | (at_next; refine wpList_next_ranges _ rfl _ rfl 9 fs_keyed hvS (fun l : List UInt8 => Value.string (bs l)) id (fun key kl hk => by obtain ⟨t, h1, _⟩ := keyS_inv hk; exact ⟨t, h1⟩) (fun v y _ => ⟨v, rfl⟩) b w1.heap.size n _ _ _ rfl HSR.out.rng ?_ ?_)
      | go_in)
    · intro hc0 hl0
      have HP : Hid (ss.Perm (namesN D.fs)) := by
        have h1 := HSR.out.col.perm HSR.out.rng.owns fs_keyed Tryd.underlying9 hl0
        exact h1.trans (repN_keys HR.out HS.out HSR.out.rng.owns).symm
      obtain ⟨cap, cur, hcp, hbase, hb, h1, h2, h3, h4⟩ : ∃ cap cur, cp = cap ∧ w.heap.size ≤ g ∧ wr.heap[g]? = some (.cells cur 9 (0, 0)) ∧ ss.length ≤ cap ∧ cap ≤ maxLen ∧ cur.size = cap * 1 ∧ cur.toList.take (ss.length * 1) = ss.map encStr := by
        rcases HSR.out.row.2 with ⟨h0, _⟩ | ⟨g', cap, cur, h1, h2, h3⟩
        · cases h0
        · cases h1; exact ⟨_, cur, rfl, h2, h3⟩
      subst hcp
      have HC := Tryd.sort_Strings g 0 cp ss wr (holds_of_block hb (by simpa using h4)) (lt_of_heap hb) (by have := HSL.out; omega)
      rw [sort_names HS.out HP.out, HMS.out] at HC
      have HCC : Hid (Calls Tryd.prog 43 #[.slice (some ⟨g, 0, none⟩) m cp] wr fun e w' => e = .returned (.tuple #[]) ∧ ∃ n os, w' = Go.Sort.grow (Go.Sort.putRow encStr (Sort.ahead wr n) g 0 (namesN D.fs).toArray) os) := HC
      have HL : Hid (ss.length = (namesN D.fs).length) := HP.out.length_eq
      have HOS : Hid (∀ nn os, OwnT (Go.Sort.grow (Go.Sort.putRow encStr (Sort.ahead wr nn) g 0 (namesN D.fs).toArray) os) w.heap.size (.slice (some ⟨g, 0, none⟩) m cp) (namesN D.fs) ∧ Below w.heap.size w (Go.Sort.grow (Go.Sort.putRow encStr (Sort.ahead wr nn) g 0 (namesN D.fs).toArray) os)) := fun nn os => by
        refine ⟨?_, HSR.out.low.grown (grownBy_sorted _) HSR.out.low.size (fun j hj => by cases hj; exact hbase)⟩
        have h9 := ownsRow_sorted (n := nn) (os := os) HL.out.symm hbase hb h1 h2 h3
        unfold OwnT
        rw [← HL.out]
        rw [HMS.out] at h9 ⊢
        exact h9
      clear hc0 hl0 HC hbase hb h1 h2 h3 h4 hlen hfew hn0 hi hz0 hz1 hz2 c1 cq1 HG0 HRG0 HO1
      go_wp2_with (first
        | (go_at_call 43; refine HCC.out.mono ?_; rintro _ x6 ⟨rfl, nn, os, hx6⟩; have HX6 : Hid (x6 = Go.Sort.grow (Go.Sort.putRow encStr (Sort.ahead wr nn) g 0 (namesN D.fs).toArray) os) := hx6; clear hx6)
        | go_in)
      go_ret
      rw [HX6.out]
      exact ⟨_, rfl, (HOS.out nn os).1, (HOS.out nn os).2⟩
    · intro x c kl yd yp w2 cnt2 hkl hlx hy hat hrg1 hlt hg1 hs1 hen
      obtain ⟨t, e1, e2⟩ := keyS_inv hkl
      subst e2
      have et : x = t := by simpa using e1
      subst et
      have how0 := sor_own (t := x) HSR.out hg1
      rw [HMS.out] at how0
      have HOW : Hid ((w2.alloc (.cells #[.string (bs x)] 9)).ownsRow w.heap.size 9 1 (.slice (some ⟨g, 0, none⟩) m cp) m (ss.map encStr)) := how0
      have HST : Hid (∀ (x2 : World) (v' : Value), x2.ownsRow w.heap.size 9 1 v' (m + 1) (ss.map encStr ++ [.string (bs x)]) → (w2.alloc (.cells #[.string (bs x)] 9)).grownBy x2 (Value.slice (some ⟨g, 0, none⟩) m cp).ownBlock → v' ≠ .slice none 0 0 → SoR w x2 b w1.heap.size n M (fun z => left z && !z.sameKey (.string x)) cnt2 (ss ++ [x]) v') := fun x2 v' ho hg2 hn => sor_step (x2 := x2) (v' := v') HSR.out HQ.out.2 HB1.out.size hrg1 hlt hg1 hlx hat (by rw [HMS.out]; exact ho) hg2 hn
      have HBL : Hid (w.heap.size ≤ w2.heap.size) := Nat.le_trans HSR.out.low.size hg1.size
      have HRL : Hid (wr.rangeLeft b w1.heap.size = cnt) := HSR.out.rng.left_eq
      have HLT : Hid (cnt2 < cnt) := hlt
      have HNEW : Hid (∀ j u, [Value.string (bs x)][j]? = some u → (w2.alloc (.cells #[.string (bs x)] 9)).cell? ((⟨w2.heap.size, 0, none⟩ : Addr).add j) = some u) := fun j u hj => by
        cases j with
        | zero => simp only [List.getElem?_cons_zero, Option.some.injEq] at hj; subst hj; rw [show (⟨w2.heap.size, 0, none⟩ : Addr).add 0 = ⟨w2.heap.size, 0, none⟩ from rfl, cell_of_row _ _ 0 _ _ _ (heap_alloc_new w2 _)]; rfl
        | succ j => simp at hj
      clear hkl hlx hy hat hrg1 hlt hg1 hs1 e1 how0
      go_wp2_with (first
        | (at_builtin; refine wpList_append_own _ rfl _ _ 56 rfl w.heap.size 9 i0 (.string ⟨#[]⟩) 1 16 Tryd.underlying56 hi hz0 hz1 hz2 rfl (by decide) (.slice (some ⟨g, 0, none⟩) m cp) m (ss.map encStr) rfl HOW.out ⟨w2.heap.size, 0, none⟩ 1 1 [.string (bs x)] rfl rfl HNEW.out (by intro u hu; rw [List.mem_singleton.1 hu]; rfl) (by have := HSL.out; have := HMS.out; unfold maxLen; omega) (by have := HSL.out; have := HMS.out; omega) (by rw [World.size_alloc]; have := HBL.out; omega) ?_; intro v' x3 ho3 hg3 hn3; have hnn : v' ≠ .slice none 0 0 := (fun hv => by have := (hn3.1 hv).2; omega); obtain ⟨g3, c3, hv3⟩ : ∃ g3 c3, v' = .slice (some ⟨g3, 0, none⟩) (m + 1) c3 := (by rcases ho3.2 with ⟨h0, _⟩ | ⟨g', cap, cur, h1, _⟩; exact absurd h0 hnn; exact ⟨_, _, h1⟩); subst hv3; have HS3 : Hid (SoR w x3 b w1.heap.size n M (fun z => left z && !z.sameKey (.string x)) cnt2 (ss ++ [x]) (.slice (some ⟨g3, 0, none⟩) (m + 1) c3)) := HST.out x3 _ ho3 hg3 hnn; clear ho3 hg3 hn3 hnn)
        | go_in)
      go_roundw
      case rel => exact ⟨_, _, ss ++ [x], g3, c3, by rw [List.length_append, HMS.out]; rfl, HS3.out⟩
      case measure => rw [HS3.out.rng.left_eq, HRL.out]; exact HLT.out
end Go.Proofs.YtnfkdgjgglnniaaDoor
