/- Own texts, joined: Rw1, Rw2, Rw3. -/
import Derived.Test.YtbpjlphjhjfdoaaGreatM27
import Derived.Test.YtbpjlphjhjfdoaaGreatM20
import Derived.Deep.AppendLies
import Derived.Test.YtbpjlphjhjfdoaaGreatM64
namespace Go.Proofs.YtbpjlphjhjfdoaaGreat
open Go.ChangeShapes Go.WideShapes Go.ChangeAt Go.RowKit
set_option linter.unusedVariables false
set_option linter.unusedSimpArgs false
def wstep (i pr q : Int) (st : List Ln × Bool) (l : Ln) : List Ln × Bool :=
  if l.item = i then (if 0 < l.qty + q then st.1 ++ [{ l with qty := l.qty + q }] else st.1, true)
  else if i < l.item then ((if st.2 = true then st.1 else st.1 ++ [⟨i, pr, q, 0⟩]) ++ [l], true)
  else (st.1 ++ [l], st.2)
def wpre (L : List Ln) (i pr q : Int) : List Ln × Bool := L.foldl (wstep i pr q) ([], false)
def wthL (L : List Ln) (i pr q : Int) : List Ln := if (wpre L i pr q).2 = true then (wpre L i pr q).1 else (wpre L i pr q).1 ++ [⟨i, pr, q, 0⟩]
theorem wpre_step (L : List Ln) (i pr q : Int) (k : Nat) (p : Ln) (h : L[k]? = some p) : wpre (L.take (k + 1)) i pr q = wstep i pr q (wpre (L.take k) i pr q) p := by
  unfold wpre
  rw [ln_take L k p h, List.foldl_append]
  rfl
theorem wstep_len (i pr q : Int) (st : List Ln × Bool) (l : Ln) : (wstep i pr q st l).1.length ≤ st.1.length + 2 := by
  unfold wstep
  repeat' split
  all_goals simp
theorem wpre_len (i pr q : Int) : ∀ (L : List Ln) (st : List Ln × Bool), (L.foldl (wstep i pr q) st).1.length ≤ st.1.length + 2 * L.length
  | [], st => by simp
  | l :: r, st => by
    have h1 := wpre_len i pr q r (wstep i pr q st l)
    have h2 := wstep_len i pr q st l
    show (r.foldl (wstep i pr q) (wstep i pr q st l)).1.length ≤ _
    simp only [List.length_cons]
    omega
theorem LnBk.new (w : World) (p : Ln) : LnBk (w.alloc (.cells (lnA p) 36)) w.heap.size p := heap_alloc_new w _
theorem wpList_append_ln {w : World} {ops : Array Oper} {rest : List Oper} {o : Oper} {a : Act} {Q : Exit → Act → World → Prop} (hgd : o.guard = none) (s x : Operand)
    (ho : o.op = .call { callee := .builtin .append, args := #[s, x], argTypes := #[23, 23] })
    (base : Nat) (v : Value) (L : List Ln) (hs : a.eval s = v) (hown : OwnL w base v L) (g : Nat) (p : Ln) (hx : a.eval x = .slice (some ⟨g, 0, none⟩) 1 1) (hb : LnBk w g p)
    (h63 : L.length ≤ 1000) (hbase : base ≤ w.heap.size)
    (h : ∀ v' w', OwnL w' base v' (L ++ [p]) → w.grownBy w' v.ownBlock → wpList Tryz.prog ops Q rest (a.put o.dst v') w') : wpList Tryz.prog ops Q (o :: rest) a w := by
  obtain ⟨i0, hi, hz0, hz1, hz2⟩ := info_parts Tryz.infoLn
  refine wpList_append_own w hgd s x _ ho base _ i0 _ 4 32 Tryz.underlying23 hi hz0 hz1 hz2 rfl (by decide) v L.length (lfl L) hs hown ⟨g, 0, none⟩ 1 1 [.int .i64 p.item, .int .i64 p.price, .int .i64 p.qty, .int .i64 p.shipped] hx rfl (fun j u hj => ?_) (fun u hu => ?_) (by unfold maxLen; omega) (by omega) hbase (fun v' w' h1 h2 _ => h v' w' (OwnL.snoc rfl h1) h2)
  · exact World.news_of_block hb j u hj
  · simp only [List.mem_cons, List.not_mem_nil, or_false] at hu
    rcases hu with rfl | rfl | rfl | rfl <;> rfl
structure Wi (w W : World) (s : St) (e : Ev) (a : Option Addr) (n cap : Nat) (v : Value) (L : List Ln) (x : World) : Prop where
  row : OwnL x W.heap.size v L
  bel : Below W.heap.size W x
theorem Wi.app {w W : World} {s : St} {e : Ev} {a : Option Addr} {n cap : Nat} {v v2 : Value} {L L2 : List Ln} {x y z : World} (h : Wi w W s e a n cap v L x) (hb : Below x.heap.size x y) (ho : OwnL z W.heap.size v2 L2) (hg : y.grownBy z v.ownBlock) : Wi w W s e a n cap v2 L2 z :=
  ⟨ho, grown_row (below_next h.bel hb) (h.row.keep hb) (Nat.le_trans h.bel.size hb.size) hg⟩
theorem lnbk_far {x y z : World} {base b : Nat} {v : Value} {L : List Ln} {p : Ln} (ho : OwnL x base v L) (hx : x.heap.size ≤ b) (hy : LnBk y b p) (hg : y.grownBy z v.ownBlock) : LnBk z b p := by
  refine (hg.block b hy.lt (fun hh => ?_)).trans hy
  have := (ho.ob b hh.symm).2.1
  omega
end Go.Proofs.YtbpjlphjhjfdoaaGreat
namespace Go.Proofs.YtbpjlphjhjfdoaaGreat
open Go.ChangeShapes Go.WideShapes Go.ChangeAt Go.RowKit
set_option linter.unusedVariables false
set_option linter.unusedSimpArgs false
theorem two_ln (x : World) (c : Array Value) (p : Ln) : LnBk ((x.alloc (.cells c 36)).alloc (.cells (lnA p) 36)) (x.heap.size + 1) p ∧ Below x.heap.size x ((x.alloc (.cells c 36)).alloc (.cells (lnA p) 36)) := by
  have h := LnBk.new (x.alloc (.cells c 36)) p
  refine ⟨by simpa using h, ((Below.refl _ _).alloc (Nat.le_refl _) _).alloc (by simp) _⟩
set_option maxRecDepth 20000 in
set_option maxHeartbeats 8000000 in
theorem rwith_any (s : St) (e : Ev) (q : Int) (a : Option Addr) (n cap : Nat) (w : World) (hn : s.lines.length = n) (hl : Lns w a s.lines) (h16 : n ≤ 16) (hq : ∀ (k : Nat) (p : Ln), s.lines[k]? = some p → 1 ≤ p.qty ∧ p.qty ≤ 100000) (hq1 : -10000 ≤ q) (hq2 : q ≤ 10000) :
    Calls Tryz.prog 16 #[.agg (stA s (.slice a n cap)), .agg (evA e), .int .i64 q] w fun r w' => ∃ v, r = .returned v ∧ OwnL w' w.heap.size v (wthL s.lines e.item e.price q) ∧ Below w.heap.size w w' := by
  obtain ⟨W, hW, HS⟩ := se_new w s e a n cap hl
  have HSH : Hid (SE w s e a n cap W) := HS
  have HN : Hid (s.lines.length = n) := hn
  have HQ : Hid (∀ (k : Nat) (p : Ln), s.lines[k]? = some p → 1 ≤ p.qty ∧ p.qty ≤ 100000) := hq
  have hbA : Below W.heap.size W (W.alloc (.cells #[] 36)) := (Below.refl _ _).alloc (Nat.le_refl _) _
  have c5 := (SE.keep HS hbA).st.cell 5 (.slice a n cap) rfl
  have HO0 : Hid (OwnL (W.alloc (.cells #[] 36)) W.heap.size (.slice (some ⟨W.heap.size, 0, none⟩) 0 0) []) := OwnL.lit W
  have HB0 : Hid (Below W.heap.size W (W.alloc (.cells #[] 36))) := hbA
  clear hn hl hq hbA HS
  go_enter Tryz.func16, Tryz.ntmps16
  go_wp2
  go_loopw [15, 7, 8] (fun vi vo vd wr => ∃ (k : Nat) (v0 : Value) (d : Bool), k ≤ n ∧ vi = .int .i64 k ∧ v0 = vo ∧ vd = .bool d ∧ Hid (Wi w W s e a n cap v0 (wpre (s.lines.take k) e.item e.price q).1 wr ∧ (wpre (s.lines.take k) e.item e.price q).2 = d)) (fun vi _ _ _ => n - (intOf vi).toNat)
  case atStart => exact ⟨0, _, false, Nat.zero_le _, rfl, rfl, rfl, ⟨HO0.out, HB0.out⟩, rfl⟩
  case round =>
    clear HO0 HB0 c5 hW
    obtain ⟨k, v0, d, hk, rfl, rfl, rfl, HI⟩ := hrel
    by_cases hkn : k < n
    · obtain ⟨p, hp⟩ := ln_get (L := s.lines) (k := k) (by rw [HN.out]; exact hkn)
      have hse := SE.keep HSH.out HI.out.1.bel
      obtain ⟨lb, lo, hla, hlt, q0, q1, q2, q3⟩ := hse.ln.cells k p hp
      have hstep := wpre_step s.lines e.item e.price q k p hp
      have hlen := wpre_len e.item e.price q (s.lines.take k) ([], false)
      obtain ⟨f1, f2⟩ := HQ.out k p hp
      obtain ⟨acc, hacc⟩ : ∃ acc, (wpre (s.lines.take k) e.item e.price q).1 = acc := ⟨_, rfl⟩
      have hlen2 : acc.length ≤ 900 := by
        rw [← hacc]
        have h1 : (s.lines.take k).length ≤ k := by rw [List.length_take]; omega
        unfold wpre
        simp only [List.length_nil] at hlen
        omega
      have hpr : wpre (s.lines.take k) e.item e.price q = (acc, d) := by rw [← hacc, ← HI.out.2]
      have HI1 := HI.out.1
      rw [hacc] at HI1
      rw [hpr] at hstep
      have HST : Hid (wpre (s.lines.take (k + 1)) e.item e.price q = wstep e.item e.price q (acc, d) p) := hstep
      have HW : Hid (Wi w W s e a n cap v0 acc wr) := HI1
      have c5 := hse.st.cell 5 (.slice a n cap) rfl
      rw [hla] at c5
      have hszW : W.heap.size ≤ wr.heap.size := HI1.bel.size
      have h2W : w.heap.size + 2 ≤ W.heap.size := HSH.out.ev.lt
      have hbx := SE.keep hse ((Below.refl wr.heap.size wr).alloc (Nat.le_refl _) (.cells #[.int .i64 p.item, .int .i64 p.price, .int .i64 p.qty, .int .i64 p.shipped] 36))
      have e2 := hbx.ev.cell 2 (.int .i64 e.item) rfl
      have e4 := hbx.ev.cell 4 (.int .i64 e.price) rfl
      have c5x := hbx.st.cell 5 (.slice a n cap) rfl
      have HSE : Hid (SE w s e a n cap wr) := hse
      have g3 : decide (0 < p.qty) = true := by simp; omega
      obtain ⟨hl1, hl2⟩ := two_ln wr #[.int .i64 p.item, .int .i64 p.price, .int .i64 p.qty, .int .i64 p.shipped] p
      have HL1 : Hid (LnBk ((wr.alloc (.cells #[.int .i64 p.item, .int .i64 p.price, .int .i64 p.qty, .int .i64 p.shipped] 36)).alloc (.cells #[.int .i64 p.item, .int .i64 p.price, .int .i64 p.qty, .int .i64 p.shipped] 36)) (wr.heap.size + 1) p) := hl1
      have HL2 : Hid (Below wr.heap.size wr ((wr.alloc (.cells #[.int .i64 p.item, .int .i64 p.price, .int .i64 p.qty, .int .i64 p.shipped] 36)).alloc (.cells #[.int .i64 p.item, .int .i64 p.price, .int .i64 p.qty, .int .i64 p.shipped] 36))) := hl2
      have hz1 : W.heap.size ≤ wr.heap.size + 2 := by omega
      clear HI hp hstep hlen hacc hpr HI1 hse hbx hl1 hl2 hla
      by_cases hlt2 : p.item < e.item
      · have g1 : decide (e.item < p.item) = false := by simp; omega
        have g2 : (p.item == e.item) = false := by simp; omega
        have HR : Hid (wstep e.item e.price q (acc, d) p = (acc ++ [p], d)) := by show _ = _; unfold wstep; rw [if_neg (by omega), if_neg (by omega)]
        clear hlt2
        cases d <;>
        · go_wp2_with (at_builtin; refine wpList_append_ln rfl _ _ rfl W.heap.size v0 acc rfl (HW.out.row.keep HL2.out) (wr.heap.size + 1) p rfl HL1.out (Nat.le_trans hlen2 (by decide)) (by simp; omega) ?_; intro v3 w3 ho3 hg3; have HW3 : Hid (Wi w W s e a n cap v3 (acc ++ [p]) w3) := Wi.app HW.out HL2.out ho3 hg3; clear ho3 hg3)
          go_roundw
          case rel => exact ⟨k + 1, _, _, by omega, by go_num, rfl, rfl, by rw [HST.out, HR.out]; exact HW3.out, by rw [HST.out, HR.out]⟩
          case measure => simp [intOf]; omega
      · by_cases heq : p.item = e.item
        · have g1 : decide (e.item < p.item) = false := by simp; omega
          have g2 : (p.item == e.item) = true := by simpa using heq
          obtain ⟨S, hS⟩ : ∃ S, p.qty + q = S := ⟨_, rfl⟩
          have hwS : wrap64 (p.qty + q) = S := by rw [hS]; unfold wrap64; omega
          have hwS2 : IntKind.i64.wrap (p.qty + q) = S := by rw [wrap_i64, hS]; omega
          by_cases hpos : 0 < S
          · have g4 : decide (0 < S) = true := by simpa using hpos
            have HR : Hid (wstep e.item e.price q (acc, d) p = (acc ++ [{ p with qty := S }], true)) := by show _ = _; unfold wstep; rw [if_pos heq, hS, if_pos hpos]
            obtain ⟨hl1, hl2⟩ := two_ln wr #[.int .i64 p.item, .int .i64 p.price, .int .i64 S, .int .i64 p.shipped] { p with qty := S }
            have HLS : Hid (LnBk ((wr.alloc (.cells #[.int .i64 p.item, .int .i64 p.price, .int .i64 S, .int .i64 p.shipped] 36)).alloc (.cells #[.int .i64 p.item, .int .i64 p.price, .int .i64 S, .int .i64 p.shipped] 36)) (wr.heap.size + 1) { p with qty := S }) := hl1
            have HLB : Hid (Below wr.heap.size wr ((wr.alloc (.cells #[.int .i64 p.item, .int .i64 p.price, .int .i64 S, .int .i64 p.shipped] 36)).alloc (.cells #[.int .i64 p.item, .int .i64 p.price, .int .i64 S, .int .i64 p.shipped] 36))) := hl2
            clear heq hlt2 hS hpos hl1 hl2 g3
            cases d <;>
            · go_wp2_with (at_builtin; refine wpList_append_ln rfl _ _ rfl W.heap.size v0 acc rfl (HW.out.row.keep HLB.out) (wr.heap.size + 1) { p with qty := S } rfl HLS.out (Nat.le_trans hlen2 (by decide)) (by simp; omega) ?_; intro v3 w3 ho3 hg3; have HW3 : Hid (Wi w W s e a n cap v3 (acc ++ [{ p with qty := S }]) w3) := Wi.app HW.out HLB.out ho3 hg3; clear ho3 hg3)
              go_roundw
              case rel => exact ⟨k + 1, _, _, by omega, by go_num, rfl, rfl, by rw [HST.out, HR.out]; exact HW3.out, by rw [HST.out, HR.out]⟩
              case measure => simp [intOf]; omega
          · have g4 : decide (0 < S) = false := by simpa using hpos
            have HR : Hid (wstep e.item e.price q (acc, d) p = (acc, true)) := by show _ = _; unfold wstep; rw [if_pos heq, hS, if_neg hpos]
            have HLB : Hid (Below wr.heap.size wr (wr.alloc (.cells #[.int .i64 p.item, .int .i64 p.price, .int .i64 S, .int .i64 p.shipped] 36))) := (Below.refl _ _).alloc (Nat.le_refl _) _
            clear heq hlt2 hS hpos g3
            cases d <;>
            · go_wp2
              go_roundw
              case rel => exact ⟨k + 1, _, _, by omega, by go_num, rfl, rfl, by rw [HST.out, HR.out]; exact ⟨HW.out.row.keep HLB.out, below_next HW.out.bel HLB.out⟩, by rw [HST.out, HR.out]⟩
              case measure => simp [intOf]; omega
        · have g1 : decide (e.item < p.item) = true := by simp; omega
          have g2 : (p.item == e.item) = false := by simpa using heq
          cases d with
          | true =>
            have HR : Hid (wstep e.item e.price q (acc, true) p = (acc ++ [p], true)) := by show _ = _; unfold wstep; rw [if_neg heq, if_pos (by omega)]; rfl
            clear heq hlt2
            go_wp2_with (at_builtin; refine wpList_append_ln rfl _ _ rfl W.heap.size v0 acc rfl (HW.out.row.keep HL2.out) (wr.heap.size + 1) p rfl HL1.out (Nat.le_trans hlen2 (by decide)) (by simp; omega) ?_; intro v3 w3 ho3 hg3; have HW3 : Hid (Wi w W s e a n cap v3 (acc ++ [p]) w3) := Wi.app HW.out HL2.out ho3 hg3; clear ho3 hg3)
            go_roundw
            case rel => exact ⟨k + 1, _, _, by omega, by go_num, rfl, rfl, by rw [HST.out, HR.out]; exact HW3.out, by rw [HST.out, HR.out]⟩
            case measure => simp [intOf]; omega
          | false =>
            have HR : Hid (wstep e.item e.price q (acc, false) p = ((acc ++ [⟨e.item, e.price, q, 0⟩]) ++ [p], true)) := by show _ = _; unfold wstep; rw [if_neg heq, if_pos (by omega)]; rfl
            obtain ⟨hl1, hl2⟩ := two_ln wr #[.int .i64 p.item, .int .i64 p.price, .int .i64 p.qty, .int .i64 p.shipped] ⟨e.item, e.price, q, 0⟩
            have HLN : Hid (LnBk ((wr.alloc (.cells #[.int .i64 p.item, .int .i64 p.price, .int .i64 p.qty, .int .i64 p.shipped] 36)).alloc (.cells #[.int .i64 e.item, .int .i64 e.price, .int .i64 q, .int .i64 0] 36)) (wr.heap.size + 1) ⟨e.item, e.price, q, 0⟩) := hl1
            have HLB : Hid (Below wr.heap.size wr ((wr.alloc (.cells #[.int .i64 p.item, .int .i64 p.price, .int .i64 p.qty, .int .i64 p.shipped] 36)).alloc (.cells #[.int .i64 e.item, .int .i64 e.price, .int .i64 q, .int .i64 0] 36))) := hl2
            have HPB : Hid (LnBk ((wr.alloc (.cells #[.int .i64 p.item, .int .i64 p.price, .int .i64 p.qty, .int .i64 p.shipped] 36)).alloc (.cells #[.int .i64 e.item, .int .i64 e.price, .int .i64 q, .int .i64 0] 36)) wr.heap.size p) := (LnBk.new wr p).after ((Below.refl _ _).alloc (Nat.le_refl _) _)
            have T1 : Hid True := trivial
            clear heq hlt2 hl1 hl2
            go_wp2_with (first
              | (at_builtin; clear T1; refine wpList_append_ln rfl _ _ rfl W.heap.size v0 acc rfl (HW.out.row.keep HLB.out) (wr.heap.size + 1) ⟨e.item, e.price, q, 0⟩ rfl HLN.out (Nat.le_trans hlen2 (by decide)) (by simp; omega) ?_; intro v3 w3 ho3 hg3; have HW3 : Hid (Wi w W s e a n cap v3 (acc ++ [⟨e.item, e.price, q, 0⟩]) w3) := Wi.app HW.out HLB.out ho3 hg3; have hpb3 : LnBk w3 wr.heap.size p := lnbk_far HW.out.row (Nat.le_refl _) HPB.out hg3; have b0 := hpb3.cell 0 (.int .i64 p.item) rfl; have b1 := hpb3.cell 1 (.int .i64 p.price) rfl; have b2 := hpb3.cell 2 (.int .i64 p.qty) rfl; have b3 := hpb3.cell 3 (.int .i64 p.shipped) rfl; have e23 := (SE.keep HSH.out HW3.out.bel).ev.cell 2 (.int .i64 e.item) rfl; have HL3L : Hid ((acc ++ [(⟨e.item, e.price, q, 0⟩ : Ln)]).length ≤ 1000) := (by show _ ≤ _; rw [List.length_append, List.length_singleton]; omega); have HL3 : Hid (LnBk (w3.alloc (.cells #[.int .i64 p.item, .int .i64 p.price, .int .i64 p.qty, .int .i64 p.shipped] 36)) w3.heap.size p) := LnBk.new w3 p; have HB3 : Hid (Below w3.heap.size w3 (w3.alloc (.cells #[.int .i64 p.item, .int .i64 p.price, .int .i64 p.qty, .int .i64 p.shipped] 36))) := (Below.refl _ _).alloc (Nat.le_refl _) _; have hz3 : W.heap.size ≤ w3.heap.size := HW3.out.bel.size; clear ho3 hg3 hpb3)
              | (at_builtin; refine wpList_append_ln rfl _ _ rfl W.heap.size v3 (acc ++ [(⟨e.item, e.price, q, 0⟩ : Ln)]) rfl (HW3.out.row.keep HB3.out) w3.heap.size p rfl HL3.out HL3L.out (by simp; omega) ?_; intro v4 w4 ho4 hg4; have HW4 : Hid (Wi w W s e a n cap v4 ((acc ++ [⟨e.item, e.price, q, 0⟩]) ++ [p]) w4) := Wi.app HW3.out HB3.out ho4 hg4; clear ho4 hg4))
            go_roundw
            case rel => exact ⟨k + 1, _, _, by omega, by go_num, rfl, rfl, by rw [HST.out, HR.out]; exact HW4.out, by rw [HST.out, HR.out]⟩
            case measure => simp [intOf]; omega
    · obtain rfl : k = n := by omega
      obtain ⟨hwi, hd⟩ := HI.out
      rw [List.take_of_length_le (by rw [HN.out]; exact Nat.le_refl _)] at hwi hd
      have hse := SE.keep HSH.out hwi.bel
      have e2 := hse.ev.cell 2 (.int .i64 e.item) rfl
      have e4 := hse.ev.cell 4 (.int .i64 e.price) rfl
      have hlen := wpre_len e.item e.price q s.lines ([], false)
      obtain ⟨acc, hacc⟩ : ∃ acc, (wpre s.lines e.item e.price q).1 = acc := ⟨_, rfl⟩
      have hlen2 : acc.length ≤ 900 := by
        rw [← hacc]
        unfold wpre
        simp only [List.length_nil, HN.out] at hlen
        omega
      rw [hacc] at hwi
      have HW : Hid (Wi w W s e a k cap v0 acc wr) := ⟨hwi.row, hwi.bel⟩
      have HBW : Hid (Below w.heap.size w W) := HSH.out.bel
      have hszW : W.heap.size ≤ wr.heap.size := hwi.bel.size
      cases d with
      | true =>
        have HR : Hid (wthL s.lines e.item e.price q = acc) := by show _ = _; unfold wthL; rw [hd, if_pos rfl, hacc]
        clear HI hwi hd hse hlen hacc
        go_wp2
        go_ret
        exact ⟨_, rfl, by rw [HR.out]; exact HW.out.row.mono HBW.out.size, below_next HBW.out HW.out.bel⟩
      | false =>
        have HR : Hid (wthL s.lines e.item e.price q = acc ++ [⟨e.item, e.price, q, 0⟩]) := by show _ = _; unfold wthL; rw [hd, if_neg (by decide), hacc]
        have HLN : Hid (LnBk (wr.alloc (.cells #[.int .i64 e.item, .int .i64 e.price, .int .i64 q, .int .i64 0] 36)) wr.heap.size ⟨e.item, e.price, q, 0⟩) := LnBk.new wr ⟨e.item, e.price, q, 0⟩
        have HLB : Hid (Below wr.heap.size wr (wr.alloc (.cells #[.int .i64 e.item, .int .i64 e.price, .int .i64 q, .int .i64 0] 36))) := (Below.refl _ _).alloc (Nat.le_refl _) _
        clear HI hwi hd hse hlen hacc
        go_wp2_with (at_builtin; refine wpList_append_ln rfl _ _ rfl W.heap.size v0 acc rfl (HW.out.row.keep HLB.out) wr.heap.size ⟨e.item, e.price, q, 0⟩ rfl HLN.out (Nat.le_trans hlen2 (by decide)) (by simp; omega) ?_; intro v3 w3 ho3 hg3; have HW3 : Hid (Wi w W s e a k cap v3 (acc ++ [⟨e.item, e.price, q, 0⟩]) w3) := Wi.app HW.out HLB.out ho3 hg3; clear ho3 hg3)
        go_ret
        exact ⟨_, rfl, by rw [HR.out]; exact HW3.out.row.mono HBW.out.size, below_next HBW.out HW3.out.bel⟩
end Go.Proofs.YtbpjlphjhjfdoaaGreat
namespace Go.Proofs.YtbpjlphjhjfdoaaGreat
open Go.ChangeShapes Go.WideShapes Go.ChangeAt Go.RowKit
set_option linter.unusedVariables false
set_option linter.unusedSimpArgs false
theorem w_tail (i pr q : Int) : ∀ (L acc : List Ln), (∀ l ∈ L, i < l.item) → L.foldl (wstep i pr q) (acc, true) = (acc ++ L, true)
  | [], acc, h => by simp
  | l :: r, acc, h => by
    have hl := h l (by simp)
    show r.foldl (wstep i pr q) (wstep i pr q (acc, true) l) = _
    have h1 : wstep i pr q (acc, true) l = (acc ++ [l], true) := by
      unfold wstep
      rw [if_neg (by omega), if_pos hl]
      rfl
    rw [h1, w_tail i pr q r (acc ++ [l]) (fun x hx => h x (by simp [hx]))]
    simp
theorem w_head (i pr q : Int) (d : Bool) : ∀ (L acc : List Ln), (∀ l ∈ L, l.item < i) → L.foldl (wstep i pr q) (acc, d) = (acc ++ L, d)
  | [], acc, h => by simp
  | l :: r, acc, h => by
    have hl := h l (by simp)
    show r.foldl (wstep i pr q) (wstep i pr q (acc, d) l) = _
    have h1 : wstep i pr q (acc, d) l = (acc ++ [l], d) := by
      unfold wstep
      rw [if_neg (by omega), if_neg (by omega)]
    rw [h1, w_head i pr q d r (acc ++ [l]) (fun x hx => h x (by simp [hx]))]
    simp
theorem take_low {L : List Ln} {i : Int} : ∀ l ∈ L.take (lbI L i), l.item < i := by
  intro l hl
  obtain ⟨k, hk⟩ := List.mem_iff_getElem?.1 hl
  rw [List.getElem?_take] at hk
  split at hk
  · rename_i h; exact lbI_lt L i k l h hk
  · cases hk
theorem drop_high {L : List Ln} {i : Int} (h : linesFrom (-1) L = true) : ∀ l ∈ L.drop (lbI L i + 1), i < l.item := by
  intro l hl
  obtain ⟨k, hk⟩ := List.mem_iff_getElem?.1 hl
  rw [List.getElem?_drop] at hk
  have h1 := lbI_ge L (-1) i _ l h (by omega) hk
  by_cases h2 : l.item = i
  · have := (at_here L (-1) i _ l h hk h2).2; omega
  · omega
theorem wpre_split (L : List Ln) (i pr q : Int) : wpre L i pr q = (L.drop (lbI L i)).foldl (wstep i pr q) (L.take (lbI L i), false) := by
  unfold wpre
  conv => lhs; rw [← List.take_append_drop (lbI L i) L]
  rw [List.foldl_append, w_head i pr q false _ [] take_low]
  simp
theorem wth_some {L : List Ln} {i pr q : Int} {p : Ln} (h : linesFrom (-1) L = true) (hp : lnAt L i = some p) : wthL L i pr q = if 0 < p.qty + q then L.set (lbI L i) { p with qty := p.qty + q } else L.eraseIdx (lbI L i) := by
  obtain ⟨g1, g2⟩ := lnAt_some hp
  have hlt := ln_lt g1
  have hw : wpre L i pr q = (L.take (lbI L i) ++ (if 0 < p.qty + q then [{ p with qty := p.qty + q }] else []) ++ L.drop (lbI L i + 1), true) := by
    rw [wpre_split, ln_drop L _ p g1]
    show (L.drop (lbI L i + 1)).foldl (wstep i pr q) (wstep i pr q (L.take (lbI L i), false) p) = _
    have h1 : wstep i pr q (L.take (lbI L i), false) p = (L.take (lbI L i) ++ (if 0 < p.qty + q then [{ p with qty := p.qty + q }] else []), true) := by
      unfold wstep
      rw [if_pos g2]
      split <;> simp
    rw [h1, w_tail i pr q _ _ (drop_high h)]
  unfold wthL
  rw [hw, if_pos rfl]
  split
  · rw [List.set_eq_take_append_cons_drop, if_pos hlt]
    simp
  · rw [List.eraseIdx_eq_take_drop_succ]
    simp
theorem wth_none {L : List Ln} {i pr q : Int} (h : linesFrom (-1) L = true) (hp : lnAt L i = none) : wthL L i pr q = L.take (lbI L i) ++ ⟨i, pr, q, 0⟩ :: L.drop (lbI L i) := by
  by_cases hlt : lbI L i < L.length
  · obtain ⟨p, g1⟩ := ln_get hlt
    have h2 : i < p.item := by
      have h3 := lbI_ge L (-1) i _ p h (Nat.le_refl _) g1
      have h4 := lnAt_none hp p g1
      omega
    have hw : wpre L i pr q = (L.take (lbI L i) ++ [⟨i, pr, q, 0⟩] ++ [p] ++ L.drop (lbI L i + 1), true) := by
      rw [wpre_split, ln_drop L _ p g1]
      show (L.drop (lbI L i + 1)).foldl (wstep i pr q) (wstep i pr q (L.take (lbI L i), false) p) = _
      have h1 : wstep i pr q (L.take (lbI L i), false) p = (L.take (lbI L i) ++ [⟨i, pr, q, 0⟩] ++ [p], true) := by
        unfold wstep
        rw [if_neg (by omega), if_pos h2]
        rfl
      rw [h1, w_tail i pr q _ _ (drop_high h)]
    unfold wthL
    rw [hw, if_pos rfl]
    rw [ln_drop L _ p g1]
    simp
  · have hw : wpre L i pr q = (L.take (lbI L i), false) := by
      rw [wpre_split, List.drop_of_length_le (by omega)]
      rfl
    unfold wthL
    rw [hw, if_neg (by simp), List.drop_of_length_le (by omega)]
theorem wth_add {L : List Ln} {e : Ev} (h : linesB L = true) (hq : 1 ≤ e.qty) : wthL L e.item e.price e.qty = addL L e := by
  have hf := (linesB_from h).2
  unfold addL
  cases hp : lnAt L e.item with
  | none => exact wth_none hf hp
  | some p =>
    rw [wth_some hf hp, if_pos]
    have := (linesB_facts h).2 _ _ (lnAt_some hp).1
    omega
theorem wth_drop {L : List Ln} {e : Ev} {p : Ln} (h : linesB L = true) (hp : lnAt L e.item = some p) (hq : e.qty ≤ p.qty) : wthL L e.item e.price (0 - e.qty) = dropL L e := by
  have hf := (linesB_from h).2
  unfold dropL
  rw [hp, wth_some hf hp]
  by_cases h0 : p.qty - e.qty = 0
  · rw [if_neg (by omega)]
    simp only [h0, if_true]
  · rw [if_pos (by omega)]
    simp only [h0, if_false]
    rw [show p.qty + (0 - e.qty) = p.qty - e.qty from by omega]
end Go.Proofs.YtbpjlphjhjfdoaaGreat
