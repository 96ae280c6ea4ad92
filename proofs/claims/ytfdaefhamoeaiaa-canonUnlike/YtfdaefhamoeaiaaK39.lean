/- Own texts, joined: Cn6. -/
import Derived.Test.YtfdaefhamoeaiaaK38
namespace Go.Proofs.Ytfdaefhamoeaiaa
open Go.ChangeShapes Go.WideShapes Go.ChangeAt Go.RowKit
set_option linter.unusedVariables false
def zeroL : Ln := ⟨0, 0, 0, 0⟩
/-- four numbers off a text: what is left, and one more before it .. -/
def rdK0 (a b c d : Int) (r : List Nat) : Ln × Bool := (⟨a, b, c, d⟩, r.isEmpty)
def rdK1 (a b c d : Int) (r : List Nat) : Ln × Bool := if (dec 0 0 r).2.2 ≠ 0 then (zeroL, false) else rdK0 a b c (capN (dec 0 0 r).1) (r.drop (dec 0 0 r).2.1)
def rdK2 (a b c d : Int) (r : List Nat) : Ln × Bool := if (dec 0 0 r).2.2 ≠ 0 then (zeroL, false) else rdK1 a b (capN (dec 0 0 r).1) d (r.drop (dec 0 0 r).2.1)
def rdK3 (a b c d : Int) (r : List Nat) : Ln × Bool := if (dec 0 0 r).2.2 ≠ 0 then (zeroL, false) else rdK2 a (capN (dec 0 0 r).1) c d (r.drop (dec 0 0 r).2.1)
def rdK4 (a b c d : Int) (r : List Nat) : Ln × Bool := if (dec 0 0 r).2.2 ≠ 0 then (zeroL, false) else rdK3 (capN (dec 0 0 r).1) b c d (r.drop (dec 0 0 r).2.1)
def rdK (f : Nat) (a b c d : Int) (r : List Nat) : Ln × Bool := if f = 0 then rdK0 a b c d r else if f = 1 then rdK1 a b c d r else if f = 2 then rdK2 a b c d r else if f = 3 then rdK3 a b c d r else rdK4 a b c d r
/-- what canon.readLine answers -/
def rdLn (l : List Nat) : Ln × Bool := rdK 4 0 0 0 0 l
def LnAt (w : World) (b : Nat) (p : Ln) : Prop := w.heap[b]? = some (.cells (lnA p) 46)
theorem LnAt.lt {w : World} {b : Nat} {p : Ln} (h : LnAt w b p) : b < w.heap.size := lt_of_heap h
theorem LnAt.after {w w' : World} {b : Nat} {p : Ln} (h : LnAt w b p) (hb : Below w.heap.size w w') : LnAt w' b p := (hb.block b h.lt).trans h
theorem LnAt.new (w : World) (p : Ln) : LnAt (w.alloc (.cells (lnA p) 46)) w.heap.size p := heap_alloc_new w _
theorem Try.infoL1 : (Try.prog.info? 46).map (·.size) = some 4 := by kernel_rfl
theorem LnAt.loadVar {w : World} {b : Nat} {p : Ln} (h : LnAt w b p) : (Go.loadVar 46 ⟨b, 0, none⟩).run Try.prog w = .ok (.agg (lnA p)) w :=
  run_loadVar_row _ _ _ _ _ _ _ h Try.underlying46 rfl Try.infoL1
theorem LnAt.load {w : World} {b : Nat} {p : Ln} (h : LnAt w b p) : (Instr.loadAt 46 (.pointer (some ⟨b, 0, none⟩))).run Try.prog w = .ok (.agg (lnA p)) w := by
  simp only [Instr.loadAt, Instr.sureAddr, Sem.run_bind, Sem.run_pure, Result.andThen_ok, h.loadVar]
theorem lnA_one (p : Ln) : (lnA p).all (·.oneCell') = true := by simp [lnA, Value.oneCell']
theorem LnAt.store {w : World} {b : Nat} {p : Ln} (h : LnAt w b p) (p2 : Ln) : ∃ w2, (Instr.storeAt 46 (.pointer (some ⟨b, 0, none⟩)) (.agg (lnA p2))).run Try.prog w = .ok () w2 ∧ LnAt w2 b p2 ∧ (∀ B a, Below B a w → B ≤ b → Below B a w2) ∧ (∀ k, k ≠ b → w2.heap[k]? = w.heap[k]?) ∧ w2.heap.size = w.heap.size := by
  refine ⟨w.setRow b (lnA p2), ?_, ?_, fun B a hb hB => below_setRow hb b _ hB, fun k hk => ?_, ?_⟩
  · simp only [Instr.storeAt, Instr.sureAddr, Sem.run_bind, Sem.run_pure, Result.andThen_ok, run_storeVar_row w b 46 46 (lnA p) (lnA p2) h Try.infoL1 rfl (lnA_one p2)]
  · unfold LnAt at h ⊢
    simp [World.setRow, Array.getElem?_modify, h]
  · simp only [World.setRow, Array.getElem?_modify]
    rw [if_neg (Ne.symm hk)]
  · simp [World.setRow]
theorem wpList_load_ln {ops : Array Oper} {rest : List Oper} {o : Oper} {a : Act} {w : World} {Q : Exit → Act → World → Prop} (hgd : o.guard = none) (x : Operand) (ho : o.op = .load 46 x)
    {b : Nat} {p : Ln} (hL : LnAt w b p) (hx : a.eval x = .pointer (some ⟨b, 0, none⟩)) (h : wpList Try.prog ops Q rest (a.put o.dst (.agg (lnA p))) w) : wpList Try.prog ops Q (o :: rest) a w :=
  wpList_plain hgd fun _ hK => by
    unfold Oper.wp execOp
    simp only [ho, hx, Sem.run_bind, Sem.run_pure, Result.andThen_ok, hL.load]
    exact hK _ _ h
theorem wpList_store_ln {ops : Array Oper} {rest : List Oper} {o : Oper} {a : Act} {w : World} {Q : Exit → Act → World → Prop} (hgd : o.guard = none) (x y : Operand) (ho : o.op = .store 46 x y)
    {b : Nat} {p p2 : Ln} (hL : LnAt w b p) (hx : a.eval x = .pointer (some ⟨b, 0, none⟩)) (hy : a.eval y = .agg (lnA p2))
    (h : ∀ w2, LnAt w2 b p2 → (∀ B a, Below B a w → B ≤ b → Below B a w2) → (∀ k, k ≠ b → w2.heap[k]? = w.heap[k]?) → w2.heap.size = w.heap.size → wpList Try.prog ops Q rest (a.put o.dst undef) w2) : wpList Try.prog ops Q (o :: rest) a w :=
  wpList_plain hgd fun _ hK => by
    obtain ⟨w2, h1, h2, h3, h4, h5⟩ := hL.store p2
    unfold Oper.wp execOp
    simp only [ho, hx, hy, Sem.run_bind, Sem.run_pure, Result.andThen_ok, h1]
    exact hK _ _ (h w2 h2 h3 h4 h5)
theorem results_ln2 {fn : Func} {p u : Tmp} (h : fn.results = #[.cell p 46, .tmp u]) (tmps : Array Value) (w : World) (b : Nat) {e : Ln} (x : Value) (hp : tmps.getD p undef = .pointer (some ⟨b, 0, none⟩)) (hx : tmps.getD u undef = x) (hl : LnAt w b e) :
    (results fn tmps).run Try.prog w = .ok (.tuple #[.agg (lnA e), x]) w := by
  rw [results_cell_tmp h, hp]
  simp only [asAddr, Sem.run_pure, Result.andThen_ok, hl.loadVar, hx]
/-- while a line is read: the answer's block (nought), the four numbers -/
structure Rl (w wr : World) (x0 x1 x2 x3 : Int) : Prop where
  res : LnAt wr w.heap.size zeroL
  arr : wr.heap[w.heap.size + 1]? = some (.cells #[.int .i64 x0, .int .i64 x1, .int .i64 x2, .int .i64 x3] 66)
  bel : Below w.heap.size w wr
theorem Rl.cells {w wr : World} {x0 x1 x2 x3 : Int} (h : Rl w wr x0 x1 x2 x3) : (wr.cell? ⟨w.heap.size + 1, 0, none⟩ = some (.int .i64 x0) ∧ wr.cell? ⟨w.heap.size + 1, 1, none⟩ = some (.int .i64 x1) ∧ wr.cell? ⟨w.heap.size + 1, 2, none⟩ = some (.int .i64 x2) ∧ wr.cell? ⟨w.heap.size + 1, 3, none⟩ = some (.int .i64 x3)) ∧ ∀ j, wr.frozen? ⟨w.heap.size + 1, j, none⟩ = false :=
  ⟨⟨by rw [cell_of_row _ _ 0 _ _ _ h.arr]; rfl, by rw [cell_of_row _ _ 1 _ _ _ h.arr]; rfl, by rw [cell_of_row _ _ 2 _ _ _ h.arr]; rfl, by rw [cell_of_row _ _ 3 _ _ _ h.arr]; rfl⟩, fun j => frozen_of_row _ _ j _ _ h.arr⟩
theorem Rl.set {w wr : World} {x0 x1 x2 x3 y0 y1 y2 y3 : Int} (h : Rl w wr x0 x1 x2 x3) (j : Nat) (v : Value) (he : (#[.int .i64 x0, .int .i64 x1, .int .i64 x2, .int .i64 x3] : Array Value).setIfInBounds j v = #[.int .i64 y0, .int .i64 y1, .int .i64 y2, .int .i64 y3]) : Rl w (wr.setCell ⟨w.heap.size + 1, j, none⟩ v) y0 y1 y2 y3 := by
  refine ⟨?_, ?_, h.bel.setCell (p := ⟨w.heap.size + 1, j, none⟩) (Nat.le_succ _) _⟩
  · unfold LnAt
    rw [heap_setCell_other wr ⟨w.heap.size + 1, j, none⟩ w.heap.size _ (by simp)]
    exact h.res
  · rw [heap_setCell_same wr (w.heap.size + 1) j _ _ _ h.arr, he]
theorem Rl.start (w : World) : Rl w ((w.alloc (.cells (lnA zeroL) 46)).alloc (.cells #[.int .i64 0, .int .i64 0, .int .i64 0, .int .i64 0] 66)) 0 0 0 0 := by
  refine ⟨?_, ?_, (((Below.refl _ _).alloc (Nat.le_refl _) _).alloc (by simp) _)⟩
  · exact (LnAt.new w zeroL).after ((Below.refl _ _).alloc (Nat.le_refl _) _)
  · have := heap_alloc_new (w.alloc (.cells (lnA zeroL) 46)) (.cells #[.int .i64 0, .int .i64 0, .int .i64 0, .int .i64 0] 66)
    simpa using this
theorem dec_ns (l : List Nat) (u k e : Nat) (a : Option Addr) (n cap : Nat) (w : World) (hn : l.length = n) (hd : dec 0 0 l = (u, k, e)) (hb : Bytes w a l) (hl : n ≤ maxLen) :
    Calls Try.prog 63 #[.slice a n cap] w fun r w' => r = .returned (.tuple #[.int .u64 (u : Int), .int .i64 (k : Int), .int .i64 (e : Int)]) ∧ w = w' := by
  subst hn
  refine (dec_any l a cap w hb hl).mono ?_
  rw [hd]
  exact fun _ _ h => h
set_option maxRecDepth 20000 in
set_option maxHeartbeats 4000000 in
theorem readLine_any (l : List Nat) (a : Option Addr) (n cap : Nat) (w : World) (hn : l.length = n) (hb : Bytes w a l) (hcap : n ≤ cap) (hm : n ≤ maxLen) :
    Calls Try.prog 45 #[.slice a n cap] w fun r w' => r = .returned (.tuple #[.agg (lnA (rdLn l).1), .bool (rdLn l).2]) ∧ Below w.heap.size w w' := by
  have hlt := lt_allC hb.1
  have HR0 : Hid (Rl w ((w.alloc (.cells (lnA zeroL) 46)).alloc (.cells #[.int .i64 0, .int .i64 0, .int .i64 0, .int .i64 0] 66)) 0 0 0 0) := Rl.start w
  have HB0 : Hid (Bytes w a l) := hb
  have H0 : Hid (∃ P, rdLn l = P) := ⟨_, rfl⟩
  obtain ⟨P, hP⟩ := H0.out
  have HP : Hid (rdLn l = P) := hP
  rw [hP]
  clear hb hP H0
  go_enter Try.func45, Try.ntmps45
  go_wp2
  go_loopw [0, 9] (fun vt vi wr => ∃ (k m c : Nat) (xa : Option Addr) (r : List Nat) (x0 x1 x2 x3 : Int), k ≤ 4 ∧ vi = .int .i64 k ∧ vt = .slice xa m c ∧ m ≤ c ∧ m ≤ n ∧ Hid (r.length = m ∧ (∀ x ∈ r, x < 256) ∧ Bytes w xa r ∧ rdK (4 - k) x0 x1 x2 x3 r = P ∧ Rl w wr x0 x1 x2 x3)) (fun _ vi _ => 4 - (intOf vi).toNat)
  case atStart => exact ⟨0, n, cap, a, l, 0, 0, 0, 0, by omega, rfl, rfl, hcap, Nat.le_refl _, hn, hlt, HB0.out, HP.out, HR0.out⟩
  case round =>
    clear HR0 HP hn hlt
    obtain ⟨k, m, c, xa, r, x0, x1, x2, x3, hk, rfl, rfl, hmc, hmn, HI⟩ := hrel
    have hmm : m ≤ maxLen := by omega
    have HBR : Hid (Bytes wr xa r) := HI.out.2.2.1.keep HI.out.2.2.2.2.bel
    obtain ⟨⟨c0, c1, c2, c3⟩, cf⟩ := HI.out.2.2.2.2.cells
    have f0 := cf 0
    have f1 := cf 1
    have f2 := cf 2
    have f3 := cf 3
    clear cf
    by_cases hk4 : k < 4
    · rcases hd : dec 0 0 r with ⟨u, sz, e⟩
      have HD : Hid (_) := hd
      by_cases he : e = 0
      · subst he
        have hf := vdec_form r HI.out.2.1 (by rw [hd])
        rw [hd] at hf
        obtain ⟨_, hsz, _, _, _⟩ := hf
        simp only at hsz
        have hszm : sz ≤ m := by have := HI.out.1; omega
        have HDL : Hid ((r.drop sz).length = m - sz) := by show _ = _; rw [List.length_drop, HI.out.1]
        have HDT : Hid (∀ x ∈ r.drop sz, x < 256) := fun x hx => HI.out.2.1 x (List.mem_of_mem_drop hx)
        have hmz : m - sz ≤ c - sz := by omega
        have hmz2 : m - sz ≤ n := by omega
        clear hd hsz
        have hk5 : k = 0 ∨ k = 1 ∨ k = 2 ∨ k = 3 := by omega
        rcases hk5 with rfl | rfl | rfl | rfl
        · have HK : Hid (rdK 3 (capN u) x1 x2 x3 (r.drop sz) = P) := by
            have h := HI.out.2.2.2.1
            change (if (dec 0 0 r).2.2 ≠ 0 then (zeroL, false) else rdK 3 (capN (dec 0 0 r).1) x1 x2 x3 (r.drop (dec 0 0 r).2.1)) = P at h
            rw [HD.out] at h
            simp only [ne_eq, not_true_eq_false, if_false] at h
            exact h
          go_wp2_with (first
            | (go_at_call 63; refine (dec_ns r u sz 0 xa m c _ HI.out.1 HD.out HBR.out hmm).mono ?_; rintro _ w2 ⟨rfl, rfl⟩)
            | (go_at_call 60; refine (ccapped_any u _).mono ?_; rintro _ w2 ⟨rfl, rfl⟩)
            | (refine wpList_slice_l2 rfl _ _ rfl (l := r) rfl rfl hszm hmc HI.out.1 ?_; intro ya hya; have HYA : Hid (Bytes w ya (r.drop sz)) := hya w HI.out.2.2.1; clear hya))
          go_roundw
          case rel => exact ⟨0 + 1, m - sz, c - sz, ya, r.drop sz, (capN u), x1, x2, x3, by omega, by go_num, rfl, hmz, hmz2, HDL.out, HDT.out, HYA.out, HK.out, HI.out.2.2.2.2.set 0 _ rfl⟩
          case measure => simp [intOf]
        · have HK : Hid (rdK 2 x0 (capN u) x2 x3 (r.drop sz) = P) := by
            have h := HI.out.2.2.2.1
            change (if (dec 0 0 r).2.2 ≠ 0 then (zeroL, false) else rdK 2 x0 (capN (dec 0 0 r).1) x2 x3 (r.drop (dec 0 0 r).2.1)) = P at h
            rw [HD.out] at h
            simp only [ne_eq, not_true_eq_false, if_false] at h
            exact h
          go_wp2_with (first
            | (go_at_call 63; refine (dec_ns r u sz 0 xa m c _ HI.out.1 HD.out HBR.out hmm).mono ?_; rintro _ w2 ⟨rfl, rfl⟩)
            | (go_at_call 60; refine (ccapped_any u _).mono ?_; rintro _ w2 ⟨rfl, rfl⟩)
            | (refine wpList_slice_l2 rfl _ _ rfl (l := r) rfl rfl hszm hmc HI.out.1 ?_; intro ya hya; have HYA : Hid (Bytes w ya (r.drop sz)) := hya w HI.out.2.2.1; clear hya))
          go_roundw
          case rel => exact ⟨1 + 1, m - sz, c - sz, ya, r.drop sz, x0, (capN u), x2, x3, by omega, by go_num, rfl, hmz, hmz2, HDL.out, HDT.out, HYA.out, HK.out, HI.out.2.2.2.2.set 1 _ rfl⟩
          case measure => simp [intOf]
        · have HK : Hid (rdK 1 x0 x1 (capN u) x3 (r.drop sz) = P) := by
            have h := HI.out.2.2.2.1
            change (if (dec 0 0 r).2.2 ≠ 0 then (zeroL, false) else rdK 1 x0 x1 (capN (dec 0 0 r).1) x3 (r.drop (dec 0 0 r).2.1)) = P at h
            rw [HD.out] at h
            simp only [ne_eq, not_true_eq_false, if_false] at h
            exact h
          go_wp2_with (first
            | (go_at_call 63; refine (dec_ns r u sz 0 xa m c _ HI.out.1 HD.out HBR.out hmm).mono ?_; rintro _ w2 ⟨rfl, rfl⟩)
            | (go_at_call 60; refine (ccapped_any u _).mono ?_; rintro _ w2 ⟨rfl, rfl⟩)
            | (refine wpList_slice_l2 rfl _ _ rfl (l := r) rfl rfl hszm hmc HI.out.1 ?_; intro ya hya; have HYA : Hid (Bytes w ya (r.drop sz)) := hya w HI.out.2.2.1; clear hya))
          go_roundw
          case rel => exact ⟨2 + 1, m - sz, c - sz, ya, r.drop sz, x0, x1, (capN u), x3, by omega, by go_num, rfl, hmz, hmz2, HDL.out, HDT.out, HYA.out, HK.out, HI.out.2.2.2.2.set 2 _ rfl⟩
          case measure => simp [intOf]
        · have HK : Hid (rdK 0 x0 x1 x2 (capN u) (r.drop sz) = P) := by
            have h := HI.out.2.2.2.1
            change (if (dec 0 0 r).2.2 ≠ 0 then (zeroL, false) else rdK 0 x0 x1 x2 (capN (dec 0 0 r).1) (r.drop (dec 0 0 r).2.1)) = P at h
            rw [HD.out] at h
            simp only [ne_eq, not_true_eq_false, if_false] at h
            exact h
          go_wp2_with (first
            | (go_at_call 63; refine (dec_ns r u sz 0 xa m c _ HI.out.1 HD.out HBR.out hmm).mono ?_; rintro _ w2 ⟨rfl, rfl⟩)
            | (go_at_call 60; refine (ccapped_any u _).mono ?_; rintro _ w2 ⟨rfl, rfl⟩)
            | (refine wpList_slice_l2 rfl _ _ rfl (l := r) rfl rfl hszm hmc HI.out.1 ?_; intro ya hya; have HYA : Hid (Bytes w ya (r.drop sz)) := hya w HI.out.2.2.1; clear hya))
          go_roundw
          case rel => exact ⟨3 + 1, m - sz, c - sz, ya, r.drop sz, x0, x1, x2, (capN u), by omega, by go_num, rfl, hmz, hmz2, HDL.out, HDT.out, HYA.out, HK.out, HI.out.2.2.2.2.set 3 _ rfl⟩
          case measure => simp [intOf]
      · have hen : ((e : Int) != 0) = true := by simp; omega
        have HK : Hid (P = (zeroL, false)) := by
          have h := HI.out.2.2.2.1
          have hk5 : k = 0 ∨ k = 1 ∨ k = 2 ∨ k = 3 := by omega
          rcases hk5 with rfl | rfl | rfl | rfl
          · change (if (dec 0 0 r).2.2 ≠ 0 then (zeroL, false) else _) = P at h
            rw [HD.out, if_pos he] at h; exact h.symm
          · change (if (dec 0 0 r).2.2 ≠ 0 then (zeroL, false) else _) = P at h
            rw [HD.out, if_pos he] at h; exact h.symm
          · change (if (dec 0 0 r).2.2 ≠ 0 then (zeroL, false) else _) = P at h
            rw [HD.out, if_pos he] at h; exact h.symm
          · change (if (dec 0 0 r).2.2 ≠ 0 then (zeroL, false) else _) = P at h
            rw [HD.out, if_pos he] at h; exact h.symm
        have HRS : Hid (LnAt wr w.heap.size zeroL) := HI.out.2.2.2.2.res
        clear hd
        go_wp2_with (first
          | (go_at_call 63; refine (dec_ns r u sz e xa m c _ HI.out.1 HD.out HBR.out hmm).mono ?_; rintro _ w2 ⟨rfl, rfl⟩)
          | ((with_reducible refine guard_store 46 ?_); refine wpList_store_ln (p := zeroL) (p2 := zeroL) rfl _ _ rfl HRS.out rfl rfl ?_; intro w4 z1 z2 z3 z4))
        rw [HK.out]
        exact bodyPost_ret (results_ln2 rfl _ _ _ _ rfl rfl z1) rfl ⟨rfl, z2 _ _ HI.out.2.2.2.2.bel (Nat.le_refl _)⟩
    · obtain rfl : k = 4 := by omega
      have HK : Hid (P = (⟨x0, x1, x2, x3⟩, ((m : Int) == 0))) := by
        have h := HI.out.2.2.2.1
        rw [← h, show 4 - 4 = 0 from rfl]
        have h1 := HI.out.1
        show rdK0 x0 x1 x2 x3 r = _
        simp only [rdK0, Prod.mk.injEq, true_and]
        cases r with
        | nil => simp at h1; subst h1; rfl
        | cons y t =>
          simp only [List.length_cons] at h1
          have : ((m : Int) == 0) = false := by simp; omega
          rw [this]; rfl
      have HRS : Hid (LnAt wr w.heap.size zeroL) := HI.out.2.2.2.2.res
      go_wp2_with ((with_reducible refine guard_store 46 ?_); refine wpList_store_ln (p := zeroL) (p2 := ⟨x0, x1, x2, x3⟩) rfl _ _ rfl HRS.out rfl rfl ?_; intro w4 z1 z2 z3 z4)
      rw [HK.out]
      exact bodyPost_ret (results_ln2 rfl _ _ _ _ rfl rfl z1) rfl ⟨rfl, z2 _ _ HI.out.2.2.2.2.bel (Nat.le_refl _)⟩
/-- what canon.readLines answers -/
def rdAll : List (List Nat) → List Ln × Bool
  | [] => ([], true)
  | t :: r => if (rdLn t).2 = true ∧ (rdAll r).2 = true then ((rdLn t).1 :: (rdAll r).1, true) else ([], false)
def rdC (acc : List Ln) (x : List Ln × Bool) : List Ln × Bool := if x.2 = true then (acc ++ x.1, true) else ([], false)
theorem rdC_cons (acc : List Ln) (t : List Nat) (r : List (List Nat)) : rdC acc (rdAll (t :: r)) = if (rdLn t).2 = true then rdC (acc ++ [(rdLn t).1]) (rdAll r) else ([], false) := by
  unfold rdC
  by_cases h1 : (rdLn t).2 = true
  · by_cases h2 : (rdAll r).2 = true
    · have e1 : rdAll (t :: r) = ((rdLn t).1 :: (rdAll r).1, true) := by show (if _ then _ else _) = _; rw [if_pos ⟨h1, h2⟩]
      rw [e1, if_pos h1, if_pos h2]
      simp
    · have e1 : rdAll (t :: r) = ([], false) := by show (if _ then _ else _) = _; rw [if_neg (fun h => h2 h.2)]
      rw [e1, if_pos h1, if_neg h2]
      rfl
  · have e1 : rdAll (t :: r) = ([], false) := by show (if _ then _ else _) = _; rw [if_neg (fun h => h1 h.1)]
    rw [e1, if_neg h1]
    rfl
theorem rdC_nil (x : List Nat) : True := trivial
theorem rdC_start (T : List (List Nat)) : rdC [] (rdAll T) = rdAll T := by
  unfold rdC
  cases T with
  | nil => rfl
  | cons t r =>
    simp only [rdAll]
    split
    · rfl
    · rfl
theorem lncell_new (w : World) (p : Ln) (t : TypeId) : ∀ j u, [.int .i64 p.item, .int .i64 p.price, .int .i64 p.qty, .int .i64 p.shipped][j]? = some u → (w.alloc (.cells (lnA p) t)).cell? ((⟨w.heap.size, 0, none⟩ : Addr).add j) = some u := by
  intro j u hj
  rw [show (⟨w.heap.size, 0, none⟩ : Addr).add j = ⟨w.heap.size, j, none⟩ from by simp [Addr.add]; exact fun h => h.symm]
  rw [cell_of_row (w.alloc (.cells (lnA p) t)) w.heap.size j (lnA p) t (0, 0) (heap_alloc_new w _)]
  rw [← hj]
  unfold lnA
  rcases j with _ | _ | _ | _ | j
  · rfl
  · rfl
  · rfl
  · rfl
  · simp
set_option maxRecDepth 20000 in
set_option maxHeartbeats 4000000 in
theorem readLines_any (T : List (List Nat × Value)) (bt base : Nat) (a : Option Addr) (n cap : Nat) (w : World) (hn : T.length = n) (hT : Txs w bt base (.slice a n cap) T) (hm : n ≤ 16) (hlen : ∀ p ∈ T, p.1.length ≤ 200) :
    Calls Try.prog 30 #[.slice a n cap] w fun r w' => ∃ v', r = .returned (.tuple #[v', .bool (rdAll (T.map Prod.fst)).2]) ∧ OwnL w' w.heap.size v' (rdAll (T.map Prod.fst)).1 ∧ Below w.heap.size w w' := by
  obtain ⟨i0, hi, hz0, hz1, hz2⟩ := info_parts Try.infoLn
  have HN : Hid (T.length = n) := hn
  have HT : Hid (Txs w bt base (.slice a n cap) T) := hT
  have HL : Hid (∀ p ∈ T, p.1.length ≤ 200) := hlen
  obtain ⟨P, hP⟩ : ∃ P, rdAll (T.map Prod.fst) = P := ⟨_, rfl⟩
  have HP : Hid (rdC [] (rdAll ((T.map Prod.fst).drop 0)) = P) := by show _ = _; rw [List.drop_zero, rdC_start]; exact hP
  rw [hP]
  clear hn hT hP hlen
  go_enter Try.func30, Try.ntmps30
  go_wp2
  go_loopw [4, 11] (fun vl vi wr => ∃ (v0 : Value) (k : Nat) (acc : List Ln), v0 = vl ∧ k ≤ n ∧ vi = .int .i64 k ∧ acc.length = k ∧ Hid (rdC acc (rdAll ((T.map Prod.fst).drop k)) = P ∧ OwnL wr w.heap.size v0 acc ∧ Below w.heap.size w wr)) (fun _ vi _ => n - (intOf vi).toNat)
  case atStart => exact ⟨_, 0, [], rfl, Nat.zero_le _, rfl, rfl, HP.out, OwnL.nil _ _, Below.refl _ _⟩
  case round =>
    clear HP
    obtain ⟨v0, k, acc, rfl, hk, rfl, hacc, HI⟩ := hrel
    have HA : Hid (acc.length = k) := hacc
    clear hacc
    by_cases hkn : k < n
    · obtain ⟨⟨t, tv⟩, hp⟩ := ln_get (L := T) (k := k) (by rw [HN.out]; exact hkn)
      have hmem := List.mem_of_getElem? hp
      have hTw := HT.out.keep HI.out.2.2
      obtain ⟨ta, tc, htv, htc, _, hty, _⟩ := (hTw.byt _ hmem).shape
      simp only at htv htc hty
      have HTL : Hid (t.length ≤ 200) := HL.out _ hmem
      obtain ⟨m, hmE⟩ : ∃ m, t.length = m := ⟨_, rfl⟩
      rw [hmE] at htv htc
      subst htv
      have HM : Hid (t.length = m) := hmE
      have hm200 : m ≤ maxLen := by have := HTL.out; unfold maxLen; omega
      have HY : Hid (Bytes wr ta t) := hty
      obtain ⟨g, hge, hgl, hgc⟩ : ∃ g, a = some ⟨g, 0, none⟩ ∧ g < wr.heap.size ∧ wr.cell? ⟨g, k, none⟩ = some (.slice ta m tc) := by
        rcases hTw.own.2 with ⟨h1, h2⟩ | ⟨g, cp, cur, h1, h2, h3, _⟩
        · have h2' : T.length = 0 := h2
          have := HN.out
          omega
        · injection h1 with h1a
          refine ⟨g, h1a, lt_of_heap h3, ?_⟩
          have hown := hTw.own
          rw [h1a, ← HN.out] at hown
          have h5 := World.ownsRow.cellAt hown k (show k < T.length * 1 by have := HN.out; omega)
          rw [h5, List.getElem?_map, hp]; rfl
      subst hge
      have HDR : Hid (rdC acc (rdAll ((T.map Prod.fst).drop k)) = if (rdLn t).2 = true then rdC (acc ++ [(rdLn t).1]) (rdAll ((T.map Prod.fst).drop (k + 1))) else ([], false)) := by
        show _ = _
        rw [ln_drop (T.map Prod.fst) k t (by rw [List.getElem?_map, hp]; rfl), rdC_cons]
      obtain ⟨p, okb, hpo⟩ : ∃ p okb, rdLn t = (p, okb) := ⟨_, _, rfl⟩
      have HPO : Hid (rdLn t = (p, okb)) := hpo
      rw [hpo] at HDR
      clear hp hmem hTw hty hmE hpo
      cases okb with
      | false =>
        have HF : Hid (P = ([], false)) := by show _ = _; rw [← HI.out.1, HDR.out]; rfl
        go_wp2_with (first
          | (go_at_call 45; refine (readLine_any t ta m tc _ HM.out HY.out htc hm200).mono ?_; rw [HPO.out]; rintro _ x1 ⟨rfl, hb1⟩; have HB1 : Hid (Below w.heap.size w x1) := below_next HI.out.2.2 hb1; clear hb1)
          | ((with_reducible refine guard_store 46 ?_); refine wpList_store_ln (p := zeroL) (p2 := p) rfl _ _ rfl (LnAt.new x1 zeroL) rfl rfl ?_; intro x2 z1 z2 z3 z4; have HB2 : Hid (Below w.heap.size w x2) := below_next HB1.out (z2 _ _ ((Below.refl _ _).alloc (Nat.le_refl _) _) (Nat.le_refl _)); clear z1 z2 z3 z4))
        go_ret2
        exact ⟨.slice none 0 0, by rw [HF.out]; rfl, by rw [HF.out]; exact OwnL.nil _ _, HB2.out⟩
      | true =>
        have hsz4 : (lnA p).size = 4 := rfl
        have HF : Hid (rdC (acc ++ [p]) (rdAll ((T.map Prod.fst).drop (k + 1))) = P) := by show _ = _; rw [← HI.out.1, HDR.out]; rfl
        go_wp2_with (first
          | (go_at_call 45; refine (readLine_any t ta m tc _ HM.out HY.out htc hm200).mono ?_; rw [HPO.out]; rintro _ x1 ⟨rfl, hb1⟩; have HB1 : Hid (Below w.heap.size w x1) := below_next HI.out.2.2 hb1; have HO1 : Hid (OwnL x1 w.heap.size v0 acc) := HI.out.2.1.keep hb1; clear hb1)
          | ((with_reducible refine guard_store 46 ?_); refine wpList_store_ln (p := zeroL) (p2 := p) rfl _ _ rfl (LnAt.new x1 zeroL) rfl rfl ?_; intro x2 z1 z2 z3 z4; have hu := (z2 _ _ ((Below.refl x1.heap.size x1).alloc (Nat.le_refl _) _) (Nat.le_refl _)); have HB2 : Hid (Below w.heap.size w x2) := below_next HB1.out hu; have HO2 : Hid (OwnL x2 w.heap.size v0 acc) := OwnL.keep HO1.out hu; have HZ2 : Hid (LnAt x2 x1.heap.size p) := z1; clear z1 z2 z3 z4 hu)
          | ((with_reducible refine guard_load 46 ?_); refine wpList_load_ln rfl _ rfl HZ2.out rfl ?_)
          | (at_builtin; refine wpList_append_own _ rfl _ _ 23 rfl w.heap.size 46 i0 (.agg #[.int .i64 0, .int .i64 0, .int .i64 0, .int .i64 0]) 4 32 Try.underlying23 hi hz0 hz1 hz2 rfl (by decide) v0 acc.length _ rfl (OwnL.keep HO2.out ((Below.refl _ _).alloc (Nat.le_refl _) _)) ⟨x2.heap.size, 0, none⟩ 1 1 [.int .i64 p.item, .int .i64 p.price, .int .i64 p.qty, .int .i64 p.shipped] rfl rfl (lncell_new x2 p _) (by intro u hu; simp only [List.mem_cons, List.not_mem_nil, or_false] at hu; rcases hu with rfl | rfl | rfl | rfl <;> rfl) (by have := HA.out; unfold maxLen; omega) (by have := HA.out; omega) (by have := HB2.out.size; simp; omega) ?_; intro v3 w3 ho3 hg3 _; have HB3 : Hid (Below w.heap.size w w3) := grown_row (HB2.out.alloc HB2.out.size _) (OwnL.keep HO2.out ((Below.refl _ _).alloc (Nat.le_refl _) _)) (by have := HB2.out.size; simp; omega) hg3; have HO3 : Hid (OwnL w3 w.heap.size v3 (acc ++ [p])) := OwnL.snoc rfl ho3; clear ho3 hg3))
        go_roundw
        case rel => exact ⟨v3, k + 1, acc ++ [p], rfl, by omega, by go_num, by rw [List.length_append, HA.out]; rfl, HF.out, HO3.out, HB3.out⟩
        case measure => simp [intOf]; omega
    · have HF : Hid (P = (acc, true)) := by
        show _ = _
        rw [← HI.out.1, List.drop_eq_nil_of_le (by rw [List.length_map, HN.out]; omega)]
        simp [rdC, rdAll]
      go_wp2
      go_ret2
      exact ⟨v0, by rw [HF.out]; rfl, by rw [HF.out]; exact HI.out.2.1, HI.out.2.2⟩
end Go.Proofs.Ytfdaefhamoeaiaa
