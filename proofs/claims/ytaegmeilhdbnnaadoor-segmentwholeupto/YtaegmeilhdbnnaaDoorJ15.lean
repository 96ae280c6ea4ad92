/- Own texts, joined: Sg11, Sg12, Renc, Rdec. -/
import Derived.Test.YtaegmeilhdbnnaaDoorJ14
import Derived.Test.YtaegmeilhdbnnaaDoorJ11
import Derived.Test.YtaegmeilhdbnnaaDoorJ04
import Derived.Test.YtaegmeilhdbnnaaDoorRows
import Derived.Test.YtaegmeilhdbnnaaDoorJ00
import Derived.Test.YtaegmeilhdbnnaaDoorJ01
namespace Go.Proofs.YtaegmeilhdbnnaaDoor
open Go.ChangeShapes Go.WideShapes Go.ChangeAt Go.RowKit
set_option linter.unusedVariables false
/-- a segment's cells and value -/
abbrev SgA (x y c : Int) (s : Bool) (t : Int) (mv : Value) (g : Int) : Array Value := #[.int .i64 x, .int .i64 y, .int .i64 c, .bool s, .int .i64 t, mv, .int .i64 g]
abbrev SgV (x y c : Int) (s : Bool) (t : Int) (mv : Value) (g : Int) : Value := .agg (SgA x y c s t mv g)
def SegAt (w : World) (k : Nat) (x y c : Int) (s : Bool) (t : Int) (mv : Value) (g : Int) : Prop := w.heap[k]? = some (.cells (SgA x y c s t mv g) 38)
theorem Tryd.infoSeg : (Tryd.prog.info? 38).map (·.size) = some 7 := by kernel_rfl
section
variable {w w' : World} {k : Nat} {x y c : Int} {s : Bool} {t : Int} {mv : Value} {g : Int}
theorem SegAt.keep (h : SegAt w k x y c s t mv g) (hb : Below w.heap.size w w') : SegAt w' k x y c s t mv g := (hb.block k (lt_of_heap h)).trans h
theorem SegAt.new (w : World) (x y c : Int) (s : Bool) (t : Int) (mv : Value) (g : Int) : SegAt (w.alloc (.cells (SgA x y c s t mv g) 38)) w.heap.size x y c s t mv g := heap_alloc_new w _
theorem SegAt.at (h : SegAt w k x y c s t mv g) (j : Nat) : w.cell? ⟨k, j, none⟩ = (SgA x y c s t mv g)[j]? ∧ w.frozen? ⟨k, j, none⟩ = false := ⟨cell_of_row _ _ j _ _ _ h, frozen_of_row _ _ j _ _ h⟩
theorem SegAt.loadVar (h : SegAt w k x y c s t mv g) : (Go.loadVar 38 ⟨k, 0, none⟩).run Tryd.prog w = .ok (SgV x y c s t mv g) w :=
  run_loadVar_row _ _ _ _ _ _ _ h Tryd.underlying38 rfl Tryd.infoSeg
theorem SegAt.load (h : SegAt w k x y c s t mv g) : (Instr.loadAt 38 (.pointer (some ⟨k, 0, none⟩))).run Tryd.prog w = .ok (SgV x y c s t mv g) w := by
  simp only [Instr.loadAt, Instr.sureAddr, Sem.run_bind, Sem.run_pure, Result.andThen_ok, h.loadVar]
theorem seg_one (x y c : Int) (s : Bool) (t : Int) (mv : Value) (g : Int) (hv : mv.oneCell' = true) : (SgA x y c s t mv g).all (·.oneCell') = true := by
  simp [hv]; exact ⟨rfl, rfl, rfl, rfl, rfl, rfl⟩
theorem SegAt.set (h : SegAt w k x y c s t mv g) (j : Nat) (u : Value) : (w.setCell ⟨k, j, none⟩ u).heap[k]? = some (.cells ((SgA x y c s t mv g).set! j u) 38) := heap_setCell_same w k j _ _ u h
theorem SegAt.other (h : SegAt w k x y c s t mv g) (m : Nat) (hk : k ≠ m) (j : Nat) (u : Value) : SegAt (w.setCell ⟨m, j, none⟩ u) k x y c s t mv g := (heap_setCell_other w ⟨m, j, none⟩ k u hk).trans h
theorem SegAt.store (h : SegAt w k x y c s t mv g) (x2 y2 c2 : Int) (s2 : Bool) (t2 : Int) (mv2 : Value) (g2 : Int) (hv : mv2.oneCell' = true) : ∃ w2, (Instr.storeAt 38 (.pointer (some ⟨k, 0, none⟩)) (SgV x2 y2 c2 s2 t2 mv2 g2)).run Tryd.prog w = .ok () w2 ∧ SegAt w2 k x2 y2 c2 s2 t2 mv2 g2 ∧ (w2.os = w.os ∧ w2.tape = w.tape ∧ w2.output = w.output) ∧ (∀ j, j ≠ k → w2.heap[j]? = w.heap[j]?) ∧ w2.heap.size = w.heap.size := by
  refine ⟨w.setRow k (SgA x2 y2 c2 s2 t2 mv2 g2), ?_, ?_, ⟨rfl, rfl, rfl⟩, fun j hj => ?_, ?_⟩
  · simp only [Instr.storeAt, Instr.sureAddr, Sem.run_bind, Sem.run_pure, Result.andThen_ok, run_storeVar_row w k 38 38 (SgA x y c s t mv g) (SgA x2 y2 c2 s2 t2 mv2 g2) h Tryd.infoSeg rfl (seg_one x2 y2 c2 s2 t2 mv2 g2 hv)]
  · unfold SegAt at h ⊢
    simp [World.setRow, Array.getElem?_modify, h]
  · simp only [World.setRow, Array.getElem?_modify]
    rw [if_neg (Ne.symm hj)]
  · simp [World.setRow]
end
theorem wpList_load_seg {ops : Array Oper} {rest : List Oper} {o : Oper} {a : Act} {w : World} {Q : Exit → Act → World → Prop} (hgd : o.guard = none) (p : Operand) (ho : o.op = .load 38 p)
    {k : Nat} {x y c : Int} {s : Bool} {t : Int} {mv : Value} {g : Int} (hL : SegAt w k x y c s t mv g) (hx : a.eval p = .pointer (some ⟨k, 0, none⟩)) (h : wpList Tryd.prog ops Q rest (a.put o.dst (SgV x y c s t mv g)) w) : wpList Tryd.prog ops Q (o :: rest) a w :=
  wpList_plain hgd fun _ hK => by
    unfold Oper.wp execOp
    simp only [ho, hx, Sem.run_bind, Sem.run_pure, Result.andThen_ok, hL.load]
    exact hK _ _ h
theorem wpList_store_seg {ops : Array Oper} {rest : List Oper} {o : Oper} {a : Act} {w : World} {Q : Exit → Act → World → Prop} (hgd : o.guard = none) (p q : Operand) (ho : o.op = .store 38 p q) (hd : o.dst = none)
    {k : Nat} {x y c : Int} {s : Bool} {t : Int} {mv : Value} {g : Int} {x2 y2 c2 : Int} {s2 : Bool} {t2 : Int} {mv2 : Value} {g2 : Int} (hL : SegAt w k x y c s t mv g) (hv : mv2.oneCell' = true) (hx : a.eval p = .pointer (some ⟨k, 0, none⟩)) (hy : a.eval q = SgV x2 y2 c2 s2 t2 mv2 g2)
    (h : ∀ w2, SegAt w2 k x2 y2 c2 s2 t2 mv2 g2 → (w2.os = w.os ∧ w2.tape = w.tape ∧ w2.output = w.output) → (∀ j, j ≠ k → w2.heap[j]? = w.heap[j]?) → w2.heap.size = w.heap.size → wpList Tryd.prog ops Q rest a w2) : wpList Tryd.prog ops Q (o :: rest) a w :=
  wpList_plain hgd fun _ hK => by
    obtain ⟨w2, h1, h2, h3, h4, h5⟩ := hL.store x2 y2 c2 s2 t2 mv2 g2 hv
    unfold Oper.wp execOp
    simp only [ho, hx, hy, Sem.run_bind, Sem.run_pure, Result.andThen_ok, h1]
    have hp : a.put o.dst undef = a := by rw [hd]; rfl
    exact hK _ _ (by rw [hp]; exact h w2 h2 h3 h4 h5)
theorem results_seg3 {fn : Func} {p t u : Tmp} (h : fn.results = #[.cell p 38, .tmp t, .tmp u]) (tmps : Array Value) (w : World) (k : Nat) {x y c : Int} {s : Bool} {r : Int} {mv : Value} {g : Int} (hp : tmps.getD p undef = .pointer (some ⟨k, 0, none⟩)) (hl : SegAt w k x y c s r mv g) :
    (results fn tmps).run Tryd.prog w = .ok (.tuple #[SgV x y c s r mv g, tmps.getD t undef, tmps.getD u undef]) w := by
  simp only [Array.getD_eq_getD_getElem?] at hp
  simp [results, h, hp, asAddr, hl.loadVar]
/-- a row of another type stays where one block is written anew -/
theorem row_one {w w2 : World} {base n size k T : Nat} {e : TypeId} {v : Value} {xs : List Value} {c : Array Value} {m : Nat × Nat} (ho : w.ownsRow base e size v n xs) (hk : w.heap[k]? = some (.cells c T m)) (hT : T ≠ e) (hh : ∀ j, j ≠ k → w2.heap[j]? = w.heap[j]?) : w2.ownsRow base e size v n xs := by
  refine ⟨ho.1, ?_⟩
  rcases ho.2 with h2 | ⟨g, cap, cur, h3, h4, h5, h6⟩
  · exact .inl h2
  · refine .inr ⟨g, cap, cur, h3, h4, (hh g ?_).trans h5, h6⟩
    rintro rfl
    have h7 := hk.symm.trans h5
    cases h7
    exact hT rfl
theorem ownP_one {w w2 : World} {base k : Nat} {v : Value} {xs : List It} {x y c : Int} {s : Bool} {t : Int} {mv : Value} {g : Int} (h : OwnP w base v xs) (hk : SegAt w k x y c s t mv g) (hh : ∀ j, j ≠ k → w2.heap[j]? = w.heap[j]?) : OwnP w2 base v xs :=
  ⟨row_one h.1 hk (by decide) hh, fun z hz => ⟨(h.2 z hz).1, row_one (h.2 z hz).2 hk (by decide) hh⟩⟩
theorem set_one (w : World) (k j : Nat) (u : Value) : ∀ i, i ≠ k → (w.setCell ⟨k, j, none⟩ u).heap[i]? = w.heap[i]? := fun i hi => heap_setCell_other w ⟨k, j, none⟩ i u hi
/-- the events of a segment, where they end, the stride and the size of its footer, its marks -/
def sgE (l : List Nat) : List Fm := runL l (pn l + 20) (hoY l : Int) 512
def sgG (l : List Nat) : Nat := endZ (pn l + 20) (sgE l)
def sgF (l : List Nat) : Nat := ftS (l.drop (sgG l)) (hoX l) (hoY l) (sgE l)
def sgN (l : List Nat) : Nat := ftN (l.drop (sgG l)) (hoX l) (hoY l) (sgE l)
def sgM (l : List Nat) : List Mk := if sgF l = 0 then [] else bldL (sgF l : Int) ((sgE l).map evP)
/-- what Scan answers -/
def ScanP (l : List Nat) (base : Nat) (e : Ending) (w' : World) : Prop :=
  (hdr l = none ∧ e = .returned (.tuple #[SgV 0 0 0 false 0 (.slice none 0 0) 0, .slice none 0 0, .int .i64 71])) ∨
  ((hdr l).isSome = true ∧ ∃ (xs : List It) (v mv : Value), xs.map It.fm = sgE l ∧ e = .returned (.tuple #[SgV (hoX l : Nat) (hoY l : Nat) ((sgE l).length : Nat) (decide (0 < sgF l)) (sgF l : Nat) mv ((sgG l : Int) + (sgN l : Int)), v, .int .i64 0]) ∧ OwnP w' base v xs ∧ OwnM w' base mv (sgM l))
theorem runEnd (l : List Nat) (d y : Nat) (hd : d ≤ l.length) : d ≤ endZ d (runL l d (y : Int) 512) ∧ endZ d (runL l d (y : Int) 512) ≤ l.length := by
  unfold endZ
  cases hg : (runL l d (y : Int) 512).getLast? with
  | none => exact ⟨Nat.le_refl _, hd⟩
  | some f =>
    have hm := List.mem_of_getLast? hg
    unfold runL at hm
    obtain ⟨g, hg2, rfl⟩ := List.mem_map.1 hm
    have h1 := (scanL_facts _ g ((runN_pre _ _ _ _).subset hg2)).2
    rw [List.length_drop] at h1
    simp only [sh]
    omega
end Go.Proofs.YtaegmeilhdbnnaaDoor
namespace Go.Proofs.YtaegmeilhdbnnaaDoor
open Go.ChangeShapes Go.WideShapes Go.ChangeAt Go.RowKit
set_option linter.unusedVariables false
theorem plc_ofP {w : World} {base N c : Nat} {a : Option Addr} {xs : List It} (h : OwnP w base (.slice a N c) xs) : PlcA w a xs := by
  obtain ⟨a2, c2, h1, h2⟩ := h.plc
  cases h1
  exact h2
theorem SegAt.sets {w : World} {k : Nat} {x y c : Int} {s : Bool} {t : Int} {mv : Value} {g : Int} (h : SegAt w k x y c s t mv g) (t' : Int) (u : Value) (g' : Int) : SegAt ((((w.setCell ⟨k, 3, none⟩ (.bool true)).setCell ⟨k, 4, none⟩ (.int .i64 t')).setCell ⟨k, 5, none⟩ u).setCell ⟨k, 6, none⟩ (.int .i64 g')) k x y c true t' u g' := by
  have h3 : SegAt (w.setCell ⟨k, 3, none⟩ (.bool true)) k x y c true t mv g := h.set 3 (.bool true)
  have h4 : SegAt ((w.setCell ⟨k, 3, none⟩ (.bool true)).setCell ⟨k, 4, none⟩ (.int .i64 t')) k x y c true t' mv g := h3.set 4 (.int .i64 t')
  have h5 : SegAt (((w.setCell ⟨k, 3, none⟩ (.bool true)).setCell ⟨k, 4, none⟩ (.int .i64 t')).setCell ⟨k, 5, none⟩ u) k x y c true t' u g := h4.set 5 u
  exact h5.set 6 (.int .i64 g')
theorem sets_one (w : World) (k : Nat) (u3 u4 u5 u6 : Value) : ∀ i, i ≠ k → ((((w.setCell ⟨k, 3, none⟩ u3).setCell ⟨k, 4, none⟩ u4).setCell ⟨k, 5, none⟩ u5).setCell ⟨k, 6, none⟩ u6).heap[i]? = w.heap[i]? := fun i hi =>
  (set_one _ k 6 u6 i hi).trans ((set_one _ k 5 u5 i hi).trans ((set_one _ k 4 u4 i hi).trans (set_one w k 3 u3 i hi)))
theorem seg_sets {w : World} {k k2 : Nat} {x y c : Int} {s : Bool} {t : Int} {mv : Value} {g : Int} (h : SegAt w k x y c s t mv g) (hk : k ≠ k2) (u3 u4 u5 u6 : Value) : SegAt ((((w.setCell ⟨k2, 3, none⟩ u3).setCell ⟨k2, 4, none⟩ u4).setCell ⟨k2, 5, none⟩ u5).setCell ⟨k2, 6, none⟩ u6) k x y c s t mv g := (sets_one w k2 u3 u4 u5 u6 k hk).trans h
theorem below_sets {base k : Nat} {w w1 : World} (h : Below base w w1) (hk : base ≤ k) (u3 u4 u5 u6 : Value) : Below base w ((((w1.setCell ⟨k, 3, none⟩ u3).setCell ⟨k, 4, none⟩ u4).setCell ⟨k, 5, none⟩ u5).setCell ⟨k, 6, none⟩ u6) := (((h.setCell (p := ⟨k, 3, none⟩) hk _).setCell (p := ⟨k, 4, none⟩) hk _).setCell (p := ⟨k, 5, none⟩) hk _).setCell (p := ⟨k, 6, none⟩) hk _
set_option maxRecDepth 20000 in
set_option maxHeartbeats 4000000 in
theorem scan14_any (l : List Nat) (m : Nat) (a : Option Addr) (cap : Nat) (w : World) (hm : l.length = m) (hb : Bytes w a l) (hcap : m ≤ cap) (hl : m ≤ 16777216) (ht : Tab w) :
    Calls Tryd.prog 17 #[.slice a m cap] w fun e w' => ScanP l w.heap.size e w' ∧ Below w.heap.size w w' := by
  have HB : Hid (Bytes w a l ∧ l.length = m ∧ Tab w) := ⟨hb, hm, ht⟩
  have hmem := hb.mem
  have HW0 : Hid (Below w.heap.size w (w.alloc (.cells (SgA 0 0 0 false 0 (.slice none 0 0) 0) 38)) ∧ True) := ⟨(Below.refl _ _).alloc (Nat.le_refl _) _, trivial⟩
  clear hb hm ht
  cases hh : hdr l with
  | none =>
    have HHO : Hid (HoV l = .tuple #[.int .i64 0, .int .i64 0, .int .i64 0, .int .i64 71]) := ho_none hh
    have HN : Hid (hdr l = none) := hh
    clear hh
    go_enter Tryd.func17, Tryd.ntmps17
    go_wp2_with (first
      | (go_at_call 14; refine (headerOf_any l m a cap _ HB.out.2.1 (HB.out.1.keep HW0.out.1) (by omega) hcap (HB.out.2.2.keep HW0.out.1)).mono ?_; rw [HHO.out]; rintro r w1 ⟨rfl, hb1⟩; have HB1 : Hid (Below w.heap.size w w1 ∧ SegAt w1 w.heap.size 0 0 0 false 0 (.slice none 0 0) 0) := ⟨HW0.out.1.trans (hb1.mono (by simp)), (SegAt.new w 0 0 0 false 0 (.slice none 0 0) 0).keep hb1⟩; have hs1 : w.heap.size < w1.heap.size := (by have h := hb1.size; simp at h; omega); clear hb1)
      | ((with_reducible refine frm_store 38 ?_); refine wpList_store_seg rfl _ _ rfl rfl HB1.out.2 rfl rfl rfl ?_; intro w9 hs9 ho9 hh9 hz9; have HB9 : Hid (Below w.heap.size w w9 ∧ SegAt w9 w.heap.size 0 0 0 false 0 (.slice none 0 0) 0) := ⟨below_one HB1.out.1 ho9 hh9 hz9 (Nat.le_refl _), hs9⟩; clear hs9 ho9 hh9 hz9)
      | fail)
    (try simp only [Exit.inBlock, Exit.then])
    refine bodyPost_ret (results_seg3 rfl _ _ w.heap.size rfl HB9.out.2) rfl ⟨.inl ⟨HN.out, rfl⟩, HB9.out.1⟩
  | some q =>
    obtain ⟨X, Y⟩ := q
    obtain ⟨h0, hK, hS, hX1, hX2, hY1, hY2, hbd, hpn⟩ := hdr_some l hmem X Y hh
    have hoX' : hoX l = X := by unfold hoX; rw [hh]; rfl
    have hoY' : hoY l = Y := by unfold hoY; rw [hh]; rfl
    obtain ⟨H, hH⟩ : ∃ H, pn l + 20 = H := ⟨_, rfl⟩
    have HHO : Hid (HoV l = .tuple #[.int .i64 (X : Int), .int .i64 (Y : Int), .int .i64 (H : Int), .int .i64 0]) := by rw [← hH]; exact ho_some hh
    have hHm : H ≤ m := by have := HB.out.2.1; omega
    obtain ⟨EV, hEV⟩ : ∃ E, sgE l = E := ⟨_, rfl⟩
    obtain ⟨G, hG⟩ : ∃ G, sgG l = G := ⟨_, rfl⟩
    obtain ⟨n, hn⟩ : ∃ n, EV.length = n := ⟨_, rfl⟩
    obtain ⟨F, hF⟩ : ∃ F, sgF l = F := ⟨_, rfl⟩
    obtain ⟨N, hN⟩ : ∃ N, sgN l = N := ⟨_, rfl⟩
    obtain ⟨M, hM⟩ : ∃ M, bldL (F : Int) (EV.map evP) = M := ⟨_, rfl⟩
    have hEV2 : runL l H (Y : Int) 512 = EV := by rw [← hEV]; unfold sgE; rw [hoY', hH]
    have hG2 : endZ H EV = G := by rw [← hG]; unfold sgG; rw [hH, hEV]
    have hF2 : ftS (l.drop G) X Y EV = F := by rw [← hF]; unfold sgF; rw [hG, hoX', hoY', hEV]
    have hN2 : ftN (l.drop G) X Y EV = N := by rw [← hN]; unfold sgN; rw [hG, hoX', hoY', hEV]
    obtain ⟨hok, _⟩ := runL_ok l H Y hY1 (by rw [HB.out.2.1]; exact hHm) (by rw [HB.out.2.1]; exact hl)
    obtain ⟨hg1, hg2⟩ := runEnd l H Y (by rw [HB.out.2.1]; exact hHm)
    rw [hEV2] at hok hg1 hg2
    rw [hG2] at hg1 hg2
    rw [HB.out.2.1] at hg2
    have HEO : Hid (EvOk Y EV) := hok
    have hn5 : n ≤ 512 := by rw [← hn]; exact hok.len
    have hGm : G ≤ m := hg2
    have HEV : Hid (runL l H (Y : Int) 512 = EV ∧ endZ H EV = G ∧ EV.length = n ∧ (EV.map evP).length = n ∧ bldL (F : Int) (EV.map evP) = M) := ⟨hEV2, hG2, hn, by rw [List.length_map]; exact hn, hM⟩
    have HFN : Hid (ftS (l.drop G) X Y EV = F ∧ ftN (l.drop G) X Y EV = N) := ⟨hF2, hN2⟩
    have HSG : Hid ((hdr l).isSome = true ∧ sgE l = EV ∧ hoX l = X ∧ hoY l = Y ∧ sgF l = F ∧ sgG l = G ∧ sgN l = N) := ⟨by rw [hh]; rfl, hEV, hoX', hoY', hF, hG, hN⟩
    have hF64 : F ≤ 64 := by rw [← hF2]; exact ftS_le _ _ _ _
    have hNle : N ≤ 16404 := by
      rw [← hN2]
      unfold ftN
      split
      · omega
      · rename_i hc
        have h00 := ftS_pos (l.drop G) X Y EV (by omega)
        have := (decB_facts (fun z hz => hmem z (List.mem_of_mem_drop hz)) h00).2
        omega
    have hXI : (X : Int) ≤ 999999 := by omega
    have hYI : (Y : Int) ≤ 1099511627777 := by omega
    have hHI : (H : Int) ≤ (m : Int) := by omega
    have hGI : (G : Int) ≤ 16777216 := by omega
    have hNI : (N : Int) ≤ 16404 := by omega
    have hFI : (F : Int) ≤ 64 := by omega
    have hn5I : (n : Int) ≤ 512 := by omega
    clear hh h0 hK hS hbd hpn hoX' hoY' hEV hG hn hF hN hM hEV2 hG2 hF2 hN2 hok hg1 hg2 hH
    by_cases hF0 : F = 0
    · subst hF0
      have HM0 : Hid (sgM l = []) := by show _ = _; unfold sgM; rw [HSG.out.2.2.2.2.1, if_pos rfl]
      have HN0 : Hid (N = 0) := by show _ = _; rw [← HFN.out.2]; unfold ftN; rw [HFN.out.1, if_pos rfl]
      go_enter Tryd.func17, Tryd.ntmps17
      go_wp2_with (first
        | (go_at_call 14; refine (headerOf_any l m a cap _ HB.out.2.1 (HB.out.1.keep HW0.out.1) (by omega) hcap (HB.out.2.2.keep HW0.out.1)).mono ?_; rw [HHO.out]; rintro r w1 ⟨rfl, hb1⟩; have HB1 : Hid (Below w.heap.size w w1 ∧ SegAt w1 w.heap.size 0 0 0 false 0 (.slice none 0 0) 0) := ⟨HW0.out.1.trans (hb1.mono (by simp)), (SegAt.new w 0 0 0 false 0 (.slice none 0 0) 0).keep hb1⟩; have hs1 : w.heap.size < w1.heap.size := (by have h := hb1.size; simp at h; omega); clear hb1)
        | (go_at_call 41; refine (run_any l m a cap H (Y : Int) 512 w1 HB.out.2.1 (HB.out.1.keep HB1.out.1) hcap (by omega) hHm (by omega) (by omega) (HB.out.2.2.keep HB1.out.1)).mono ?_; rw [HEV.out.1, HEV.out.2.1]; rintro r w2 ⟨xs, v, rfl, hx, hr, hy, hb2⟩; have hxl : xs.length = n := (by have h := congrArg List.length hx; rw [List.length_map, HEV.out.2.2.1] at h; exact h); obtain ⟨a2, c2, hv2⟩ := row_shape hr; rw [hxl] at hr hv2; subst hv2; have hop : OwnP w2 w1.heap.size (.slice a2 n c2) xs := ⟨by rw [hxl]; exact hr, hy⟩; have HX : Hid (xs.map It.fm = EV ∧ xs.length = n ∧ OwnP w2 w.heap.size (.slice a2 n c2) xs ∧ PlcA w2 a2 xs) := ⟨hx, hxl, hop.mono (Nat.le_of_lt hs1), plc_ofP hop⟩; have HB2 : Hid (Below w.heap.size w w2 ∧ SegAt w2 w.heap.size 0 0 0 false 0 (.slice none 0 0) 0) := ⟨below_next HB1.out.1 hb2, HB1.out.2.keep hb2⟩; have hs2 : w.heap.size < w2.heap.size := Nat.lt_of_lt_of_le hs1 hb2.size; have HW3 : Hid (Below w.heap.size w (w2.alloc (.cells (SgA (X : Int) (Y : Int) (n : Int) false 0 (.slice none 0 0) (G : Int)) 38)) ∧ Below w2.heap.size w2 (w2.alloc (.cells (SgA (X : Int) (Y : Int) (n : Int) false 0 (.slice none 0 0) (G : Int)) 38))) := ⟨HB2.out.1.alloc HB2.out.1.size _, (Below.refl _ _).alloc (Nat.le_refl _) _⟩; clear hx hr hy hb2 hxl hop)
        | ((with_reducible refine at_slice ?_); refine wpList_slice_l rfl _ _ rfl rfl rfl hGm hcap HB.out.2.1 (HB.out.1.keep HW3.out.1) ?_; intro xa hxa; have HXA : Hid (Bytes _ xa (l.drop G)) := hxa; clear hxa)
        | (go_at_call 42; refine (sealedBy_any (l.drop G) X Y EV xs (m - G) n xa a2 (cap - G) c2 _ (by rw [List.length_drop, HB.out.2.1]) HXA.out (by omega) (by omega) HX.out.1 HX.out.2.1 (HX.out.2.2.2.keep HW3.out.2) HEO.out hY2 hX2 (HB.out.2.2.keep HW3.out.1)).mono ?_; rw [HFN.out.1, HFN.out.2]; rintro r w4 ⟨rfl, hb4⟩; have HB4 : Hid (Below w.heap.size w w4 ∧ Below w2.heap.size w2 w4 ∧ SegAt w4 w.heap.size 0 0 0 false 0 (.slice none 0 0) 0 ∧ SegAt w4 w2.heap.size (X : Int) (Y : Int) (n : Int) false 0 (.slice none 0 0) (G : Int)) := (by have h24 := HW3.out.2.trans (hb4.mono (by simp)); exact ⟨below_next HB2.out.1 h24, h24, HB2.out.2.keep h24, (SegAt.new w2 (X : Int) (Y : Int) (n : Int) false 0 (.slice none 0 0) (G : Int)).keep hb4⟩); clear hb4)
        | ((with_reducible refine frm_load 38 ?_); refine wpList_load_seg rfl _ rfl HB4.out.2.2.2 rfl ?_)
        | ((with_reducible refine frm_store 38 ?_); refine wpList_store_seg rfl _ _ rfl rfl HB4.out.2.2.1 rfl rfl rfl ?_; intro w9 hs9 ho9 hh9 hz9; have HB9 : Hid (Below w.heap.size w w9 ∧ SegAt w9 w.heap.size (X : Int) (Y : Int) (n : Int) false 0 (.slice none 0 0) (G : Int) ∧ OwnP w9 w.heap.size (.slice a2 n c2) xs) := ⟨below_one HB4.out.1 ho9 hh9 hz9 (Nat.le_refl _), hs9, ownP_one (HX.out.2.2.1.below HB4.out.2.1) HB4.out.2.2.1 hh9⟩; clear hs9 ho9 hh9 hz9)
        | fail)
      (try simp only [Exit.inBlock, Exit.then])
      refine bodyPost_ret (results_seg3 rfl _ _ w.heap.size rfl HB9.out.2.1) rfl ⟨.inr ⟨HSG.out.1, xs, .slice a2 n c2, .slice none 0 0, by rw [HX.out.1, HSG.out.2.1], ?_, HB9.out.2.2, by rw [HM0.out]; exact OwnM.nil _ _⟩, HB9.out.1⟩
      rw [HSG.out.2.1, HSG.out.2.2.1, HSG.out.2.2.2.1, HSG.out.2.2.2.2.1, HSG.out.2.2.2.2.2.1, HSG.out.2.2.2.2.2.2, HN0.out, HEV.out.2.2.1]
      simp
    · have HM0 : Hid (sgM l = M) := by show _ = _; unfold sgM; rw [HSG.out.2.2.2.2.1, if_neg hF0, HSG.out.2.1, HEV.out.2.2.2.2]
      have hFp : (0 : Int) < (F : Int) := by omega
      have HD : Hid (decide (0 < F) = true) := decide_eq_true (by omega)
      go_enter Tryd.func17, Tryd.ntmps17
      go_wp2_with (first
        | (go_at_call 14; refine (headerOf_any l m a cap _ HB.out.2.1 (HB.out.1.keep HW0.out.1) (by omega) hcap (HB.out.2.2.keep HW0.out.1)).mono ?_; rw [HHO.out]; rintro r w1 ⟨rfl, hb1⟩; have HB1 : Hid (Below w.heap.size w w1 ∧ SegAt w1 w.heap.size 0 0 0 false 0 (.slice none 0 0) 0) := ⟨HW0.out.1.trans (hb1.mono (by simp)), (SegAt.new w 0 0 0 false 0 (.slice none 0 0) 0).keep hb1⟩; have hs1 : w.heap.size < w1.heap.size := (by have h := hb1.size; simp at h; omega); clear hb1)
        | (go_at_call 41; refine (run_any l m a cap H (Y : Int) 512 w1 HB.out.2.1 (HB.out.1.keep HB1.out.1) hcap (by omega) hHm (by omega) (by omega) (HB.out.2.2.keep HB1.out.1)).mono ?_; rw [HEV.out.1, HEV.out.2.1]; rintro r w2 ⟨xs, v, rfl, hx, hr, hy, hb2⟩; have hxl : xs.length = n := (by have h := congrArg List.length hx; rw [List.length_map, HEV.out.2.2.1] at h; exact h); obtain ⟨a2, c2, hv2⟩ := row_shape hr; rw [hxl] at hr hv2; subst hv2; have hop : OwnP w2 w1.heap.size (.slice a2 n c2) xs := ⟨by rw [hxl]; exact hr, hy⟩; have HX : Hid (xs.map It.fm = EV ∧ xs.length = n ∧ OwnP w2 w.heap.size (.slice a2 n c2) xs ∧ PlcA w2 a2 xs) := ⟨hx, hxl, hop.mono (Nat.le_of_lt hs1), plc_ofP hop⟩; have HB2 : Hid (Below w.heap.size w w2 ∧ SegAt w2 w.heap.size 0 0 0 false 0 (.slice none 0 0) 0) := ⟨below_next HB1.out.1 hb2, HB1.out.2.keep hb2⟩; have hs2 : w.heap.size < w2.heap.size := Nat.lt_of_lt_of_le hs1 hb2.size; have HW3 : Hid (Below w.heap.size w (w2.alloc (.cells (SgA (X : Int) (Y : Int) (n : Int) false 0 (.slice none 0 0) (G : Int)) 38)) ∧ Below w2.heap.size w2 (w2.alloc (.cells (SgA (X : Int) (Y : Int) (n : Int) false 0 (.slice none 0 0) (G : Int)) 38))) := ⟨HB2.out.1.alloc HB2.out.1.size _, (Below.refl _ _).alloc (Nat.le_refl _) _⟩; clear hx hr hy hb2 hxl hop)
        | ((with_reducible refine at_slice ?_); refine wpList_slice_l rfl _ _ rfl rfl rfl hGm hcap HB.out.2.1 (HB.out.1.keep HW3.out.1) ?_; intro xa hxa; have HXA : Hid (Bytes _ xa (l.drop G)) := hxa; clear hxa)
        | (go_at_call 42; refine (sealedBy_any (l.drop G) X Y EV xs (m - G) n xa a2 (cap - G) c2 _ (by rw [List.length_drop, HB.out.2.1]) HXA.out (by omega) (by omega) HX.out.1 HX.out.2.1 (HX.out.2.2.2.keep HW3.out.2) HEO.out hY2 hX2 (HB.out.2.2.keep HW3.out.1)).mono ?_; rw [HFN.out.1, HFN.out.2]; rintro r w4 ⟨rfl, hb4⟩; have HB4 : Hid (Below w.heap.size w w4 ∧ Below w2.heap.size w2 w4 ∧ SegAt w4 w.heap.size 0 0 0 false 0 (.slice none 0 0) 0 ∧ SegAt w4 w2.heap.size (X : Int) (Y : Int) (n : Int) false 0 (.slice none 0 0) (G : Int)) := (by have h24 := HW3.out.2.trans (hb4.mono (by simp)); exact ⟨below_next HB2.out.1 h24, h24, HB2.out.2.keep h24, (SegAt.new w2 (X : Int) (Y : Int) (n : Int) false 0 (.slice none 0 0) (G : Int)).keep hb4⟩); clear hb4)
        | (go_at_call 43; refine (build_any (EV.map evP) (pflt xs) n a2 c2 (F : Int) w4 HEV.out.2.2.2.1 (by have h := plAt_of (HX.out.2.2.2.keep HB4.out.2.1); rw [HX.out.1] at h; exact h) (by omega) (by omega) (by omega)).mono ?_; rw [HEV.out.2.2.2.2]; rintro r w5 ⟨v5, rfl, ho5, hb5⟩; obtain ⟨a5, c5, hv5, _⟩ := ho5.shape; subst hv5; have HB5 : Hid (Below w.heap.size w w5 ∧ SegAt w5 w.heap.size 0 0 0 false 0 (.slice none 0 0) 0 ∧ SegAt w5 w2.heap.size (X : Int) (Y : Int) (n : Int) false 0 (.slice none 0 0) (G : Int) ∧ OwnP w5 w.heap.size (.slice a2 n c2) xs ∧ OwnM w5 w.heap.size (.slice a5 M.length c5) M) := ⟨below_next HB4.out.1 hb5, HB4.out.2.2.1.keep hb5, HB4.out.2.2.2.keep hb5, (HX.out.2.2.1.below HB4.out.2.1).below hb5, World.ownsRow.mono (base' := w.heap.size) ho5 HB4.out.1.size⟩; have q3 : w5.cell? ⟨w2.heap.size, 3, none⟩ = some (.bool false) := (HB5.out.2.2.1.at 3).1; have q4 : w5.cell? ⟨w2.heap.size, 4, none⟩ = some (.int .i64 0) := (HB5.out.2.2.1.at 4).1; have q5 : w5.cell? ⟨w2.heap.size, 5, none⟩ = some (.slice none 0 0) := (HB5.out.2.2.1.at 5).1; have q6 : w5.cell? ⟨w2.heap.size, 6, none⟩ = some (.int .i64 (G : Int)) := (HB5.out.2.2.1.at 6).1; have z3 := (HB5.out.2.2.1.at 3).2; have z4 := (HB5.out.2.2.1.at 4).2; have z5 := (HB5.out.2.2.1.at 5).2; have z6 := (HB5.out.2.2.1.at 6).2; clear ho5 hb5)
        | ((with_reducible refine frm_load 38 ?_); refine wpList_load_seg rfl _ rfl (HB5.out.2.2.1.sets _ _ _) rfl ?_)
        | ((with_reducible refine frm_store 38 ?_); refine wpList_store_seg rfl _ _ rfl rfl (seg_sets HB5.out.2.1 (Nat.ne_of_lt hs2) _ _ _ _) rfl rfl rfl ?_; intro w9 hs9 ho9 hh9 hz9; have HB9 : Hid (Below w.heap.size w w9 ∧ SegAt w9 w.heap.size (X : Int) (Y : Int) (n : Int) true (F : Int) (.slice a5 M.length c5) ((G : Int) + (N : Int)) ∧ OwnP w9 w.heap.size (.slice a2 n c2) xs ∧ OwnM w9 w.heap.size (.slice a5 M.length c5) M) := ⟨below_one (below_sets HB5.out.1 (Nat.le_of_lt hs2) _ _ _ _) ho9 hh9 hz9 (Nat.le_refl _), hs9, ownP_one (ownP_one HB5.out.2.2.2.1 HB5.out.2.2.1 (sets_one _ _ _ _ _ _)) (seg_sets HB5.out.2.1 (Nat.ne_of_lt hs2) _ _ _ _) hh9, row_one (row_one HB5.out.2.2.2.2 HB5.out.2.2.1 (by decide) (sets_one _ _ _ _ _ _)) (seg_sets HB5.out.2.1 (Nat.ne_of_lt hs2) _ _ _ _) (by decide) hh9⟩; clear hs9 ho9 hh9 hz9)
        | fail)
      (try simp only [Exit.inBlock, Exit.then])
      refine bodyPost_ret (results_seg3 rfl _ _ w.heap.size rfl HB9.out.2.1) rfl ⟨.inr ⟨HSG.out.1, xs, .slice a2 n c2, .slice a5 M.length c5, by rw [HX.out.1, HSG.out.2.1], ?_, HB9.out.2.2.1, by rw [HM0.out]; exact HB9.out.2.2.2⟩, HB9.out.1⟩
      rw [HSG.out.2.1, HSG.out.2.2.1, HSG.out.2.2.2.1, HSG.out.2.2.2.2.1, HSG.out.2.2.2.2.2.1, HSG.out.2.2.2.2.2.2, HEV.out.2.2.1, HD.out]
      rfl
end Go.Proofs.YtaegmeilhdbnnaaDoor
namespace Go.Proofs.YtaegmeilhdbnnaaDoor
open Go.ChangeShapes Go.WideShapes Go.ChangeAt Go.RowKit
theorem Tryd.info5r : (Tryd.prog.info? 5).map (fun i => (i.zero, i.size, i.bytes)) = some (some (.int .u8 0), 1, 1) := by kernel_rfl
theorem encF_succ (f u : Nat) : encF (f + 1) u = if u < 128 then [u] else (128 + u % 128) :: encF f (u / 128) := rfl
theorem own_one (w : World) (c : Nat) (h : c < 256) : Own (w.alloc (.cells #[.int .u8 (c : Int)] 5)) w.heap.size (.slice (some ⟨w.heap.size, 0, none⟩) 1 1) [c] := by
  refine ⟨getD_lt (by simpa using h), ?_⟩
  exact World.ownsRow_lit w #[.int .u8 (c : Int)] 1 (Nat.le_refl _) (by unfold maxLen; omega) rfl
theorem own_keep {w w' : World} {o : Obj} {v : Value} {l : List Nat} (h : Own (w.alloc o) w.heap.size v l) (hb : Below (w.heap.size + 1) (w.alloc o) w') : w'.ownsRow w.heap.size 5 1 v l.length (B8 l) := by
  obtain ⟨_, h1, h2⟩ := h
  refine ⟨h1, ?_⟩
  rcases h2 with h2 | ⟨g, cap, cur, h3, h4, h5, h6, h7, h8, h9⟩
  · exact .inl h2
  · refine .inr ⟨g, cap, cur, h3, h4, ?_, h6, h7, h8, h9⟩
    have hlt : g < w.heap.size + 1 := by
      by_cases hh : g < (w.alloc o).heap.size
      · rw [World.size_alloc] at hh; exact hh
      · rw [Array.getElem?_eq_none (by omega)] at h5; cases h5
    rw [hb.block g hlt]; exact h5
set_option maxRecDepth 20000 in
set_option maxHeartbeats 1000000 in
theorem renc_any (f u : Nat) (w : World) (h64 : u ≤ 18446744073709551615) (hp : u < 128 ^ (f + 1)) :
    Calls Tryd.prog 57 #[.int .u64 u] w fun e w' => ∃ v, e = .returned v ∧ Own w' w.heap.size v (encF (f + 1) u) ∧ Below w.heap.size w w' := by
  obtain ⟨i0, hi, hz0, hz1, hz2⟩ := info_parts Tryd.info5r
  induction f generalizing u w with
  | zero =>
    have hlt : u < 128 := by simpa using hp
    have HE : Hid (encF 1 u = [u]) := by show _ = _; unfold encF; rw [if_pos hlt]
    have HO : Hid (_) := own_one w u (by omega)
    have hu8 : (u : Int) ≤ 255 := by omega
    clear hp
    go_enter Tryd.func57, Tryd.ntmps57
    go_wp2
    go_ret
    exact ⟨_, rfl, by rw [HE.out]; exact HO.out, (Below.refl _ _).alloc (Nat.le_refl _) _⟩
  | succ f ih =>
    by_cases hlt : u < 128
    · have HE : Hid (encF (f + 1 + 1) u = [u]) := by show _ = _; unfold encF; rw [if_pos hlt]
      have HO : Hid (_) := own_one w u (by omega)
      have hu8 : (u : Int) ≤ 255 := by omega
      clear hp ih
      go_enter Tryd.func57, Tryd.ntmps57
      go_wp2
      go_ret
      exact ⟨_, rfl, by rw [HE.out]; exact HO.out, (Below.refl _ _).alloc (Nat.le_refl _) _⟩
    · have HE : Hid (encF (f + 1 + 1) u = [128 + u % 128] ++ encF (f + 1) (u / 128)) := by
        show _ = _
        rw [encF_succ, if_neg hlt]
        rfl
      have HO : Hid (Own (w.alloc (.cells #[.int .u8 (128 + (u : Int) % 128)] 5)) w.heap.size (.slice (some ⟨w.heap.size, 0, none⟩) 1 1) [128 + u % 128]) := by
        have h := own_one w (128 + u % 128) (by omega)
        rw [show ((128 + u % 128 : Nat) : Int) = 128 + (u : Int) % 128 from by omega] at h
        exact h
      have hp2 : u / 128 < 128 ^ (f + 1) := by rw [Nat.pow_succ] at hp; exact Nat.div_lt_of_lt_mul (by rw [Nat.mul_comm]; exact hp)
      have IH : Hid (Calls Tryd.prog 57 #[.int .u64 ((u : Int) / 128)] (w.alloc (.cells #[.int .u8 (128 + (u : Int) % 128)] 5)) fun e w' => ∃ v, e = .returned v ∧ Own w' (w.heap.size + 1) v (encF (f + 1) (u / 128)) ∧ Below (w.heap.size + 1) (w.alloc (.cells #[.int .u8 (128 + (u : Int) % 128)] 5)) w') := by
        have h := ih (u / 128) (w.alloc (.cells #[.int .u8 (128 + (u : Int) % 128)] 5)) (by omega) hp2
        rw [show ((u / 128 : Nat) : Int) = (u : Int) / 128 from by omega, World.size_alloc] at h
        exact h
      have hlen : (encF (f + 1) (u / 128)).length ≤ 10 := by
        rw [encF_length f _ hp2]
        have h2 : bitLen (u / 128 ||| 1) ≤ 64 := bitLen_lt _ 64 (by rw [or_one]; omega)
        omega
      have HNE : Hid (encF (f + 1) (u / 128) ≠ []) := by
        show _ ≠ _
        unfold encF
        split <;> simp
      have hge : ¬ (u : Int) < 128 := by omega
      clear hp ih hp2 hlt
      generalize hL : encF (f + 1) (u / 128) = L at *
      clear hL
      go_enter Tryd.func57, Tryd.ntmps57
      go_wp2_with (first
        | (go_at_call 57; refine (IH.out).mono ?_; rintro e w2 ⟨v, rfl, ho, hb⟩; have HBY : Hid (∀ i, L.getD i 0 < 256) := ho.1; obtain ⟨g, cap, rfl, hcap, hby⟩ := ho.row HNE.out; clear ho; have HO2 : Hid (w2.ownsRow w.heap.size 5 1 (.slice (some ⟨w.heap.size, 0, none⟩) 1 1) 1 (B8 [128 + u % 128])) := own_keep HO.out hb; have hs2 : w.heap.size ≤ w2.heap.size := by have := hb.size; rw [World.size_alloc] at this; omega)
        | (at_builtin; refine wpList_append_own _ rfl _ _ 22 rfl w.heap.size 5 i0 (.int .u8 0) 1 1 Tryd.underlying22 hi hz0 hz1 hz2 rfl (by decide) _ _ _ rfl HO2.out ⟨g, 0, none⟩ L.length cap (B8 L) rfl (B8_length L) (bytes_cells hby) (B8_one L) (by unfold maxLen; omega) (by omega) hs2 ?_; intro v4 w4 ho4 hg4 _))
      have hb4 := grown_row (Below.refl w.heap.size w2) HO2.out hs2 hg4
      clear hg4
      go_wp2
      go_ret
      refine ⟨v4, rfl, ?_, ((Below.refl _ _).alloc (Nat.le_refl _) _).trans ((hb.mono (by omega)).trans hb4)⟩
      rw [HE.out]
      refine Own.append (getD_lt (by intro x hx; simp at hx; omega)) HBY.out ?_
      exact ho4
end Go.Proofs.YtaegmeilhdbnnaaDoor
namespace Go.Proofs.YtaegmeilhdbnnaaDoor
open Go.ChangeShapes Go.WideShapes Go.ChangeAt Go.RowKit
theorem val7_append (l : List Nat) (c : Nat) : val7 (l ++ [c]) = val7 l + c % 128 * 128 ^ l.length := by
  induction l with
  | nil => simp [val7]
  | cons x r ih =>
    simp only [List.cons_append, val7, List.length_cons]
    rw [ih, Nat.pow_succ]
    grind
theorem val7_lt (l : List Nat) : val7 l < 128 ^ l.length := by
  induction l with
  | nil => simp [val7]
  | cons x r ih =>
    simp only [val7, List.length_cons]
    rw [Nat.pow_succ]
    omega
theorem val7_drop (l : List Nat) (j : Nat) : val7 (l.drop j) ≤ val7 l := by
  induction l generalizing j with
  | nil => simp
  | cons x r ih =>
    cases j with
    | zero => simp
    | succ j =>
      have := ih j
      simp only [List.drop_succ_cons, val7]
      omega
theorem take_snoc_at (l : List Nat) (k c : Nat) (h : k < l.length) (hc : c = l.getD k 0) : l.take (k + 1) = l.take k ++ [c] := by
  subst hc
  rw [List.take_succ_eq_append_getElem h, List.getD_eq_getElem?_getD, List.getElem?_eq_getElem h]; rfl
theorem dec_stop (l : List Nat) (k : Nat) (hk : k ≤ l.length) (hk9 : k ≤ 9) (h : ∀ j, j < k → 128 ≤ l.getD j 0) : dec 0 0 l = dec k (val7 (l.take k)) (l.drop k) := by
  induction k with
  | zero => simp [val7]
  | succ k ih =>
    rw [ih (by omega) (by omega) (fun j hj => h j (by omega)), drop_at l k _ (by omega) rfl, dec_cons]
    have := h k (by omega)
    rw [if_neg (by omega), if_pos this, take_snoc_at l k _ (by omega) rfl, val7_append, List.length_take, Nat.min_eq_left (by omega)]
theorem val7_top (l : List Nat) (k c : Nat) (h : k < l.length) (hc : c = l.getD k 0) (h256 : c < 256) (hk : k ≤ 8 ∨ (k = 9 ∧ c ≤ 1)) : val7 (l.take (k + 1)) ≤ 18446744073709551615 := by
  have h1 := val7_lt (l.take k)
  rw [List.length_take, Nat.min_eq_left (by omega)] at h1
  have h2 := or_step _ c k h1 h256 hk
  rw [take_snoc_at l k c h hc, val7_append, List.length_take, Nat.min_eq_left (by omega)]
  omega
theorem drop_take_step (l : List Nat) (k j c : Nat) (h : k < l.length) (hj : j ≤ k) (hc : c = l.getD j 0) : val7 ((l.take (k + 1)).drop j) = c % 128 + 128 * val7 ((l.take (k + 1)).drop (j + 1)) := by
  have h1 : j < (l.take (k + 1)).length := by rw [List.length_take]; omega
  have h2 : c = (l.take (k + 1)).getD j 0 := by
    rw [hc, List.getD_eq_getElem?_getD, List.getD_eq_getElem?_getD, List.getElem?_take, if_pos (by omega)]
  rw [drop_at _ j c h1 h2]
  rfl
set_option maxRecDepth 20000 in
set_option maxHeartbeats 2000000 in
theorem rdec_any (l : List Nat) (a : Option Addr) (cap : Nat) (w : World) (hb : Bytes w a l) (hl : l.length ≤ maxLen) :
    Calls Tryd.prog 35 #[.slice a l.length cap] w fun e w' => e = .returned (.tuple #[.int .u64 (dec 0 0 l).1, .int .i64 (dec 0 0 l).2.1, .int .i64 (dec 0 0 l).2.2]) ∧ w = w' := by
  unfold maxLen at hl
  obtain ⟨hby, rfl | ⟨b, off, rfl, hlt, hcell⟩⟩ := hb
  · go_enter Tryd.func35, Tryd.ntmps35
    go_wp2
    refine wp_loop_rounds 1 ?_
    rw [rounds_succ]
    go_wp2
    go_ret3
    exact ⟨rfl, rfl⟩
  · go_enter Tryd.func35, Tryd.ntmps35
    go_wp2
    go_loop [5] (fun i => ∃ k : Nat, k ≤ l.length ∧ k ≤ 9 ∧ i = .int .i64 k ∧ ∀ j, j < k → 128 ≤ l.getD j 0) (fun i => l.length - (intOf i).toNat)
    case atStart => exact ⟨0, Nat.zero_le _, by omega, rfl, fun j hj => by omega⟩
    case round =>
      obtain ⟨k, hk, hk9, rfl, hj⟩ := hrel
      have HJ : Hid (∀ j, j < k → 128 ≤ l.getD j 0) := hj
      have HD : Hid (_ = _) := dec_stop l k hk hk9 hj
      clear hj
      have HCELL : Hid (∀ i, i < l.length → w.cell? ⟨b, off + i, none⟩ = some (.int .u8 (l.getD i 0 : Nat))) := hcell
      have HBY : Hid (∀ i, l.getD i 0 < 256) := hby
      by_cases hkl : k < l.length
      · have hc := hcell k hkl
        have hc256 := hby k
        obtain ⟨c, hcE⟩ : ∃ c, c = l.getD k 0 := ⟨_, rfl⟩
        rw [← hcE] at hc hc256
        have HC : Hid (c = l.getD k 0) := hcE
        clear hcE hcell hby
        have HT : Hid (c < 128 → ¬ (k = 9 ∧ 1 < c) → ¬ (c = 0 ∧ 0 < k) → dec 0 0 l = (val7 (l.take (k + 1)), k + 1, 0)) := by
          show _ → _
          intro h1 h2 h3
          rw [HD.out, drop_at l k c hkl HC.out, dec_cons, if_neg h2, if_neg (by omega), if_neg h3, take_snoc_at l k c hkl HC.out, val7_append, List.length_take, Nat.min_eq_left (by omega)]
        have HV : Hid (k ≤ 8 ∨ (k = 9 ∧ c ≤ 1) → val7 (l.take (k + 1)) ≤ 18446744073709551615) := fun h => val7_top l k c hkl HC.out hc256 h
        have HDC : Hid (dec 0 0 l = if k = 9 ∧ 1 < c then (0, 0, 12) else if 128 ≤ c then dec (k + 1) (val7 (l.take k) + c % 128 * 128 ^ k) (l.drop (k + 1)) else if c = 0 ∧ 0 < k then (0, 0, 11) else (val7 (l.take k) + c % 128 * 128 ^ k, k + 1, 0)) := by
          show _ = _
          rw [HD.out, drop_at l k c hkl HC.out, dec_cons]
        clear HD
        have hkb : k < 9 ∨ k = 9 := by omega
        rcases hkb with hk8 | rfl
        · have hkn : ((k : Int) == 9) = false := by simp; omega
          have hkl2 : ((k : Int) == (l.length : Int)) = false := by simp; omega
          by_cases hc128 : 128 ≤ c
          · go_wp2
            go_round
            case rel =>
              refine ⟨k + 1, by omega, by omega, by go_num, fun j hj => ?_⟩
              by_cases hjk : j < k
              · exact HJ.out j hjk
              · obtain rfl : j = k := by omega
                rw [← HC.out]; exact hc128
            case measure => first | (simp [intOf]; done) | (simp [intOf]; omega)
          · have hc128' : (c : Int) < 128 := by omega
            have hgeq : ¬ (128 : Int) ≤ (c : Int) := by omega
            by_cases h11 : c = 0 ∧ 0 < k
            · have HE : Hid (dec 0 0 l = (0, 0, 11)) := by
                show _ = _
                rw [HDC.out, if_neg (by omega), if_neg hc128, if_pos h11]
              have hc0 : ((c : Int) == 0) = true := by simp; omega
              have hk0 : (0 : Int) < (k : Int) := by omega
              clear HDC HT HV HJ HBY HCELL HC hc128 h11
              go_wp2
              go_ret3
              exact ⟨by rw [HE.out]; rfl, rfl⟩
            · have HE : Hid (_ = _) := HT.out (by omega) (by omega) h11
              have hval := HV.out (by omega)
              clear HDC HT HV HJ HC hc128
              by_cases hk0 : 0 < k
              · have hc0 : ((c : Int) == 0) = false := by simp; omega
                have hk0' : (0 : Int) < (k : Int) := by omega
                clear h11 hk0
                go_wp2
                go_loop [6, 7] (fun vu vi => ∃ j u : Nat, j ≤ k + 1 ∧ vu = .int .u64 u ∧ u = val7 ((l.take (k + 1)).drop j) ∧ ((j = 0 ∧ vi = .int .i64 (-1)) ∨ ∃ j' : Nat, j = j' + 1 ∧ vi = .int .i64 j')) (fun _ vi => (intOf vi + 1).toNat)
                case atStart => exact ⟨k + 1, 0, Nat.le_refl _, rfl, by rw [List.drop_eq_nil_of_le (by rw [List.length_take]; omega)]; rfl, .inr ⟨k, rfl, rfl⟩⟩
                case round =>
                  obtain ⟨j, u, hjk, rfl, hu, hvi⟩ := hrel
                  have HU : Hid (u = val7 ((l.take (k + 1)).drop j)) := hu
                  clear hu
                  rcases hvi with ⟨rfl, rfl⟩ | ⟨j', rfl, rfl⟩
                  · clear HCELL HBY
                    go_wp2
                    go_ret3
                    rw [HE.out]
                    exact ⟨ret3 (by rw [HU.out]; rfl) rfl rfl, rfl⟩
                  · have hd := HCELL.out j' (by omega)
                    have hd256 := HBY.out j'
                    obtain ⟨d, hdE⟩ : ∃ d, d = l.getD j' 0 := ⟨_, rfl⟩
                    rw [← hdE] at hd hd256
                    have HS : Hid (_ = _) := drop_take_step l k j' d hkl (by omega) hdE
                    have hB1 := val7_drop (l.take (k + 1)) j'
                    rw [HS.out, ← HU.out] at hB1
                    have hB2 : (u : Int) * 128 + (d : Int) % 128 ≤ 18446744073709551615 := by omega
                    have hB3 : (u : Int) * 128 ≤ 18446744073709551615 := by omega
                    have hjl : (j' : Int) < (l.length : Int) := by omega
                    clear hB1 hdE
                    go_wp2
                    go_round
                    case rel =>
                      refine ⟨j', u * 128 + d % 128, by omega, by go_num, by rw [HS.out, ← HU.out]; omega, ?_⟩
                      cases j' with
                      | zero => exact .inl ⟨rfl, rfl⟩
                      | succ j'' => exact .inr ⟨j'', rfl, by go_num⟩
                    case measure => first | (simp [intOf]; done) | (simp [intOf]; omega)
              · have hk0' : ¬ (0 : Int) < (k : Int) := by omega
                clear h11 hk0
                go_wp2
                go_loop [6, 7] (fun vu vi => ∃ j u : Nat, j ≤ k + 1 ∧ vu = .int .u64 u ∧ u = val7 ((l.take (k + 1)).drop j) ∧ ((j = 0 ∧ vi = .int .i64 (-1)) ∨ ∃ j' : Nat, j = j' + 1 ∧ vi = .int .i64 j')) (fun _ vi => (intOf vi + 1).toNat)
                case atStart => exact ⟨k + 1, 0, Nat.le_refl _, rfl, by rw [List.drop_eq_nil_of_le (by rw [List.length_take]; omega)]; rfl, .inr ⟨k, rfl, rfl⟩⟩
                case round =>
                  obtain ⟨j, u, hjk, rfl, hu, hvi⟩ := hrel
                  have HU : Hid (u = val7 ((l.take (k + 1)).drop j)) := hu
                  clear hu
                  rcases hvi with ⟨rfl, rfl⟩ | ⟨j', rfl, rfl⟩
                  · clear HCELL HBY
                    go_wp2
                    go_ret3
                    rw [HE.out]
                    exact ⟨ret3 (by rw [HU.out]; rfl) rfl rfl, rfl⟩
                  · have hd := HCELL.out j' (by omega)
                    have hd256 := HBY.out j'
                    obtain ⟨d, hdE⟩ : ∃ d, d = l.getD j' 0 := ⟨_, rfl⟩
                    rw [← hdE] at hd hd256
                    have HS : Hid (_ = _) := drop_take_step l k j' d hkl (by omega) hdE
                    have hB1 := val7_drop (l.take (k + 1)) j'
                    rw [HS.out, ← HU.out] at hB1
                    have hB2 : (u : Int) * 128 + (d : Int) % 128 ≤ 18446744073709551615 := by omega
                    have hB3 : (u : Int) * 128 ≤ 18446744073709551615 := by omega
                    have hjl : (j' : Int) < (l.length : Int) := by omega
                    clear hB1 hdE
                    go_wp2
                    go_round
                    case rel =>
                      refine ⟨j', u * 128 + d % 128, by omega, by go_num, by rw [HS.out, ← HU.out]; omega, ?_⟩
                      cases j' with
                      | zero => exact .inl ⟨rfl, rfl⟩
                      | succ j'' => exact .inr ⟨j'', rfl, by go_num⟩
                    case measure => first | (simp [intOf]; done) | (simp [intOf]; omega)
        · have hkl2 : ((9 : Int) == (l.length : Int)) = false := by simp; omega
          by_cases hc1 : 1 < c
          · have HE : Hid (dec 0 0 l = (0, 0, 12)) := by
              show _ = _
              rw [HDC.out, if_pos ⟨rfl, hc1⟩]
            have hc1' : (1 : Int) < (c : Int) := by omega
            clear HDC HT HV HJ HBY HCELL HC hc1
            go_wp2
            go_ret3
            exact ⟨by rw [HE.out]; rfl, rfl⟩
          · have hc1' : ¬ (1 : Int) < (c : Int) := by omega
            by_cases h11 : c = 0
            · have HE : Hid (dec 0 0 l = (0, 0, 11)) := by
                show _ = _
                rw [HDC.out, if_neg (by omega), if_neg (by omega), if_pos (by omega)]
              have hc0 : ((c : Int) == 0) = true := by simp; omega
              clear HDC HT HV HJ HBY HCELL HC hc1 h11
              go_wp2
              go_ret3
              exact ⟨by rw [HE.out]; rfl, rfl⟩
            · have HE : Hid (_ = _) := HT.out (by omega) (by omega) (by omega)
              have hval := HV.out (by omega)
              have hc0 : ((c : Int) == 0) = false := by simp; omega
              clear HDC HT HV HJ HC hc1 h11
              go_wp2
              go_loop [6, 7] (fun vu vi => ∃ j u : Nat, j ≤ 9 + 1 ∧ vu = .int .u64 u ∧ u = val7 ((l.take (9 + 1)).drop j) ∧ ((j = 0 ∧ vi = .int .i64 (-1)) ∨ ∃ j' : Nat, j = j' + 1 ∧ vi = .int .i64 j')) (fun _ vi => (intOf vi + 1).toNat)
              case atStart => exact ⟨9 + 1, 0, Nat.le_refl _, rfl, by rw [List.drop_eq_nil_of_le (by rw [List.length_take]; omega)]; rfl, .inr ⟨9, rfl, rfl⟩⟩
              case round =>
                obtain ⟨j, u, hjk, rfl, hu, hvi⟩ := hrel
                have HU : Hid (u = val7 ((l.take (9 + 1)).drop j)) := hu
                clear hu
                rcases hvi with ⟨rfl, rfl⟩ | ⟨j', rfl, rfl⟩
                · clear HCELL HBY
                  go_wp2
                  go_ret3
                  rw [HE.out]
                  exact ⟨ret3 (by rw [HU.out]; rfl) rfl rfl, rfl⟩
                · have hd := HCELL.out j' (by omega)
                  have hd256 := HBY.out j'
                  obtain ⟨d, hdE⟩ : ∃ d, d = l.getD j' 0 := ⟨_, rfl⟩
                  rw [← hdE] at hd hd256
                  have HS : Hid (_ = _) := drop_take_step l 9 j' d hkl (by omega) hdE
                  have hB1 := val7_drop (l.take (9 + 1)) j'
                  rw [HS.out, ← HU.out] at hB1
                  have hB2 : (u : Int) * 128 + (d : Int) % 128 ≤ 18446744073709551615 := by omega
                  have hB3 : (u : Int) * 128 ≤ 18446744073709551615 := by omega
                  have hjl : (j' : Int) < (l.length : Int) := by omega
                  clear hB1 hdE
                  go_wp2
                  go_round
                  case rel =>
                    refine ⟨j', u * 128 + d % 128, by omega, by go_num, by rw [HS.out, ← HU.out]; omega, ?_⟩
                    cases j' with
                    | zero => exact .inl ⟨rfl, rfl⟩
                    | succ j'' => exact .inr ⟨j'', rfl, by go_num⟩
                  case measure => first | (simp [intOf]; done) | (simp [intOf]; omega)
      · have hkl2 : ((k : Int) == (l.length : Int)) = true := by simp; omega
        have HE : Hid (dec 0 0 l = (0, 0, 10)) := by
          show _ = _
          rw [HD.out, List.drop_eq_nil_of_le (by omega)]; rfl
        clear HD HJ hcell hby HBY HCELL
        go_wp2
        go_ret3
        exact ⟨by rw [HE.out]; rfl, rfl⟩
theorem rdec_at (l : List Nat) (n u k e : Nat) (a : Option Addr) (cap : Nat) (w : World) (e1 : l.length = n) (hd : dec 0 0 l = (u, k, e)) (hb : Bytes w a l) (hl : l.length ≤ maxLen) :
    Calls Tryd.prog 35 #[.slice a n cap] w fun x w' => x = .returned (.tuple #[.int .u64 u, .int .i64 k, .int .i64 e]) ∧ w = w' := by
  subst e1
  refine (rdec_any l a cap w hb hl).mono ?_
  rw [hd]
  exact fun _ _ h => h
end Go.Proofs.YtaegmeilhdbnnaaDoor
