/- Own texts, joined: Sg11, Sg6, Bulk, Frk. -/
import Derived.Test.YtaegmeilhdbnnabDoorJ14
import Derived.Test.YtaegmeilhdbnnabDoorJ11
import Derived.Test.YtaegmeilhdbnnabDoorJ13
import Derived.Test.YtaegmeilhdbnnabDoorJ06
import Derived.Test.YtaegmeilhdbnnabDoorRows
import Derived.Test.YtaegmeilhdbnnabDoorJ07
import Derived.Deep.SlicePairs
namespace Go.Proofs.YtaegmeilhdbnnabDoor
open Go.ChangeShapes Go.WideShapes Go.ChangeAt Go.RowKit
set_option linter.unusedVariables false
/-- a segment's cells and value -/
abbrev SgA (x y c : Int) (s : Bool) (t : Int) (mv : Value) (g : Int) : Array Value := #[.int .i64 x, .int .i64 y, .int .i64 c, .bool s, .int .i64 t, mv, .int .i64 g]
abbrev SgV (x y c : Int) (s : Bool) (t : Int) (mv : Value) (g : Int) : Value := .agg (SgA x y c s t mv g)
def SegAt (w : World) (k : Nat) (x y c : Int) (s : Bool) (t : Int) (mv : Value) (g : Int) : Prop := w.heap[k]? = some (.cells (SgA x y c s t mv g) 39)
theorem Tryd.infoSeg : (Tryd.prog.info? 39).map (·.size) = some 7 := by kernel_rfl
section
variable {w w' : World} {k : Nat} {x y c : Int} {s : Bool} {t : Int} {mv : Value} {g : Int}
theorem SegAt.keep (h : SegAt w k x y c s t mv g) (hb : Below w.heap.size w w') : SegAt w' k x y c s t mv g := (hb.block k (lt_of_heap h)).trans h
theorem SegAt.new (w : World) (x y c : Int) (s : Bool) (t : Int) (mv : Value) (g : Int) : SegAt (w.alloc (.cells (SgA x y c s t mv g) 39)) w.heap.size x y c s t mv g := heap_alloc_new w _
theorem SegAt.at (h : SegAt w k x y c s t mv g) (j : Nat) : w.cell? ⟨k, j, none⟩ = (SgA x y c s t mv g)[j]? ∧ w.frozen? ⟨k, j, none⟩ = false := ⟨cell_of_row _ _ j _ _ _ h, frozen_of_row _ _ j _ _ h⟩
theorem SegAt.loadVar (h : SegAt w k x y c s t mv g) : (Go.loadVar 39 ⟨k, 0, none⟩).run Tryd.prog w = .ok (SgV x y c s t mv g) w :=
  run_loadVar_row _ _ _ _ _ _ _ h Tryd.underlying39 rfl Tryd.infoSeg
theorem SegAt.load (h : SegAt w k x y c s t mv g) : (Instr.loadAt 39 (.pointer (some ⟨k, 0, none⟩))).run Tryd.prog w = .ok (SgV x y c s t mv g) w := by
  simp only [Instr.loadAt, Instr.sureAddr, Sem.run_bind, Sem.run_pure, Result.andThen_ok, h.loadVar]
theorem seg_one (x y c : Int) (s : Bool) (t : Int) (mv : Value) (g : Int) (hv : mv.oneCell' = true) : (SgA x y c s t mv g).all (·.oneCell') = true := by
  simp [hv]; exact ⟨rfl, rfl, rfl, rfl, rfl, rfl⟩
theorem SegAt.set (h : SegAt w k x y c s t mv g) (j : Nat) (u : Value) : (w.setCell ⟨k, j, none⟩ u).heap[k]? = some (.cells ((SgA x y c s t mv g).set! j u) 39) := heap_setCell_same w k j _ _ u h
theorem SegAt.other (h : SegAt w k x y c s t mv g) (m : Nat) (hk : k ≠ m) (j : Nat) (u : Value) : SegAt (w.setCell ⟨m, j, none⟩ u) k x y c s t mv g := (heap_setCell_other w ⟨m, j, none⟩ k u hk).trans h
theorem SegAt.store (h : SegAt w k x y c s t mv g) (x2 y2 c2 : Int) (s2 : Bool) (t2 : Int) (mv2 : Value) (g2 : Int) (hv : mv2.oneCell' = true) : ∃ w2, (Instr.storeAt 39 (.pointer (some ⟨k, 0, none⟩)) (SgV x2 y2 c2 s2 t2 mv2 g2)).run Tryd.prog w = .ok () w2 ∧ SegAt w2 k x2 y2 c2 s2 t2 mv2 g2 ∧ (w2.os = w.os ∧ w2.tape = w.tape ∧ w2.output = w.output) ∧ (∀ j, j ≠ k → w2.heap[j]? = w.heap[j]?) ∧ w2.heap.size = w.heap.size := by
  refine ⟨w.setRow k (SgA x2 y2 c2 s2 t2 mv2 g2), ?_, ?_, ⟨rfl, rfl, rfl⟩, fun j hj => ?_, ?_⟩
  · simp only [Instr.storeAt, Instr.sureAddr, Sem.run_bind, Sem.run_pure, Result.andThen_ok, run_storeVar_row w k 39 39 (SgA x y c s t mv g) (SgA x2 y2 c2 s2 t2 mv2 g2) h Tryd.infoSeg rfl (seg_one x2 y2 c2 s2 t2 mv2 g2 hv)]
  · unfold SegAt at h ⊢
    simp [World.setRow, Array.getElem?_modify, h]
  · simp only [World.setRow, Array.getElem?_modify]
    rw [if_neg (Ne.symm hj)]
  · simp [World.setRow]
end
theorem wpList_load_seg {ops : Array Oper} {rest : List Oper} {o : Oper} {a : Act} {w : World} {Q : Exit → Act → World → Prop} (hgd : o.guard = none) (p : Operand) (ho : o.op = .load 39 p)
    {k : Nat} {x y c : Int} {s : Bool} {t : Int} {mv : Value} {g : Int} (hL : SegAt w k x y c s t mv g) (hx : a.eval p = .pointer (some ⟨k, 0, none⟩)) (h : wpList Tryd.prog ops Q rest (a.put o.dst (SgV x y c s t mv g)) w) : wpList Tryd.prog ops Q (o :: rest) a w :=
  wpList_plain hgd fun _ hK => by
    unfold Oper.wp execOp
    simp only [ho, hx, Sem.run_bind, Sem.run_pure, Result.andThen_ok, hL.load]
    exact hK _ _ h
theorem wpList_store_seg {ops : Array Oper} {rest : List Oper} {o : Oper} {a : Act} {w : World} {Q : Exit → Act → World → Prop} (hgd : o.guard = none) (p q : Operand) (ho : o.op = .store 39 p q) (hd : o.dst = none)
    {k : Nat} {x y c : Int} {s : Bool} {t : Int} {mv : Value} {g : Int} {x2 y2 c2 : Int} {s2 : Bool} {t2 : Int} {mv2 : Value} {g2 : Int} (hL : SegAt w k x y c s t mv g) (hv : mv2.oneCell' = true) (hx : a.eval p = .pointer (some ⟨k, 0, none⟩)) (hy : a.eval q = SgV x2 y2 c2 s2 t2 mv2 g2)
    (h : ∀ w2, SegAt w2 k x2 y2 c2 s2 t2 mv2 g2 → (w2.os = w.os ∧ w2.tape = w.tape ∧ w2.output = w.output) → (∀ j, j ≠ k → w2.heap[j]? = w.heap[j]?) → w2.heap.size = w.heap.size → wpList Tryd.prog ops Q rest a w2) : wpList Tryd.prog ops Q (o :: rest) a w :=
  wpList_plain hgd fun _ hK => by
    obtain ⟨w2, h1, h2, h3, h4, h5⟩ := hL.store x2 y2 c2 s2 t2 mv2 g2 hv
    unfold Oper.wp execOp
    simp only [ho, hx, hy, Sem.run_bind, Sem.run_pure, Result.andThen_ok, h1]
    have hp : a.put o.dst undef = a := by rw [hd]; rfl
    exact hK _ _ (by rw [hp]; exact h w2 h2 h3 h4 h5)
theorem results_seg3 {fn : Func} {p t u : Tmp} (h : fn.results = #[.cell p 39, .tmp t, .tmp u]) (tmps : Array Value) (w : World) (k : Nat) {x y c : Int} {s : Bool} {r : Int} {mv : Value} {g : Int} (hp : tmps.getD p undef = .pointer (some ⟨k, 0, none⟩)) (hl : SegAt w k x y c s r mv g) :
    (results fn tmps).run Tryd.prog w = .ok (.tuple #[SgV x y c s r mv g, tmps.getD t undef, tmps.getD u undef]) w := by
  simp only [Array.getD_eq_getD_getElem?] at hp
  simp [results, h, hp, asAddr, hl.loadVar]
/-- a row of another type stays where one block is written anew -/
theorem row_one {w w2 : World} {base n size k T : Nat} {e : TypeId} {v : Value} {xs : List Value} {c : Array Value} {m : Nat × Nat} (ho : w.ownsRow base e size v n xs) (hk : w.heap[k]? = some (.cells c T m)) (hT : T ≠ e) (hh : ∀ j, j ≠ k → w2.heap[j]? = w.heap[j]?) : w2.ownsRow base e size v n xs := by
  refine ⟨ho.1, ?_⟩
  rcases ho.2 with h2 | ⟨g, cap, cur, h3, h4, h5, h6⟩
  · exact .inl h2
  · refine .inr ⟨g, cap, cur, h3, h4, (hh g ?_).trans h5, h6⟩
    rintro rfl
    have h7 := hk.symm.trans h5
    cases h7
    exact hT rfl
theorem ownP_one {w w2 : World} {base k : Nat} {v : Value} {xs : List It} {x y c : Int} {s : Bool} {t : Int} {mv : Value} {g : Int} (h : OwnP w base v xs) (hk : SegAt w k x y c s t mv g) (hh : ∀ j, j ≠ k → w2.heap[j]? = w.heap[j]?) : OwnP w2 base v xs :=
  ⟨row_one h.1 hk (by decide) hh, fun z hz => ⟨(h.2 z hz).1, row_one (h.2 z hz).2 hk (by decide) hh⟩⟩
theorem set_one (w : World) (k j : Nat) (u : Value) : ∀ i, i ≠ k → (w.setCell ⟨k, j, none⟩ u).heap[i]? = w.heap[i]? := fun i hi => heap_setCell_other w ⟨k, j, none⟩ i u hi
/-- the events of a segment, where they end, the stride and the size of its footer, its marks -/
def sgE (l : List Nat) : List Fm := runL l (pn l + 20) (hoY l : Int) 512
def sgG (l : List Nat) : Nat := endZ (pn l + 20) (sgE l)
def sgF (l : List Nat) : Nat := ftS (l.drop (sgG l)) (hoX l) (hoY l) (sgE l)
def sgN (l : List Nat) : Nat := ftN (l.drop (sgG l)) (hoX l) (hoY l) (sgE l)
def sgM (l : List Nat) : List Mk := if sgF l = 0 then [] else bldL (sgF l : Int) ((sgE l).map evP)
/-- what Scan answers -/
def ScanP (l : List Nat) (base : Nat) (e : Ending) (w' : World) : Prop :=
  (hdr l = none ∧ e = .returned (.tuple #[SgV 0 0 0 false 0 (.slice none 0 0) 0, .slice none 0 0, .int .i64 71])) ∨
  ((hdr l).isSome = true ∧ ∃ (xs : List It) (v mv : Value), xs.map It.fm = sgE l ∧ e = .returned (.tuple #[SgV (hoX l : Nat) (hoY l : Nat) ((sgE l).length : Nat) (decide (0 < sgF l)) (sgF l : Nat) mv ((sgG l : Int) + (sgN l : Int)), v, .int .i64 0]) ∧ OwnP w' base v xs ∧ OwnM w' base mv (sgM l))
theorem runEnd (l : List Nat) (d y : Nat) (hd : d ≤ l.length) : d ≤ endZ d (runL l d (y : Int) 512) ∧ endZ d (runL l d (y : Int) 512) ≤ l.length := by
  unfold endZ
  cases hg : (runL l d (y : Int) 512).getLast? with
  | none => exact ⟨Nat.le_refl _, hd⟩
  | some f =>
    have hm := List.mem_of_getLast? hg
    unfold runL at hm
    obtain ⟨g, hg2, rfl⟩ := List.mem_map.1 hm
    have h1 := (scanL_facts _ g ((runN_pre _ _ _ _).subset hg2)).2
    rw [List.length_drop] at h1
    simp only [sh]
    omega
end Go.Proofs.YtaegmeilhdbnnabDoor
namespace Go.Proofs.YtaegmeilhdbnnabDoor
open Go.ChangeShapes Go.WideShapes Go.ChangeAt Go.RowKit
set_option linter.unusedVariables false
theorem hdrL_len (x y : Nat) : (hdrL x y).length = (nencs [x, y]).length + 20 := by unfold hdrL; exact frameL_length _ _ _
theorem pn_laid (k s : Nat) (body r : List Nat) (hb : ∀ y ∈ body, y < 256) (hk1 : 1 ≤ k) (hk7 : k ≤ 7) (hn : body.length ≤ 16384) (hs : s ≤ 1099511627776) : pn (frameL k s body ++ r) = body.length := by
  obtain ⟨a1, _, _, a4, _⟩ := dec_laid k s body r hb hk1 hk7 hn hs
  unfold decN at a4
  rw [if_pos a1] at a4
  omega
theorem ho_laid (x y : Nat) (r : List Nat) (hx1 : 1 ≤ x) (hx : x ≤ 999999) (hy1 : 1 ≤ y) (hy : y ≤ 1099511627777) : HoV (hdrL x y ++ r) = .tuple #[.int .i64 (x : Int), .int .i64 (y : Int), .int .i64 (((nencs [x, y]).length : Int) + 20), .int .i64 0] := by
  obtain ⟨q1, q2⟩ := hdr_body x y hx hy
  rw [ho_some (hdr_back x y r hx1 hx hy1 hy)]
  unfold hdrL
  rw [pn_laid 2 x (nencs [x, y]) r q1 (by omega) (by omega) (by omega) (by omega)]
set_option maxRecDepth 20000 in
set_option maxHeartbeats 2000000 in
theorem head14_any (w : World) (ht : Tab w) : Calls Tryd.prog 4 #[] w fun e w' => e = .returned (.bool true) ∧ Below w.heap.size w w' := by
  have HT : Hid (Tab w) := ht
  have HV : Hid (hdE 1 1 = 0 ∧ hdV 1 1 = hdrL 1 1) := ⟨rfl, rfl⟩
  have hlen : (hdrL 1 1).length = 22 := by rw [hdrL_len]; rfl
  have HL : Hid ((hdrL 1 1).length = 22 ∧ hdrL 1 1 ≠ []) := ⟨hlen, fun h => by rw [h] at hlen; simp at hlen⟩
  have HO : Hid (HoV (hdrL 1 1) = .tuple #[.int .i64 1, .int .i64 1, .int .i64 22, .int .i64 0]) := by
    have h := ho_laid 1 1 [] (by omega) (by omega) (by omega) (by omega)
    rw [List.append_nil] at h
    exact h
  clear ht hlen
  go_enter Tryd.func4, Tryd.ntmps4
  go_wp2_with (first
    | (go_at_call 7; refine (header_any 1 1 w HT.out).mono ?_; rw [HV.out.1, HV.out.2]; rintro e w1 ⟨v1, rfl, ho1, hb1⟩; obtain ⟨g1, c1, hv1, hc1, hy1⟩ := ho1.row HL.out.2; rw [HL.out.1] at hv1 hc1; subst hv1; have HY1 : Hid (Bytes w1 (some ⟨g1, 0, none⟩) (hdrL 1 1) ∧ 22 ≤ c1 ∧ Below w.heap.size w w1) := ⟨hy1, hc1, hb1⟩; clear ho1 hb1 hy1 hc1)
    | (go_at_call 13; refine (headerOf_any (hdrL 1 1) 22 _ _ _ HL.out.1 HY1.out.1 (by omega) HY1.out.2.1 (HT.out.keep HY1.out.2.2)).mono ?_; rw [HO.out]; rintro e w2 ⟨rfl, hb2⟩; have HB2 : Hid (Below w.heap.size w w2) := below_next HY1.out.2.2 hb2; clear hb2))
  go_ret
  exact ⟨rfl, HB2.out⟩
theorem copy_n (l : List Nat) (n : Nat) (a : Option Addr) (cap : Nat) (w : World) (hn : l.length = n) (hb : Bytes w a l) (hl : n ≤ 140737488351232) :
    Calls Tryd.prog 11 #[.slice a n cap] w fun e w' => ∃ a2 c2, e = .returned (.slice a2 n c2) ∧ n ≤ c2 ∧ Bytes w' a2 l ∧ Below w.heap.size w w' := by
  subst hn
  refine (copy_any l a cap w hb (by omega)).mono ?_
  rintro e w' ⟨v, rfl, ho, hb⟩
  obtain ⟨a2, c2, hv, hc, _, hy, _⟩ := ho.shape
  exact ⟨a2, c2, by rw [hv], hc, hy, hb⟩
end Go.Proofs.YtaegmeilhdbnnabDoor
namespace Go.Proofs.YtaegmeilhdbnnabDoor.bulks
theorem pos {H : Type} (d : DataW H) : 0 < Rows.uptoBulk d := by
  cases d with
  | lit x => cases x <;> simp [Rows.uptoBulk]
  | _ => simp [Rows.uptoBulk]
theorem places {H : Type} : ∀ l : List (DataW H), l.length ≤ Rows.uptoBulkAll l
  | [] => Nat.zero_le _
  | d :: r => by
    have h1 := pos d
    have h2 := places r
    simp only [Rows.uptoBulkAll, List.length_cons]
    omega
theorem slice_le {H : Type} (xs ys : List (DataW H)) : xs.length + ys.length + 1 ≤ Rows.uptoBulk (.slice xs ys) := by
  have h1 := places xs
  have h2 := places ys
  simp only [Rows.uptoBulk]
  omega
theorem bound {H : Type} {l : List (DataW H)} (hk : Rows.uptoSmall H l = true) : Rows.uptoBulkAll l ≤ 1048576 := of_decide_eq_true hk
end Go.Proofs.YtaegmeilhdbnnabDoor.bulks
namespace Go.Proofs.YtaegmeilhdbnnabDoor
open Go.ChangeShapes Go.WideShapes Go.ChangeAt Go.RowKit Go.Deep
set_option linter.unusedVariables false
/-- a frame that came in: its kind and number, its body, where that lies -/
structure Fi where
  k : Int
  s : Int
  body : List Nat
  ad : Option Addr
  cp : Nat
/-- one of them lies well -/
structure FiOk (w : World) (f : Fi) : Prop where
  wk : (Lit.int .i64 f.k).wf = true
  ws : (Lit.int .i64 f.s).wf = true
  byt : Bytes w f.ad f.body
  len : f.body.length ≤ f.cp
  nil : f.ad = none → f.cp = 0
/-- frames that lie from address a on -/
structure FrsA (w : World) (a : Option Addr) (L : List Fi) : Prop where
  lie : L = [] ∨ ∃ b off, a = some ⟨b, off, none⟩ ∧ b < w.heap.size ∧ ∀ i f, L[i]? = some f → w.cell? ⟨b, off + i * 3, none⟩ = some (.int .i64 f.k) ∧ w.cell? ⟨b, off + i * 3 + 1, none⟩ = some (.int .i64 f.s) ∧ w.cell? ⟨b, off + i * 3 + 2, none⟩ = some (.slice f.ad f.body.length f.cp)
  oks : ∀ f ∈ L, FiOk w f
theorem FrsA.keep {w w' : World} {a : Option Addr} {L : List Fi} (h : FrsA w a L) (hb : Below w.heap.size w w') : FrsA w' a L := by
  refine ⟨?_, fun f hf => ?_⟩
  · rcases h.lie with h1 | ⟨b, off, h1, h2, h3⟩
    · exact .inl h1
    · refine .inr ⟨b, off, h1, Nat.lt_of_lt_of_le h2 hb.size, fun i f hf => ?_⟩
      obtain ⟨d0, d1, d2⟩ := h3 i f hf
      exact ⟨(hb.cell (p := ⟨b, off + i * 3, none⟩) h2).trans d0, (hb.cell (p := ⟨b, off + i * 3 + 1, none⟩) h2).trans d1, (hb.cell (p := ⟨b, off + i * 3 + 2, none⟩) h2).trans d2⟩
  · have := h.oks f hf
    exact ⟨this.wk, this.ws, this.byt.keep hb, this.len, this.nil⟩
/-- how much frames are together -/
def fbulk : List Fi → Nat
  | [] => 0
  | f :: r => f.cp + 4 + fbulk r
theorem fbulk_append : ∀ (L M : List Fi), fbulk (L ++ M) = fbulk L + fbulk M
  | [], M => by simp [fbulk]
  | f :: L, M => by simp only [List.cons_append, fbulk, fbulk_append L M]; omega
section
variable {H : Type} {enc : TypeId × Value → H} {w : World} {base : Nat} {held : Bool}
theorem open_frm {fuel : Nat} {c0 c1 c2 : Value} {x : DataW H × List MemPlace} (h : DataW.trod enc Tryd.prog w base (fun _ => true) held fuel 44 [c0, c1, c2] = some x) :
    ∃ f : Fi, c0 = .int .i64 f.k ∧ c1 = .int .i64 f.s ∧ c2 = .slice f.ad f.body.length f.cp ∧ FiOk w f ∧ f.cp + 4 ≤ Rows.uptoBulk x.1 := by
  obtain ⟨xs, n, _, hxy, _, hlen, hf⟩ := DataW.trod_struct Tryd.underlying44 h
  match xs, hlen with
  | [y0, y1, y2], _ =>
    have k0 : Tryd.prog.cellsOf 3 = 1 := by kernel_rfl
    have k3 : Tryd.prog.cellsOf 26 = 1 := by kernel_rfl
    have g0 : DataW.trod enc Tryd.prog w base (fun _ => true) held n 3 [c0] = some y0 := by have := hf 0 _ rfl; simpa [k0] using this
    have g1 : DataW.trod enc Tryd.prog w base (fun _ => true) held n 3 [c1] = some y1 := by have := hf 1 _ rfl; simpa [k0] using this
    have g2 : DataW.trod enc Tryd.prog w base (fun _ => true) held n 26 [c2] = some y2 := by have := hf 2 _ rfl; simpa [k3] using this
    obtain ⟨t, ht, hy0, ht2⟩ := DataW.trod_int Tryd.underlying3 g0
    obtain ⟨u, hu, hy1, hu2⟩ := DataW.trod_int Tryd.underlying3 g1
    simp only [List.cons.injEq, and_true] at ht hu
    subst hxy hy0 hy1
    rcases open_ints Tryd.underlying26 Tryd.underlying5 (by kernel_rfl) g2 with ⟨hcs, hx⟩ | ⟨a, len, cap, zs, hcs, _, hl, hm, hz, hx, hcell, hwz⟩
    · simp only [List.cons.injEq, and_true] at hcs
      subst hx
      exact ⟨⟨t, u, [], none, 0⟩, ht, hu, hcs, ⟨ht2, hu2, ⟨by simp, .inl rfl⟩, Nat.le_refl _, fun _ => rfl⟩, by simp [Rows.uptoBulk, Rows.uptoBulkAll]⟩
    · simp only [List.cons.injEq, and_true] at hcs
      have hz2 : zs.length = cap := by simpa using hz
      obtain ⟨ll, e1, e2, e3⟩ := row_nats .u8 256 (by decide) wf_u8 w a zs len (by omega) hcell hwz
      subst hx
      refine ⟨⟨t, u, ll, some a, cap⟩, ht, hu, by rw [hcs, e1], ⟨ht2, hu2, ⟨e2, e3⟩, by simp only; omega, fun h => by cases h⟩, ?_⟩
      have := bulks.slice_le (lits (H := H) .u8 (zs.take len)) (lits .u8 (zs.drop len))
      simp only [lits, List.length_map, List.length_take, List.length_drop] at this
      simp only [List.map_cons, List.map_nil, Rows.uptoBulk, Rows.uptoBulkAll, lits] at this ⊢
      omega
theorem bulk_map (D : Nat → DataW H) (q : Nat → Fi) : ∀ k : Nat, (∀ i, i < k → (q i).cp + 4 ≤ Rows.uptoBulk (D i)) → fbulk ((List.range k).map q) ≤ Rows.uptoBulkAll ((List.range k).map D)
  | 0, _ => by simp [fbulk]
  | k + 1, h => by
    have ih := bulk_map D q k (fun i hi => h i (by omega))
    rw [List.range_succ, List.map_append, List.map_append, fbulk_append]
    have ha : ∀ L M : List (DataW H), Rows.uptoBulkAll (L ++ M) = Rows.uptoBulkAll L + Rows.uptoBulkAll M := by
      intro L M
      induction L with
      | nil => simp [Rows.uptoBulkAll]
      | cons d r ihr => simp only [List.cons_append, Rows.uptoBulkAll, ihr]; omega
    rw [ha]
    have := h k (by omega)
    simp only [List.map_cons, List.map_nil, fbulk, Rows.uptoBulkAll]
    omega
end
end Go.Proofs.YtaegmeilhdbnnabDoor
