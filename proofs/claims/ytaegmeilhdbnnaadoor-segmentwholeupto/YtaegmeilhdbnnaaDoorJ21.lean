/- Own texts, joined: Frk, Sc13, Sc14, Sc15. -/
import Derived.Test.YtaegmeilhdbnnaaDoorJ07
import Derived.Test.YtaegmeilhdbnnaaDoorJ18
import Derived.Deep.SlicePairs
import Derived.Test.YtaegmeilhdbnnaaDoorJ05
import Derived.Test.YtaegmeilhdbnnaaDoorJ06
import Derived.Test.YtaegmeilhdbnnaaDoorJ08
namespace Go.Proofs.YtaegmeilhdbnnaaDoor
open Go.ChangeShapes Go.WideShapes Go.ChangeAt Go.RowKit Go.Deep
set_option linter.unusedVariables false
/-- a frame that came in: its kind and number, its body, where that lies -/
structure Fi where
  k : Int
  s : Int
  body : List Nat
  ad : Option Addr
  cp : Nat
/-- one of them lies well -/
structure FiOk (w : World) (f : Fi) : Prop where
  wk : (Lit.int .i64 f.k).wf = true
  ws : (Lit.int .i64 f.s).wf = true
  byt : Bytes w f.ad f.body
  len : f.body.length ≤ f.cp
  nil : f.ad = none → f.cp = 0
/-- frames that lie from address a on -/
structure FrsA (w : World) (a : Option Addr) (L : List Fi) : Prop where
  lie : L = [] ∨ ∃ b off, a = some ⟨b, off, none⟩ ∧ b < w.heap.size ∧ ∀ i f, L[i]? = some f → w.cell? ⟨b, off + i * 3, none⟩ = some (.int .i64 f.k) ∧ w.cell? ⟨b, off + i * 3 + 1, none⟩ = some (.int .i64 f.s) ∧ w.cell? ⟨b, off + i * 3 + 2, none⟩ = some (.slice f.ad f.body.length f.cp)
  oks : ∀ f ∈ L, FiOk w f
theorem FrsA.keep {w w' : World} {a : Option Addr} {L : List Fi} (h : FrsA w a L) (hb : Below w.heap.size w w') : FrsA w' a L := by
  refine ⟨?_, fun f hf => ?_⟩
  · rcases h.lie with h1 | ⟨b, off, h1, h2, h3⟩
    · exact .inl h1
    · refine .inr ⟨b, off, h1, Nat.lt_of_lt_of_le h2 hb.size, fun i f hf => ?_⟩
      obtain ⟨d0, d1, d2⟩ := h3 i f hf
      exact ⟨(hb.cell (p := ⟨b, off + i * 3, none⟩) h2).trans d0, (hb.cell (p := ⟨b, off + i * 3 + 1, none⟩) h2).trans d1, (hb.cell (p := ⟨b, off + i * 3 + 2, none⟩) h2).trans d2⟩
  · have := h.oks f hf
    exact ⟨this.wk, this.ws, this.byt.keep hb, this.len, this.nil⟩
/-- how much frames are together -/
def fbulk : List Fi → Nat
  | [] => 0
  | f :: r => f.cp + 4 + fbulk r
theorem fbulk_append : ∀ (L M : List Fi), fbulk (L ++ M) = fbulk L + fbulk M
  | [], M => by simp [fbulk]
  | f :: L, M => by simp only [List.cons_append, fbulk, fbulk_append L M]; omega
section
variable {H : Type} {enc : TypeId × Value → H} {w : World} {base : Nat} {held : Bool}
theorem open_frm {fuel : Nat} {c0 c1 c2 : Value} {x : DataW H × List MemPlace} (h : DataW.trod enc Tryd.prog w base (fun _ => true) held fuel 65 [c0, c1, c2] = some x) :
    ∃ f : Fi, c0 = .int .i64 f.k ∧ c1 = .int .i64 f.s ∧ c2 = .slice f.ad f.body.length f.cp ∧ FiOk w f ∧ f.cp + 4 ≤ Rows.uptoBulk x.1 := by
  obtain ⟨xs, n, _, hxy, _, hlen, hf⟩ := DataW.trod_struct Tryd.underlying65 h
  match xs, hlen with
  | [y0, y1, y2], _ =>
    have k0 : Tryd.prog.cellsOf 3 = 1 := by kernel_rfl
    have k3 : Tryd.prog.cellsOf 22 = 1 := by kernel_rfl
    have g0 : DataW.trod enc Tryd.prog w base (fun _ => true) held n 3 [c0] = some y0 := by have := hf 0 _ rfl; simpa [k0] using this
    have g1 : DataW.trod enc Tryd.prog w base (fun _ => true) held n 3 [c1] = some y1 := by have := hf 1 _ rfl; simpa [k0] using this
    have g2 : DataW.trod enc Tryd.prog w base (fun _ => true) held n 22 [c2] = some y2 := by have := hf 2 _ rfl; simpa [k3] using this
    obtain ⟨t, ht, hy0, ht2⟩ := DataW.trod_int Tryd.underlying3 g0
    obtain ⟨u, hu, hy1, hu2⟩ := DataW.trod_int Tryd.underlying3 g1
    simp only [List.cons.injEq, and_true] at ht hu
    subst hxy hy0 hy1
    rcases open_ints Tryd.underlying22 Tryd.underlying5 (by kernel_rfl) g2 with ⟨hcs, hx⟩ | ⟨a, len, cap, zs, hcs, _, hl, hm, hz, hx, hcell, hwz⟩
    · simp only [List.cons.injEq, and_true] at hcs
      subst hx
      exact ⟨⟨t, u, [], none, 0⟩, ht, hu, hcs, ⟨ht2, hu2, ⟨by simp, .inl rfl⟩, Nat.le_refl _, fun _ => rfl⟩, by simp [Rows.uptoBulk, Rows.uptoBulkAll]⟩
    · simp only [List.cons.injEq, and_true] at hcs
      have hz2 : zs.length = cap := by simpa using hz
      obtain ⟨ll, e1, e2, e3⟩ := row_nats .u8 256 (by decide) wf_u8 w a zs len (by omega) hcell hwz
      subst hx
      refine ⟨⟨t, u, ll, some a, cap⟩, ht, hu, by rw [hcs, e1], ⟨ht2, hu2, ⟨e2, e3⟩, by simp only; omega, fun h => by cases h⟩, ?_⟩
      have := bulks.slice_le (lits (H := H) .u8 (zs.take len)) (lits .u8 (zs.drop len))
      simp only [lits, List.length_map, List.length_take, List.length_drop] at this
      simp only [List.map_cons, List.map_nil, Rows.uptoBulk, Rows.uptoBulkAll, lits] at this ⊢
      omega
theorem bulk_map (D : Nat → DataW H) (q : Nat → Fi) : ∀ k : Nat, (∀ i, i < k → (q i).cp + 4 ≤ Rows.uptoBulk (D i)) → fbulk ((List.range k).map q) ≤ Rows.uptoBulkAll ((List.range k).map D)
  | 0, _ => by simp [fbulk]
  | k + 1, h => by
    have ih := bulk_map D q k (fun i hi => h i (by omega))
    rw [List.range_succ, List.map_append, List.map_append, fbulk_append]
    have ha : ∀ L M : List (DataW H), Rows.uptoBulkAll (L ++ M) = Rows.uptoBulkAll L + Rows.uptoBulkAll M := by
      intro L M
      induction L with
      | nil => simp [Rows.uptoBulkAll]
      | cons d r ihr => simp only [List.cons_append, Rows.uptoBulkAll, ihr]; omega
    rw [ha]
    have := h k (by omega)
    simp only [List.map_cons, List.map_nil, fbulk, Rows.uptoBulkAll]
    omega
end
end Go.Proofs.YtaegmeilhdbnnaaDoor
namespace Go.Proofs.YtaegmeilhdbnnaaDoor
open Go.ChangeShapes Go.WideShapes Go.ChangeAt Go.RowKit Go.Shelf
set_option linter.unusedVariables false
theorem scanN_shift (a l : List Nat) : ∀ (f p : Nat), scanN f (a ++ l) (a.length + p) = (scanN f l p).map (sh a.length)
  | 0, p => rfl
  | f + 1, p => by
    have hd : (a ++ l).drop (a.length + p) = l.drop p := by
      rw [List.drop_append, List.drop_eq_nil_of_le (by omega), List.nil_append]
      congr 1
      omega
    unfold scanN
    rw [hd]
    by_cases h : p < l.length ∧ decE (l.drop p) = 0
    · rw [if_pos h, if_pos (by rw [List.length_append]; exact ⟨by omega, h.2⟩), List.map_cons, Nat.add_assoc, scanN_shift a l f]
      rfl
    · rw [if_neg h, if_neg (by rw [List.length_append]; rintro ⟨h1, h2⟩; exact h ⟨by omega, h2⟩)]
      rfl
theorem scanAt_shift (a l : List Nat) : scanAt (a ++ l) a.length = (scanL l).map (sh a.length) := by
  unfold scanAt scanL
  have h := scanN_shift a l (l.length + 1) 0
  rw [Nat.add_zero] at h
  rw [← h]
  exact scanN_fuel _ _ _ _ (by omega) (by rw [List.length_append]; omega)
/-- a frame that can be laid -/
structure Fok (k s : Nat) (body : List Nat) : Prop where
  byt : ∀ y ∈ body, y < 256
  k1 : 1 ≤ k
  k7 : k ≤ 7
  len : body.length ≤ 16384
  seq : s ≤ 1099511627776
theorem scanL_frame {k s : Nat} {body : List Nat} (h : Fok k s body) (r : List Nat) : scanL (frameL k s body ++ r) = ⟨0, k, s, body⟩ :: (scanL r).map (sh (body.length + 20)) := by
  obtain ⟨h1, h2, h3, h4, h5⟩ := dec_laid k s body r h.byt h.k1 h.k7 h.len h.seq
  have hst := scanAt_step (frameL k s body ++ r) 0 (by rw [List.length_append, frameL_length]; omega) (by rw [List.drop_zero]; exact h1)
  rw [List.drop_zero, h2, h3, h4, h5, Nat.zero_add] at hst
  have hsh := scanAt_shift (frameL k s body) r
  rw [frameL_length] at hsh
  rw [hsh] at hst
  exact hst
theorem endZ_map (d : Nat) (L : List Fm) : endZ d (L.map (sh d)) = d + endZ 0 L := by
  unfold endZ
  rw [List.getLast?_map]
  cases L.getLast? with
  | none => simp
  | some f => simp only [Option.map_some, sh]; omega
theorem endZ_cons (z : Nat) (f : Fm) (L : List Fm) : endZ z (f :: L) = endZ (f.pos + f.body.length + 20) L := by
  cases L with
  | nil => simp [endZ]
  | cons g r => simp [endZ, List.getLast?_cons_cons]; rfl
theorem end_frame {k s : Nat} {body : List Nat} (h : Fok k s body) (r : List Nat) : endZ 0 (scanL (frameL k s body ++ r)) = body.length + 20 + endZ 0 (scanL r) := by
  rw [scanL_frame h, endZ_cons]
  simp only [Nat.zero_add]
  exact endZ_map _ _
theorem allE_frame {k s : Nat} {body : List Nat} (h : Fok k s body) (r : List Nat) : allE (frameL k s body ++ r) = allE r := by
  unfold allE
  rw [end_frame h, List.length_append, frameL_length]
  have hd : (frameL k s body ++ r).drop (body.length + 20 + endZ 0 (scanL r)) = r.drop (endZ 0 (scanL r)) := by
    rw [List.drop_append, List.drop_eq_nil_of_le (by rw [frameL_length]; omega), List.nil_append, frameL_length]
    congr 1
    omega
  rw [hd]
  by_cases he : endZ 0 (scanL r) = r.length
  · rw [if_pos he, if_pos (by omega)]
  · rw [if_neg he, if_neg (by omega)]
/-- a frame torn at any byte is none -/
theorem scanL_torn {k s : Nat} {body : List Nat} (h : Fok k s body) (m : Nat) (hm : m < body.length + 20) : scanL ((frameL k s body).take m) = [] ∧ allE ((frameL k s body).take m) = if m = 0 then 0 else 60 := by
  have hd := dec_short k s m body h.byt h.k1 h.k7 h.len h.seq hm
  have hs : scanL ((frameL k s body).take m) = [] := scanAt_end _ 0 (by rw [List.drop_zero, hd]; rintro ⟨_, h2⟩; cases h2)
  refine ⟨hs, ?_⟩
  unfold allE
  rw [hs]
  have hl : ((frameL k s body).take m).length = m := by rw [List.length_take, frameL_length]; omega
  rw [hl]
  show (if 0 = m then 0 else decE (((frameL k s body).take m).drop 0)) = _
  rw [List.drop_zero, hd]
  by_cases h0 : m = 0
  · rw [if_pos h0, if_pos h0.symm]
  · rw [if_neg h0, if_neg (fun e => h0 e.symm)]
end Go.Proofs.YtaegmeilhdbnnaaDoor
namespace Go.Proofs.YtaegmeilhdbnnaaDoor
open Go.ChangeShapes Go.WideShapes Go.ChangeAt Go.RowKit Go.Shelf
set_option linter.unusedVariables false
theorem Tryd.infoIn : (Tryd.prog.info? 3).map (fun i => (i.zero, i.size, i.bytes)) = some (some (.int .i64 0), 1, 8) := by kernel_rfl
def fOk (f : Fi) : Prop := encE f.k f.s f.body.length = 0
def fL (f : Fi) : List Nat := frameL f.k.toNat f.s.toNat f.body
def layF : List Fi → List Nat
  | [] => []
  | f :: r => fL f ++ layF r
theorem layF_append : ∀ (L M : List Fi), layF (L ++ M) = layF L ++ layF M
  | [], M => rfl
  | f :: L, M => by simp only [List.cons_append, layF, layF_append L M, List.append_assoc]
theorem layF_len : ∀ (L : List Fi), (∀ f ∈ L, f.body.length ≤ f.cp) → (layF L).length ≤ 5 * fbulk L
  | [], _ => by simp [layF]
  | f :: L, h => by
    have h1 := layF_len L (fun g hg => h g (List.mem_cons_of_mem _ hg))
    have h2 := h f (List.mem_cons_self ..)
    simp only [layF, fL, List.length_append, frameL_length, fbulk]
    omega
theorem fbulk_take : ∀ (L : List Fi) (k : Nat), fbulk (L.take k) ≤ fbulk L
  | [], k => by simp
  | f :: L, 0 => by simp [fbulk]
  | f :: L, k + 1 => by simp only [List.take_succ_cons, fbulk]; have := fbulk_take L k; omega
theorem fbulk_len : ∀ (L : List Fi), 4 * L.length ≤ fbulk L
  | [] => by simp
  | f :: L => by simp only [List.length_cons, fbulk]; have := fbulk_len L; omega
theorem fbulk_mem : ∀ (L : List Fi) (f : Fi), f ∈ L → f.cp + 4 ≤ fbulk L
  | g :: L, f, h => by
    simp only [fbulk]
    rcases List.mem_cons.1 h with rfl | h
    · omega
    · have := fbulk_mem L f h; omega
/-- where they end -/
def endV (L : List Fi) (k : Nat) : List Value := (List.range k).map fun i => .int .i64 ((layF (L.take (i + 1))).length : Int)
theorem endV_succ (L : List Fi) (k : Nat) : endV L (k + 1) = endV L k ++ [.int .i64 ((layF (L.take (k + 1))).length : Int)] := by
  unfold endV; rw [List.range_succ, List.map_append]; rfl
/-- a row of another type stays where a row grows -/
theorem row_apart {W w5 : World} {b1 n1 z1 b2 n2 z2 : Nat} {e1 e2 : TypeId} {v u : Value} {xs ys : List Value} (ho : W.ownsRow b1 e1 z1 v n1 xs) (hg : W.grownBy w5 v.ownBlock) (h : W.ownsRow b2 e2 z2 u n2 ys) (hne : e1 ≠ e2) : w5.ownsRow b2 e2 z2 u n2 ys := by
  refine ⟨h.1, ?_⟩
  rcases h.2 with h2 | ⟨g, cap, cur, g3, g4, g5, g6⟩
  · exact .inl h2
  · refine .inr ⟨g, cap, cur, g3, g4, ?_, g6⟩
    rw [hg.block g (lt_of_heap g5) (fun e => ?_)]
    · exact g5
    · rcases ho.2 with ⟨rfl, _⟩ | ⟨g', cap', cur', rfl, _, hh, _⟩
      · simp [Value.ownBlock] at e
      · have : g = g' := by simpa [Value.ownBlock] using e
        subst this
        rw [g5] at hh
        cases hh
        exact hne rfl
theorem own_addr {w : World} {base : Nat} {a : Option Addr} {n c : Nat} {l : List Nat} (h : Own w base (.slice a n c) l) : (a = none → c = 0) ∧ (∀ x, a = some x → ∃ b off, x = ⟨b, off, none⟩) := by
  obtain ⟨a2, c2, h1, _, _, _, h5⟩ := h.shape
  cases h1
  rcases h5 with ⟨h6, _, h7⟩ | ⟨g, h6, _⟩
  · exact ⟨fun _ => h7, fun x hx => by rw [h6] at hx; cases hx⟩
  · refine ⟨fun hx => ?_, fun x hx => ?_⟩
    · rw [h6] at hx; cases hx
    · rw [h6] at hx; cases hx; exact ⟨g, 0, rfl⟩
end Go.Proofs.YtaegmeilhdbnnaaDoor
namespace Go.Proofs.YtaegmeilhdbnnaaDoor
open Go.ChangeShapes Go.WideShapes Go.ChangeAt Go.RowKit Go.Shelf
set_option linter.unusedVariables false
theorem fok_of {w : World} {f : Fi} (h : fOk f) (hw : FiOk w f) : Fok f.k.toNat f.s.toNat f.body := by
  obtain ⟨k, s, h1, h2, h3, h4, h5, h6⟩ := encE_ok h
  refine ⟨fun y hy => ?_, by omega, by omega, h6, by omega⟩
  obtain ⟨i, hi, rfl⟩ := List.mem_iff_getElem.1 hy
  have := hw.byt.1 i
  simpa [List.getD_eq_getElem?_getD, hi] using this
theorem scan_lay (r : List Nat) : ∀ (L : List Fi), (∀ f ∈ L, Fok f.k.toNat f.s.toNat f.body) → (∃ P, P.length = L.length ∧ scanL (layF L ++ r) = P ++ (scanL r).map (sh (layF L).length)) ∧ endZ 0 (scanL (layF L ++ r)) = (layF L).length + endZ 0 (scanL r) ∧ allE (layF L ++ r) = allE r
  | [], _ => by
    refine ⟨⟨[], rfl, ?_⟩, ?_, rfl⟩
    · simp only [layF, List.nil_append, List.length_nil]
      rw [show sh 0 = id from by funext f; simp [sh], List.map_id]
    · simp [layF]
  | f :: L, h => by
    obtain ⟨⟨P, h1, h2⟩, h3, h4⟩ := scan_lay r L (fun g hg => h g (List.mem_cons_of_mem _ hg))
    have hf := h f (List.mem_cons_self ..)
    have e : layF (f :: L) ++ r = fL f ++ (layF L ++ r) := by simp [layF, List.append_assoc]
    have hl : (layF (f :: L)).length = f.body.length + 20 + (layF L).length := by simp only [layF, fL, List.length_append, frameL_length]
    rw [e, hl]
    refine ⟨⟨⟨0, f.k.toNat, f.s.toNat, f.body⟩ :: P.map (sh (f.body.length + 20)), by simp [h1], ?_⟩, ?_, ?_⟩
    · unfold fL
      rw [scanL_frame hf, h2, List.map_append, List.cons_append, List.map_map]
      congr 3
      funext g
      simp only [sh, Function.comp]
      congr 1
      omega
    · unfold fL
      rw [end_frame hf, h3]
      omega
    · unfold fL
      rw [allE_frame hf, h4]
theorem plc_drop {w : World} {b off n : Nat} {ys : List It} (h : ∀ j, j < ys.length * 5 → w.cell? ⟨b, off + j, none⟩ = (pflt ys)[j]?) (hn : n ≤ ys.length) : ∀ j, j < (ys.drop n).length * 5 → w.cell? ⟨b, off + n * 5 + j, none⟩ = (pflt (ys.drop n))[j]? := by
  intro j hj
  rw [List.length_drop] at hj
  have e : pflt ys = pflt (ys.take n) ++ pflt (ys.drop n) := by rw [← pflt_append, List.take_append_drop]
  have hl : (pflt (ys.take n)).length = n * 5 := by rw [pflt_length, List.length_take]; congr 1; omega
  rw [Nat.add_assoc, h (n * 5 + j) (by omega), e, List.getElem?_append_right (by omega), hl]
  congr 1
  omega
theorem sliceP_under : Tryd.prog.underlying 39 = some (.slice (Tryd.prog.elem 39)) := by kernel_rfl
theorem sliceP_size (w : World) : (sizeOf (Tryd.prog.elem 39)).run Tryd.prog w = .ok 5 w := by kernel_rfl
theorem at_sliceP {ops : Array Oper} {rest : List Oper} {a : Act} {w : World} {Q : Exit → Act → World → Prop} {dst : Option Tmp} {ty : TypeId} {pos : String} {after : Array Edge} {s lo : Operand}
    (h : wpList Tryd.prog ops Q (⟨dst, .slice 39 s (some lo) none none, ty, pos, after, none⟩ :: rest) a w) : wpList Tryd.prog ops Q (⟨dst, .slice 39 s (some lo) none none, ty, pos, after, none⟩ :: rest) a w := h
theorem plc_cut {w : World} {a : Option Addr} {ys : List It} (h : PlcA w a ys) (i cap : Nat) (hi : i ≤ ys.length) (hc : ys.length ≤ cap) : PlcA w (if cap = i then a else a.map (·.add (i * 5))) (ys.drop i) := by
  refine ⟨?_, fun x hx => h.byt x (List.mem_of_mem_drop hx)⟩
  by_cases hci : cap = i
  · exact .inl (List.drop_of_length_le (by omega))
  · rw [if_neg hci]
    rcases h.lie with rfl | ⟨b, off, rfl, hlt, hcell⟩
    · exact .inl (by simp)
    · refine .inr ⟨b, off + i * 5, by simp [Addr.add], hlt, plc_drop hcell hi⟩
theorem wpList_sliceP {ops : Array Oper} {rest : List Oper} {o : Oper} {a : Act} {w : World} {Q : Exit → Act → World → Prop} (hgd : o.guard = none) (s lo : Operand) (ho : o.op = .slice 39 s (some lo) none none)
    {A : Option Addr} {n cap i : Nat} {ys : List It} (hs : a.eval s = .slice A n cap) (hlo : a.eval lo = .int .i64 (i : Int)) (hi : i ≤ n) (hn : n ≤ cap) (hl : ys.length = n) (hb : PlcA w A ys)
    (h : ∀ x, PlcA w x (ys.drop i) → wpList Tryd.prog ops Q rest (a.put o.dst (.slice x (n - i) (cap - i))) w) : wpList Tryd.prog ops Q (o :: rest) a w :=
  wpList_plain hgd fun _ hK => by
    have hrun := run_slice_l (P := Tryd.prog) w 39 A n cap sliceP_under .i64 (i : Int) (by omega) (by omega)
    unfold Oper.wp execOp
    simp only [ho, hs, hlo, Option.map_some, Option.map_none, Sem.run_bind, Sem.run_pure, Result.andThen_ok, run_sliceAt_slice (P := Tryd.prog) w 39 _ _ _ _ sliceP_under, hrun, sliceP_size, sliced, Int.toNat_natCast]
    exact hK _ _ (h _ (plc_cut hb i cap (by omega) (by omega)))
/-- the first k of them moved by d -/
def mvd (d : Nat) (xs : List It) (k : Nat) : List It := (xs.take k).map (shI d) ++ xs.drop k
theorem mvd_len (d : Nat) (xs : List It) (k : Nat) : (mvd d xs k).length = xs.length := by
  unfold mvd; rw [List.length_append, List.length_map, List.length_take, List.length_drop]; omega
theorem mvd_set (d : Nat) (xs : List It) (k : Nat) (x : It) (hx : xs[k]? = some x) : (pflt (mvd d xs k)).set (k * 5) (.int .i64 ((d : Int) + (x.fm.pos : Int))) = pflt (mvd d xs (k + 1)) := by
  have hk := get_lt hx
  have e1 : xs.drop k = x :: xs.drop (k + 1) := by
    rw [List.drop_eq_getElem_cons hk]
    congr 1
    exact (List.getElem?_eq_some_iff.1 hx).2
  have e2 : xs.take (k + 1) = xs.take k ++ [x] := by rw [List.take_add_one, hx]; rfl
  unfold mvd
  rw [e1, e2, List.map_append, List.append_assoc, pflt_append, pflt_append]
  have hl : (pflt ((xs.take k).map (shI d))).length = k * 5 := by rw [pflt_length, List.length_map, List.length_take]; congr 1; omega
  rw [List.set_append_right _ _ (by omega), hl, Nat.sub_self]
  simp [pflt, shI, sh]
theorem mvd_all (d : Nat) (xs : List It) (n : Nat) (h : xs.length = n) : mvd d xs n = xs.map (shI d) := by
  unfold mvd
  rw [List.take_of_length_le (by omega), List.drop_of_length_le (by omega), List.append_nil]
theorem mvd_get (d : Nat) (xs : List It) (k : Nat) (x : It) (hx : xs[k]? = some x) : (mvd d xs k)[k]? = some x := by
  have hk := get_lt hx
  unfold mvd
  rw [List.getElem?_append_right (by simp; omega), List.length_map, List.length_take, List.getElem?_drop]
  rw [show k + (k - min k xs.length) = k from by omega]
  exact hx
/-- placed frames of one's own of which one place is written -/
theorem OwnP.setPos {W : World} {base d k n c : Nat} {a : Option Addr} {xs : List It} {x : It} (h : OwnP W base (.slice a n c) (mvd d xs k)) (hx : xs[k]? = some x) (hn : xs.length = n) : ∃ g, a = some ⟨g, 0, none⟩ ∧ base ≤ g ∧ g < W.heap.size ∧ W.cell? ⟨g, k * 5, none⟩ = some (.int .i64 (x.fm.pos : Int)) ∧ W.frozen? ⟨g, k * 5, none⟩ = false ∧ OwnP (W.setCell ⟨g, k * 5, none⟩ (.int .i64 ((d : Int) + (x.fm.pos : Int)))) base (.slice a n c) (mvd d xs (k + 1)) := by
  have hk := get_lt hx
  obtain ⟨hrow, hby⟩ := h
  rw [mvd_len, hn] at hrow
  obtain ⟨g, c2, hv, hb, hlt⟩ := hrow.form (by omega)
  cases hv
  have hst := (hrow.stored (k * 5) (.int .i64 ((d : Int) + (x.fm.pos : Int)))).1
  rw [mvd_set d xs k x hx] at hst
  refine ⟨g, rfl, hb, hlt, (hrow.cellAt (k * 5) (by omega)).trans (pflt_get _ k x (mvd_get d xs k x hx)).1, hrow.frozenAt _, ⟨by rw [mvd_len, hn]; exact hst, fun y hy => ?_⟩⟩
  have hy2 : ∃ z ∈ mvd d xs k, z.bv = y.bv ∧ z.fm.body = y.fm.body := by
    unfold mvd at hy ⊢
    rw [List.take_add_one, hx] at hy
    rcases List.mem_append.1 hy with hy | hy
    · rw [List.map_append] at hy
      rcases List.mem_append.1 hy with hy | hy
      · exact ⟨y, List.mem_append_left _ hy, rfl, rfl⟩
      · simp at hy
        subst hy
        refine ⟨x, List.mem_append_right _ ?_, rfl, rfl⟩
        rw [List.drop_eq_getElem_cons hk]
        exact List.mem_cons.2 (.inl (List.getElem?_eq_some_iff.1 hx).2.symm)
    · refine ⟨y, List.mem_append_right _ ?_, rfl, rfl⟩
      rw [List.drop_eq_getElem_cons hk]
      exact List.mem_cons_of_mem _ hy
  obtain ⟨z, hz, e1, e2⟩ := hy2
  have hz2 := hby z hz
  rw [e1, e2] at hz2
  have := body_kept (n := n) (xs := pflt (mvd d xs k)) hrow (hrow.stored (k * 5) (.int .i64 ((d : Int) + (x.fm.pos : Int)))).2 hz2
  exact this
end Go.Proofs.YtaegmeilhdbnnaaDoor
