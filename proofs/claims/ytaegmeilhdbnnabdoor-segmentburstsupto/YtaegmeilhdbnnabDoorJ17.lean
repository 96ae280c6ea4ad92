/- Own texts, joined: Sct, Pcs, Sg18, Sg12. -/
import Derived.Test.YtaegmeilhdbnnabDoorJ16
import Derived.Test.YtaegmeilhdbnnabDoorJ00
import Derived.Test.YtaegmeilhdbnnabDoorRows
import Derived.Test.YtaegmeilhdbnnabDoorJ15
import Derived.Deep.Matrix
import Derived.Test.YtaegmeilhdbnnabDoorJ04
namespace Go.Proofs.YtaegmeilhdbnnabDoor.scanTorn
open Go.ChangeShapes Go.WideShapes Go.ChangeAt Go.RowKit
set_option linter.unusedVariables false
theorem row_cap {w : World} {base n c size : Nat} {e : TypeId} {a : Option Addr} {xs : List Value} (h : w.ownsRow base e size (.slice a n c) n xs) : n ≤ c := by
  rcases h.2 with ⟨h1, h2⟩ | ⟨g, cap, cur, h1, _, _, h2, _⟩
  · omega
  · cases h1; exact h2
theorem plc_of2 {w : World} {base N c : Nat} {a : Option Addr} {xs : List It} (h : OwnP w base (.slice a N c) xs) : PlcA w a xs := by
  obtain ⟨a2, c2, h1, h2⟩ := h.plc
  cases h1
  exact h2
theorem scan_cut (L : List Fi) (h : ∀ f ∈ L, Fok f.k.toNat f.s.toNat f.body) (k C : Nat) (h1 : (layF (L.take k)).length ≤ C) (h2 : (k = L.length ∧ C = (layF L).length) ∨ ∃ f, L[k]? = some f ∧ C < (layF (L.take (k + 1))).length) :
    scanL ((layF L).take C) = plF 0 (L.take k) ∧ endZ 0 (scanL ((layF L).take C)) = (layF (L.take k)).length ∧ allE ((layF L).take C) = if (layF (L.take k)).length = C then 0 else 60 := by
  rcases h2 with ⟨rfl, rfl⟩ | ⟨f, hf, h2⟩
  · have ht : L.take L.length = L := List.take_length
    rw [ht, List.take_of_length_le (Nat.le_refl _), if_pos rfl]
    have s1 := scan_plF [] L h
    obtain ⟨_, s2, s3⟩ := scan_lay [] L h
    rw [List.append_nil] at s1 s2 s3
    have e0 : scanL [] = [] := rfl
    rw [e0] at s1 s2
    exact ⟨by rw [s1]; simp, by rw [s2]; simp [endZ], by rw [s3]; rfl⟩
  · exact scan_torn L h k C f hf h1 h2
theorem take_le (L : List Fi) (k : Nat) : (layF (L.take k)).length ≤ (layF L).length := by
  have h : layF L = layF (L.take k) ++ layF (L.drop k) := by rw [← layF_append, List.take_append_drop]
  rw [h, List.length_append]
  omega
end Go.Proofs.YtaegmeilhdbnnabDoor.scanTorn
namespace Go.Proofs.YtaegmeilhdbnnabDoor
open Go.ChangeShapes Go.WideShapes Go.ChangeAt Go.RowKit Go.Deep
set_option linter.unusedVariables false
/-- the script: so many pieces -/
def Pieces (w : World) (a : Option Addr) (n : Nat) (A : Nat → Option Addr) (L : Nat → List Nat) (C : Nat → Nat) : Prop :=
  (n = 0 ∨ ∃ b off, a = some ⟨b, off, none⟩ ∧ b < w.heap.size ∧ ∀ r, r < n → w.cell? ⟨b, off + r, none⟩ = some (.slice (A r) (L r).length (C r))) ∧ ∀ r, r < n → Bytes w (A r) (L r) ∧ (L r).length ≤ C r ∧ (A r = none → C r = 0)
def tot (L : Nat → List Nat) : Nat → Nat
  | 0 => 0
  | k + 1 => tot L k + (L k).length
theorem tot_mono (L : Nat → List Nat) {k n : Nat} (h : k ≤ n) : tot L k ≤ tot L n := by
  induction n with
  | zero => (obtain rfl : k = 0 := (by omega)); exact Nat.le_refl _
  | succ n ih =>
    by_cases hk : k = n + 1
    · subst hk; exact Nat.le_refl _
    · have := ih (by omega); rw [tot]; omega
theorem Pieces.keep {w w' : World} {a : Option Addr} {n : Nat} {A : Nat → Option Addr} {L : Nat → List Nat} {C : Nat → Nat} (h : Pieces w a n A L C) (hb : Below w.heap.size w w') : Pieces w' a n A L C := by
  refine ⟨?_, fun r hr => ⟨(h.2 r hr).1.keep hb, (h.2 r hr).2⟩⟩
  rcases h.1 with h | ⟨b, off, rfl, hlt, hc⟩
  · exact .inl h
  · exact .inr ⟨b, off, rfl, Nat.lt_of_lt_of_le hlt hb.size, fun i hi => (hb.cell (p := ⟨b, off + i, none⟩) hlt).trans (hc i hi)⟩
theorem tot_one (L : Nat → List Nat) {k n : Nat} (h : k < n) : (L k).length ≤ tot L n := by
  have := tot_mono L (show k + 1 ≤ n from h)
  rw [tot] at this
  omega
theorem pieces_of {W : World} (x : Addr) (len cap : Nat) (A : Nat → Option Addr) (L C : Nat → Nat) (Z : Nat → List Int) (hl : len ≤ cap)
    (hr : ∀ r, r < cap → W.cell? (x.add r) = some (.slice (A r) (L r) (C r)) ∧ L r ≤ C r ∧ C r ≤ maxLen ∧ (Z r).length = C r ∧ (∀ n ∈ Z r, (Lit.int .u8 n).wf = true) ∧ (A r = none → C r = 0) ∧
        ∀ a', A r = some a' → 0 ≤ a'.block ∧ ∀ c, c < C r → W.cell? (a'.add c) = some (.int .u8 ((Z r).getD c 0))) :
    ∃ ll : Nat → List Nat, (∀ r, r < len → (ll r).length = L r) ∧ Pieces W (some x) len A ll C := by
  have each : ∀ r, r < len → ∃ l : List Nat, l.length = L r ∧ Bytes W (A r) l := by
    intro r hlt
    obtain ⟨h1, h2, h3, h4, h5, h6, h7⟩ := hr r (by omega)
    cases hA : A r with
    | none =>
      have := h6 hA
      exact ⟨[], by simp; omega, by simp, .inl rfl⟩
    | some a' =>
      obtain ⟨_, hc⟩ := h7 a' hA
      obtain ⟨ll, e1, e2, e3⟩ := row_nats .u8 256 (by decide) wf_u8 W a' (Z r) (L r) (by omega) (by rw [h4]; exact hc) h5
      exact ⟨ll, e1, e2, e3⟩
  obtain ⟨ll, hll⟩ := choose_lt each
  refine ⟨ll, fun r h => (hll r h).1, ?_, fun r h => ⟨(hll r h).2, by rw [(hll r h).1]; exact (hr r (by omega)).2.1, (hr r (by omega)).2.2.2.2.2.1⟩⟩
  by_cases h0 : len = 0
  · exact .inl h0
  · right
    obtain ⟨b, off, spot⟩ := x
    have hc0 := (hr 0 (by omega)).1
    have hspot : spot = none := by simpa [Addr.add] using World.cell?_spot hc0
    subst hspot
    refine ⟨b, off, rfl, World.block_lt_of_cell? _ _ hc0, fun r h => ?_⟩
    have := (hr r (by omega)).1
    rw [show (⟨b, off, none⟩ : Addr).add r = ⟨b, off + r, none⟩ from by simp [Addr.add]] at this
    rw [this, (hll r h).1]
theorem bulk_app {H : Type} (l m : List (DataW H)) : Rows.uptoBulkAll (l ++ m) = Rows.uptoBulkAll l + Rows.uptoBulkAll m := by
  induction l with
  | nil => simp [Rows.uptoBulkAll]
  | cons d r ih => simp only [List.cons_append, Rows.uptoBulkAll, ih]; omega
theorem bulk_range {H : Type} (n : Nat) (f : Nat → DataW H) (ll : Nat → List Nat) (h : ∀ r, r < n → (ll r).length + 1 ≤ Rows.uptoBulk (f r)) : n + tot ll n ≤ Rows.uptoBulkAll ((List.range n).map f) := by
  induction n with
  | zero => simp [tot, Rows.uptoBulkAll]
  | succ n ih =>
    have h1 := ih (fun r hr => h r (by omega))
    have h2 := h n (by omega)
    rw [List.range_succ, List.map_append, bulk_app, tot]
    simp only [List.map_cons, List.map_nil, Rows.uptoBulkAll]
    omega
theorem bulk_row {H : Type} (A : Option Addr) (L : Nat) (C : Nat) (Z : List Int) (hz : Z.length = C) (hl : L ≤ C) (hn : A = none → C = 0) : L + 1 ≤ Rows.uptoBulk (intRow (H := H) .u8 A L Z) := by
  cases A with
  | none => have := hn rfl; simp [intRow, Rows.uptoBulk]; omega
  | some a =>
    have := bulks.slice_le (lits (H := H) .u8 (Z.take L)) (lits .u8 (Z.drop L))
    simp only [lits, List.length_map, List.length_take, List.length_drop] at this
    simp only [intRow, lits]
    omega
end Go.Proofs.YtaegmeilhdbnnabDoor
namespace Go.Proofs.YtaegmeilhdbnnabDoor
open Go.ChangeShapes Go.WideShapes Go.ChangeAt Go.RowKit
set_option linter.unusedVariables false
/-- the frames of a segment's events -/
def evF (y n : Nat) (A : Nat → Option Addr) (L : Nat → List Nat) (C : Nat → Nat) : List Fi := (List.range n).map fun i => ⟨1, ((y + i : Nat) : Int), L i, A i, C i⟩
theorem evF_len (y n : Nat) (A : Nat → Option Addr) (L : Nat → List Nat) (C : Nat → Nat) : (evF y n A L C).length = n := by simp [evF]
theorem evF_get (y n : Nat) (A : Nat → Option Addr) (L : Nat → List Nat) (C : Nat → Nat) (i : Nat) (h : i < n) : (evF y n A L C)[i]? = some ⟨1, ((y + i : Nat) : Int), L i, A i, C i⟩ := by
  unfold evF
  rw [List.getElem?_map, List.getElem?_range h]
  rfl
theorem evF_take (y n : Nat) (A : Nat → Option Addr) (L : Nat → List Nat) (C : Nat → Nat) (k : Nat) (h : k ≤ n) : (evF y n A L C).take k = evF y k A L C := by
  unfold evF
  rw [← List.map_take, List.take_range, Nat.min_eq_left h]
/-- each can be laid -/
def EvB (n : Nat) (L : Nat → List Nat) : Prop := ∀ i, i < n → (∀ x ∈ L i, x < 256) ∧ (L i).length ≤ 16384
theorem evF_ok {y n : Nat} {A : Nat → Option Addr} {L : Nat → List Nat} {C : Nat → Nat} (h : EvB n L) (hn : n ≤ 512) (hy : y ≤ 549755813888) : ∀ f ∈ evF y n A L C, Fok f.k.toNat f.s.toNat f.body := by
  intro f hf
  unfold evF at hf
  obtain ⟨i, hi, rfl⟩ := List.mem_map.1 hf
  have hin := List.mem_range.1 hi
  obtain ⟨h1, h2⟩ := h i hin
  refine ⟨h1, by simp, by simp, h2, ?_⟩
  simp only [Int.toNat_natCast]
  omega
theorem layF_evF (y : Nat) (A : Nat → Option Addr) (L : Nat → List Nat) (C : Nat → Nat) : ∀ n, (layF (evF y n A L C)).length = tot L n + 20 * n
  | 0 => by simp [evF, layF, tot]
  | n + 1 => by
    have e : evF y (n + 1) A L C = evF y n A L C ++ [⟨1, ((y + n : Nat) : Int), L n, A n, C n⟩] := by
      unfold evF
      rw [List.range_succ, List.map_append]
      rfl
    rw [e, layF_append, List.length_append, layF_evF y A L C n]
    simp only [layF, List.append_nil, fL, frameL_length, tot]
    omega
theorem plF_run (y : Nat) (A : Nat → Option Addr) (L : Nat → List Nat) (C : Nat → Nat) (k : Nat) (hk : k ≤ 512) (p : Nat) : runN (y : Int) 512 0 (plF p (evF y k A L C)) = plF p (evF y k A L C) := by
  have h := runN_acc (y : Int) 512 (plF p (evF y k A L C)) 0 [] (fun j f hf => by
    have hj : j < k := by have := get_lt hf; rw [plF_len, evF_len] at this; exact this
    obtain ⟨q, hq⟩ := plF_get (evF y k A L C) p j _ (evF_get y k A L C j hj)
    rw [hq] at hf
    simp only [Option.some.injEq] at hf
    subst hf
    refine ⟨by omega, by simp, ?_⟩
    simp only [Int.toNat_natCast]
    omega)
  rw [List.append_nil] at h
  rw [h]
  unfold runN
  rw [List.append_nil]
theorem plF_end : ∀ (L : List Fi) (p : Nat), endZ p (plF p L) = p + (layF L).length
  | [], p => by simp [plF, endZ, layF]
  | f :: r, p => by
    simp only [plF]
    rw [endZ_cons]
    simp only
    rw [show p + f.body.length + 20 = p + (f.body.length + 20) from by omega, plF_end r (p + (f.body.length + 20))]
    simp only [layF, fL, List.length_append, frameL_length]
    omega
theorem decE_nil : decE [] = 60 := by decide
/-- what Scan finds in a laid segment that is cut behind its header -/
theorem seg_cut (x y n : Nat) (A : Nat → Option Addr) (L : Nat → List Nat) (C : Nat → Nat) (hx1 : 1 ≤ x) (hx : x ≤ 999999) (hy1 : 1 ≤ y) (hy : y ≤ 549755813888) (hn : n ≤ 512) (hb : EvB n L) (k c : Nat) (hk : k ≤ n) (h1 : (layF (evF y k A L C)).length ≤ c)
    (h2 : (k = n ∧ c = (layF (evF y n A L C)).length) ∨ (k < n ∧ c < (layF (evF y (k + 1) A L C)).length)) (l : List Nat) (hl : l = hdrL x y ++ (layF (evF y n A L C)).take c) :
    hdr l = some (x, y) ∧ hoX l = x ∧ hoY l = y ∧ (sgE l).length = k ∧ sgG l = (hdrL x y).length + (layF (evF y k A L C)).length ∧ sgF l = 0 ∧ sgN l = 0 := by
  have hh : hdr l = some (x, y) := by rw [hl]; exact hdr_back x y _ hx1 hx hy1 (by omega)
  have hX : hoX l = x := by unfold hoX; rw [hh]; rfl
  have hY : hoY l = y := by unfold hoY; rw [hh]; rfl
  obtain ⟨q1, q2⟩ := hdr_body x y hx (by omega)
  have hpn : pn l + 20 = (hdrL x y).length := by
    rw [hl, hdrL_len]
    unfold hdrL
    rw [pn_laid 2 x (nencs [x, y]) _ q1 (by omega) (by omega) (by omega) (by omega)]
  have hdrop : l.drop (pn l + 20) = (layF (evF y n A L C)).take c := by rw [hpn, hl, List.drop_left]
  have hok := evF_ok (y := y) (A := A) (C := C) hb hn hy
  obtain ⟨s1, s2, s3⟩ := scanTorn.scan_cut (evF y n A L C) hok k c (by rw [evF_take y n A L C k hk]; exact h1) (by
    rcases h2 with ⟨rfl, h2⟩ | ⟨hkn, h2⟩
    · exact .inl ⟨(evF_len ..).symm, h2⟩
    · exact .inr ⟨_, evF_get y n A L C k hkn, by rw [evF_take y n A L C (k + 1) hkn]; exact h2⟩)
  rw [evF_take y n A L C k hk] at s1 s2 s3
  have hE : sgE l = plF (hdrL x y).length (evF y k A L C) := by
    unfold sgE runL
    rw [hY, hdrop, s1, plF_run y A L C k (by omega), hpn, plF_shift, Nat.add_zero]
  have hG : sgG l = (hdrL x y).length + (layF (evF y k A L C)).length := by unfold sgG; rw [hE, hpn, plF_end]
  have hF : sgF l = 0 := by
    unfold sgF
    refine ftS_no _ _ _ _ (.inl ?_)
    have hd : l.drop (sgG l) = ((layF (evF y n A L C)).take c).drop (layF (evF y k A L C)).length := by rw [hG, ← List.drop_drop, ← hpn, hdrop]
    rw [hd]
    unfold allE at s3
    rw [s2] at s3
    by_cases hc : (layF (evF y k A L C)).length = ((layF (evF y n A L C)).take c).length
    · rw [List.drop_of_length_le (by omega), decE_nil]
      omega
    · rw [if_neg hc] at s3
      rw [s3]
      have hcl : ((layF (evF y n A L C)).take c).length = c := by
        rw [List.length_take]
        rcases h2 with ⟨rfl, h2⟩ | ⟨hkn, h2⟩
        · omega
        · have := layF_evF y A L C (k + 1)
          have := layF_evF y A L C n
          have := tot_mono L (show k + 1 ≤ n from hkn)
          omega
      rw [hcl] at hc
      rw [if_neg hc]
      omega
  refine ⟨hh, hX, hY, by rw [hE, plF_len, evF_len], hG, hF, ?_⟩
  unfold sgN ftN
  rw [if_pos]
  exact hF
end Go.Proofs.YtaegmeilhdbnnabDoor
namespace Go.Proofs.YtaegmeilhdbnnabDoor
open Go.ChangeShapes Go.WideShapes Go.ChangeAt Go.RowKit
set_option linter.unusedVariables false
theorem plc_ofP {w : World} {base N c : Nat} {a : Option Addr} {xs : List It} (h : OwnP w base (.slice a N c) xs) : PlcA w a xs := by
  obtain ⟨a2, c2, h1, h2⟩ := h.plc
  cases h1
  exact h2
theorem SegAt.sets {w : World} {k : Nat} {x y c : Int} {s : Bool} {t : Int} {mv : Value} {g : Int} (h : SegAt w k x y c s t mv g) (t' : Int) (u : Value) (g' : Int) : SegAt ((((w.setCell ⟨k, 3, none⟩ (.bool true)).setCell ⟨k, 4, none⟩ (.int .i64 t')).setCell ⟨k, 5, none⟩ u).setCell ⟨k, 6, none⟩ (.int .i64 g')) k x y c true t' u g' := by
  have h3 : SegAt (w.setCell ⟨k, 3, none⟩ (.bool true)) k x y c true t mv g := h.set 3 (.bool true)
  have h4 : SegAt ((w.setCell ⟨k, 3, none⟩ (.bool true)).setCell ⟨k, 4, none⟩ (.int .i64 t')) k x y c true t' mv g := h3.set 4 (.int .i64 t')
  have h5 : SegAt (((w.setCell ⟨k, 3, none⟩ (.bool true)).setCell ⟨k, 4, none⟩ (.int .i64 t')).setCell ⟨k, 5, none⟩ u) k x y c true t' u g := h4.set 5 u
  exact h5.set 6 (.int .i64 g')
theorem sets_one (w : World) (k : Nat) (u3 u4 u5 u6 : Value) : ∀ i, i ≠ k → ((((w.setCell ⟨k, 3, none⟩ u3).setCell ⟨k, 4, none⟩ u4).setCell ⟨k, 5, none⟩ u5).setCell ⟨k, 6, none⟩ u6).heap[i]? = w.heap[i]? := fun i hi =>
  (set_one _ k 6 u6 i hi).trans ((set_one _ k 5 u5 i hi).trans ((set_one _ k 4 u4 i hi).trans (set_one w k 3 u3 i hi)))
theorem seg_sets {w : World} {k k2 : Nat} {x y c : Int} {s : Bool} {t : Int} {mv : Value} {g : Int} (h : SegAt w k x y c s t mv g) (hk : k ≠ k2) (u3 u4 u5 u6 : Value) : SegAt ((((w.setCell ⟨k2, 3, none⟩ u3).setCell ⟨k2, 4, none⟩ u4).setCell ⟨k2, 5, none⟩ u5).setCell ⟨k2, 6, none⟩ u6) k x y c s t mv g := (sets_one w k2 u3 u4 u5 u6 k hk).trans h
theorem below_sets {base k : Nat} {w w1 : World} (h : Below base w w1) (hk : base ≤ k) (u3 u4 u5 u6 : Value) : Below base w ((((w1.setCell ⟨k, 3, none⟩ u3).setCell ⟨k, 4, none⟩ u4).setCell ⟨k, 5, none⟩ u5).setCell ⟨k, 6, none⟩ u6) := (((h.setCell (p := ⟨k, 3, none⟩) hk _).setCell (p := ⟨k, 4, none⟩) hk _).setCell (p := ⟨k, 5, none⟩) hk _).setCell (p := ⟨k, 6, none⟩) hk _
set_option maxRecDepth 20000 in
set_option maxHeartbeats 4000000 in
theorem scan14_any (l : List Nat) (m : Nat) (a : Option Addr) (cap : Nat) (w : World) (hm : l.length = m) (hb : Bytes w a l) (hcap : m ≤ cap) (hl : m ≤ 16777216) (ht : Tab w) :
    Calls Tryd.prog 12 #[.slice a m cap] w fun e w' => ScanP l w.heap.size e w' ∧ Below w.heap.size w w' := by
  have HB : Hid (Bytes w a l ∧ l.length = m ∧ Tab w) := ⟨hb, hm, ht⟩
  have hmem := hb.mem
  have HW0 : Hid (Below w.heap.size w (w.alloc (.cells (SgA 0 0 0 false 0 (.slice none 0 0) 0) 39)) ∧ True) := ⟨(Below.refl _ _).alloc (Nat.le_refl _) _, trivial⟩
  clear hb hm ht
  cases hh : hdr l with
  | none =>
    have HHO : Hid (HoV l = .tuple #[.int .i64 0, .int .i64 0, .int .i64 0, .int .i64 71]) := ho_none hh
    have HN : Hid (hdr l = none) := hh
    clear hh
    go_enter Tryd.func12, Tryd.ntmps12
    go_wp2_with (first
      | (go_at_call 13; refine (headerOf_any l m a cap _ HB.out.2.1 (HB.out.1.keep HW0.out.1) (by omega) hcap (HB.out.2.2.keep HW0.out.1)).mono ?_; rw [HHO.out]; rintro r w1 ⟨rfl, hb1⟩; have HB1 : Hid (Below w.heap.size w w1 ∧ SegAt w1 w.heap.size 0 0 0 false 0 (.slice none 0 0) 0) := ⟨HW0.out.1.trans (hb1.mono (by simp)), (SegAt.new w 0 0 0 false 0 (.slice none 0 0) 0).keep hb1⟩; have hs1 : w.heap.size < w1.heap.size := (by have h := hb1.size; simp at h; omega); clear hb1)
      | ((with_reducible refine frm_store 39 ?_); refine wpList_store_seg rfl _ _ rfl rfl HB1.out.2 rfl rfl rfl ?_; intro w9 hs9 ho9 hh9 hz9; have HB9 : Hid (Below w.heap.size w w9 ∧ SegAt w9 w.heap.size 0 0 0 false 0 (.slice none 0 0) 0) := ⟨below_one HB1.out.1 ho9 hh9 hz9 (Nat.le_refl _), hs9⟩; clear hs9 ho9 hh9 hz9)
      | fail)
    (try simp only [Exit.inBlock, Exit.then])
    refine bodyPost_ret (results_seg3 rfl _ _ w.heap.size rfl HB9.out.2) rfl ⟨.inl ⟨HN.out, rfl⟩, HB9.out.1⟩
  | some q =>
    obtain ⟨X, Y⟩ := q
    obtain ⟨h0, hK, hS, hX1, hX2, hY1, hY2, hbd, hpn⟩ := hdr_some l hmem X Y hh
    have hoX' : hoX l = X := by unfold hoX; rw [hh]; rfl
    have hoY' : hoY l = Y := by unfold hoY; rw [hh]; rfl
    obtain ⟨H, hH⟩ : ∃ H, pn l + 20 = H := ⟨_, rfl⟩
    have HHO : Hid (HoV l = .tuple #[.int .i64 (X : Int), .int .i64 (Y : Int), .int .i64 (H : Int), .int .i64 0]) := by rw [← hH]; exact ho_some hh
    have hHm : H ≤ m := by have := HB.out.2.1; omega
    obtain ⟨EV, hEV⟩ : ∃ E, sgE l = E := ⟨_, rfl⟩
    obtain ⟨G, hG⟩ : ∃ G, sgG l = G := ⟨_, rfl⟩
    obtain ⟨n, hn⟩ : ∃ n, EV.length = n := ⟨_, rfl⟩
    obtain ⟨F, hF⟩ : ∃ F, sgF l = F := ⟨_, rfl⟩
    obtain ⟨N, hN⟩ : ∃ N, sgN l = N := ⟨_, rfl⟩
    obtain ⟨M, hM⟩ : ∃ M, bldL (F : Int) (EV.map evP) = M := ⟨_, rfl⟩
    have hEV2 : runL l H (Y : Int) 512 = EV := by rw [← hEV]; unfold sgE; rw [hoY', hH]
    have hG2 : endZ H EV = G := by rw [← hG]; unfold sgG; rw [hH, hEV]
    have hF2 : ftS (l.drop G) X Y EV = F := by rw [← hF]; unfold sgF; rw [hG, hoX', hoY', hEV]
    have hN2 : ftN (l.drop G) X Y EV = N := by rw [← hN]; unfold sgN; rw [hG, hoX', hoY', hEV]
    obtain ⟨hok, _⟩ := runL_ok l H Y hY1 (by rw [HB.out.2.1]; exact hHm) (by rw [HB.out.2.1]; exact hl)
    obtain ⟨hg1, hg2⟩ := runEnd l H Y (by rw [HB.out.2.1]; exact hHm)
    rw [hEV2] at hok hg1 hg2
    rw [hG2] at hg1 hg2
    rw [HB.out.2.1] at hg2
    have HEO : Hid (EvOk Y EV) := hok
    have hn5 : n ≤ 512 := by rw [← hn]; exact hok.len
    have hGm : G ≤ m := hg2
    have HEV : Hid (runL l H (Y : Int) 512 = EV ∧ endZ H EV = G ∧ EV.length = n ∧ (EV.map evP).length = n ∧ bldL (F : Int) (EV.map evP) = M) := ⟨hEV2, hG2, hn, by rw [List.length_map]; exact hn, hM⟩
    have HFN : Hid (ftS (l.drop G) X Y EV = F ∧ ftN (l.drop G) X Y EV = N) := ⟨hF2, hN2⟩
    have HSG : Hid ((hdr l).isSome = true ∧ sgE l = EV ∧ hoX l = X ∧ hoY l = Y ∧ sgF l = F ∧ sgG l = G ∧ sgN l = N) := ⟨by rw [hh]; rfl, hEV, hoX', hoY', hF, hG, hN⟩
    have hF64 : F ≤ 64 := by rw [← hF2]; exact ftS_le _ _ _ _
    have hNle : N ≤ 16404 := by
      rw [← hN2]
      unfold ftN
      split
      · omega
      · rename_i hc
        have h00 := ftS_pos (l.drop G) X Y EV (by omega)
        have := (decB_facts (fun z hz => hmem z (List.mem_of_mem_drop hz)) h00).2
        omega
    have hXI : (X : Int) ≤ 999999 := by omega
    have hYI : (Y : Int) ≤ 1099511627777 := by omega
    have hHI : (H : Int) ≤ (m : Int) := by omega
    have hGI : (G : Int) ≤ 16777216 := by omega
    have hNI : (N : Int) ≤ 16404 := by omega
    have hFI : (F : Int) ≤ 64 := by omega
    have hn5I : (n : Int) ≤ 512 := by omega
    clear hh h0 hK hS hbd hpn hoX' hoY' hEV hG hn hF hN hM hEV2 hG2 hF2 hN2 hok hg1 hg2 hH
    by_cases hF0 : F = 0
    · subst hF0
      have HM0 : Hid (sgM l = []) := by show _ = _; unfold sgM; rw [HSG.out.2.2.2.2.1, if_pos rfl]
      have HN0 : Hid (N = 0) := by show _ = _; rw [← HFN.out.2]; unfold ftN; rw [HFN.out.1, if_pos rfl]
      go_enter Tryd.func12, Tryd.ntmps12
      go_wp2_with (first
        | (go_at_call 13; refine (headerOf_any l m a cap _ HB.out.2.1 (HB.out.1.keep HW0.out.1) (by omega) hcap (HB.out.2.2.keep HW0.out.1)).mono ?_; rw [HHO.out]; rintro r w1 ⟨rfl, hb1⟩; have HB1 : Hid (Below w.heap.size w w1 ∧ SegAt w1 w.heap.size 0 0 0 false 0 (.slice none 0 0) 0) := ⟨HW0.out.1.trans (hb1.mono (by simp)), (SegAt.new w 0 0 0 false 0 (.slice none 0 0) 0).keep hb1⟩; have hs1 : w.heap.size < w1.heap.size := (by have h := hb1.size; simp at h; omega); clear hb1)
        | (go_at_call 19; refine (run_any l m a cap H (Y : Int) 512 w1 HB.out.2.1 (HB.out.1.keep HB1.out.1) hcap (by omega) hHm (by omega) (by omega) (HB.out.2.2.keep HB1.out.1)).mono ?_; rw [HEV.out.1, HEV.out.2.1]; rintro r w2 ⟨xs, v, rfl, hx, hr, hy, hb2⟩; have hxl : xs.length = n := (by have h := congrArg List.length hx; rw [List.length_map, HEV.out.2.2.1] at h; exact h); obtain ⟨a2, c2, hv2⟩ := row_shape hr; rw [hxl] at hr hv2; subst hv2; have hop : OwnP w2 w1.heap.size (.slice a2 n c2) xs := ⟨by rw [hxl]; exact hr, hy⟩; have HX : Hid (xs.map It.fm = EV ∧ xs.length = n ∧ OwnP w2 w.heap.size (.slice a2 n c2) xs ∧ PlcA w2 a2 xs) := ⟨hx, hxl, hop.mono (Nat.le_of_lt hs1), plc_ofP hop⟩; have HB2 : Hid (Below w.heap.size w w2 ∧ SegAt w2 w.heap.size 0 0 0 false 0 (.slice none 0 0) 0) := ⟨below_next HB1.out.1 hb2, HB1.out.2.keep hb2⟩; have hs2 : w.heap.size < w2.heap.size := Nat.lt_of_lt_of_le hs1 hb2.size; have HW3 : Hid (Below w.heap.size w (w2.alloc (.cells (SgA (X : Int) (Y : Int) (n : Int) false 0 (.slice none 0 0) (G : Int)) 39)) ∧ Below w2.heap.size w2 (w2.alloc (.cells (SgA (X : Int) (Y : Int) (n : Int) false 0 (.slice none 0 0) (G : Int)) 39))) := ⟨HB2.out.1.alloc HB2.out.1.size _, (Below.refl _ _).alloc (Nat.le_refl _) _⟩; clear hx hr hy hb2 hxl hop)
        | ((with_reducible refine at_slice ?_); refine wpList_slice_l rfl _ _ rfl rfl rfl hGm hcap HB.out.2.1 (HB.out.1.keep HW3.out.1) ?_; intro xa hxa; have HXA : Hid (Bytes _ xa (l.drop G)) := hxa; clear hxa)
        | (go_at_call 20; refine (sealedBy_any (l.drop G) X Y EV xs (m - G) n xa a2 (cap - G) c2 _ (by rw [List.length_drop, HB.out.2.1]) HXA.out (by omega) (by omega) HX.out.1 HX.out.2.1 (HX.out.2.2.2.keep HW3.out.2) HEO.out hY2 hX2 (HB.out.2.2.keep HW3.out.1)).mono ?_; rw [HFN.out.1, HFN.out.2]; rintro r w4 ⟨rfl, hb4⟩; have HB4 : Hid (Below w.heap.size w w4 ∧ Below w2.heap.size w2 w4 ∧ SegAt w4 w.heap.size 0 0 0 false 0 (.slice none 0 0) 0 ∧ SegAt w4 w2.heap.size (X : Int) (Y : Int) (n : Int) false 0 (.slice none 0 0) (G : Int)) := (by have h24 := HW3.out.2.trans (hb4.mono (by simp)); exact ⟨below_next HB2.out.1 h24, h24, HB2.out.2.keep h24, (SegAt.new w2 (X : Int) (Y : Int) (n : Int) false 0 (.slice none 0 0) (G : Int)).keep hb4⟩); clear hb4)
        | ((with_reducible refine frm_load 39 ?_); refine wpList_load_seg rfl _ rfl HB4.out.2.2.2 rfl ?_)
        | ((with_reducible refine frm_store 39 ?_); refine wpList_store_seg rfl _ _ rfl rfl HB4.out.2.2.1 rfl rfl rfl ?_; intro w9 hs9 ho9 hh9 hz9; have HB9 : Hid (Below w.heap.size w w9 ∧ SegAt w9 w.heap.size (X : Int) (Y : Int) (n : Int) false 0 (.slice none 0 0) (G : Int) ∧ OwnP w9 w.heap.size (.slice a2 n c2) xs) := ⟨below_one HB4.out.1 ho9 hh9 hz9 (Nat.le_refl _), hs9, ownP_one (HX.out.2.2.1.below HB4.out.2.1) HB4.out.2.2.1 hh9⟩; clear hs9 ho9 hh9 hz9)
        | fail)
      (try simp only [Exit.inBlock, Exit.then])
      refine bodyPost_ret (results_seg3 rfl _ _ w.heap.size rfl HB9.out.2.1) rfl ⟨.inr ⟨HSG.out.1, xs, .slice a2 n c2, .slice none 0 0, by rw [HX.out.1, HSG.out.2.1], ?_, HB9.out.2.2, by rw [HM0.out]; exact OwnM.nil _ _⟩, HB9.out.1⟩
      rw [HSG.out.2.1, HSG.out.2.2.1, HSG.out.2.2.2.1, HSG.out.2.2.2.2.1, HSG.out.2.2.2.2.2.1, HSG.out.2.2.2.2.2.2, HN0.out, HEV.out.2.2.1]
      simp
    · have HM0 : Hid (sgM l = M) := by show _ = _; unfold sgM; rw [HSG.out.2.2.2.2.1, if_neg hF0, HSG.out.2.1, HEV.out.2.2.2.2]
      have hFp : (0 : Int) < (F : Int) := by omega
      have HD : Hid (decide (0 < F) = true) := decide_eq_true (by omega)
      go_enter Tryd.func12, Tryd.ntmps12
      go_wp2_with (first
        | (go_at_call 13; refine (headerOf_any l m a cap _ HB.out.2.1 (HB.out.1.keep HW0.out.1) (by omega) hcap (HB.out.2.2.keep HW0.out.1)).mono ?_; rw [HHO.out]; rintro r w1 ⟨rfl, hb1⟩; have HB1 : Hid (Below w.heap.size w w1 ∧ SegAt w1 w.heap.size 0 0 0 false 0 (.slice none 0 0) 0) := ⟨HW0.out.1.trans (hb1.mono (by simp)), (SegAt.new w 0 0 0 false 0 (.slice none 0 0) 0).keep hb1⟩; have hs1 : w.heap.size < w1.heap.size := (by have h := hb1.size; simp at h; omega); clear hb1)
        | (go_at_call 19; refine (run_any l m a cap H (Y : Int) 512 w1 HB.out.2.1 (HB.out.1.keep HB1.out.1) hcap (by omega) hHm (by omega) (by omega) (HB.out.2.2.keep HB1.out.1)).mono ?_; rw [HEV.out.1, HEV.out.2.1]; rintro r w2 ⟨xs, v, rfl, hx, hr, hy, hb2⟩; have hxl : xs.length = n := (by have h := congrArg List.length hx; rw [List.length_map, HEV.out.2.2.1] at h; exact h); obtain ⟨a2, c2, hv2⟩ := row_shape hr; rw [hxl] at hr hv2; subst hv2; have hop : OwnP w2 w1.heap.size (.slice a2 n c2) xs := ⟨by rw [hxl]; exact hr, hy⟩; have HX : Hid (xs.map It.fm = EV ∧ xs.length = n ∧ OwnP w2 w.heap.size (.slice a2 n c2) xs ∧ PlcA w2 a2 xs) := ⟨hx, hxl, hop.mono (Nat.le_of_lt hs1), plc_ofP hop⟩; have HB2 : Hid (Below w.heap.size w w2 ∧ SegAt w2 w.heap.size 0 0 0 false 0 (.slice none 0 0) 0) := ⟨below_next HB1.out.1 hb2, HB1.out.2.keep hb2⟩; have hs2 : w.heap.size < w2.heap.size := Nat.lt_of_lt_of_le hs1 hb2.size; have HW3 : Hid (Below w.heap.size w (w2.alloc (.cells (SgA (X : Int) (Y : Int) (n : Int) false 0 (.slice none 0 0) (G : Int)) 39)) ∧ Below w2.heap.size w2 (w2.alloc (.cells (SgA (X : Int) (Y : Int) (n : Int) false 0 (.slice none 0 0) (G : Int)) 39))) := ⟨HB2.out.1.alloc HB2.out.1.size _, (Below.refl _ _).alloc (Nat.le_refl _) _⟩; clear hx hr hy hb2 hxl hop)
        | ((with_reducible refine at_slice ?_); refine wpList_slice_l rfl _ _ rfl rfl rfl hGm hcap HB.out.2.1 (HB.out.1.keep HW3.out.1) ?_; intro xa hxa; have HXA : Hid (Bytes _ xa (l.drop G)) := hxa; clear hxa)
        | (go_at_call 20; refine (sealedBy_any (l.drop G) X Y EV xs (m - G) n xa a2 (cap - G) c2 _ (by rw [List.length_drop, HB.out.2.1]) HXA.out (by omega) (by omega) HX.out.1 HX.out.2.1 (HX.out.2.2.2.keep HW3.out.2) HEO.out hY2 hX2 (HB.out.2.2.keep HW3.out.1)).mono ?_; rw [HFN.out.1, HFN.out.2]; rintro r w4 ⟨rfl, hb4⟩; have HB4 : Hid (Below w.heap.size w w4 ∧ Below w2.heap.size w2 w4 ∧ SegAt w4 w.heap.size 0 0 0 false 0 (.slice none 0 0) 0 ∧ SegAt w4 w2.heap.size (X : Int) (Y : Int) (n : Int) false 0 (.slice none 0 0) (G : Int)) := (by have h24 := HW3.out.2.trans (hb4.mono (by simp)); exact ⟨below_next HB2.out.1 h24, h24, HB2.out.2.keep h24, (SegAt.new w2 (X : Int) (Y : Int) (n : Int) false 0 (.slice none 0 0) (G : Int)).keep hb4⟩); clear hb4)
        | (go_at_call 21; refine (build_any (EV.map evP) (pflt xs) n a2 c2 (F : Int) w4 HEV.out.2.2.2.1 (by have h := plAt_of (HX.out.2.2.2.keep HB4.out.2.1); rw [HX.out.1] at h; exact h) (by omega) (by omega) (by omega)).mono ?_; rw [HEV.out.2.2.2.2]; rintro r w5 ⟨v5, rfl, ho5, hb5⟩; obtain ⟨a5, c5, hv5, _⟩ := ho5.shape; subst hv5; have HB5 : Hid (Below w.heap.size w w5 ∧ SegAt w5 w.heap.size 0 0 0 false 0 (.slice none 0 0) 0 ∧ SegAt w5 w2.heap.size (X : Int) (Y : Int) (n : Int) false 0 (.slice none 0 0) (G : Int) ∧ OwnP w5 w.heap.size (.slice a2 n c2) xs ∧ OwnM w5 w.heap.size (.slice a5 M.length c5) M) := ⟨below_next HB4.out.1 hb5, HB4.out.2.2.1.keep hb5, HB4.out.2.2.2.keep hb5, (HX.out.2.2.1.below HB4.out.2.1).below hb5, World.ownsRow.mono (base' := w.heap.size) ho5 HB4.out.1.size⟩; have q3 : w5.cell? ⟨w2.heap.size, 3, none⟩ = some (.bool false) := (HB5.out.2.2.1.at 3).1; have q4 : w5.cell? ⟨w2.heap.size, 4, none⟩ = some (.int .i64 0) := (HB5.out.2.2.1.at 4).1; have q5 : w5.cell? ⟨w2.heap.size, 5, none⟩ = some (.slice none 0 0) := (HB5.out.2.2.1.at 5).1; have q6 : w5.cell? ⟨w2.heap.size, 6, none⟩ = some (.int .i64 (G : Int)) := (HB5.out.2.2.1.at 6).1; have z3 := (HB5.out.2.2.1.at 3).2; have z4 := (HB5.out.2.2.1.at 4).2; have z5 := (HB5.out.2.2.1.at 5).2; have z6 := (HB5.out.2.2.1.at 6).2; clear ho5 hb5)
        | ((with_reducible refine frm_load 39 ?_); refine wpList_load_seg rfl _ rfl (HB5.out.2.2.1.sets _ _ _) rfl ?_)
        | ((with_reducible refine frm_store 39 ?_); refine wpList_store_seg rfl _ _ rfl rfl (seg_sets HB5.out.2.1 (Nat.ne_of_lt hs2) _ _ _ _) rfl rfl rfl ?_; intro w9 hs9 ho9 hh9 hz9; have HB9 : Hid (Below w.heap.size w w9 ∧ SegAt w9 w.heap.size (X : Int) (Y : Int) (n : Int) true (F : Int) (.slice a5 M.length c5) ((G : Int) + (N : Int)) ∧ OwnP w9 w.heap.size (.slice a2 n c2) xs ∧ OwnM w9 w.heap.size (.slice a5 M.length c5) M) := ⟨below_one (below_sets HB5.out.1 (Nat.le_of_lt hs2) _ _ _ _) ho9 hh9 hz9 (Nat.le_refl _), hs9, ownP_one (ownP_one HB5.out.2.2.2.1 HB5.out.2.2.1 (sets_one _ _ _ _ _ _)) (seg_sets HB5.out.2.1 (Nat.ne_of_lt hs2) _ _ _ _) hh9, row_one (row_one HB5.out.2.2.2.2 HB5.out.2.2.1 (by decide) (sets_one _ _ _ _ _ _)) (seg_sets HB5.out.2.1 (Nat.ne_of_lt hs2) _ _ _ _) (by decide) hh9⟩; clear hs9 ho9 hh9 hz9)
        | fail)
      (try simp only [Exit.inBlock, Exit.then])
      refine bodyPost_ret (results_seg3 rfl _ _ w.heap.size rfl HB9.out.2.1) rfl ⟨.inr ⟨HSG.out.1, xs, .slice a2 n c2, .slice a5 M.length c5, by rw [HX.out.1, HSG.out.2.1], ?_, HB9.out.2.2.1, by rw [HM0.out]; exact HB9.out.2.2.2⟩, HB9.out.1⟩
      rw [HSG.out.2.1, HSG.out.2.2.1, HSG.out.2.2.2.1, HSG.out.2.2.2.2.1, HSG.out.2.2.2.2.2.1, HSG.out.2.2.2.2.2.2, HEV.out.2.2.1, HD.out]
      rfl
end Go.Proofs.YtaegmeilhdbnnabDoor
