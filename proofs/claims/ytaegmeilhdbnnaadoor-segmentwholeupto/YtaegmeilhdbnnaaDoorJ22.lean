/- Own texts, joined: Sc16, Sct, Pcs, Sg18. -/
import Derived.Test.YtaegmeilhdbnnaaDoorJ21
import Derived.Test.YtaegmeilhdbnnaaDoorJ00
import Derived.Test.YtaegmeilhdbnnaaDoorRows
import Derived.Test.YtaegmeilhdbnnaaDoorJ18
import Derived.Deep.Matrix
import Derived.Test.YtaegmeilhdbnnaaDoorJ15
namespace Go.Proofs.YtaegmeilhdbnnaaDoor
open Go.ChangeShapes Go.WideShapes Go.ChangeAt Go.RowKit Go.Shelf
set_option linter.unusedVariables false
/-- the frames of a list, the first one at p -/
def plF : Nat → List Fi → List Fm
  | _, [] => []
  | p, f :: r => ⟨p, f.k.toNat, f.s.toNat, f.body⟩ :: plF (p + (f.body.length + 20)) r
theorem plF_len : ∀ (p : Nat) (L : List Fi), (plF p L).length = L.length
  | _, [] => rfl
  | p, f :: r => by simp only [plF, List.length_cons, plF_len]
theorem plF_shift (d : Nat) : ∀ (p : Nat) (L : List Fi), (plF p L).map (sh d) = plF (d + p) L
  | _, [] => rfl
  | p, f :: r => by
    simp only [plF, List.map_cons, plF_shift d (p + (f.body.length + 20)) r]
    rw [Nat.add_assoc]
    rfl
theorem plF_get : ∀ (L : List Fi) (p i : Nat) (f : Fi), L[i]? = some f → ∃ q, (plF p L)[i]? = some ⟨q, f.k.toNat, f.s.toNat, f.body⟩
  | g :: L, p, 0, f, h => by simp at h; subst h; exact ⟨p, rfl⟩
  | g :: L, p, i + 1, f, h => by
    obtain ⟨q, hq⟩ := plF_get L (p + (g.body.length + 20)) i f (by simpa using h)
    exact ⟨q, by simpa [plF] using hq⟩
theorem scan_plF (r : List Nat) : ∀ (L : List Fi), (∀ f ∈ L, Fok f.k.toNat f.s.toNat f.body) → scanL (layF L ++ r) = plF 0 L ++ (scanL r).map (sh (layF L).length)
  | [], _ => by
    simp only [layF, plF, List.nil_append, List.length_nil]
    rw [show sh 0 = id from by funext f; simp [sh], List.map_id]
  | f :: L, h => by
    have ih := scan_plF r L (fun g hg => h g (List.mem_cons_of_mem _ hg))
    have hf := h f (List.mem_cons_self ..)
    have e : layF (f :: L) ++ r = fL f ++ (layF L ++ r) := by simp [layF, List.append_assoc]
    have hl : (layF (f :: L)).length = f.body.length + 20 + (layF L).length := by simp only [layF, fL, List.length_append, frameL_length]
    rw [e, hl]
    unfold fL
    rw [scanL_frame hf, ih, List.map_append, plF_shift, List.map_map]
    simp only [plF, List.cons_append, Nat.add_zero, Nat.zero_add]
    congr 3
    funext g
    simp only [sh, Function.comp]
    congr 1
    omega
/-- torn within the k-th -/
theorem take_lay (L : List Fi) (k cut : Nat) (f : Fi) (hf : L[k]? = some f) (h1 : (layF (L.take k)).length ≤ cut) (h2 : cut < (layF (L.take (k + 1))).length) : (layF L).take cut = layF (L.take k) ++ (fL f).take (cut - (layF (L.take k)).length) := by
  have hk := get_lt hf
  have e1 : L = L.take k ++ f :: L.drop (k + 1) := by
    have h := (List.take_append_drop k L).symm
    rw [List.drop_eq_getElem_cons hk, (List.getElem?_eq_some_iff.1 hf).2] at h
    exact h
  have e2 : L.take (k + 1) = L.take k ++ [f] := by rw [List.take_add_one, hf]; rfl
  have hl : (layF (L.take (k + 1))).length = (layF (L.take k)).length + (fL f).length := by rw [e2, layF_append, List.length_append]; simp [layF]
  have e3 : layF L = layF (L.take k) ++ (fL f ++ layF (L.drop (k + 1))) := by
    conv => lhs; rw [e1]
    rw [layF_append]
    rfl
  rw [e3, List.take_append, List.take_of_length_le h1, List.take_append]
  rw [show cut - (layF (L.take k)).length - (fL f).length = 0 from by omega, List.take_zero, List.append_nil]
/-- what scan.All finds in laid frames that are torn at a byte -/
theorem scan_torn (L : List Fi) (h : ∀ f ∈ L, Fok f.k.toNat f.s.toNat f.body) (k cut : Nat) (f : Fi) (hf : L[k]? = some f) (h1 : (layF (L.take k)).length ≤ cut) (h2 : cut < (layF (L.take (k + 1))).length) :
    scanL ((layF L).take cut) = plF 0 (L.take k) ∧ endZ 0 (scanL ((layF L).take cut)) = (layF (L.take k)).length ∧ allE ((layF L).take cut) = if (layF (L.take k)).length = cut then 0 else 60 := by
  have hok : ∀ g ∈ L.take k, Fok g.k.toNat g.s.toNat g.body := fun g hg => h g (List.mem_of_mem_take hg)
  have hfo := h f (List.mem_of_getElem? hf)
  have e2 : L.take (k + 1) = L.take k ++ [f] := by rw [List.take_add_one, hf]; rfl
  have hl : (layF (L.take (k + 1))).length = (layF (L.take k)).length + (f.body.length + 20) := by rw [e2, layF_append, List.length_append]; simp [layF, fL, frameL_length]
  obtain ⟨t1, t2⟩ := scanL_torn hfo (cut - (layF (L.take k)).length) (by omega)
  rw [take_lay L k cut f hf h1 h2]
  obtain ⟨_, s2, s3⟩ := scan_lay ((fL f).take (cut - (layF (L.take k)).length)) (L.take k) hok
  have s1 := scan_plF ((fL f).take (cut - (layF (L.take k)).length)) (L.take k) hok
  unfold fL at s1 s2 s3 ⊢
  rw [t1] at s1 s2
  refine ⟨by rw [s1]; simp, by rw [s2]; simp [endZ], ?_⟩
  rw [s3, t2]
  by_cases hc : (layF (L.take k)).length = cut
  · rw [if_pos hc, if_pos (by omega)]
  · rw [if_neg hc, if_neg (by omega)]
end Go.Proofs.YtaegmeilhdbnnaaDoor
namespace Go.Proofs.YtaegmeilhdbnnaaDoor.scanTorn
open Go.ChangeShapes Go.WideShapes Go.ChangeAt Go.RowKit
set_option linter.unusedVariables false
theorem row_cap {w : World} {base n c size : Nat} {e : TypeId} {a : Option Addr} {xs : List Value} (h : w.ownsRow base e size (.slice a n c) n xs) : n ≤ c := by
  rcases h.2 with ⟨h1, h2⟩ | ⟨g, cap, cur, h1, _, _, h2, _⟩
  · omega
  · cases h1; exact h2
theorem plc_of2 {w : World} {base N c : Nat} {a : Option Addr} {xs : List It} (h : OwnP w base (.slice a N c) xs) : PlcA w a xs := by
  obtain ⟨a2, c2, h1, h2⟩ := h.plc
  cases h1
  exact h2
theorem scan_cut (L : List Fi) (h : ∀ f ∈ L, Fok f.k.toNat f.s.toNat f.body) (k C : Nat) (h1 : (layF (L.take k)).length ≤ C) (h2 : (k = L.length ∧ C = (layF L).length) ∨ ∃ f, L[k]? = some f ∧ C < (layF (L.take (k + 1))).length) :
    scanL ((layF L).take C) = plF 0 (L.take k) ∧ endZ 0 (scanL ((layF L).take C)) = (layF (L.take k)).length ∧ allE ((layF L).take C) = if (layF (L.take k)).length = C then 0 else 60 := by
  rcases h2 with ⟨rfl, rfl⟩ | ⟨f, hf, h2⟩
  · have ht : L.take L.length = L := List.take_length
    rw [ht, List.take_of_length_le (Nat.le_refl _), if_pos rfl]
    have s1 := scan_plF [] L h
    obtain ⟨_, s2, s3⟩ := scan_lay [] L h
    rw [List.append_nil] at s1 s2 s3
    have e0 : scanL [] = [] := rfl
    rw [e0] at s1 s2
    exact ⟨by rw [s1]; simp, by rw [s2]; simp [endZ], by rw [s3]; rfl⟩
  · exact scan_torn L h k C f hf h1 h2
theorem take_le (L : List Fi) (k : Nat) : (layF (L.take k)).length ≤ (layF L).length := by
  have h : layF L = layF (L.take k) ++ layF (L.drop k) := by rw [← layF_append, List.take_append_drop]
  rw [h, List.length_append]
  omega
end Go.Proofs.YtaegmeilhdbnnaaDoor.scanTorn
namespace Go.Proofs.YtaegmeilhdbnnaaDoor
open Go.ChangeShapes Go.WideShapes Go.ChangeAt Go.RowKit Go.Deep
set_option linter.unusedVariables false
/-- the script: so many pieces -/
def Pieces (w : World) (a : Option Addr) (n : Nat) (A : Nat → Option Addr) (L : Nat → List Nat) (C : Nat → Nat) : Prop :=
  (n = 0 ∨ ∃ b off, a = some ⟨b, off, none⟩ ∧ b < w.heap.size ∧ ∀ r, r < n → w.cell? ⟨b, off + r, none⟩ = some (.slice (A r) (L r).length (C r))) ∧ ∀ r, r < n → Bytes w (A r) (L r) ∧ (L r).length ≤ C r ∧ (A r = none → C r = 0)
def tot (L : Nat → List Nat) : Nat → Nat
  | 0 => 0
  | k + 1 => tot L k + (L k).length
theorem tot_mono (L : Nat → List Nat) {k n : Nat} (h : k ≤ n) : tot L k ≤ tot L n := by
  induction n with
  | zero => (obtain rfl : k = 0 := (by omega)); exact Nat.le_refl _
  | succ n ih =>
    by_cases hk : k = n + 1
    · subst hk; exact Nat.le_refl _
    · have := ih (by omega); rw [tot]; omega
theorem Pieces.keep {w w' : World} {a : Option Addr} {n : Nat} {A : Nat → Option Addr} {L : Nat → List Nat} {C : Nat → Nat} (h : Pieces w a n A L C) (hb : Below w.heap.size w w') : Pieces w' a n A L C := by
  refine ⟨?_, fun r hr => ⟨(h.2 r hr).1.keep hb, (h.2 r hr).2⟩⟩
  rcases h.1 with h | ⟨b, off, rfl, hlt, hc⟩
  · exact .inl h
  · exact .inr ⟨b, off, rfl, Nat.lt_of_lt_of_le hlt hb.size, fun i hi => (hb.cell (p := ⟨b, off + i, none⟩) hlt).trans (hc i hi)⟩
theorem tot_one (L : Nat → List Nat) {k n : Nat} (h : k < n) : (L k).length ≤ tot L n := by
  have := tot_mono L (show k + 1 ≤ n from h)
  rw [tot] at this
  omega
theorem pieces_of {W : World} (x : Addr) (len cap : Nat) (A : Nat → Option Addr) (L C : Nat → Nat) (Z : Nat → List Int) (hl : len ≤ cap)
    (hr : ∀ r, r < cap → W.cell? (x.add r) = some (.slice (A r) (L r) (C r)) ∧ L r ≤ C r ∧ C r ≤ maxLen ∧ (Z r).length = C r ∧ (∀ n ∈ Z r, (Lit.int .u8 n).wf = true) ∧ (A r = none → C r = 0) ∧
        ∀ a', A r = some a' → 0 ≤ a'.block ∧ ∀ c, c < C r → W.cell? (a'.add c) = some (.int .u8 ((Z r).getD c 0))) :
    ∃ ll : Nat → List Nat, (∀ r, r < len → (ll r).length = L r) ∧ Pieces W (some x) len A ll C := by
  have each : ∀ r, r < len → ∃ l : List Nat, l.length = L r ∧ Bytes W (A r) l := by
    intro r hlt
    obtain ⟨h1, h2, h3, h4, h5, h6, h7⟩ := hr r (by omega)
    cases hA : A r with
    | none =>
      have := h6 hA
      exact ⟨[], by simp; omega, by simp, .inl rfl⟩
    | some a' =>
      obtain ⟨_, hc⟩ := h7 a' hA
      obtain ⟨ll, e1, e2, e3⟩ := row_nats .u8 256 (by decide) wf_u8 W a' (Z r) (L r) (by omega) (by rw [h4]; exact hc) h5
      exact ⟨ll, e1, e2, e3⟩
  obtain ⟨ll, hll⟩ := choose_lt each
  refine ⟨ll, fun r h => (hll r h).1, ?_, fun r h => ⟨(hll r h).2, by rw [(hll r h).1]; exact (hr r (by omega)).2.1, (hr r (by omega)).2.2.2.2.2.1⟩⟩
  by_cases h0 : len = 0
  · exact .inl h0
  · right
    obtain ⟨b, off, spot⟩ := x
    have hc0 := (hr 0 (by omega)).1
    have hspot : spot = none := by simpa [Addr.add] using World.cell?_spot hc0
    subst hspot
    refine ⟨b, off, rfl, World.block_lt_of_cell? _ _ hc0, fun r h => ?_⟩
    have := (hr r (by omega)).1
    rw [show (⟨b, off, none⟩ : Addr).add r = ⟨b, off + r, none⟩ from by simp [Addr.add]] at this
    rw [this, (hll r h).1]
theorem bulk_app {H : Type} (l m : List (DataW H)) : Rows.uptoBulkAll (l ++ m) = Rows.uptoBulkAll l + Rows.uptoBulkAll m := by
  induction l with
  | nil => simp [Rows.uptoBulkAll]
  | cons d r ih => simp only [List.cons_append, Rows.uptoBulkAll, ih]; omega
theorem bulk_range {H : Type} (n : Nat) (f : Nat → DataW H) (ll : Nat → List Nat) (h : ∀ r, r < n → (ll r).length + 1 ≤ Rows.uptoBulk (f r)) : n + tot ll n ≤ Rows.uptoBulkAll ((List.range n).map f) := by
  induction n with
  | zero => simp [tot, Rows.uptoBulkAll]
  | succ n ih =>
    have h1 := ih (fun r hr => h r (by omega))
    have h2 := h n (by omega)
    rw [List.range_succ, List.map_append, bulk_app, tot]
    simp only [List.map_cons, List.map_nil, Rows.uptoBulkAll]
    omega
theorem bulk_row {H : Type} (A : Option Addr) (L : Nat) (C : Nat) (Z : List Int) (hz : Z.length = C) (hl : L ≤ C) (hn : A = none → C = 0) : L + 1 ≤ Rows.uptoBulk (intRow (H := H) .u8 A L Z) := by
  cases A with
  | none => have := hn rfl; simp [intRow, Rows.uptoBulk]; omega
  | some a =>
    have := bulks.slice_le (lits (H := H) .u8 (Z.take L)) (lits .u8 (Z.drop L))
    simp only [lits, List.length_map, List.length_take, List.length_drop] at this
    simp only [intRow, lits]
    omega
end Go.Proofs.YtaegmeilhdbnnaaDoor
namespace Go.Proofs.YtaegmeilhdbnnaaDoor
open Go.ChangeShapes Go.WideShapes Go.ChangeAt Go.RowKit
set_option linter.unusedVariables false
/-- the frames of a segment's events -/
def evF (y n : Nat) (A : Nat → Option Addr) (L : Nat → List Nat) (C : Nat → Nat) : List Fi := (List.range n).map fun i => ⟨1, ((y + i : Nat) : Int), L i, A i, C i⟩
theorem evF_len (y n : Nat) (A : Nat → Option Addr) (L : Nat → List Nat) (C : Nat → Nat) : (evF y n A L C).length = n := by simp [evF]
theorem evF_get (y n : Nat) (A : Nat → Option Addr) (L : Nat → List Nat) (C : Nat → Nat) (i : Nat) (h : i < n) : (evF y n A L C)[i]? = some ⟨1, ((y + i : Nat) : Int), L i, A i, C i⟩ := by
  unfold evF
  rw [List.getElem?_map, List.getElem?_range h]
  rfl
theorem evF_take (y n : Nat) (A : Nat → Option Addr) (L : Nat → List Nat) (C : Nat → Nat) (k : Nat) (h : k ≤ n) : (evF y n A L C).take k = evF y k A L C := by
  unfold evF
  rw [← List.map_take, List.take_range, Nat.min_eq_left h]
/-- each can be laid -/
def EvB (n : Nat) (L : Nat → List Nat) : Prop := ∀ i, i < n → (∀ x ∈ L i, x < 256) ∧ (L i).length ≤ 16384
theorem evF_ok {y n : Nat} {A : Nat → Option Addr} {L : Nat → List Nat} {C : Nat → Nat} (h : EvB n L) (hn : n ≤ 512) (hy : y ≤ 549755813888) : ∀ f ∈ evF y n A L C, Fok f.k.toNat f.s.toNat f.body := by
  intro f hf
  unfold evF at hf
  obtain ⟨i, hi, rfl⟩ := List.mem_map.1 hf
  have hin := List.mem_range.1 hi
  obtain ⟨h1, h2⟩ := h i hin
  refine ⟨h1, by simp, by simp, h2, ?_⟩
  simp only [Int.toNat_natCast]
  omega
theorem layF_evF (y : Nat) (A : Nat → Option Addr) (L : Nat → List Nat) (C : Nat → Nat) : ∀ n, (layF (evF y n A L C)).length = tot L n + 20 * n
  | 0 => by simp [evF, layF, tot]
  | n + 1 => by
    have e : evF y (n + 1) A L C = evF y n A L C ++ [⟨1, ((y + n : Nat) : Int), L n, A n, C n⟩] := by
      unfold evF
      rw [List.range_succ, List.map_append]
      rfl
    rw [e, layF_append, List.length_append, layF_evF y A L C n]
    simp only [layF, List.append_nil, fL, frameL_length, tot]
    omega
theorem plF_run (y : Nat) (A : Nat → Option Addr) (L : Nat → List Nat) (C : Nat → Nat) (k : Nat) (hk : k ≤ 512) (p : Nat) : runN (y : Int) 512 0 (plF p (evF y k A L C)) = plF p (evF y k A L C) := by
  have h := runN_acc (y : Int) 512 (plF p (evF y k A L C)) 0 [] (fun j f hf => by
    have hj : j < k := by have := get_lt hf; rw [plF_len, evF_len] at this; exact this
    obtain ⟨q, hq⟩ := plF_get (evF y k A L C) p j _ (evF_get y k A L C j hj)
    rw [hq] at hf
    simp only [Option.some.injEq] at hf
    subst hf
    refine ⟨by omega, by simp, ?_⟩
    simp only [Int.toNat_natCast]
    omega)
  rw [List.append_nil] at h
  rw [h]
  unfold runN
  rw [List.append_nil]
theorem plF_end : ∀ (L : List Fi) (p : Nat), endZ p (plF p L) = p + (layF L).length
  | [], p => by simp [plF, endZ, layF]
  | f :: r, p => by
    simp only [plF]
    rw [endZ_cons]
    simp only
    rw [show p + f.body.length + 20 = p + (f.body.length + 20) from by omega, plF_end r (p + (f.body.length + 20))]
    simp only [layF, fL, List.length_append, frameL_length]
    omega
theorem decE_nil : decE [] = 60 := by decide
/-- what Scan finds in a laid segment that is cut behind its header -/
theorem seg_cut (x y n : Nat) (A : Nat → Option Addr) (L : Nat → List Nat) (C : Nat → Nat) (hx1 : 1 ≤ x) (hx : x ≤ 999999) (hy1 : 1 ≤ y) (hy : y ≤ 549755813888) (hn : n ≤ 512) (hb : EvB n L) (k c : Nat) (hk : k ≤ n) (h1 : (layF (evF y k A L C)).length ≤ c)
    (h2 : (k = n ∧ c = (layF (evF y n A L C)).length) ∨ (k < n ∧ c < (layF (evF y (k + 1) A L C)).length)) (l : List Nat) (hl : l = hdrL x y ++ (layF (evF y n A L C)).take c) :
    hdr l = some (x, y) ∧ hoX l = x ∧ hoY l = y ∧ (sgE l).length = k ∧ sgG l = (hdrL x y).length + (layF (evF y k A L C)).length ∧ sgF l = 0 ∧ sgN l = 0 := by
  have hh : hdr l = some (x, y) := by rw [hl]; exact hdr_back x y _ hx1 hx hy1 (by omega)
  have hX : hoX l = x := by unfold hoX; rw [hh]; rfl
  have hY : hoY l = y := by unfold hoY; rw [hh]; rfl
  obtain ⟨q1, q2⟩ := hdr_body x y hx (by omega)
  have hpn : pn l + 20 = (hdrL x y).length := by
    rw [hl, hdrL_len]
    unfold hdrL
    rw [pn_laid 2 x (nencs [x, y]) _ q1 (by omega) (by omega) (by omega) (by omega)]
  have hdrop : l.drop (pn l + 20) = (layF (evF y n A L C)).take c := by rw [hpn, hl, List.drop_left]
  have hok := evF_ok (y := y) (A := A) (C := C) hb hn hy
  obtain ⟨s1, s2, s3⟩ := scanTorn.scan_cut (evF y n A L C) hok k c (by rw [evF_take y n A L C k hk]; exact h1) (by
    rcases h2 with ⟨rfl, h2⟩ | ⟨hkn, h2⟩
    · exact .inl ⟨(evF_len ..).symm, h2⟩
    · exact .inr ⟨_, evF_get y n A L C k hkn, by rw [evF_take y n A L C (k + 1) hkn]; exact h2⟩)
  rw [evF_take y n A L C k hk] at s1 s2 s3
  have hE : sgE l = plF (hdrL x y).length (evF y k A L C) := by
    unfold sgE runL
    rw [hY, hdrop, s1, plF_run y A L C k (by omega), hpn, plF_shift, Nat.add_zero]
  have hG : sgG l = (hdrL x y).length + (layF (evF y k A L C)).length := by unfold sgG; rw [hE, hpn, plF_end]
  have hF : sgF l = 0 := by
    unfold sgF
    refine ftS_no _ _ _ _ (.inl ?_)
    have hd : l.drop (sgG l) = ((layF (evF y n A L C)).take c).drop (layF (evF y k A L C)).length := by rw [hG, ← List.drop_drop, ← hpn, hdrop]
    rw [hd]
    unfold allE at s3
    rw [s2] at s3
    by_cases hc : (layF (evF y k A L C)).length = ((layF (evF y n A L C)).take c).length
    · rw [List.drop_of_length_le (by omega), decE_nil]
      omega
    · rw [if_neg hc] at s3
      rw [s3]
      have hcl : ((layF (evF y n A L C)).take c).length = c := by
        rw [List.length_take]
        rcases h2 with ⟨rfl, h2⟩ | ⟨hkn, h2⟩
        · omega
        · have := layF_evF y A L C (k + 1)
          have := layF_evF y A L C n
          have := tot_mono L (show k + 1 ≤ n from hkn)
          omega
      rw [hcl] at hc
      rw [if_neg hc]
      omega
  refine ⟨hh, hX, hY, by rw [hE, plF_len, evF_len], hG, hF, ?_⟩
  unfold sgN ftN
  rw [if_pos]
  exact hF
end Go.Proofs.YtaegmeilhdbnnaaDoor
