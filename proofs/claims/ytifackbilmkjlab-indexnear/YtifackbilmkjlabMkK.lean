/- What index.Seek and the reference's Seek answer. -/
import Derived.Test.YtifackbilmkjlabMkL
import Derived.Test.YtifackbilmkjlabMkm
namespace Go.Proofs.Ytifackbilmkjlab
open Go.ChangeShapes Go.WideShapes Go.ChangeAt Go.RowKit
set_option linter.unusedVariables false
/-- the last mark at or below seq -/
def seekR (seq : Int) (L : List Mk) : Mk × Bool := L.foldl (fun acc p => if p.1 ≤ seq then (p, true) else acc) ((0, 0), false)
theorem seekR_snoc (seq : Int) (L : List Mk) (p : Mk) : seekR seq (L ++ [p]) = if p.1 ≤ seq then (p, true) else seekR seq L := by
  unfold seekR; rw [List.foldl_append]; rfl
theorem seekR_take (seq : Int) (L : List Mk) (k : Nat) (p : Mk) (h : L[k]? = some p) : seekR seq (L.take (k + 1)) = if p.1 ≤ seq then (p, true) else seekR seq (L.take k) := by
  rw [take_get L k p h, seekR_snoc]
theorem seekR_low (seq : Int) (L : List Mk) (r : Nat) (h : Cut L seq r) : seekR seq (L.take r) = if r = 0 then ((0, 0), false) else (L.getD (r - 1) (0, 0), true) := by
  cases r with
  | zero => rfl
  | succ k =>
    obtain ⟨p, hp⟩ := get_of_lt (L := L) (k := k) (by have := h.le; omega)
    rw [seekR_take seq L k p hp, if_pos (h.low k p (by omega) hp), if_neg (by omega), Nat.add_sub_cancel, getD_of hp]
theorem seekR_high (seq : Int) (L : List Mk) (r : Nat) (h : Cut L seq r) : ∀ d, r + d ≤ L.length → seekR seq (L.take (r + d)) = seekR seq (L.take r)
  | 0, _ => rfl
  | d + 1, hd => by
    obtain ⟨p, hp⟩ := get_of_lt (L := L) (k := r + d) (by omega)
    rw [show r + (d + 1) = (r + d) + 1 from by omega, seekR_take seq L (r + d) p hp, if_neg (by have := h.high (r + d) p (by omega) hp; omega)]
    exact seekR_high seq L r h d (by omega)
theorem seekR_cut (seq : Int) (L : List Mk) (r : Nat) (h : Cut L seq r) : seekR seq L = if r = 0 then ((0, 0), false) else (L.getD (r - 1) (0, 0), true) := by
  have h1 := seekR_high seq L r h (L.length - r) (by have := h.le; omega)
  rw [show r + (L.length - r) = L.length from by have := h.le; omega, List.take_length] at h1
  rw [h1, seekR_low seq L r h]
theorem rise_from : ∀ (L : List Mk) (s a : Int), vfrom s a L = true → (∀ p ∈ L, s < p.1) ∧ Rise L
  | [], s, a, _ => ⟨fun p hp => (by cases hp), fun i j p q _ h _ => (by simp at h)⟩
  | x :: r, s, a, h => by
    obtain ⟨g1, g2, g3, g4, g5⟩ := vfrom_head h
    obtain ⟨h1, h2⟩ := rise_from r x.1 x.2 g5
    refine ⟨fun p hp => ?_, fun i j p q hij hp hq => ?_⟩
    · rcases List.mem_cons.1 hp with rfl | hp
      · exact g1
      · have := h1 p hp; omega
    · cases i with
      | zero =>
        simp at hp
        subst hp
        cases j with
        | zero => simp at hq; subst hq; exact Int.le_refl _
        | succ j => have := h1 q (List.mem_of_getElem? (by simpa using hq)); omega
      | succ i =>
        cases j with
        | zero => omega
        | succ j => exact h2 i j p q (by omega) (by simpa using hp) (by simpa using hq)
theorem rise_valid {L : List Mk} (h : validB L = true) : Rise L := (rise_from L 0 (-1) (valid_from h)).2
/-- the two blocks that Seek lays -/
theorem lay2s (w : World) (seq : Int) : ∃ W, (w.alloc (.cells #[.int .i64 seq] 3)).alloc (.cells #[.int .i64 0, .int .i64 0] 35) = W ∧ W.heap.size = w.heap.size + 2 ∧ W.cell? ⟨w.heap.size, 0, none⟩ = some (.int .i64 seq) ∧ MkAt W (w.heap.size + 1) 0 0 ∧ Below w.heap.size w W := by
  refine ⟨_, rfl, by simp, ?_, ?_, (((Below.refl _ _).alloc (Nat.le_refl _) _).alloc (by simp) _)⟩
  · have h : ((w.alloc (.cells #[.int .i64 seq] 3)).alloc (.cells #[.int .i64 0, .int .i64 0] 35)).heap[w.heap.size]? = some (.cells #[.int .i64 seq] 3) := by
      simp only [World.alloc, Array.getElem?_push, Array.size_push]
      rw [if_neg (by omega), if_pos trivial]
    rw [cell_of_row _ _ 0 _ _ _ h]; rfl
  · unfold MkAt
    simp only [World.alloc, Array.getElem?_push, Array.size_push]
    rw [if_pos trivial]
/-- how the two answers of Seek are told -/
abbrev SkV (q : Mk × Bool) : Value := .tuple #[.agg #[.int .i64 q.1.1, .int .i64 q.1.2], .bool q.2]
set_option maxRecDepth 20000 in
set_option maxHeartbeats 2000000 in
theorem seek_any (L : List Mk) (n : Nat) (a : Option Addr) (cap : Nat) (seq : Int) (w : World) (hn : L.length = n) (hm : Marks w a L) (hR : Rise L) (hl : n ≤ 140737488351232) :
    Calls Try.prog 8 #[.slice a n cap, .int .i64 seq] w fun e w' => e = .returned (SkV (seekR seq L)) ∧ Below w.heap.size w w' := by
  have hmf : ∀ (fn : Fn) (first cap : Array Value) (w : World), (Instr.makeFunc fn first cap).run Try.prog w = .ok (.func fn first cap) w := fun _ _ _ _ => rfl
  obtain ⟨W, hW, hWs, hx, hp, hb⟩ := lay2s w seq
  have hl2 := last_any L n a cap seq w.heap.size W hn (hm.keep hb) hR hl hx
  have HW : Hid (_ = W) := hW
  have HK : Hid (W.heap.size = w.heap.size + 2 ∧ MkAt W (w.heap.size + 1) 0 0 ∧ Below w.heap.size w W ∧ L.length = n) := ⟨hWs, hp, hb, hn⟩
  have hfin : ∀ w', Below W.heap.size W w' → MkAt w' (w.heap.size + 1) 0 0 ∧ Below w.heap.size w w' := fun w' h => ⟨(h.block _ (by have := HK.out.1; omega)).trans HK.out.2.1, HK.out.2.2.1.trans (h.mono (by have := HK.out.1; omega))⟩
  have HFIN : Hid (∀ w', Below W.heap.size W w' → MkAt w' (w.heap.size + 1) 0 0 ∧ Below w.heap.size w w') := hfin
  have hnI : (n : Int) ≤ 140737488351232 := by omega
  rcases hm with rfl | ⟨b, off, rfl, hlt, hc⟩
  · have HL : Hid (Calls Try.prog 11 #[.slice a n cap, .func (Fn.func 12) #[] #[.pointer (some ⟨w.heap.size, 0, none⟩)]] W fun e w' => e = .returned (.int .i64 (-1)) ∧ Below W.heap.size W w') := hl2.mono (by
      rintro e w' ⟨r, rfl, h1, h2⟩
      have := h1.le
      simp at this
      subst this
      exact ⟨rfl, h2⟩)
    clear hW hWs hp hb hn hR hx hl hl2 hfin
    go_enter Try.func8, Try.ntmps8
    go_wp2_with (go_at_call 11; rw [HW.out]; refine HL.out.mono ?_; rintro e w5 ⟨rfl, hb5⟩; have HP5 : Hid (MkAt w5 (w.heap.size + 1) 0 0 ∧ Below w.heap.size w w5) := HFIN.out w5 hb5; obtain ⟨y0, y1, y2, y3⟩ := mk_box HP5.out.1; clear hb5)
    refine bodyPost_ret (results_mk rfl _ _ _ rfl rfl (mk_set HP5.out.1 0 0)) rfl ?_
    exact ⟨rfl, (HP5.out.2.setCell (p := ⟨w.heap.size + 1, 0, none⟩) (by show w.heap.size ≤ w.heap.size + 1; omega) _).setCell (p := ⟨w.heap.size + 1, 1, none⟩) (by show w.heap.size ≤ w.heap.size + 1; omega) _⟩
  · have HL : Hid (Calls Try.prog 11 #[.slice (some ⟨b, off, none⟩) n cap, .func (Fn.func 12) #[] #[.pointer (some ⟨w.heap.size, 0, none⟩)]] W fun e w' => (e = .returned (.int .i64 (-1)) ∧ seekR seq L = ((0, 0), false) ∧ Below W.heap.size W w') ∨ ∃ (j : Nat) (x z : Int), e = .returned (.int .i64 (j : Int)) ∧ j < n ∧ w'.cell? ⟨b, off + j * 2, none⟩ = some (.int .i64 x) ∧ w'.cell? ⟨b, off + j * 2 + 1, none⟩ = some (.int .i64 z) ∧ seekR seq L = ((x, z), true) ∧ Below W.heap.size W w') := hl2.mono (by
      rintro e w' ⟨r, rfl, h1, h2⟩
      have hsk := seekR_cut seq L r h1
      cases r with
      | zero => exact .inl ⟨rfl, hsk, h2⟩
      | succ j =>
        obtain ⟨⟨x, z⟩, hpj⟩ := get_of_lt (L := L) (k := j) (by have := h1.le; omega)
        obtain ⟨c0, c1⟩ := Marks.cells hc j (x, z) hpj
        have hbw := (hfin w' h2).2
        rw [if_neg (by omega), Nat.add_sub_cancel, getD_of hpj] at hsk
        exact .inr ⟨j, x, z, by rw [show ((j + 1 : Nat) : Int) - 1 = (j : Int) from by omega], by have := h1.le; omega, (hbw.cell (p := ⟨b, off + j * 2, none⟩) hlt).trans c0, (hbw.cell (p := ⟨b, off + j * 2 + 1, none⟩) hlt).trans c1, hsk, h2⟩)
    clear hW hWs hp hb hn hR hx hl hl2 hfin hc
    go_enter Try.func8, Try.ntmps8
    go_wp2_with (go_at_call 11; rw [HW.out]; refine HL.out.mono ?_; rintro e w5 (⟨rfl, hsk, hb5⟩ | ⟨j, x, z, rfl, hjn, c0, c1, hsk, hb5⟩) <;> (have HP5 : Hid (MkAt w5 (w.heap.size + 1) 0 0 ∧ Below w.heap.size w w5) := HFIN.out w5 hb5; obtain ⟨y0, y1, y2, y3⟩ := mk_box HP5.out.1; have HSK : Hid (seekR seq L = _) := hsk; clear hb5 hsk))
    · refine bodyPost_ret (results_mk rfl _ _ _ rfl rfl (mk_set HP5.out.1 0 0)) rfl ?_
      rw [HSK.out]
      exact ⟨rfl, (HP5.out.2.setCell (p := ⟨w.heap.size + 1, 0, none⟩) (by show w.heap.size ≤ w.heap.size + 1; omega) _).setCell (p := ⟨w.heap.size + 1, 1, none⟩) (by show w.heap.size ≤ w.heap.size + 1; omega) _⟩
    · refine bodyPost_ret (results_mk rfl _ _ _ rfl rfl (mk_set HP5.out.1 x z)) rfl ?_
      rw [HSK.out]
      exact ⟨rfl, (HP5.out.2.setCell (p := ⟨w.heap.size + 1, 0, none⟩) (by show w.heap.size ≤ w.heap.size + 1; omega) _).setCell (p := ⟨w.heap.size + 1, 1, none⟩) (by show w.heap.size ≤ w.heap.size + 1; omega) _⟩
end Go.Proofs.Ytifackbilmkjlab
