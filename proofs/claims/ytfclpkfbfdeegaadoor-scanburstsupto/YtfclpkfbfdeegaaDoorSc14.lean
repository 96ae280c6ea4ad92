/- The law's laid: frames behind one another, by the program's own Encode. -/
import Derived.Test.YtfclpkfbfdeegaaDoorFrk
import Derived.Test.YtfclpkfbfdeegaaDoorSc13
import Derived.Test.YtfclpkfbfdeegaaDoorFr7
import Derived.Test.YtfclpkfbfdeegaaDoorCopy
namespace Go.Proofs.YtfclpkfbfdeegaaDoor
open Go.ChangeShapes Go.WideShapes Go.ChangeAt Go.RowKit Go.Shelf
set_option linter.unusedVariables false
theorem Tryd.infoIn : (Tryd.prog.info? 3).map (fun i => (i.zero, i.size, i.bytes)) = some (some (.int .i64 0), 1, 8) := by kernel_rfl
def fOk (f : Fi) : Prop := encE f.k f.s f.body.length = 0
def fL (f : Fi) : List Nat := frameL f.k.toNat f.s.toNat f.body
def layF : List Fi → List Nat
  | [] => []
  | f :: r => fL f ++ layF r
theorem layF_append : ∀ (L M : List Fi), layF (L ++ M) = layF L ++ layF M
  | [], M => rfl
  | f :: L, M => by simp only [List.cons_append, layF, layF_append L M, List.append_assoc]
theorem layF_len : ∀ (L : List Fi), (∀ f ∈ L, f.body.length ≤ f.cp) → (layF L).length ≤ 5 * fbulk L
  | [], _ => by simp [layF]
  | f :: L, h => by
    have h1 := layF_len L (fun g hg => h g (List.mem_cons_of_mem _ hg))
    have h2 := h f (List.mem_cons_self ..)
    simp only [layF, fL, List.length_append, frameL_length, fbulk]
    omega
theorem fbulk_take : ∀ (L : List Fi) (k : Nat), fbulk (L.take k) ≤ fbulk L
  | [], k => by simp
  | f :: L, 0 => by simp [fbulk]
  | f :: L, k + 1 => by simp only [List.take_succ_cons, fbulk]; have := fbulk_take L k; omega
theorem fbulk_len : ∀ (L : List Fi), 4 * L.length ≤ fbulk L
  | [] => by simp
  | f :: L => by simp only [List.length_cons, fbulk]; have := fbulk_len L; omega
theorem fbulk_mem : ∀ (L : List Fi) (f : Fi), f ∈ L → f.cp + 4 ≤ fbulk L
  | g :: L, f, h => by
    simp only [fbulk]
    rcases List.mem_cons.1 h with rfl | h
    · omega
    · have := fbulk_mem L f h; omega
/-- where they end -/
def endV (L : List Fi) (k : Nat) : List Value := (List.range k).map fun i => .int .i64 ((layF (L.take (i + 1))).length : Int)
theorem endV_succ (L : List Fi) (k : Nat) : endV L (k + 1) = endV L k ++ [.int .i64 ((layF (L.take (k + 1))).length : Int)] := by
  unfold endV; rw [List.range_succ, List.map_append]; rfl
/-- a row of another type stays where a row grows -/
theorem row_apart {W w5 : World} {b1 n1 z1 b2 n2 z2 : Nat} {e1 e2 : TypeId} {v u : Value} {xs ys : List Value} (ho : W.ownsRow b1 e1 z1 v n1 xs) (hg : W.grownBy w5 v.ownBlock) (h : W.ownsRow b2 e2 z2 u n2 ys) (hne : e1 ≠ e2) : w5.ownsRow b2 e2 z2 u n2 ys := by
  refine ⟨h.1, ?_⟩
  rcases h.2 with h2 | ⟨g, cap, cur, g3, g4, g5, g6⟩
  · exact .inl h2
  · refine .inr ⟨g, cap, cur, g3, g4, ?_, g6⟩
    rw [hg.block g (lt_of_heap g5) (fun e => ?_)]
    · exact g5
    · rcases ho.2 with ⟨rfl, _⟩ | ⟨g', cap', cur', rfl, _, hh, _⟩
      · simp [Value.ownBlock] at e
      · have : g = g' := by simpa [Value.ownBlock] using e
        subst this
        rw [g5] at hh
        cases hh
        exact hne rfl
theorem own_addr {w : World} {base : Nat} {a : Option Addr} {n c : Nat} {l : List Nat} (h : Own w base (.slice a n c) l) : (a = none → c = 0) ∧ (∀ x, a = some x → ∃ b off, x = ⟨b, off, none⟩) := by
  obtain ⟨a2, c2, h1, _, _, _, h5⟩ := h.shape
  cases h1
  rcases h5 with ⟨h6, _, h7⟩ | ⟨g, h6, _⟩
  · exact ⟨fun _ => h7, fun x hx => by rw [h6] at hx; cases hx⟩
  · refine ⟨fun hx => ?_, fun x hx => ?_⟩
    · rw [h6] at hx; cases hx
    · rw [h6] at hx; cases hx; exact ⟨g, 0, rfl⟩
set_option maxRecDepth 100000 in
set_option maxHeartbeats 4000000 in
theorem laidF_any (L : List Fi) (n : Nat) (a : Option Addr) (cap : Nat) (w : World) (hn : L.length = n) (hL : FrsA w a L) (hbk : fbulk L ≤ 1048576) (ht : Tab w) :
    Calls Tryd.prog 11 #[.slice a n cap] w fun e w' => (((∀ f ∈ L, fOk f) ∧ ∃ vb ve, e = .returned (.tuple #[vb, ve, .bool true]) ∧ Own w' w.heap.size vb (layF L) ∧ w'.ownsRow w.heap.size 3 1 ve n (endV L n)) ∨ (¬ (∀ f ∈ L, fOk f) ∧ e = .returned (.tuple #[.slice none 0 0, .slice none 0 0, .bool false]))) ∧ Below w.heap.size w w' := by
  obtain ⟨i0, hi, hz0, hz1, hz2⟩ := info_parts Tryd.info5f
  obtain ⟨j0, ji, jz0, jz1, jz2⟩ := info_parts Tryd.infoIn
  have HL : Hid (FrsA w a L ∧ L.length = n ∧ fbulk L ≤ 1048576 ∧ Tab w) := ⟨hL, hn, hbk, ht⟩
  have hn4 : 4 * n ≤ 1048576 := by have := fbulk_len L; omega
  have hnI : (n : Int) ≤ 262144 := by omega
  clear hn hL hbk ht
  go_enter Tryd.func11, Tryd.ntmps11
  go_wp2
  go_loopw [5, 6, 14] (fun vb ve vi wr => ∃ (b0 e0 : Value) (k : Nat), b0 = vb ∧ e0 = ve ∧ k ≤ n ∧ vi = .int .i64 k ∧ (∀ f ∈ L.take k, fOk f) ∧ Own wr w.heap.size b0 (layF (L.take k)) ∧ wr.ownsRow w.heap.size 3 1 e0 k (endV L k) ∧ Below w.heap.size w wr) (fun _ _ vi _ => n - (intOf vi).toNat)
  case atStart =>
    refine ⟨_, _, 0, rfl, rfl, Nat.zero_le _, rfl, (fun f hf => by simp at hf), ?_, ?_, ((Below.refl _ _).alloc (Nat.le_refl _) _).alloc (by simp) _⟩
    · have h := own_lit w [] (by simp) (by simp)
      exact ⟨h.1, World.ownsRow.alloc h.2 _⟩
    · have h := World.ownsRow_lit (base := w.heap.size) (e := 3) (size := 1) (w.alloc (.cells #[] 5)) #[] 0 (by simp) (by simp) rfl
      rw [World.size_alloc] at h
      exact h
  case round =>
    obtain ⟨vb, ve, k, rfl, rfl, hk, rfl, hok, hOb, hOe, hbr⟩ := hrel
    have HR : Hid ((∀ f ∈ L.take k, fOk f) ∧ Own wr w.heap.size vb (layF (L.take k)) ∧ wr.ownsRow w.heap.size 3 1 ve k (endV L k)) := ⟨hok, hOb, hOe⟩
    clear hok hOb hOe
    have hsz := hbr.size
    by_cases hkn : k < n
    · obtain ⟨⟨fk, fs, body, ad, cp⟩, hf⟩ := lt_get (L := L) (k := k) (by rw [HL.out.2.1]; exact hkn)
      have hfo := HL.out.1.oks _ (List.mem_of_getElem? hf)
      rcases HL.out.1.lie with h0 | ⟨b, off, rfl, hlt, hcs⟩
      · rw [h0] at hf; simp at hf
      obtain ⟨c0, c1, c2⟩ := hcs k _ hf
      rw [← hbr.cell (p := ⟨b, off + k * 3, none⟩) hlt] at c0
      rw [← hbr.cell (p := ⟨b, off + k * 3 + 1, none⟩) hlt] at c1
      rw [← hbr.cell (p := ⟨b, off + k * 3 + 2, none⟩) hlt] at c2
      simp only at c0 c1 c2
      have hlt2 : b < wr.heap.size := Nat.lt_of_lt_of_le hlt hsz
      obtain ⟨m, hm⟩ : ∃ m, body.length = m := ⟨_, rfl⟩
      rw [hm] at c2
      have hmb : m ≤ 1048576 := by
        have h1 := fbulk_mem L _ (List.mem_of_getElem? hf)
        have h2 := hfo.len
        have h3 := HL.out.2.2.1
        simp only at h1 h2
        omega
      have HCP : Hid (∀ w1, Below wr.heap.size wr w1 → Calls Tryd.prog 9 #[.slice ad m cp] w1 fun e w' => ∃ v, e = .returned v ∧ Own w' w1.heap.size v body ∧ Below w1.heap.size w1 w') := fun w1 hb1 => by
        have := copy_any body ad cp w1 ((hfo.byt.keep hbr).keep hb1) (by omega)
        rw [hm] at this
        exact this
      have HM : Hid (body.length = m) := hm
      have HT1 : Hid (L.take (k + 1) = L.take k ++ [⟨fk, fs, body, ad, cp⟩]) := by show _ = _; rw [List.take_add_one, hf]; rfl
      have HTR : Hid (Tab wr) := HL.out.2.2.2.keep hbr
      have HMEM : Hid ((⟨fk, fs, body, ad, cp⟩ : Fi) ∈ L) := List.mem_of_getElem? hf
      obtain ⟨E, hE⟩ : ∃ E, encE fk fs m = E := ⟨_, rfl⟩
      have HE : Hid (encE fk fs m = E) := hE
      have hkI : (k : Int) < (n : Int) := by omega
      clear hf hfo hcs hm hE
      have HARM : Hid (∀ w1 a5 c5, Below wr.heap.size wr w1 → Own w1 wr.heap.size (.slice a5 m c5) body → Calls Tryd.prog 20 #[FrV fk fs (.slice a5 m c5)] w1 fun r w' => ∃ v, r = .returned (.tuple #[v, .int .i64 (E : Int)]) ∧ Own w' w1.heap.size v (encL fk fs body) ∧ Below w1.heap.size w1 w') := fun w1 a5 c5 hb1 ho => by
        obtain ⟨a6, c6, hv6, _, _, hy6, _⟩ := ho.shape
        obtain ⟨q1, q2⟩ := own_addr ho
        have := fenc_any fk fs body m a5 c5 w1 HM.out (by cases hv6; exact hy6) q1 (by omega) q2 (HTR.out.keep hb1)
        rw [HE.out] at this
        exact this
      by_cases hE0 : E = 0
      · subst hE0
        have HEN : Hid (encL fk fs body = fL ⟨fk, fs, body, ad, cp⟩ ∧ (encL fk fs body).length = m + 20 ∧ encL fk fs body ≠ []) := by
          have h1 : encL fk fs body = fL ⟨fk, fs, body, ad, cp⟩ := by unfold encL; rw [HM.out, HE.out, if_pos rfl]; rfl
          have h2 : (encL fk fs body).length = m + 20 := by rw [h1]; unfold fL; rw [frameL_length, HM.out]
          exact ⟨h1, h2, fun h => by rw [h] at h2; simp at h2⟩
        have HOK : Hid (∀ f ∈ L.take (k + 1), fOk f) := fun f hf => by
          rw [HT1.out] at hf
          rcases List.mem_append.1 hf with h | h
          · exact HR.out.1 f h
          · simp at h
            subst h
            unfold fOk
            simp only
            rw [HM.out]
            exact HE.out
        obtain ⟨nb, hnb⟩ : ∃ nb, (layF (L.take k)).length = nb := ⟨_, rfl⟩
        have hnb2 : nb ≤ 5242880 := by
          have h1 := layF_len (L.take k) (fun f hf => (HL.out.1.oks f (List.mem_of_mem_take hf)).len)
          have h2 := fbulk_take L k
          have h3 := HL.out.2.2.1
          omega
        have HNB : Hid ((layF (L.take k)).length = nb) := hnb
        have HEV : Hid ((layF (L.take (k + 1))).length = nb + (m + 20)) := by show _ = _; rw [HT1.out, layF_append, List.length_append, HNB.out]; simp only [layF, List.append_nil]; rw [← HEN.out.1, HEN.out.2.1]
        clear hnb
        go_wp2
        go_region_held3 (fun w' => w'.cell? ⟨b, off + k * 3, none⟩ = some (.int .i64 fk) ∧ w'.cell? ⟨b, off + k * 3 + 1, none⟩ = some (.int .i64 fs) ∧ w'.cell? ⟨b, off + k * 3 + 2, none⟩ = some (.slice ad m cp)) (go_keep) (first
          | (go_at_call 9; refine (HCP.out _ (below_drewN (Below.refl _ _) 1)).mono ?_; rintro e w3 ⟨v3, rfl, ho3, hb3⟩; obtain ⟨a3, s3, hv3, _⟩ := ho3.shape; rw [HM.out] at hv3; subst hv3; have cc0 : w3.cell? ⟨b, off + k * 3, none⟩ = some (.int .i64 fk) := (hb3.cell (p := ⟨b, off + k * 3, none⟩) hlt2).trans c0; have cc1 : w3.cell? ⟨b, off + k * 3 + 1, none⟩ = some (.int .i64 fs) := (hb3.cell (p := ⟨b, off + k * 3 + 1, none⟩) hlt2).trans c1; have cc2 : w3.cell? ⟨b, off + k * 3 + 2, none⟩ = some (.slice ad m cp) := (hb3.cell (p := ⟨b, off + k * 3 + 2, none⟩) hlt2).trans c2; have HB3 : Hid (Below wr.heap.size wr w3) := (below_drewN (Below.refl wr.heap.size wr) 1).trans hb3; have HO3 : Hid (Own w3 wr.heap.size (.slice a3 m s3) body) := ho3; have hlt3 : b < w3.heap.size := Nat.lt_of_lt_of_le hlt2 HB3.out.size; clear hb3 ho3)
          | (go_at_call 20; refine (HARM.out w3 a3 s3 HB3.out HO3.out).mono ?_; rintro e w4 ⟨v4, rfl, ho4, hb4⟩; have dd0 : w4.cell? ⟨b, off + k * 3, none⟩ = some (.int .i64 fk) := (hb4.cell (p := ⟨b, off + k * 3, none⟩) hlt3).trans cc0; have dd1 : w4.cell? ⟨b, off + k * 3 + 1, none⟩ = some (.int .i64 fs) := (hb4.cell (p := ⟨b, off + k * 3 + 1, none⟩) hlt3).trans cc1; have dd2 : w4.cell? ⟨b, off + k * 3 + 2, none⟩ = some (.slice ad m cp) := (hb4.cell (p := ⟨b, off + k * 3 + 2, none⟩) hlt3).trans cc2; have HB4 : Hid (Below wr.heap.size wr w4) := below_next HB3.out hb4; obtain ⟨g4, p4, hv4, _, hy4⟩ := ho4.row HEN.out.2.2; rw [HEN.out.2.1] at hv4; subst hv4; have HY4 : Hid (Bytes w4 (some ⟨g4, 0, none⟩) (encL fk fs body) ∧ ∀ i, (encL fk fs body).getD i 0 < 256) := ⟨hy4, ho4.1⟩; clear hb4 ho4 hy4)
          | fail)
        all_goals (
          have HO4 : Hid (w4.ownsRow w.heap.size 5 1 vb nb (B8 (layF (L.take k))) ∧ w4.ownsRow w.heap.size 3 1 ve k (endV L k)) := ⟨by have h := own_below HR.out.2.1.2 HB4.out; rw [HNB.out] at h; exact h, own_below HR.out.2.2 HB4.out⟩
          have HW4 : Hid (Below w.heap.size w w4) := hbr.trans (HB4.out.mono hsz)
          have hs4 : w.heap.size ≤ w4.heap.size := HW4.out.size
          go_wp2_with (first
            | (at_builtin; refine wpList_append_own _ rfl _ _ 22 rfl w.heap.size 5 i0 (.int .u8 0) 1 1 Tryd.underlying22 hi hz0 hz1 hz2 rfl (by decide) _ _ _ rfl HO4.out.1 ⟨g4, 0, none⟩ (m + 20) p4 (B8 (encL fk fs body)) rfl (by rw [B8_length, HEN.out.2.1, Nat.mul_one]) (bytes_cells HY4.out.1) (B8_one _) (by unfold maxLen; omega) (by omega) hs4 ?_; intro v5 w5 ho5 hg5 _; have HW5 : Hid (Below w.heap.size w w5) := grown_row HW4.out HO4.out.1 hs4 hg5; have HO5 : Hid (Own w5 w.heap.size v5 (layF (L.take (k + 1)))) := (by show Own _ _ _ _; rw [HT1.out, layF_append]; simp only [layF, List.append_nil]; rw [← HEN.out.1]; exact Own.append HR.out.2.1.1 HY4.out.2 (by rw [HNB.out, HEN.out.2.1]; exact ho5)); have HE5 : Hid (w5.ownsRow w.heap.size 3 1 ve k (endV L k)) := row_apart HO4.out.1 hg5 HO4.out.2 (by decide); obtain ⟨g5, p5, hv5, _, _⟩ := HO5.out.row (by intro h; have h2 := HEV.out; rw [h] at h2; simp at h2); rw [HEV.out] at hv5; subst hv5; have hs5 : w.heap.size ≤ w5.heap.size := HW5.out.size; clear ho5 hg5)
            | (at_builtin; refine wpList_append_own _ rfl _ _ 38 rfl w.heap.size 3 j0 (.int .i64 0) 1 8 Tryd.underlying38 ji jz0 jz1 jz2 rfl (by decide) _ _ _ rfl (World.ownsRow.alloc HE5.out _) ⟨w5.heap.size, 0, none⟩ 1 1 [.int .i64 ((nb : Int) + ((m : Int) + 20))] rfl rfl (cell_new _ _ _) (one_new _) (by unfold maxLen; omega) (by omega) (by simp; omega) ?_; intro v6 w6 ho6 hg6 _; have HW6 : Hid (Below w.heap.size w w6) := grown_row (HW5.out.alloc hs5 _) (World.ownsRow.alloc HE5.out _) (by simp; omega) hg6; have HE6 : Hid (w6.ownsRow w.heap.size 3 1 v6 (k + 1) (endV L (k + 1))) := (by show World.ownsRow _ _ _ _ _ _ _; refine RowEq ho6 ?_; rw [endV_succ, HEV.out]; simp); have HO6 : Hid (Own w6 w.heap.size (.slice (some ⟨g5, 0, none⟩) (nb + (m + 20)) p5) (layF (L.take (k + 1)))) := ⟨HO5.out.1, row_apart (World.ownsRow.alloc HE5.out _) hg6 (World.ownsRow.alloc HO5.out.2 _) (by decide)⟩; clear ho6 hg6))
          exact ⟨⟨_, _, k + 1, rfl, rfl, by omega, by go_num, HOK.out, HO6.out, HE6.out, HW6.out⟩, by simp [intOf]; omega⟩)
      · have heb : ((E : Int) != 0) = true := by simp; omega
        have HNO : Hid (¬ ∀ f ∈ L, fOk f) := fun h => by
          have h2 := h _ HMEM.out
          unfold fOk at h2
          simp only at h2
          rw [HM.out, HE.out] at h2
          exact hE0 h2
        go_wp2
        go_region_held3 (fun w' => w'.cell? ⟨b, off + k * 3, none⟩ = some (.int .i64 fk) ∧ w'.cell? ⟨b, off + k * 3 + 1, none⟩ = some (.int .i64 fs) ∧ w'.cell? ⟨b, off + k * 3 + 2, none⟩ = some (.slice ad m cp)) (go_keep) (first
          | (go_at_call 9; refine (HCP.out _ (below_drewN (Below.refl _ _) 1)).mono ?_; rintro e w3 ⟨v3, rfl, ho3, hb3⟩; obtain ⟨a3, s3, hv3, _⟩ := ho3.shape; rw [HM.out] at hv3; subst hv3; have cc0 : w3.cell? ⟨b, off + k * 3, none⟩ = some (.int .i64 fk) := (hb3.cell (p := ⟨b, off + k * 3, none⟩) hlt2).trans c0; have cc1 : w3.cell? ⟨b, off + k * 3 + 1, none⟩ = some (.int .i64 fs) := (hb3.cell (p := ⟨b, off + k * 3 + 1, none⟩) hlt2).trans c1; have cc2 : w3.cell? ⟨b, off + k * 3 + 2, none⟩ = some (.slice ad m cp) := (hb3.cell (p := ⟨b, off + k * 3 + 2, none⟩) hlt2).trans c2; have HB3 : Hid (Below wr.heap.size wr w3) := (below_drewN (Below.refl wr.heap.size wr) 1).trans hb3; have HO3 : Hid (Own w3 wr.heap.size (.slice a3 m s3) body) := ho3; have hlt3 : b < w3.heap.size := Nat.lt_of_lt_of_le hlt2 HB3.out.size; clear hb3 ho3)
          | (go_at_call 20; refine (HARM.out w3 a3 s3 HB3.out HO3.out).mono ?_; rintro e w4 ⟨v4, rfl, ho4, hb4⟩; have dd0 : w4.cell? ⟨b, off + k * 3, none⟩ = some (.int .i64 fk) := (hb4.cell (p := ⟨b, off + k * 3, none⟩) hlt3).trans cc0; have dd1 : w4.cell? ⟨b, off + k * 3 + 1, none⟩ = some (.int .i64 fs) := (hb4.cell (p := ⟨b, off + k * 3 + 1, none⟩) hlt3).trans cc1; have dd2 : w4.cell? ⟨b, off + k * 3 + 2, none⟩ = some (.slice ad m cp) := (hb4.cell (p := ⟨b, off + k * 3 + 2, none⟩) hlt3).trans cc2; have HB4 : Hid (Below wr.heap.size wr w4) := below_next HB3.out hb4; clear hb4 ho4)
          | fail)
        all_goals (
          go_wp2
          go_ret3
          exact ⟨.inr ⟨HNO.out, rfl⟩, hbr.trans (HB4.out.mono hsz)⟩)
    · obtain rfl : k = n := by omega
      have HTK : Hid (L.take k = L) := List.take_of_length_le (by rw [HL.out.2.1]; exact Nat.le_refl _)
      have HFN : Hid ((∀ f ∈ L, fOk f) ∧ Own wr w.heap.size vb (layF L) ∧ wr.ownsRow w.heap.size 3 1 ve k (endV L k)) := by
        have h := HR.out
        rw [HTK.out] at h
        exact h
      go_wp2
      go_ret3
      exact ⟨.inl ⟨HFN.out.1, vb, ve, rfl, HFN.out.2.1, HFN.out.2.2⟩, hbr⟩
end Go.Proofs.YtfclpkfbfdeegaaDoor
