/- For every two lists of bytes that are records with fields: laid behind each other they are one record just if the tags go on rising and there is room; else the error and its place are as the document says. No condition. -/
import Derived.Test.YtfaiebaipoohpaaTlq
import Derived.Test.YtfaiebaipoohpaaTla
import Derived.Test.YtfaiebaipoohpaaTlx
import Derived.SizedLaws
import Derived.ChangeOld
import Derived.Laws.AppendOwnNone
import Derived.Deep.RegionHeld3
namespace Go.Proofs.Ytfaiebaipoohpaa.tlvPieces
open Go.ChangeShapes Go.WideShapes Go.ChangeAt Go.RowKit
set_option linter.unusedVariables false
theorem recs_right (l : List Nat) (hl : ∀ x ∈ l, x < 256) : ∀ f ∈ (recs l).1, FRight f := by
  by_cases h : (recs l).2.2 = 0
  · exact (recs_ok l hl h).2.2.1
  · rw [(recs_bad l hl h).1]; intro f hf; cases hf
theorem FsAt.take {w : World} {b off : Nat} {L : List (Fld × Value)} (h : FsAt w (some ⟨b, off, none⟩) L) (k : Nat) : FsAt w (some ⟨b, off, none⟩) (L.take k) := by
  refine ⟨?_, fun p hp => h.fok p (List.mem_of_mem_take hp)⟩
  rcases h.row with rfl | ⟨b', off', hx, hlt, hc⟩
  · exact .inl (by simp)
  · cases hx
    refine .inr ⟨b, off, rfl, hlt, fun j hj => ?_⟩
    rw [List.length_take] at hj
    rw [hc j (by omega)]
    have hf : flat L = flat (L.take k) ++ flat (L.drop k) := by rw [← flat_append, List.take_append_drop]
    rw [hf, List.getElem?_append_left (by rw [flat_length, List.length_take]; omega)]
theorem FsAt.drop {w : World} {b off : Nat} {L : List (Fld × Value)} (h : FsAt w (some ⟨b, off, none⟩) L) (k : Nat) (hk : k ≤ L.length) : FsAt w (some ⟨b, off + k * 4, none⟩) (L.drop k) := by
  refine ⟨?_, fun p hp => h.fok p (List.mem_of_mem_drop hp)⟩
  rcases h.row with rfl | ⟨b', off', hx, hlt, hc⟩
  · exact .inl (by simp)
  · cases hx
    refine .inr ⟨b, off + k * 4, rfl, hlt, fun j hj => ?_⟩
    rw [List.length_drop] at hj
    rw [Nat.add_assoc, hc (k * 4 + j) (by omega)]
    have hf : flat L = flat (L.take k) ++ flat (L.drop k) := by rw [← flat_append, List.take_append_drop]
    have hlen : (flat (L.take k)).length = k * 4 := by rw [flat_length, List.length_take, Nat.min_eq_left hk]
    rw [hf, List.getElem?_append_right (by omega), hlen, Nat.add_sub_cancel_left]
theorem own_cap {w : World} {base : Nat} {e : TypeId} {size : Nat} {a : Option Addr} {n cap : Nat} {xs : List Value} (h : w.ownsRow base e size (.slice a n cap) n xs) : n ≤ cap := by
  rcases h.2 with ⟨hv, hn⟩ | ⟨g, cap', cur, hv, _, _, hnc, _⟩
  · omega
  · cases hv; exact hnc
theorem halves {x y : List Fld} {L8 L3 L5 : List (Fld × Value)} (h8 : x ++ y = L8.map Prod.fst) (h3 : x = L3.map Prod.fst) (h5 : y = L5.map Prod.fst) : L8.length = L3.length + L5.length ∧ (L8.take L3.length).map Prod.fst = L3.map Prod.fst ∧ (L8.drop L3.length).map Prod.fst = L5.map Prod.fst := by
  have l3 : x.length = L3.length := by rw [h3, List.length_map]
  have l5 : y.length = L5.length := by rw [h5, List.length_map]
  refine ⟨?_, ?_, ?_⟩
  · have := congrArg List.length h8; rw [List.length_append, List.length_map] at this; omega
  · rw [List.map_take, ← h8, ← l3, List.take_left, h3]
  · rw [List.map_drop, ← h8, ← l3, List.drop_left, h5]
theorem last_cell {w : World} {a : Option Addr} {L : List (Fld × Value)} {x : List Fld} {lx : Fld} (hL : x = L.map Prod.fst) (hlx : x.getLast? = some lx) (h : FsAt w a L) : ∃ b off g, ∃ p : Unit, a = some ⟨b, off, none⟩ ∧ L.length = g + 1 ∧ True ∧ w.cell? ⟨b, off + g * 4, none⟩ = some (.int .i64 lx.tag) := by
  have hne : L ≠ [] := by intro hz; rw [hL, hz] at hlx; cases hlx
  have hpos := List.length_pos_iff.2 hne
  rcases h.row with hz | ⟨b, off, rfl, _, _⟩
  · exact absurd hz hne
  · refine ⟨b, off, L.length - 1, (), rfl, by omega, trivial, ?_⟩
    have hg : L[L.length - 1]? = some (L[L.length - 1]'(by omega)) := List.getElem?_eq_getElem _
    have hc := (h.cells (L.length - 1) _ hg).1
    rw [hL, List.getLast?_eq_getElem?, List.length_map, List.getElem?_map, hg] at hlx
    have : (L[L.length - 1]'(by omega)).1 = lx := by simpa using hlx
    rw [this] at hc
    exact hc
theorem first_cell {w : World} {a : Option Addr} {L : List (Fld × Value)} {y y2 : List Fld} {fy : Fld} (hL : y = L.map Prod.fst) (hfy : y = fy :: y2) (h : FsAt w a L) : ∃ b off g, a = some ⟨b, off, none⟩ ∧ L.length = g + 1 ∧ w.cell? ⟨b, off, none⟩ = some (.int .i64 fy.tag) := by
  cases L with
  | nil => rw [hL] at hfy; cases hfy
  | cons p q =>
    rcases h.row with hz | ⟨b, off, rfl, _, _⟩
    · cases hz
    · have hc := (h.cells 0 p rfl).1
      rw [Nat.zero_mul, Nat.add_zero] at hc
      have : p.1 = fy := by rw [hL] at hfy; simp at hfy; exact hfy.1
      rw [this] at hc
      exact ⟨b, off, q.length, rfl, rfl, hc⟩
set_option maxRecDepth 20000 in
set_option maxHeartbeats 1000000 in
theorem walk (l : List Nat) (a : Option Addr) (cap : Nat) (m : List Nat) (b : Option Addr) (capb : Nat) (w : World) (hb : Bytes w a l) (hc : Came w a l.length cap 1) (hbm : Bytes w b m) (hcm : Came w b m.length capb 1) :
    Calls Try.prog 8 #[.slice a l.length cap, .slice b m.length capb] w fun r w' => r = .returned (.bool true) ∧ Below w.heap.size w w' := by
  have HB : Hid (Bytes w a l ∧ Bytes w b m) := ⟨hb, hbm⟩
  have hl : l.length ≤ 140737488351232 := by have h1 := hc.1; have h2 := hc.2; omega
  have hlb : m.length ≤ 140737488351232 := by have h1 := hcm.1; have h2 := hcm.2; omega
  obtain ⟨n, hn⟩ : ∃ n, l.length = n := ⟨_, rfl⟩
  obtain ⟨k, hk⟩ : ∃ k, m.length = k := ⟨_, rfl⟩
  have HN : Hid (l.length = n ∧ m.length = k) := ⟨hn, hk⟩
  rw [hn] at hl ⊢
  rw [hk] at hlb ⊢
  have hlm : n ≤ maxLen := by unfold maxLen; omega
  have hkm : k ≤ maxLen := by unfold maxLen; omega
  have hnI : (n : Int) ≤ 140737488351232 := by omega
  have hkI : (k : Int) ≤ 140737488351232 := by omega
  obtain ⟨x, at1, e1, hre1⟩ : ∃ x at1 e1, recs l = (x, at1, e1) := ⟨_, _, _, rfl⟩
  obtain ⟨y, at2, e2, hre2⟩ : ∃ y at2 e2, recs m = (y, at2, e2) := ⟨_, _, _, rfl⟩
  have HR : Hid (recs l = (x, at1, e1) ∧ recs m = (y, at2, e2)) := ⟨hre1, hre2⟩
  have HFO : Hid (∀ (z : List Nat), (∀ q ∈ z, q < 256) → ∀ (L : List (Fld × Value)), (recs z).1 = L.map Prod.fst → ∀ p ∈ L, p.1.num ≤ 18446744073709551615 ∧ p.1.bytes.length ≤ maxLen) := by
    intro z hz L hL p hp
    have h := recs_right z hz p.1 (by rw [hL]; exact List.mem_map_of_mem hp)
    exact ⟨h.1, Nat.le_trans h.2.1 (by unfold maxLen; omega)⟩
  have HM : Hid ((∀ q ∈ l, q < 256) ∧ (∀ q ∈ m, q < 256)) := ⟨hb.mem, hbm.mem⟩
  have T1 : Hid True := trivial
  have T2 : Hid True := trivial
  clear hb hc hn hre1 hbm hcm hk hre2
  have T3 : Hid True := trivial
  have T4 : Hid True := trivial
  by_cases h1 : e1 = 0
  rotate_left
  · have heb : ((e1 : Int) != 0) = true := by simp; omega
    clear h1
    go_enter Try.func8, Try.ntmps8
    go_wp2_with (first
      | (go_at_call 9; refine (head05_any w).mono ?_; rintro r w1 ⟨rfl, hb1⟩; have HB1 : Hid (Below w.heap.size w w1) := hb1; clear hb1)
      | (go_at_call 16; clear T1; have hcp := copy_any l a cap w1 (HB.out.1.keep HB1.out) (by rw [HN.out.1]; omega); rw [HN.out.1] at hcp; refine hcp.mono ?_; rintro r w2 ⟨v2, rfl, ho2, hb2⟩; obtain ⟨a2, cap2, hv2, hcap2, _, hby2, _⟩ := ho2.shape; rw [HN.out.1] at hcap2 hv2; subst hv2; have HB2 : Hid (Below w.heap.size w w2) := HB1.out.trans (hb2.mono HB1.out.size); have HY2 : Hid (Bytes w2 a2 l) := hby2; clear hb2 ho2 hby2 hcp)
      | (go_at_call 18; clear T2; refine (tdec l _ n _ _ HN.out.1 HY2.out hcap2 hlm).mono ?_; unfold DecPost; have hq := HR.out.1; rw [hq]; rintro r w3 ⟨v3, L3, rfl, hL3, hr3, hb3⟩; obtain ⟨a3, cap3, rfl, hfs3⟩ := hr3.fs (HFO.out l HM.out.1 L3 (by rw [hq]; exact hL3)); have HB3 : Hid (Below w.heap.size w w3) := HB2.out.trans (hb3.mono HB2.out.size); have HL3 : Hid (_ = L3.map Prod.fst) := hL3; have HF3 : Hid (FsAt w3 a3 L3) := hfs3; clear hr3 hb3 hfs3 hL3 hq)
      | (go_at_call 16; clear T3; have hcp := copy_any m b capb w3 (HB.out.2.keep HB3.out) (by rw [HN.out.2]; omega); rw [HN.out.2] at hcp; refine hcp.mono ?_; rintro r w4 ⟨v4, rfl, ho4, hb4⟩; obtain ⟨a4, cap4, hv4, hcap4, _, hby4, _⟩ := ho4.shape; rw [HN.out.2] at hcap4 hv4; subst hv4; have HB4 : Hid (Below w.heap.size w w4) := HB3.out.trans (hb4.mono HB3.out.size); have HY4 : Hid (Bytes w4 a4 m) := hby4; have HF4 : Hid (FsAt w4 a3 L3) := HF3.out.keep hb4; clear hb4 ho4 hby4 hcp)
      | (go_at_call 18; clear T4; refine (tdec m _ k _ _ HN.out.2 HY4.out hcap4 hkm).mono ?_; unfold DecPost; have hq := HR.out.2; rw [hq]; rintro r w5 ⟨v5, L5, rfl, hL5, hr5, hb5⟩; obtain ⟨a5, cap5, rfl, hfs5⟩ := hr5.fs (HFO.out m HM.out.2 L5 (by rw [hq]; exact hL5)); have HB5 : Hid (Below w.heap.size w w5) := HB4.out.trans (hb5.mono HB4.out.size); have HL5 : Hid (_ = L5.map Prod.fst) := hL5; have HF5 : Hid (FsAt w5 a5 L5) := hfs5; have HG5 : Hid (FsAt w5 a3 L3) := HF4.out.keep hb5; clear hr5 hb5 hfs5 hL5 hq))
    go_ret
    exact ⟨rfl, HB5.out⟩
  subst h1
  by_cases h2 : e2 = 0
  rotate_left
  · have heb : ((e2 : Int) != 0) = true := by simp; omega
    clear h2
    go_enter Try.func8, Try.ntmps8
    go_wp2_with (first
      | (go_at_call 9; refine (head05_any w).mono ?_; rintro r w1 ⟨rfl, hb1⟩; have HB1 : Hid (Below w.heap.size w w1) := hb1; clear hb1)
      | (go_at_call 16; clear T1; have hcp := copy_any l a cap w1 (HB.out.1.keep HB1.out) (by rw [HN.out.1]; omega); rw [HN.out.1] at hcp; refine hcp.mono ?_; rintro r w2 ⟨v2, rfl, ho2, hb2⟩; obtain ⟨a2, cap2, hv2, hcap2, _, hby2, _⟩ := ho2.shape; rw [HN.out.1] at hcap2 hv2; subst hv2; have HB2 : Hid (Below w.heap.size w w2) := HB1.out.trans (hb2.mono HB1.out.size); have HY2 : Hid (Bytes w2 a2 l) := hby2; clear hb2 ho2 hby2 hcp)
      | (go_at_call 18; clear T2; refine (tdec l _ n _ _ HN.out.1 HY2.out hcap2 hlm).mono ?_; unfold DecPost; have hq := HR.out.1; rw [hq]; rintro r w3 ⟨v3, L3, rfl, hL3, hr3, hb3⟩; obtain ⟨a3, cap3, rfl, hfs3⟩ := hr3.fs (HFO.out l HM.out.1 L3 (by rw [hq]; exact hL3)); have HB3 : Hid (Below w.heap.size w w3) := HB2.out.trans (hb3.mono HB2.out.size); have HL3 : Hid (_ = L3.map Prod.fst) := hL3; have HF3 : Hid (FsAt w3 a3 L3) := hfs3; clear hr3 hb3 hfs3 hL3 hq)
      | (go_at_call 16; clear T3; have hcp := copy_any m b capb w3 (HB.out.2.keep HB3.out) (by rw [HN.out.2]; omega); rw [HN.out.2] at hcp; refine hcp.mono ?_; rintro r w4 ⟨v4, rfl, ho4, hb4⟩; obtain ⟨a4, cap4, hv4, hcap4, _, hby4, _⟩ := ho4.shape; rw [HN.out.2] at hcap4 hv4; subst hv4; have HB4 : Hid (Below w.heap.size w w4) := HB3.out.trans (hb4.mono HB3.out.size); have HY4 : Hid (Bytes w4 a4 m) := hby4; have HF4 : Hid (FsAt w4 a3 L3) := HF3.out.keep hb4; clear hb4 ho4 hby4 hcp)
      | (go_at_call 18; clear T4; refine (tdec m _ k _ _ HN.out.2 HY4.out hcap4 hkm).mono ?_; unfold DecPost; have hq := HR.out.2; rw [hq]; rintro r w5 ⟨v5, L5, rfl, hL5, hr5, hb5⟩; obtain ⟨a5, cap5, rfl, hfs5⟩ := hr5.fs (HFO.out m HM.out.2 L5 (by rw [hq]; exact hL5)); have HB5 : Hid (Below w.heap.size w w5) := HB4.out.trans (hb5.mono HB4.out.size); have HL5 : Hid (_ = L5.map Prod.fst) := hL5; have HF5 : Hid (FsAt w5 a5 L5) := hfs5; have HG5 : Hid (FsAt w5 a3 L3) := HF4.out.keep hb5; clear hr5 hb5 hfs5 hL5 hq))
    go_ret
    exact ⟨rfl, HB5.out⟩
  subst h2
  by_cases hxn : x = []
  · subst hxn
    go_enter Try.func8, Try.ntmps8
    go_wp2_with (first
      | (go_at_call 9; refine (head05_any w).mono ?_; rintro r w1 ⟨rfl, hb1⟩; have HB1 : Hid (Below w.heap.size w w1) := hb1; clear hb1)
      | (go_at_call 16; clear T1; have hcp := copy_any l a cap w1 (HB.out.1.keep HB1.out) (by rw [HN.out.1]; omega); rw [HN.out.1] at hcp; refine hcp.mono ?_; rintro r w2 ⟨v2, rfl, ho2, hb2⟩; obtain ⟨a2, cap2, hv2, hcap2, _, hby2, _⟩ := ho2.shape; rw [HN.out.1] at hcap2 hv2; subst hv2; have HB2 : Hid (Below w.heap.size w w2) := HB1.out.trans (hb2.mono HB1.out.size); have HY2 : Hid (Bytes w2 a2 l) := hby2; clear hb2 ho2 hby2 hcp)
      | (go_at_call 18; clear T2; refine (tdec l _ n _ _ HN.out.1 HY2.out hcap2 hlm).mono ?_; unfold DecPost; have hq := HR.out.1; rw [hq]; rintro r w3 ⟨v3, L3, rfl, hL3, hr3, hb3⟩; obtain ⟨a3, cap3, rfl, hfs3⟩ := hr3.fs (HFO.out l HM.out.1 L3 (by rw [hq]; exact hL3)); have HB3 : Hid (Below w.heap.size w w3) := HB2.out.trans (hb3.mono HB2.out.size); have HL3 : Hid (_ = L3.map Prod.fst) := hL3; have HF3 : Hid (FsAt w3 a3 L3) := hfs3; have hx0 : ((L3.length : Int) == 0) = true := (by have h1 := congrArg List.length HL3.out; rw [List.length_map] at h1; have h2 : L3.length = 0 := h1.symm; rw [h2]; rfl); clear hr3 hb3 hfs3 hL3 hq)
      | (go_at_call 16; clear T3; have hcp := copy_any m b capb w3 (HB.out.2.keep HB3.out) (by rw [HN.out.2]; omega); rw [HN.out.2] at hcp; refine hcp.mono ?_; rintro r w4 ⟨v4, rfl, ho4, hb4⟩; obtain ⟨a4, cap4, hv4, hcap4, _, hby4, _⟩ := ho4.shape; rw [HN.out.2] at hcap4 hv4; subst hv4; have HB4 : Hid (Below w.heap.size w w4) := HB3.out.trans (hb4.mono HB3.out.size); have HY4 : Hid (Bytes w4 a4 m) := hby4; have HF4 : Hid (FsAt w4 a3 L3) := HF3.out.keep hb4; clear hb4 ho4 hby4 hcp)
      | (go_at_call 18; clear T4; refine (tdec m _ k _ _ HN.out.2 HY4.out hcap4 hkm).mono ?_; unfold DecPost; have hq := HR.out.2; rw [hq]; rintro r w5 ⟨v5, L5, rfl, hL5, hr5, hb5⟩; obtain ⟨a5, cap5, rfl, hfs5⟩ := hr5.fs (HFO.out m HM.out.2 L5 (by rw [hq]; exact hL5)); have HB5 : Hid (Below w.heap.size w w5) := HB4.out.trans (hb5.mono HB4.out.size); have HL5 : Hid (_ = L5.map Prod.fst) := hL5; have HF5 : Hid (FsAt w5 a5 L5) := hfs5; have HG5 : Hid (FsAt w5 a3 L3) := HF4.out.keep hb5; clear hr5 hb5 hfs5 hL5 hq))
    go_ret
    exact ⟨rfl, HB5.out⟩
  by_cases hyn : y = []
  · subst hyn
    go_enter Try.func8, Try.ntmps8
    go_wp2_with (first
      | (go_at_call 9; refine (head05_any w).mono ?_; rintro r w1 ⟨rfl, hb1⟩; have HB1 : Hid (Below w.heap.size w w1) := hb1; clear hb1)
      | (go_at_call 16; clear T1; have hcp := copy_any l a cap w1 (HB.out.1.keep HB1.out) (by rw [HN.out.1]; omega); rw [HN.out.1] at hcp; refine hcp.mono ?_; rintro r w2 ⟨v2, rfl, ho2, hb2⟩; obtain ⟨a2, cap2, hv2, hcap2, _, hby2, _⟩ := ho2.shape; rw [HN.out.1] at hcap2 hv2; subst hv2; have HB2 : Hid (Below w.heap.size w w2) := HB1.out.trans (hb2.mono HB1.out.size); have HY2 : Hid (Bytes w2 a2 l) := hby2; clear hb2 ho2 hby2 hcp)
      | (go_at_call 18; clear T2; refine (tdec l _ n _ _ HN.out.1 HY2.out hcap2 hlm).mono ?_; unfold DecPost; have hq := HR.out.1; rw [hq]; rintro r w3 ⟨v3, L3, rfl, hL3, hr3, hb3⟩; obtain ⟨a3, cap3, rfl, hfs3⟩ := hr3.fs (HFO.out l HM.out.1 L3 (by rw [hq]; exact hL3)); have HB3 : Hid (Below w.heap.size w w3) := HB2.out.trans (hb3.mono HB2.out.size); have HL3 : Hid (_ = L3.map Prod.fst) := hL3; have HF3 : Hid (FsAt w3 a3 L3) := hfs3; have hx0 : ((L3.length : Int) == 0) = false := (by have h1 : L3 ≠ [] := (by intro h; apply hxn; exact (show x = L3.map Prod.fst from HL3.out).trans (by rw [h]; rfl)); have := List.length_pos_iff.2 h1; simp; omega); clear hr3 hb3 hfs3 hL3 hq)
      | (go_at_call 16; clear T3; have hcp := copy_any m b capb w3 (HB.out.2.keep HB3.out) (by rw [HN.out.2]; omega); rw [HN.out.2] at hcp; refine hcp.mono ?_; rintro r w4 ⟨v4, rfl, ho4, hb4⟩; obtain ⟨a4, cap4, hv4, hcap4, _, hby4, _⟩ := ho4.shape; rw [HN.out.2] at hcap4 hv4; subst hv4; have HB4 : Hid (Below w.heap.size w w4) := HB3.out.trans (hb4.mono HB3.out.size); have HY4 : Hid (Bytes w4 a4 m) := hby4; have HF4 : Hid (FsAt w4 a3 L3) := HF3.out.keep hb4; clear hb4 ho4 hby4 hcp)
      | (go_at_call 18; clear T4; refine (tdec m _ k _ _ HN.out.2 HY4.out hcap4 hkm).mono ?_; unfold DecPost; have hq := HR.out.2; rw [hq]; rintro r w5 ⟨v5, L5, rfl, hL5, hr5, hb5⟩; obtain ⟨a5, cap5, rfl, hfs5⟩ := hr5.fs (HFO.out m HM.out.2 L5 (by rw [hq]; exact hL5)); have HB5 : Hid (Below w.heap.size w w5) := HB4.out.trans (hb5.mono HB4.out.size); have HL5 : Hid (_ = L5.map Prod.fst) := hL5; have HF5 : Hid (FsAt w5 a5 L5) := hfs5; have HG5 : Hid (FsAt w5 a3 L3) := HF4.out.keep hb5; have hy0 : ((L5.length : Int) == 0) = true := (by have h1 := congrArg List.length HL5.out; rw [List.length_map] at h1; have h2 : L5.length = 0 := h1.symm; rw [h2]; rfl); clear hr5 hb5 hfs5 hL5 hq))
    go_ret
    exact ⟨rfl, HB5.out⟩
  obtain ⟨i0, hi, hz0, hz1, hz2⟩ := info_parts Try.info5
  obtain ⟨s1, _, _, s4⟩ := recs_ok l HM.out.1 (by rw [HR.out.1])
  obtain ⟨t1, _, _, t4⟩ := recs_ok m HM.out.2 (by rw [HR.out.2])
  rw [HR.out.1] at s1
  rw [HR.out.2] at t1
  simp only at s1 t1
  subst s1 t1
  rw [HN.out.1] at s4
  rw [HN.out.2] at t4
  obtain ⟨lx, hlx⟩ : ∃ lx, x.getLast? = some lx := by
    cases hz : x.getLast? with
    | none => rw [List.getLast?_eq_none_iff] at hz; exact absurd hz hxn
    | some z => exact ⟨z, rfl⟩
  obtain ⟨fy, y2, hfy⟩ : ∃ fy y2, y = fy :: y2 := by
    cases y with
    | nil => exact absurd rfl hyn
    | cons p q => exact ⟨p, q, rfl⟩
  obtain ⟨c1, c2, c3⟩ := recs_two l m HM.out.1 HM.out.2 x y lx fy y2 HR.out.1 HR.out.2 hlx hfy
  rw [HN.out.1, HN.out.2] at c1 c2 c3
  have hm0 : m ≠ [] := by
    intro h; apply hyn; have h2 := HR.out.2; rw [h] at h2; exact (Prod.mk.inj h2).1.symm
  obtain ⟨bb, boff, rfl, _, _⟩ := HB.out.2.nonempty hm0
  have HLN : Hid ((l ++ m).length = n + k) := by show _ = _; rw [List.length_append, HN.out.1, HN.out.2]
  have HLX : Hid (∀ q ∈ l ++ m, q < 256) := fun q hq => (List.mem_append.1 hq).elim (HM.out.1 q) (HM.out.2 q)
  have HLM : Hid (∀ i, (l ++ m).getD i 0 < 256) := by
    intro i
    rw [List.getD_eq_getElem?_getD]
    by_cases hi : i < (l ++ m).length
    · rw [List.getElem?_eq_getElem hi]; exact HLX.out _ (List.getElem_mem _)
    · rw [List.getElem?_eq_none (by omega)]; simp
  have hnk : (n : Int) ≤ 1024 := by omega
  have hkk : (k : Int) ≤ 1024 := by omega
  by_cases hbig : 1024 < n + k
  · have HZR : Hid (recs (l ++ m) = ([], 0, 24)) := c1 hbig
    have hbI : (1024 : Int) < (n : Int) + (k : Int) := by omega
    clear c1 c2 c3 hm0
    go_enter Try.func8, Try.ntmps8
    go_wp2_with (first
      | (go_at_call 9; refine (head05_any w).mono ?_; rintro r w1 ⟨rfl, hb1⟩; have HB1 : Hid (Below w.heap.size w w1) := hb1; clear hb1)
      | (go_at_call 16; clear T1; have hcp := copy_any l a cap w1 (HB.out.1.keep HB1.out) (by rw [HN.out.1]; omega); rw [HN.out.1] at hcp; refine hcp.mono ?_; rintro r w2 ⟨v2, rfl, ho2, hb2⟩; obtain ⟨a2, cap2, hv2, hcap2, _, hby2, _⟩ := ho2.shape; rw [HN.out.1] at hcap2 hv2; subst hv2; have HB2 : Hid (Below w.heap.size w w2) := HB1.out.trans (hb2.mono HB1.out.size); have HY2 : Hid (Bytes w2 a2 l) := hby2; clear hb2 ho2 hby2 hcp)
      | (go_at_call 18; clear T2; refine (tdec l _ n _ _ HN.out.1 HY2.out hcap2 hlm).mono ?_; unfold DecPost; have hq := HR.out.1; rw [hq]; rintro r w3 ⟨v3, L3, rfl, hL3, hr3, hb3⟩; obtain ⟨a3, cap3, rfl, hfs3⟩ := hr3.fs (HFO.out l HM.out.1 L3 (by rw [hq]; exact hL3)); have HB3 : Hid (Below w.heap.size w w3) := HB2.out.trans (hb3.mono HB2.out.size); have HL3 : Hid (_ = L3.map Prod.fst) := hL3; have HF3 : Hid (FsAt w3 a3 L3) := hfs3; have hx0 : ((L3.length : Int) == 0) = false := (by have h1 : L3 ≠ [] := (by intro h; apply hxn; exact (show x = L3.map Prod.fst from HL3.out).trans (by rw [h]; rfl)); have := List.length_pos_iff.2 h1; simp; omega); clear hr3 hb3 hfs3 hL3 hq)
      | (go_at_call 16; clear T3; have hcp := copy_any m (some ⟨bb, boff, none⟩) capb w3 (HB.out.2.keep HB3.out) (by rw [HN.out.2]; omega); rw [HN.out.2] at hcp; refine hcp.mono ?_; rintro r w4 ⟨v4, rfl, ho4, hb4⟩; obtain ⟨a4, cap4, hv4, hcap4, _, hby4, _⟩ := ho4.shape; rw [HN.out.2] at hcap4 hv4; subst hv4; have HB4 : Hid (Below w.heap.size w w4) := HB3.out.trans (hb4.mono HB3.out.size); have HY4 : Hid (Bytes w4 a4 m) := hby4; have HF4 : Hid (FsAt w4 a3 L3) := HF3.out.keep hb4; clear hb4 ho4 hby4 hcp)
      | (go_at_call 18; clear T4; refine (tdec m _ k _ _ HN.out.2 HY4.out hcap4 hkm).mono ?_; unfold DecPost; have hq := HR.out.2; rw [hq]; rintro r w5 ⟨v5, L5, rfl, hL5, hr5, hb5⟩; obtain ⟨a5, cap5, rfl, hfs5⟩ := hr5.fs (HFO.out m HM.out.2 L5 (by rw [hq]; exact hL5)); have HB5 : Hid (Below w.heap.size w w5) := HB4.out.trans (hb5.mono HB4.out.size); have HL5 : Hid (_ = L5.map Prod.fst) := hL5; have HF5 : Hid (FsAt w5 a5 L5) := hfs5; have HG5 : Hid (FsAt w5 a3 L3) := HF4.out.keep hb5; have hy0 : ((L5.length : Int) == 0) = false := (by have h1 : L5 ≠ [] := (by intro h; apply hyn; exact (show y = L5.map Prod.fst from HL5.out).trans (by rw [h]; rfl)); have := List.length_pos_iff.2 h1; simp; omega); clear hr5 hb5 hfs5 hL5 hq)
      | (go_at_call 16; go_loud (have hcp := copy_any l a cap w5 (HB.out.1.keep HB5.out) (by rw [HN.out.1]; omega); rw [HN.out.1] at hcp; refine hcp.mono ?_; rintro r w6 ⟨v6, rfl, ho6, hb6⟩; have HB6 : Hid (Below w.heap.size w w6) := HB5.out.trans (hb6.mono HB5.out.size); have HO6 : Hid (Own w6 w5.heap.size v6 l) := ho6; have HQ6 : Hid (Below w5.heap.size w5 w6) := hb6; have HZ6 : Hid (Bytes w6 (some ⟨bb, boff, none⟩) m) := HB.out.2.keep HB6.out; clear ho6 hb6 hcp))
      | (at_builtin; refine wpList_append_own _ rfl _ _ 25 rfl w5.heap.size 5 i0 (.int .u8 0) 1 1 Try.underlying25 hi hz0 hz1 hz2 rfl (by decide) _ _ _ rfl HO6.out.2 ⟨bb, boff, none⟩ _ _ (B8 m) rfl (by rw [B8_length, HN.out.2]) (bytes_cells HZ6.out) (B8_one _) (by rw [HN.out.1]; unfold maxLen; omega) (by rw [HN.out.1]; omega) HQ6.out.size ?_; intro v7 w7 ho7 hg7 _; have ho7' : Own w7 w5.heap.size v7 (l ++ m) := ⟨HLM.out, (by rw [List.length_append, B8_append, HN.out.2]; exact ho7)⟩; have HQ7 : Hid (Below w5.heap.size w5 w7) := HQ6.out.grown hg7 HQ6.out.size (fun j hj => (HO6.out.2.lt j hj).1); have HB7 : Hid (Below w.heap.size w w7) := HB5.out.trans (HQ7.out.mono HB5.out.size); obtain ⟨a7, cap7, hv7, hcap7, _, hby7, _⟩ := ho7'.shape; rw [HLN.out] at hcap7 hv7; subst hv7; have HY7 : Hid (Bytes w7 a7 (l ++ m)) := hby7; clear ho7 ho7' hg7 hby7)
      | (go_at_call 18; refine (tdec (l ++ m) _ (n + k) _ _ HLN.out HY7.out hcap7 (by unfold maxLen; omega)).mono ?_; unfold DecPost; rw [HZR.out]; rintro r w8 ⟨v8, L8, rfl, hL8, hr8, hb8⟩; obtain ⟨a8, cap8, rfl, hfs8⟩ := hr8.fs (HFO.out (l ++ m) HLX.out L8 (by rw [HZR.out]; exact hL8)); have HB8 : Hid (Below w.heap.size w w8) := HB7.out.trans (hb8.mono HB7.out.size); have HL8 : Hid (_ = L8.map Prod.fst) := hL8; have HF8 : Hid (FsAt w8 a8 L8 ∧ FsAt w8 a3 L3 ∧ FsAt w8 a5 L5) := ⟨hfs8, (HG5.out.keep HQ7.out).keep hb8, (HF5.out.keep HQ7.out).keep hb8⟩; clear hr8 hb8 hfs8 hL8))
    go_ret
    exact ⟨rfl, HB8.out⟩
  have hbI : ¬ (1024 : Int) < (n : Int) + (k : Int) := by omega
  have hxl : x.length ≤ 1024 := by
    obtain ⟨_, q2, q3, q4⟩ := recs_ok l HM.out.1 (by rw [HR.out.1])
    rw [HR.out.1] at q2 q3
    have := encs_len x 0 [] l (fun f hf => (q3 f hf).1) q2
    simp at this; omega
  have hyl : y.length ≤ 1024 := by
    obtain ⟨_, q2, q3, q4⟩ := recs_ok m HM.out.2 (by rw [HR.out.2])
    rw [HR.out.2] at q2 q3
    have := encs_len y 0 [] m (fun f hf => (q3 f hf).1) q2
    simp at this; omega
  by_cases hord : fy.tag ≤ lx.tag
  · have HZR : Hid (recs (l ++ m) = ([], n, 21)) := c2 hbig hord
    clear c1 c2 c3 hm0
    go_enter Try.func8, Try.ntmps8
    go_wp2_with (first
      | (go_at_call 9; refine (head05_any w).mono ?_; rintro r w1 ⟨rfl, hb1⟩; have HB1 : Hid (Below w.heap.size w w1) := hb1; clear hb1)
      | (go_at_call 16; clear T1; have hcp := copy_any l a cap w1 (HB.out.1.keep HB1.out) (by rw [HN.out.1]; omega); rw [HN.out.1] at hcp; refine hcp.mono ?_; rintro r w2 ⟨v2, rfl, ho2, hb2⟩; obtain ⟨a2, cap2, hv2, hcap2, _, hby2, _⟩ := ho2.shape; rw [HN.out.1] at hcap2 hv2; subst hv2; have HB2 : Hid (Below w.heap.size w w2) := HB1.out.trans (hb2.mono HB1.out.size); have HY2 : Hid (Bytes w2 a2 l) := hby2; clear hb2 ho2 hby2 hcp)
      | (go_at_call 18; clear T2; refine (tdec l _ n _ _ HN.out.1 HY2.out hcap2 hlm).mono ?_; unfold DecPost; have hq := HR.out.1; rw [hq]; rintro r w3 ⟨v3, L3, rfl, hL3, hr3, hb3⟩; obtain ⟨a3, cap3, rfl, hfs3⟩ := hr3.fs (HFO.out l HM.out.1 L3 (by rw [hq]; exact hL3)); have HB3 : Hid (Below w.heap.size w w3) := HB2.out.trans (hb3.mono HB2.out.size); have HL3 : Hid (_ = L3.map Prod.fst) := hL3; have HF3 : Hid (FsAt w3 a3 L3) := hfs3; have hx0 : ((L3.length : Int) == 0) = false := (by have h1 : L3 ≠ [] := (by intro h; apply hxn; exact (show x = L3.map Prod.fst from HL3.out).trans (by rw [h]; rfl)); have := List.length_pos_iff.2 h1; simp; omega); clear hr3 hb3 hfs3 hL3 hq)
      | (go_at_call 16; clear T3; have hcp := copy_any m (some ⟨bb, boff, none⟩) capb w3 (HB.out.2.keep HB3.out) (by rw [HN.out.2]; omega); rw [HN.out.2] at hcp; refine hcp.mono ?_; rintro r w4 ⟨v4, rfl, ho4, hb4⟩; obtain ⟨a4, cap4, hv4, hcap4, _, hby4, _⟩ := ho4.shape; rw [HN.out.2] at hcap4 hv4; subst hv4; have HB4 : Hid (Below w.heap.size w w4) := HB3.out.trans (hb4.mono HB3.out.size); have HY4 : Hid (Bytes w4 a4 m) := hby4; have HF4 : Hid (FsAt w4 a3 L3) := HF3.out.keep hb4; clear hb4 ho4 hby4 hcp)
      | (go_at_call 18; clear T4; refine (tdec m _ k _ _ HN.out.2 HY4.out hcap4 hkm).mono ?_; unfold DecPost; have hq := HR.out.2; rw [hq]; rintro r w5 ⟨v5, L5, rfl, hL5, hr5, hb5⟩; obtain ⟨a5, cap5, rfl, hfs5⟩ := hr5.fs (HFO.out m HM.out.2 L5 (by rw [hq]; exact hL5)); have HB5 : Hid (Below w.heap.size w w5) := HB4.out.trans (hb5.mono HB4.out.size); have HL5 : Hid (_ = L5.map Prod.fst) := hL5; have HF5 : Hid (FsAt w5 a5 L5) := hfs5; have HG5 : Hid (FsAt w5 a3 L3) := HF4.out.keep hb5; have hy0 : ((L5.length : Int) == 0) = false := (by have h1 : L5 ≠ [] := (by intro h; apply hyn; exact (show y = L5.map Prod.fst from HL5.out).trans (by rw [h]; rfl)); have := List.length_pos_iff.2 h1; simp; omega); clear hr5 hb5 hfs5 hL5 hq)
      | (go_at_call 16; go_loud (have hcp := copy_any l a cap w5 (HB.out.1.keep HB5.out) (by rw [HN.out.1]; omega); rw [HN.out.1] at hcp; refine hcp.mono ?_; rintro r w6 ⟨v6, rfl, ho6, hb6⟩; have HB6 : Hid (Below w.heap.size w w6) := HB5.out.trans (hb6.mono HB5.out.size); have HO6 : Hid (Own w6 w5.heap.size v6 l) := ho6; have HQ6 : Hid (Below w5.heap.size w5 w6) := hb6; have HZ6 : Hid (Bytes w6 (some ⟨bb, boff, none⟩) m) := HB.out.2.keep HB6.out; clear ho6 hb6 hcp))
      | (at_builtin; refine wpList_append_own _ rfl _ _ 25 rfl w5.heap.size 5 i0 (.int .u8 0) 1 1 Try.underlying25 hi hz0 hz1 hz2 rfl (by decide) _ _ _ rfl HO6.out.2 ⟨bb, boff, none⟩ _ _ (B8 m) rfl (by rw [B8_length, HN.out.2]) (bytes_cells HZ6.out) (B8_one _) (by rw [HN.out.1]; unfold maxLen; omega) (by rw [HN.out.1]; omega) HQ6.out.size ?_; intro v7 w7 ho7 hg7 _; have ho7' : Own w7 w5.heap.size v7 (l ++ m) := ⟨HLM.out, (by rw [List.length_append, B8_append, HN.out.2]; exact ho7)⟩; have HQ7 : Hid (Below w5.heap.size w5 w7) := HQ6.out.grown hg7 HQ6.out.size (fun j hj => (HO6.out.2.lt j hj).1); have HB7 : Hid (Below w.heap.size w w7) := HB5.out.trans (HQ7.out.mono HB5.out.size); obtain ⟨a7, cap7, hv7, hcap7, _, hby7, _⟩ := ho7'.shape; rw [HLN.out] at hcap7 hv7; subst hv7; have HY7 : Hid (Bytes w7 a7 (l ++ m)) := hby7; clear ho7 ho7' hg7 hby7)
      | (go_at_call 18; refine (tdec (l ++ m) _ (n + k) _ _ HLN.out HY7.out hcap7 (by unfold maxLen; omega)).mono ?_; unfold DecPost; rw [HZR.out]; rintro r w8 ⟨v8, L8, rfl, hL8, hr8, hb8⟩; obtain ⟨a8, cap8, rfl, hfs8⟩ := hr8.fs (HFO.out (l ++ m) HLX.out L8 (by rw [HZR.out]; exact hL8)); have HB8 : Hid (Below w.heap.size w w8) := HB7.out.trans (hb8.mono HB7.out.size); have HL8 : Hid (_ = L8.map Prod.fst) := hL8; have HF8 : Hid (FsAt w8 a8 L8 ∧ FsAt w8 a3 L3 ∧ FsAt w8 a5 L5) := ⟨hfs8, (HG5.out.keep HQ7.out).keep hb8, (HF5.out.keep HQ7.out).keep hb8⟩; obtain ⟨b3, off3, g3, _, rfl, hg3, _, hc3⟩ := last_cell (show x = L3.map Prod.fst from HL3.out) hlx HF8.out.2.1; obtain ⟨b5, off5, h5, rfl, hh5, hc5⟩ := first_cell (show y = L5.map Prod.fst from HL5.out) hfy HF8.out.2.2; have HG3 : Hid (L3.length = g3 + 1 ∧ L5.length = h5 + 1) := ⟨hg3, hh5⟩; have hgb : (g3 : Int) + 1 ≤ 1024 := (by have h := congrArg List.length (show x = L3.map Prod.fst from HL3.out); rw [List.length_map, hg3] at h; omega); have hhb : (h5 : Int) + 1 ≤ 1024 := (by have h := congrArg List.length (show y = L5.map Prod.fst from HL5.out); rw [List.length_map, hh5] at h; omega); rw [hg3] at hx0 ⊢; rw [hh5] at hy0 ⊢; have hgA : (g3 : Int) < (g3 : Int) + 1 := (by omega); have hg0 : (0 : Int) ≤ (g3 : Int) := (by omega); have hhA : (0 : Int) < (h5 : Int) + 1 := (by omega); have hw1 : IntKind.i64.wrap (g3 : Int) = (g3 : Int) := (by rw [wrap_i64]; omega); have hw2 : IntKind.i64.wrap ((g3 : Int) + 1 - 1) = (g3 : Int) := (by rw [wrap_i64]; omega); clear hg3 hh5; clear hr8 hb8 hfs8 hL8))
    go_quiet (fail)
    go_wp2
    go_ret
    exact ⟨ret_bool (by have h := congrArg List.length HL8.out; rw [List.length_map] at h; have h2 : L8.length = 0 := h.symm; rw [h2]; rfl), below_drewN HB8.out _⟩
  · have HZR : Hid (recs (l ++ m) = (x ++ y, 0, 0)) := c3 hbig hord
    have hord2 : lx.tag < fy.tag := by omega
    clear c1 c2 c3 hm0
    go_enter Try.func8, Try.ntmps8
    go_wp2_with (first
      | (go_at_call 9; refine (head05_any w).mono ?_; rintro r w1 ⟨rfl, hb1⟩; have HB1 : Hid (Below w.heap.size w w1) := hb1; clear hb1)
      | (go_at_call 16; clear T1; have hcp := copy_any l a cap w1 (HB.out.1.keep HB1.out) (by rw [HN.out.1]; omega); rw [HN.out.1] at hcp; refine hcp.mono ?_; rintro r w2 ⟨v2, rfl, ho2, hb2⟩; obtain ⟨a2, cap2, hv2, hcap2, _, hby2, _⟩ := ho2.shape; rw [HN.out.1] at hcap2 hv2; subst hv2; have HB2 : Hid (Below w.heap.size w w2) := HB1.out.trans (hb2.mono HB1.out.size); have HY2 : Hid (Bytes w2 a2 l) := hby2; clear hb2 ho2 hby2 hcp)
      | (go_at_call 18; clear T2; refine (tdec l _ n _ _ HN.out.1 HY2.out hcap2 hlm).mono ?_; unfold DecPost; have hq := HR.out.1; rw [hq]; rintro r w3 ⟨v3, L3, rfl, hL3, hr3, hb3⟩; obtain ⟨a3, cap3, rfl, hfs3⟩ := hr3.fs (HFO.out l HM.out.1 L3 (by rw [hq]; exact hL3)); have HB3 : Hid (Below w.heap.size w w3) := HB2.out.trans (hb3.mono HB2.out.size); have HL3 : Hid (_ = L3.map Prod.fst) := hL3; have HF3 : Hid (FsAt w3 a3 L3) := hfs3; have hx0 : ((L3.length : Int) == 0) = false := (by have h1 : L3 ≠ [] := (by intro h; apply hxn; exact (show x = L3.map Prod.fst from HL3.out).trans (by rw [h]; rfl)); have := List.length_pos_iff.2 h1; simp; omega); clear hr3 hb3 hfs3 hL3 hq)
      | (go_at_call 16; clear T3; have hcp := copy_any m (some ⟨bb, boff, none⟩) capb w3 (HB.out.2.keep HB3.out) (by rw [HN.out.2]; omega); rw [HN.out.2] at hcp; refine hcp.mono ?_; rintro r w4 ⟨v4, rfl, ho4, hb4⟩; obtain ⟨a4, cap4, hv4, hcap4, _, hby4, _⟩ := ho4.shape; rw [HN.out.2] at hcap4 hv4; subst hv4; have HB4 : Hid (Below w.heap.size w w4) := HB3.out.trans (hb4.mono HB3.out.size); have HY4 : Hid (Bytes w4 a4 m) := hby4; have HF4 : Hid (FsAt w4 a3 L3) := HF3.out.keep hb4; clear hb4 ho4 hby4 hcp)
      | (go_at_call 18; clear T4; refine (tdec m _ k _ _ HN.out.2 HY4.out hcap4 hkm).mono ?_; unfold DecPost; have hq := HR.out.2; rw [hq]; rintro r w5 ⟨v5, L5, rfl, hL5, hr5, hb5⟩; obtain ⟨a5, cap5, rfl, hfs5⟩ := hr5.fs (HFO.out m HM.out.2 L5 (by rw [hq]; exact hL5)); have HB5 : Hid (Below w.heap.size w w5) := HB4.out.trans (hb5.mono HB4.out.size); have HL5 : Hid (_ = L5.map Prod.fst) := hL5; have HF5 : Hid (FsAt w5 a5 L5) := hfs5; have HG5 : Hid (FsAt w5 a3 L3) := HF4.out.keep hb5; have hy0 : ((L5.length : Int) == 0) = false := (by have h1 : L5 ≠ [] := (by intro h; apply hyn; exact (show y = L5.map Prod.fst from HL5.out).trans (by rw [h]; rfl)); have := List.length_pos_iff.2 h1; simp; omega); clear hr5 hb5 hfs5 hL5 hq)
      | (go_at_call 16; go_loud (have hcp := copy_any l a cap w5 (HB.out.1.keep HB5.out) (by rw [HN.out.1]; omega); rw [HN.out.1] at hcp; refine hcp.mono ?_; rintro r w6 ⟨v6, rfl, ho6, hb6⟩; have HB6 : Hid (Below w.heap.size w w6) := HB5.out.trans (hb6.mono HB5.out.size); have HO6 : Hid (Own w6 w5.heap.size v6 l) := ho6; have HQ6 : Hid (Below w5.heap.size w5 w6) := hb6; have HZ6 : Hid (Bytes w6 (some ⟨bb, boff, none⟩) m) := HB.out.2.keep HB6.out; clear ho6 hb6 hcp))
      | (at_builtin; refine wpList_append_own _ rfl _ _ 25 rfl w5.heap.size 5 i0 (.int .u8 0) 1 1 Try.underlying25 hi hz0 hz1 hz2 rfl (by decide) _ _ _ rfl HO6.out.2 ⟨bb, boff, none⟩ _ _ (B8 m) rfl (by rw [B8_length, HN.out.2]) (bytes_cells HZ6.out) (B8_one _) (by rw [HN.out.1]; unfold maxLen; omega) (by rw [HN.out.1]; omega) HQ6.out.size ?_; intro v7 w7 ho7 hg7 _; have ho7' : Own w7 w5.heap.size v7 (l ++ m) := ⟨HLM.out, (by rw [List.length_append, B8_append, HN.out.2]; exact ho7)⟩; have HQ7 : Hid (Below w5.heap.size w5 w7) := HQ6.out.grown hg7 HQ6.out.size (fun j hj => (HO6.out.2.lt j hj).1); have HB7 : Hid (Below w.heap.size w w7) := HB5.out.trans (HQ7.out.mono HB5.out.size); obtain ⟨a7, cap7, hv7, hcap7, _, hby7, _⟩ := ho7'.shape; rw [HLN.out] at hcap7 hv7; subst hv7; have HY7 : Hid (Bytes w7 a7 (l ++ m)) := hby7; clear ho7 ho7' hg7 hby7)
      | (go_at_call 18; refine (tdec (l ++ m) _ (n + k) _ _ HLN.out HY7.out hcap7 (by unfold maxLen; omega)).mono ?_; unfold DecPost; rw [HZR.out]; rintro r w8 ⟨v8, L8, rfl, hL8, hr8, hb8⟩; obtain ⟨a8, cap8, rfl, hfs8⟩ := hr8.fs (HFO.out (l ++ m) HLX.out L8 (by rw [HZR.out]; exact hL8)); have HB8 : Hid (Below w.heap.size w w8) := HB7.out.trans (hb8.mono HB7.out.size); have HL8 : Hid (_ = L8.map Prod.fst) := hL8; have HF8 : Hid (FsAt w8 a8 L8 ∧ FsAt w8 a3 L3 ∧ FsAt w8 a5 L5) := ⟨hfs8, (HG5.out.keep HQ7.out).keep hb8, (HF5.out.keep HQ7.out).keep hb8⟩; have hcap8 := own_cap hr8.own; obtain ⟨b3, off3, g3, _, rfl, hg3, _, hc3⟩ := last_cell (show x = L3.map Prod.fst from HL3.out) hlx HF8.out.2.1; obtain ⟨b5, off5, h5, rfl, hh5, hc5⟩ := first_cell (show y = L5.map Prod.fst from HL5.out) hfy HF8.out.2.2; have HG3 : Hid (L3.length = g3 + 1 ∧ L5.length = h5 + 1) := ⟨hg3, hh5⟩; have hgb : (g3 : Int) + 1 ≤ 1024 := (by have h := congrArg List.length (show x = L3.map Prod.fst from HL3.out); rw [List.length_map, hg3] at h; omega); have hhb : (h5 : Int) + 1 ≤ 1024 := (by have h := congrArg List.length (show y = L5.map Prod.fst from HL5.out); rw [List.length_map, hh5] at h; omega); rw [hg3] at hx0 ⊢; rw [hh5] at hy0 ⊢; have hgA : (g3 : Int) < (g3 : Int) + 1 := (by omega); have hg0 : (0 : Int) ≤ (g3 : Int) := (by omega); have hhA : (0 : Int) < (h5 : Int) + 1 := (by omega); have hw1 : IntKind.i64.wrap (g3 : Int) = (g3 : Int) := (by rw [wrap_i64]; omega); have hw2 : IntKind.i64.wrap ((g3 : Int) + 1 - 1) = (g3 : Int) := (by rw [wrap_i64]; omega); clear hg3 hh5; obtain ⟨hv1, hv2, hv3⟩ := halves (show x ++ y = L8.map Prod.fst from HL8.out) (show x = L3.map Prod.fst from HL3.out) (show y = L5.map Prod.fst from HL5.out); rw [HG3.out.1, HG3.out.2] at hv1; rw [HG3.out.1] at hv2 hv3; rw [hv1] at hcap8 ⊢; obtain ⟨b8, off8, rfl⟩ : ∃ b8 off8, a8 = some ⟨b8, off8, none⟩ := (by rcases HF8.out.1.row with hz | ⟨b8, off8, hz, _, _⟩; (exfalso; rw [hz] at hv1; simp only [List.length_nil] at hv1; omega); exact ⟨b8, off8, hz⟩); have HHV : Hid ((L8.take (g3 + 1)).map Prod.fst = L3.map Prod.fst ∧ (L8.drop (g3 + 1)).map Prod.fst = L5.map Prod.fst ∧ L8.length = g3 + 1 + (h5 + 1)) := ⟨hv2, hv3, hv1⟩; have hcI : (g3 : Int) + 1 ≤ (cap8 : Int) := (by omega); have hcN : ¬ cap8 = g3 + 1 := (by omega); have hlI : (g3 : Int) + 1 ≤ (g3 : Int) + 1 + ((h5 : Int) + 1) := (by omega); have T5 : Hid True := trivial; clear hv1 hv2 hv3; clear hr8 hb8 hfs8 hL8))
    go_quiet (fail)
    go_wp2_with (first
      | (go_at_call 14; clear T5; refine (alike_fs (L8.take (g3 + 1)) L3 _ _ _ _ _ _ _ ((FsAt.take HF8.out.1 (g3 + 1)).drewN _) (HF8.out.2.1.drewN _) HHV.out.1 (by rw [List.length_take, HHV.out.2.2]; omega) HG3.out.1 (by unfold maxLen; omega)).mono ?_; rintro r w9 ⟨rfl, m9, rfl⟩)
      | (go_at_call 14; go_loud (refine (alike_fs (L8.drop (g3 + 1)) L5 _ _ _ _ _ _ _ (((FsAt.drop HF8.out.1 (g3 + 1) (by rw [HHV.out.2.2]; omega))).drewN _) (HF8.out.2.2.drewN _) HHV.out.2.1 (by rw [List.length_drop, HHV.out.2.2]; try omega) HG3.out.2 (by unfold maxLen; omega)).mono ?_; rintro r w10 ⟨rfl, m10, rfl⟩)))
    go_ret
    exact ⟨rfl, below_drewN HB8.out _⟩
theorem own : ownKnob Try.prog.godebug = none := by kernel_rfl
theorem laidOut : laidOutB Try.prog = true := by kernel_rfl
set_option maxRecDepth 100000 in
theorem contract (H : Type) (enc : TypeId × Value → H) (W : World) (base : Nat) (args : Array Value) (ds gs : List (DataW H)) (before : List MemPlace)
    (hval : ∀ (j : Nat) t v, Try.f8.params[j]? = some t → args[j]? = some v → Value.okWide Try.prog W .any base t v)
    (hW : DataW.Whole enc Try.prog Try.f8.params.toList Rows.tlvPiecesSpec.vars false W args.toList ds gs before)
    (hsz : (DataW.weightsEach Try.prog (Try.f8.params.toList ++ Rows.tlvPiecesSpec.plain.varTypes Try.prog) (ds ++ gs)).all (· ≤ reachBytes) = true) :
    Calls Try.prog 8 args W fun e W' => ∃ v, e = .returned v ∧ Rows.tlvPiecesSpec.post enc Try.prog Try.f8 false true false false W args v W' := by
  have hW' := hW
  obtain ⟨p, q, hA0, hV, rfl, hfz, hnd⟩ := hW
  have hA : DataW.TrodAll enc Try.prog W 0 (fun _ => true) true Try.f8.params.toList args.toList ds p := hA0
  rw [Try.params8] at hA hval hsz
  obtain ⟨v0, vs0, d0, ds0, p0, q0, hargs, rfl, rfl, h0, r0⟩ := trodAll_cons hA
  obtain ⟨v1, vs1, d1, ds1, p1, q1, rfl, rfl, rfl, h1, r1⟩ := trodAll_cons r0
  obtain ⟨rfl, rfl, rfl⟩ := trodAll_nil r1
  obtain rfl : args = #[v0, v1] := by cases args; simp_all
  obtain ⟨rfl, rfl⟩ := trodVars_none hV
  obtain ⟨a0, len0, cap0, rfl⟩ := okWide_slice Try.underlying25 (hval 0 25 v0 rfl rfl)
  have k0 := h0
  have lt0 : ∀ x ∈ p0, x.block < W.heap.size := by obtain ⟨m, hm⟩ := k0; exact DataW.trod_lt m _ _ _ hm
  obtain ⟨l0, hlen0, w0, c0⟩ : ∃ l : List Nat, l.length = len0 ∧ Bytes W a0 l ∧ Came W a0 len0 cap0 1 := by
    obtain ⟨fuel, hf⟩ := h0
    rcases open_ints Try.underlying25 Try.underlying5 (by kernel_rfl) hf with ⟨hcs, hx⟩ | ⟨x, l, c, zs, hcs, _, hl, hm, hz, hx, hcell, hwz⟩
    · simp [Value.cells] at hcs
      obtain ⟨rfl, rfl, rfl⟩ := hcs
      exact ⟨[], rfl, ⟨by simp, .inl rfl⟩, ⟨Nat.le_refl _, by simp, fun _ => rfl⟩⟩
    · simp [Value.cells] at hcs
      obtain ⟨rfl, rfl, rfl⟩ := hcs
      have hz2 : zs.length = cap0 := by simpa using hz
      obtain ⟨ll, e1, e2, e3⟩ := row_nats .u8 256 (by decide) wf_u8 W x zs len0 (by omega) hcell hwz
      have hd : d0 = .slice (lits .u8 (zs.take len0)) (lits .u8 (zs.drop len0)) := (Prod.mk.inj hx).1
      have hreach : cap0 * 1 ≤ 140737488351232 := by
        have := sized_slice hsz (j := 0) (t := 25) (e := 5) rfl (by rw [hd]; rfl) Try.underlying25
        rw [show Try.prog.bytesOf 5 = 1 from by kernel_rfl] at this
        simp only [lits, List.length_map, List.length_take, List.length_drop, reachBytes] at this
        have hmin : min len0 zs.length = len0 := Nat.min_eq_left (by omega)
        rw [hmin] at this
        have hcap : len0 + (zs.length - len0) = cap0 := by omega
        rw [hcap] at this
        exact this
      exact ⟨ll, e1, ⟨e2, e3⟩, ⟨hl, hreach, fun h => by cases h⟩⟩
  subst hlen0
  obtain ⟨a1, len1, cap1, rfl⟩ := okWide_slice Try.underlying25 (hval 1 25 v1 rfl rfl)
  have k1 := h1
  have lt1 : ∀ x ∈ p1, x.block < W.heap.size := by obtain ⟨m, hm⟩ := k1; exact DataW.trod_lt m _ _ _ hm
  obtain ⟨l1, hlen1, w1, c1⟩ : ∃ l : List Nat, l.length = len1 ∧ Bytes W a1 l ∧ Came W a1 len1 cap1 1 := by
    obtain ⟨fuel, hf⟩ := h1
    rcases open_ints Try.underlying25 Try.underlying5 (by kernel_rfl) hf with ⟨hcs, hx⟩ | ⟨x, l, c, zs, hcs, _, hl, hm, hz, hx, hcell, hwz⟩
    · simp [Value.cells] at hcs
      obtain ⟨rfl, rfl, rfl⟩ := hcs
      exact ⟨[], rfl, ⟨by simp, .inl rfl⟩, ⟨Nat.le_refl _, by simp, fun _ => rfl⟩⟩
    · simp [Value.cells] at hcs
      obtain ⟨rfl, rfl, rfl⟩ := hcs
      have hz2 : zs.length = cap1 := by simpa using hz
      obtain ⟨ll, e1, e2, e3⟩ := row_nats .u8 256 (by decide) wf_u8 W x zs len1 (by omega) hcell hwz
      have hd : d1 = .slice (lits .u8 (zs.take len1)) (lits .u8 (zs.drop len1)) := (Prod.mk.inj hx).1
      have hreach : cap1 * 1 ≤ 140737488351232 := by
        have := sized_slice hsz (j := 1) (t := 25) (e := 5) rfl (by rw [hd]; rfl) Try.underlying25
        rw [show Try.prog.bytesOf 5 = 1 from by kernel_rfl] at this
        simp only [lits, List.length_map, List.length_take, List.length_drop, reachBytes] at this
        have hmin : min len1 zs.length = len1 := Nat.min_eq_left (by omega)
        rw [hmin] at this
        have hcap : len1 + (zs.length - len1) = cap1 := by omega
        rw [hcap] at this
        exact this
      exact ⟨ll, e1, ⟨e2, e3⟩, ⟨hl, hreach, fun h => by cases h⟩⟩
  subst hlen1
  clear hA0
  refine (walk l0 a0 cap0 l1 a1 cap1 W w0 c0 w1 c1).mono fun e W' ⟨he, bel⟩ => ?_
  subst he
  exact ⟨_, rfl, _, _, _, [], _, [], hW', trodAll_mk1 (shut_bool Try.underlying4 _), (trodAll_cons_mk (Below.trod laidOut (by kernel_rfl) (of_decide_eq_true (by kernel_rfl)) k0 bel lt0) (trodAll_cons_mk (Below.trod laidOut (by kernel_rfl) (of_decide_eq_true (by kernel_rfl)) k1 bel lt1) trodAll_mk0)), rfl, bel.frame _, fun h => by cases h⟩
set_option maxRecDepth 100000 in
theorem lifted (os : Os) (started : os.Started) (H : Type) (enc : TypeId × Value → H) :
    ReturnsInHanded {} Try.checked os 8 .any (Rows.tlvPiecesSpec.pre6 enc Try.prog Try.f8 Rows.tlvPiecesRow.domain false) (Rows.tlvPiecesSpec.post enc Try.prog Try.f8 false true false false) := by
  refine returnsInHanded_of_change_sized (C := Try.checked) own started (by kernel_rfl) Try.func8
    (ChangeSpec.witness6 (enc := enc) (C := Try.checked) false ⟨#[], #[.slice none 0 0, .slice none 0 0], []⟩ 8 (by kernel_rfl) (by kernel_rfl) (by kernel_rfl) (by kernel_rfl)) ?_
  intro W base args ds gs before hval hW _ hsz _
  exact contract H enc W base args ds gs before hval hW hsz
theorem over : Rows.tlvPiecesRow.holds Try.pinned (OpenSpec.ofChange Rows.tlvPiecesSpec) :=
  OpenClaim.holds_of_wide 8 Try.f8 rfl rfl rfl rfl rfl rfl rfl ⟨rfl, rfl, rfl, rfl, rfl⟩ rfl rfl rfl rfl rfl (by kernel_rfl) Try.func8 (by kernel_rfl)
    (of_decide_eq_true (by kernel_rfl)) (by unfold Func.isWrapper; first | (rw [if_pos (by decide +kernel)]; kernel_rfl) | (rw [if_neg (by decide +kernel)]; exact ⟨rfl, rfl⟩))
    (fun os started H enc _ => lifted os started H enc)
theorem proved : Rows.TlvPiecesSaid := over
end Go.Proofs.Ytfaiebaipoohpaa.tlvPieces
