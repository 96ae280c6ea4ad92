/- Own texts, joined: Tln, Tlk, Tlwr, Tlws, Tll, Tlo, Same, Copy. -/
import Derived.Test.YtfcgcpfckbmgnaaGreatK40
import Derived.Deep.LoopGhost
import Derived.Deep.AppendLies
import Derived.Deep.RegionHeld3
import Derived.Deep.RegionLaw
import Derived.Test.YtfcgcpfckbmgnaaGreatK39
import Derived.Test.YtfcgcpfckbmgnaaGreatRows
import Derived.Test.YtfcgcpfckbmgnaaGreatK00
import Derived.Deep.QuietTactic
import Derived.BigQuiet
namespace Go.Proofs.YtfcgcpfckbmgnaaGreat
open Go.ChangeShapes Go.WideShapes Go.ChangeAt Go.RowKit
set_option linter.unusedVariables false
/-- what is asked of a field that lies in memory -/
structure FOk (w : World) (p : Fld × Value) : Prop where
  num : p.1.num ≤ 18446744073709551615
  byt : ∃ ad cap, p.2 = .slice ad p.1.bytes.length cap ∧ p.1.bytes.length ≤ cap ∧ Bytes w ad p.1.bytes
  len : p.1.bytes.length ≤ maxLen
/-- the fields L lie from address a on -/
structure FsAt (w : World) (a : Option Addr) (L : List (Fld × Value)) : Prop where
  row : L = [] ∨ ∃ b off, a = some ⟨b, off, none⟩ ∧ b < w.heap.size ∧ ∀ j, j < L.length * 4 → w.cell? ⟨b, off + j, none⟩ = (flat L)[j]?
  fok : ∀ p ∈ L, FOk w p
theorem FOk.keep {w w' : World} {p : Fld × Value} (h : FOk w p) (hb : Below w.heap.size w w') : FOk w' p := by
  obtain ⟨ad, cap, h1, h2, h3⟩ := h.byt
  exact ⟨h.num, ⟨ad, cap, h1, h2, h3.keep hb⟩, h.len⟩
theorem FsAt.keep {w w' : World} {a : Option Addr} {L : List (Fld × Value)} (h : FsAt w a L) (hb : Below w.heap.size w w') : FsAt w' a L := by
  refine ⟨?_, fun p hp => (h.fok p hp).keep hb⟩
  rcases h.row with h1 | ⟨b, off, h1, h2, h3⟩
  · exact .inl h1
  · exact .inr ⟨b, off, h1, Nat.lt_of_lt_of_le h2 hb.size, fun j hj => (hb.cell (p := ⟨b, off + j, none⟩) h2).trans (h3 j hj)⟩
theorem flat_get : ∀ (L : List (Fld × Value)) (k : Nat) (p : Fld × Value), L[k]? = some p → (flat L)[k * 4]? = some (.int .i64 p.1.tag) ∧ (flat L)[k * 4 + 1]? = some (.bool p.1.text) ∧ (flat L)[k * 4 + 2]? = some (.int .u64 (p.1.num : Int)) ∧ (flat L)[k * 4 + 3]? = some p.2
  | q :: r, 0, p, h => by simp at h; subst h; exact ⟨rfl, rfl, rfl, rfl⟩
  | q :: r, k + 1, p, h => by
    have := flat_get r k p (by simpa using h)
    rw [show (k + 1) * 4 = k * 4 + 4 from by omega]
    simpa [flat] using this
  | [], k, p, h => by simp at h
theorem FsAt.cells {w : World} {b off : Nat} {L : List (Fld × Value)} (h : FsAt w (some ⟨b, off, none⟩) L) (k : Nat) (p : Fld × Value) (hp : L[k]? = some p) : w.cell? ⟨b, off + k * 4, none⟩ = some (.int .i64 p.1.tag) ∧ w.cell? ⟨b, off + k * 4 + 1, none⟩ = some (.bool p.1.text) ∧ w.cell? ⟨b, off + k * 4 + 2, none⟩ = some (.int .u64 (p.1.num : Int)) ∧ w.cell? ⟨b, off + k * 4 + 3, none⟩ = some p.2 := by
  have hk : k < L.length := by
    by_cases hh : k < L.length
    · exact hh
    · rw [List.getElem?_eq_none (by omega)] at hp; cases hp
  rcases h.row with rfl | ⟨b', off', hx, _, hc⟩
  · simp at hk
  · cases hx
    obtain ⟨f0, f1, f2, f3⟩ := flat_get L k p hp
    exact ⟨(hc (k * 4) (by omega)).trans f0, (hc (k * 4 + 1) (by omega)).trans f1, (hc (k * 4 + 2) (by omega)).trans f2, (hc (k * 4 + 3) (by omega)).trans f3⟩
theorem Rws.fs {w : World} {base : Nat} {v : Value} {L : List (Fld × Value)} (h : Rws w base v L) (hn : ∀ p ∈ L, p.1.num ≤ 18446744073709551615 ∧ p.1.bytes.length ≤ maxLen) : ∃ a cap, v = .slice a L.length cap ∧ FsAt w a L := by
  have hf : ∀ p ∈ L, FOk w p := by
    intro p hp
    obtain ⟨a, cap, h1, h2, _, h3, _⟩ := (h.byt p hp).shape
    exact ⟨(hn p hp).1, ⟨a, cap, h1, h2, h3⟩, (hn p hp).2⟩
  rcases h.own.2 with ⟨rfl, h2⟩ | ⟨g, cap, cur, rfl, _, h5, _⟩
  · have : L = [] := List.length_eq_zero_iff.1 h2
    subst this
    exact ⟨none, 0, rfl, .inl rfl, hf⟩
  · refine ⟨some ⟨g, 0, none⟩, cap, rfl, .inr ⟨g, 0, rfl, lt_of_heap h5, fun j hj => ?_⟩, hf⟩
    rw [Nat.zero_add]
    exact h.own.cellAt j hj
theorem own_app {w w' : World} {base : Nat} {v : Value} {l : List Nat} (h : Own w base v l) (hb : Below w.heap.size w w') : Own w' base v l := ⟨h.1, own_below h.2 hb⟩
theorem encs_cons (f : Fld) (r : List Fld) (last : Int) (b : List Nat) : encs (f :: r) last b = if flt f last ≠ 0 then ([], flt f last) else encs r f.tag (b ++ one f) := rfl
theorem encs_nil (last : Int) (b : List Nat) : encs [] last b = if 1024 < b.length then ([], 24) else (b, 0) := rfl
theorem drop_fld (L : List (Fld × Value)) (k : Nat) (p : Fld × Value) (h : L[k]? = some p) : (L.drop k).map Prod.fst = p.1 :: (L.drop (k + 1)).map Prod.fst := by
  have hk : k < L.length := by
    by_cases hh : k < L.length
    · exact hh
    · rw [List.getElem?_eq_none (by omega)] at h; cases h
  rw [List.getElem?_eq_getElem hk] at h
  rw [List.drop_eq_getElem_cons hk, List.map_cons, Option.some.inj h]
set_option maxRecDepth 20000 in
set_option maxHeartbeats 1000000 in
theorem tenc_any (L : List (Fld × Value)) (b off n cap : Nat) (w : World) (hn : L.length = n) (hfs : FsAt w (some ⟨b, off, none⟩) L) (hm : n ≤ 140737488355328) :
    Calls Tryz.prog 47 #[.slice (some ⟨b, off, none⟩) n cap] w fun r w' => ∃ v, r = .returned (.tuple #[v, .int .i64 ((encs (L.map Prod.fst) 0 []).2 : Int)]) ∧ Own w' w.heap.size v (encs (L.map Prod.fst) 0 []).1 ∧ Below w.heap.size w w' := by
  have HF : Hid (FsAt w (some ⟨b, off, none⟩) L) := hfs
  have HN : Hid (L.length = n) := hn
  have hmI : (n : Int) ≤ 140737488355328 := by omega
  clear hfs hn
  go_enter Tryz.func47, Tryz.ntmps47
  go_wp2
  go_loopw [4, 5, 11] (fun vb va vi wr => ∃ (k : Nat) (A : Int) (acc : List Nat), k ≤ n ∧ vi = .int .i64 k ∧ va = .int .i64 A ∧ 0 ≤ A ∧ A ≤ 31 ∧ Hid (encs (L.map Prod.fst) 0 [] = encs ((L.drop k).map Prod.fst) A acc ∧ (acc.length : Int) ≤ 220 * A ∧ Own wr w.heap.size vb acc ∧ Below w.heap.size w wr)) (fun _ _ vi _ => n - (intOf vi).toNat)
  case atStart => exact ⟨0, 0, [], Nat.zero_le _, rfl, rfl, by omega, by omega, rfl, by simp, ⟨by simp, World.ownsRow_nil _ _ _ 1⟩, Below.refl _ _⟩
  case round =>
    obtain ⟨k, A, acc, hk, rfl, rfl, hA0, hA1, HI⟩ := hrel
    by_cases hkl : k < n
    · obtain ⟨p, hp⟩ : ∃ p, L[k]? = some p := ⟨_, List.getElem?_eq_getElem (by rw [HN.out]; exact hkl)⟩
      have hpm : p ∈ L := List.mem_of_getElem? hp
      obtain ⟨c0, c1, c2, c3⟩ := (HF.out.keep HI.out.2.2.2).cells k p hp
      obtain ⟨ad, pcap, hpv, hpc, _⟩ := (HF.out.fok p hpm).byt
      have HNUM : Hid (p.1.num ≤ 18446744073709551615) := (HF.out.fok p hpm).num
      have HBY : Hid (∀ w', Below w.heap.size w w' → Bytes w' ad p.1.bytes) := by
        intro w' hb'
        obtain ⟨ad2, cap2, h1, _, h3⟩ := ((HF.out.fok p hpm).keep hb').byt
        rw [hpv] at h1
        cases h1
        exact h3
      have HST : Hid (encs (L.map Prod.fst) 0 [] = if flt p.1 A ≠ 0 then ([], flt p.1 A) else encs ((L.drop (k + 1)).map Prod.fst) p.1.tag (acc ++ one p.1)) := by
        show _ = _
        rw [HI.out.1, drop_fld L k p hp, encs_cons]
      rw [hpv] at c3
      obtain ⟨F, hFe⟩ : ∃ F, p.1 = F := ⟨_, rfl⟩
      rw [hFe] at c0 c1 c2 c3 HNUM HBY HST
      clear hpv hFe hp hpm
      have T1 : Hid True := trivial
      by_cases hz : flt F A = 0
      · obtain ⟨t1, t2, t3⟩ := flt_tag hz
        have HZ : Hid (flt F A = 0) := hz
        have HST2 : Hid (encs (L.map Prod.fst) 0 [] = encs ((L.drop (k + 1)).map Prod.fst) F.tag (acc ++ one F)) := by show _ = _; rw [HST.out, hz, if_neg (by simp)]
        have HLEN : Hid (((acc ++ one F).length : Int) ≤ 220 * F.tag) := by
          have h1 := (one_len F A HNUM.out hz).2
          have h2 := HI.out.2.1
          show ((acc ++ one F).length : Int) ≤ _
          rw [List.length_append]
          omega
        have hacc : acc.length ≤ 140737488000000 := by have := HI.out.2.1; omega
        clear hz HST
        go_wp2_with (first
          | ((with_reducible refine guard_load 48 ?_); clear T1; refine wpList_load_fld rfl _ rfl (FldAt.new wr F.tag F.text F.num _) rfl ?_)
          | (go_at_call 68; refine (check_any F A ad pcap _ HNUM.out).mono ?_; rw [HZ.out]; rintro r w2 ⟨rfl, hb2⟩; have hba : Below w.heap.size w (wr.alloc (.cells #[.int .i64 F.tag, .bool F.text, .int .u64 (F.num : Int), .slice ad F.bytes.length pcap] 48)) := HI.out.2.2.2.alloc HI.out.2.2.2.size _; have HB2 : Hid (Below w.heap.size w w2) := hba.trans (hb2.mono hba.size); have HF2 : Hid (FldAt w2 wr.heap.size F.tag F.text F.num (.slice ad F.bytes.length pcap)) := (FldAt.new wr F.tag F.text F.num _).keep hb2; have HO2 : Hid (Own w2 w.heap.size u4 acc) := own_app (own_app HI.out.2.2.1 ((Below.refl _ _).alloc (Nat.le_refl _) _)) hb2; clear hb2 hba)
          | ((with_reducible refine guard_load 48 ?_); refine wpList_load_fld rfl _ rfl HF2.out rfl ?_)
          | (go_at_call 72; refine (putf_any F A ad pcap w.heap.size _ acc w2 HZ.out HNUM.out (fun w' hb => HBY.out w' (HB2.out.trans hb)) HO2.out HB2.out.size hacc).mono ?_; rintro r w3 ⟨v3, rfl, ho3, hb3, hnb3⟩; have hf3 : FldAt w3 wr.heap.size F.tag F.text F.num (.slice ad F.bytes.length pcap) := hnb3 _ _ _ _ HF2.out (by decide); obtain ⟨g0, _, _, _⟩ := hf3.cells; have HB3 : Hid (Below w.heap.size w w3) := HB2.out.trans hb3; have HO3 : Hid (Own w3 w.heap.size v3 (acc ++ one F)) := ho3; clear hf3 hb3 hnb3 ho3))
        go_roundw
        case rel => exact ⟨k + 1, F.tag, acc ++ one F, by omega, by go_num, rfl, by omega, by omega, HST2.out, HLEN.out, HO3.out, HB3.out⟩
        case measure => simp [intOf]; omega
      · obtain ⟨e, he⟩ : ∃ e, flt F A = e := ⟨_, rfl⟩
        have HZ : Hid (flt F A = e) := he
        have heb : ((e : Int) != 0) = true := by rw [he] at hz; simp; omega
        have HST2 : Hid (encs (L.map Prod.fst) 0 [] = ([], e)) := by show _ = _; rw [HST.out, if_pos hz, he]
        clear hz he HST
        go_wp2_with (first
          | ((with_reducible refine guard_load 48 ?_); clear T1; refine wpList_load_fld rfl _ rfl (FldAt.new wr F.tag F.text F.num _) rfl ?_)
          | (go_at_call 68; refine (check_any F A ad pcap _ HNUM.out).mono ?_; rw [HZ.out]; rintro r w2 ⟨rfl, hb2⟩; have hba : Below w.heap.size w (wr.alloc (.cells #[.int .i64 F.tag, .bool F.text, .int .u64 (F.num : Int), .slice ad F.bytes.length pcap] 48)) := HI.out.2.2.2.alloc HI.out.2.2.2.size _; have HB2 : Hid (Below w.heap.size w w2) := hba.trans (hb2.mono hba.size); have HF2 : Hid (FldAt w2 wr.heap.size F.tag F.text F.num (.slice ad F.bytes.length pcap)) := (FldAt.new wr F.tag F.text F.num _).keep hb2; have HO2 : Hid (Own w2 w.heap.size u4 acc) := own_app (own_app HI.out.2.2.1 ((Below.refl _ _).alloc (Nat.le_refl _) _)) hb2; clear hb2 hba))
        go_ret2
        exact ⟨_, by rw [HST2.out]; rfl, by rw [HST2.out]; exact own_nil _ _, HB2.out⟩
    · obtain rfl : k = n := by omega
      have HE : Hid (encs (L.map Prod.fst) 0 [] = if 1024 < acc.length then ([], 24) else (acc, 0)) := by
        show _ = _
        rw [HI.out.1, List.drop_eq_nil_of_le (by rw [HN.out]; exact Nat.le_refl _)]; rfl
      obtain ⟨xa, xc, rfl, _, _, _, _⟩ := HI.out.2.2.1.shape
      have hacc : (acc.length : Int) ≤ 6820 := by have := HI.out.2.1; omega
      obtain ⟨m, hm2⟩ : ∃ m, acc.length = m := ⟨_, rfl⟩
      have HM : Hid (acc.length = m) := hm2
      rw [hm2] at hacc
      by_cases hb : 1024 < m
      · have HE2 : Hid (encs (L.map Prod.fst) 0 [] = ([], 24)) := by show _ = _; rw [HE.out, if_pos (by rw [hm2]; exact hb)]
        have hbI : (1024 : Int) < (m : Int) := by omega
        clear HE
        go_wp2
        go_ret2
        exact ⟨_, by rw [HE2.out]; rfl, by rw [HE2.out]; exact own_nil _ _, HI.out.2.2.2⟩
      · have HE2 : Hid (encs (L.map Prod.fst) 0 [] = (acc, 0)) := by show _ = _; rw [HE.out, if_neg (by rw [hm2]; exact hb)]
        have hbI : ¬ (1024 : Int) < (m : Int) := by omega
        clear HE
        go_wp2
        go_ret2
        exact ⟨_, by rw [HE2.out]; rfl, by rw [HE2.out]; have h := HI.out.2.2.1; rw [hm2] at h; exact h, HI.out.2.2.2⟩
end Go.Proofs.YtfcgcpfckbmgnaaGreat
namespace Go.Proofs.YtfcgcpfckbmgnaaGreat
open Go.ChangeShapes Go.WideShapes Go.ChangeAt Go.RowKit
set_option linter.unusedVariables false
theorem Tryz.infoFd : (Tryz.prog.info? 48).map (fun i => (i.zero, i.size, i.bytes)) = some (some (.agg #[.int .i64 0, .bool false, .int .u64 0, .slice none 0 0]), 4, 48) := by kernel_rfl
/-- Decode's answer -/
def DecPost (w : World) (l : List Nat) (r : Ending) (w' : World) : Prop := ∃ v L, r = .returned (.tuple #[v, .int .i64 ((recs l).2.1 : Int), .int .i64 ((recs l).2.2 : Int)]) ∧ (recs l).1 = L.map Prod.fst ∧ Rws w' w.heap.size v L ∧ Below w.heap.size w w'
theorem news4 (w : World) (p : Fld) (bv : Value) (e : TypeId) : ∀ j u, [Value.int .i64 p.tag, .bool p.text, .int .u64 (p.num : Int), bv][j]? = some u → (w.alloc (.cells #[.int .i64 p.tag, .bool p.text, .int .u64 (p.num : Int), bv] e)).cell? ((⟨w.heap.size, 0, none⟩ : Addr).add j) = some u := by
  intro j u hj
  have hr : (w.alloc (.cells #[.int .i64 p.tag, .bool p.text, .int .u64 (p.num : Int), bv] e)).heap[w.heap.size]? = some (.cells #[.int .i64 p.tag, .bool p.text, .int .u64 (p.num : Int), bv] e) := by simp only [World.alloc, Array.getElem?_push]; rw [if_pos trivial]
  rw [show (⟨w.heap.size, 0, none⟩ : Addr).add j = ⟨w.heap.size, j, none⟩ from by simp [Addr.add]; exact fun h => h.symm, cell_of_row _ _ j _ _ _ hr]
  simpa using hj
theorem one4 (p : Fld) (bv : Value) (h : bv.oneCell' = true) : ∀ u ∈ [Value.int .i64 p.tag, .bool p.text, .int .u64 (p.num : Int), bv], u.oneCell' = true := by
  intro u hu
  simp only [List.mem_cons, List.not_mem_nil, or_false] at hu
  rcases hu with rfl | rfl | rfl | rfl
  · rfl
  · rfl
  · rfl
  · exact h
theorem DecB.cells {w wr : World} {a : Option Addr} {n cap i bg : Nat} {v0 : Value} (h : DecB w wr a n cap i bg v0) : wr.cell? ⟨w.heap.size + 1 + 1 + 1, 1, none⟩ = some (.int .i64 (i : Int)) ∧ wr.cell? ⟨w.heap.size + 1 + 1 + 1 + 1, 0, none⟩ = some (.int .i64 (bg : Int)) ∧ wr.frozen? ⟨w.heap.size + 1 + 1 + 1 + 1, 0, none⟩ = false ∧ wr.cell? ⟨w.heap.size, 0, none⟩ = some v0 ∧ wr.frozen? ⟨w.heap.size, 0, none⟩ = false ∧ wr.cell? ⟨w.heap.size + 1, 0, none⟩ = some (.int .i64 0) ∧ wr.frozen? ⟨w.heap.size + 1, 0, none⟩ = false ∧ wr.cell? ⟨w.heap.size + 1 + 1, 0, none⟩ = some (.int .i64 0) ∧ wr.frozen? ⟨w.heap.size + 1 + 1, 0, none⟩ = false :=
  ⟨h.cur.cells.2.1, by rw [cell_of_row _ _ 0 _ _ _ h.beg]; rfl, frozen_of_row _ _ 0 _ _ h.beg, by rw [cell_of_row _ _ 0 _ _ _ h.fs]; rfl, frozen_of_row _ _ 0 _ _ h.fs, by rw [cell_of_row _ _ 0 _ _ _ h.at0]; rfl, frozen_of_row _ _ 0 _ _ h.at0, by rw [cell_of_row _ _ 0 _ _ _ h.er]; rfl, frozen_of_row _ _ 0 _ _ h.er⟩
theorem Rws.drewN {w : World} {base : Nat} {v : Value} {L : List (Fld × Value)} (h : Rws w base v L) (m : Nat) : Rws (w.drewN m) base v L := by
  induction m with
  | zero => exact h
  | succ m ih => exact ih.same (fun _ _ _ => rfl)
theorem Rws.alloc {w : World} {base : Nat} {v : Value} {L : List (Fld × Value)} (h : Rws w base v L) (o : Obj) : Rws (w.alloc o) base v L := h.same (fun k _ hk => Below.heap_alloc w o k hk)
/-- behind the closure that caught a panic -/
theorem caught {w w2 : World} (x : Value) (bg e : Int) {v : Value} (h1 : w2.heap[w.heap.size]? = some (.cells #[v] 42)) (h2 : w2.heap[w.heap.size + 1]? = some (.cells #[.int .i64 0] 3)) (h3 : w2.heap[w.heap.size + 1 + 1]? = some (.cells #[.int .i64 0] 31)) (hb : Below w.heap.size w w2) (m : Nat) :
    ∃ W, (((w2.setCell ⟨w.heap.size, 0, none⟩ x).setCell ⟨w.heap.size + 1, 0, none⟩ (.int .i64 bg)).setCell ⟨w.heap.size + 1 + 1, 0, none⟩ (.int .i64 e)).drewN m = W ∧ W.cell? ⟨w.heap.size, 0, none⟩ = some x ∧ W.cell? ⟨w.heap.size + 1, 0, none⟩ = some (.int .i64 bg) ∧ W.cell? ⟨w.heap.size + 1 + 1, 0, none⟩ = some (.int .i64 e) ∧ Below w.heap.size w W := by
  have a1 := heap_setCell_same w2 (w.heap.size) 0 _ _ x h1
  have b1 := (heap_setCell_other w2 ⟨w.heap.size, 0, none⟩ (w.heap.size + 1) x (by show w.heap.size + 1 ≠ w.heap.size; omega)).trans h2
  have c1 := (heap_setCell_other w2 ⟨w.heap.size, 0, none⟩ (w.heap.size + 1 + 1) x (by show w.heap.size + 1 + 1 ≠ w.heap.size; omega)).trans h3
  have a2 := (heap_setCell_other (w2.setCell ⟨w.heap.size, 0, none⟩ x) ⟨w.heap.size + 1, 0, none⟩ (w.heap.size) (.int .i64 bg) (by show w.heap.size ≠ w.heap.size + 1; omega)).trans a1
  have b2 := heap_setCell_same (w2.setCell ⟨w.heap.size, 0, none⟩ x) (w.heap.size + 1) 0 _ _ (.int .i64 bg) b1
  have c2 := (heap_setCell_other (w2.setCell ⟨w.heap.size, 0, none⟩ x) ⟨w.heap.size + 1, 0, none⟩ (w.heap.size + 1 + 1) (.int .i64 bg) (by show w.heap.size + 1 + 1 ≠ w.heap.size + 1; omega)).trans c1
  have a3 := (heap_setCell_other ((w2.setCell ⟨w.heap.size, 0, none⟩ x).setCell ⟨w.heap.size + 1, 0, none⟩ (.int .i64 bg)) ⟨w.heap.size + 1 + 1, 0, none⟩ (w.heap.size) (.int .i64 e) (by show w.heap.size ≠ w.heap.size + 1 + 1; omega)).trans a2
  have b3 := (heap_setCell_other ((w2.setCell ⟨w.heap.size, 0, none⟩ x).setCell ⟨w.heap.size + 1, 0, none⟩ (.int .i64 bg)) ⟨w.heap.size + 1 + 1, 0, none⟩ (w.heap.size + 1) (.int .i64 e) (by show w.heap.size + 1 ≠ w.heap.size + 1 + 1; omega)).trans b2
  have c3 := heap_setCell_same ((w2.setCell ⟨w.heap.size, 0, none⟩ x).setCell ⟨w.heap.size + 1, 0, none⟩ (.int .i64 bg)) (w.heap.size + 1 + 1) 0 _ _ (.int .i64 e) c2
  have hd : ∀ (X : World) (p : Addr), (X.drewN m).cell? p = X.cell? p := fun X p => by simp
  refine ⟨_, rfl, ?_, ?_, ?_, ?_⟩
  · rw [hd, cell_of_row _ _ 0 _ _ _ a3]; rfl
  · rw [hd, cell_of_row _ _ 0 _ _ _ b3]; rfl
  · rw [hd, cell_of_row _ _ 0 _ _ _ c3]; rfl
  · have hB := ((hb.setCell (p := ⟨w.heap.size, 0, none⟩) (Nat.le_refl _) x).setCell (p := ⟨w.heap.size + 1, 0, none⟩) (by show w.heap.size ≤ w.heap.size + 1; omega) (.int .i64 bg)).setCell (p := ⟨w.heap.size + 1 + 1, 0, none⟩) (by show w.heap.size ≤ w.heap.size + 1 + 1; omega) (.int .i64 e)
    clear hd
    induction m with
    | zero => exact hB
    | succ m ih => exact ih.drew
theorem own_form {w : World} {base : Nat} {e : TypeId} {size : Nat} {v : Value} {n : Nat} {xs : List Value} (h : w.ownsRow base e size v n xs) (hn : 0 < n) : ∃ g cap, v = .slice (some ⟨g, 0, none⟩) n cap := by
  rcases h.2 with ⟨_, h2⟩ | ⟨g, cap, cur, h3, _⟩
  · omega
  · exact ⟨g, cap, h3⟩
theorem next_parts {l : List Nat} {A : Int} {F : Fld} {sz : Nat} (h : next l A = (F, sz, 0)) : (next l A).1 = F ∧ (next l A).2.1 = sz ∧ (next l A).2.2 = 0 := by rw [h]; exact ⟨rfl, rfl, rfl⟩
/-- f's own block is not touched by the append -/
theorem tag_kept {w2 w4 : World} {base n : Nat} {v : Value} {xs : List Value} {T : TypeId} {t0 t1 t2 t3 : Value} {o : Obj} (ho : w2.ownsRow base T 4 v n xs) (hg : ((w2.alloc (.cells #[t0, t1, t2, t3] T)).alloc o).grownBy w4 v.ownBlock) : w4.cell? ⟨w2.heap.size, 0, none⟩ = some t0 := by
  have h1 : ((w2.alloc (.cells #[t0, t1, t2, t3] T)).alloc o).heap[w2.heap.size]? = some (.cells #[t0, t1, t2, t3] T) := by
    simp only [World.alloc, Array.getElem?_push, Array.size_push]
    rw [if_neg (by omega), if_pos trivial]
  have h2 : w4.heap[w2.heap.size]? = some (.cells #[t0, t1, t2, t3] T) := by
    rw [hg.block _ (lt_of_heap h1) (fun h => ?_)]
    · exact h1
    · have := (ho.lt _ h.symm).2
      omega
  rw [cell_of_row _ _ 0 _ _ _ h2]; rfl
set_option maxRecDepth 20000 in
set_option maxHeartbeats 1000000 in
theorem tdec_any (l : List Nat) (b off n cap : Nat) (w : World) (hn : l.length = n) (hb : Bytes w (some ⟨b, off, none⟩) l) (hcap : n ≤ cap) (hl : n ≤ 1024) (h0 : 0 < n) :
    Calls Tryz.prog 35 #[.slice (some ⟨b, off, none⟩) n cap] w fun r w' => DecPost w l r w' := by
  have hmf : ∀ (fn : Fn) (first cap : Array Value) (w : World), (Instr.makeFunc fn first cap).run Tryz.prog w = .ok (.func fn first cap) w := fun _ _ _ _ => rfl
  obtain ⟨i0, hi, hz0, hz1, hz2⟩ := info_parts Tryz.infoFd
  obtain ⟨W, hW, hD⟩ := lay5 w (some ⟨b, off, none⟩) n cap
  have HW : Hid (_ = W) := hW
  have hblt : b < w.heap.size := by
    obtain ⟨b', off', hx, hlt, _⟩ := hb.nonempty (by intro h; subst h; simp at hn; omega)
    cases hx; exact hlt
  have hbc : b ≠ w.heap.size + 1 + 1 + 1 := by omega
  have HB : Hid (∀ w', Below w.heap.size w w' → Bytes w' (some ⟨b, off, none⟩) l) := fun w' h => hb.keep h
  have HMEM : Hid (∀ j, ∀ x ∈ l.drop j, x < 256) := fun j x hx => hb.mem x (List.mem_of_mem_drop hx)
  have HN : Hid (l.length = n) := hn
  have HD : Hid (DecB w W (some ⟨b, off, none⟩) n cap 0 0 (.slice none 0 0)) := hD
  have HR : Hid (recs l = decs (n + 1) l 0 0 []) := by show _ = _; unfold recs; rw [if_neg (by omega), hn]
  clear hb hn hD hW
  go_enter_defers Tryz.func35, Tryz.ntmps35
  go_wp2
  rw [HW.out]
  go_loopg [7] n (fun k va wr => ∃ (fuel i bg : Nat) (A : Int) (L : List (Fld × Value)) (v : Value), va = .int .i64 A ∧ i ≤ n ∧ k = n - i ∧ Hid (recs l = decs (fuel + 1) l A i (L.map Prod.fst) ∧ n - i ≤ fuel ∧ L.length ≤ i ∧ DecB w wr (some ⟨b, off, none⟩) n cap i bg v ∧ Rws wr (w.heap.size + 5) v L))
  case atStart => exact ⟨n, 0, 0, 0, [], .slice none 0 0, rfl, Nat.zero_le _, rfl, HR.out, by omega, by simp, HD.out, Rws.nil _ _⟩
  case round =>
    obtain ⟨fuel, i, bg, A, L, v, rfl, hin, hgk, HI⟩ := hrel
    have HGK : Hid (gk = n - i) := hgk
    obtain ⟨k1, k2, z2, _, _, _, _, _, _⟩ := HI.out.2.2.2.1.cells
    clear HR HD HW hmf hgk
    by_cases hlt : i < n
    · have hne : decide (i = n) = false := by simp; omega
      have HNE : Hid (decide (i = n) = false) := hne
      clear hne
      go_wp2_with (first
        | (go_at_call 54; refine (done_any _ _ n cap i _ HI.out.2.2.2.1.cur).mono ?_; rw [HNE.out]; rintro r w1 ⟨rfl, m1, rfl⟩)
        | (go_at_call 55; have hD1 := (HI.out.2.2.2.1.drewN m1).begin i; have hR1 : Rws ((wr.drewN m1).setCell ⟨w.heap.size + 1 + 1 + 1 + 1, 0, none⟩ (.int .i64 (i : Int))) (w.heap.size + 5) v L := (HI.out.2.2.2.2.drewN m1).same (fun k hk _ => heap_setCell_other _ ⟨w.heap.size + 1 + 1 + 1 + 1, 0, none⟩ k _ (by show k ≠ w.heap.size + 1 + 1 + 1 + 1; omega)); refine (field_any l b off n cap i _ A _ hD1.cur HN.out (HB.out _ hD1.bel) hbc hcap hl hin).mono ?_; rintro r w2 ⟨hr, hk2⟩; have HD1 : Hid (DecB w _ (some ⟨b, off, none⟩) n cap i i v) := hD1; have HR1 : Hid (Rws _ (w.heap.size + 5) v L) := hR1; have HK2 : Hid (Kept _ _ _ w2) := hk2; clear hD1 hR1 hk2; rcases hr with ⟨F, sz, bv, hnx, rfl, hob, hc2⟩ | ⟨e, he, hnx, rfl⟩; (obtain ⟨a5, cap5, rfl, _, _, _, _⟩ := hob.shape; obtain ⟨_, _, _, hsz1, hsz2, _, _, _, _, _, _⟩ := next_right (l.drop i) (HMEM.out i) A F sz hnx; rw [List.length_drop, HN.out] at hsz1; have hD2 := HD1.out.kept HK2.out hc2; have HD2 : Hid (DecB w w2 (some ⟨b, off, none⟩) n cap (i + sz) i v) := hD2; have HR2 : Hid (Rws w2 (w.heap.size + 5) v L) := HR1.out.same (fun k hk hlt => HK2.out.block k hlt (by omega) (by omega)); have HOB : Hid (Own w2 (w.heap.size + 5) (.slice a5 F.bytes.length cap5) F.bytes) := ⟨hob.1, hob.2.mono HD1.out.size⟩; have HNX : Hid (next (l.drop i) A = (F, sz, 0)) := hnx; obtain ⟨_, _, _, hv, hzv, _, _, _, _⟩ := hD2.cells; have hvA := (hD2.alloc (.cells #[.int .i64 F.tag, .bool F.text, .int .u64 (F.num : Int), .slice a5 F.bytes.length cap5] 48)).cells.2.2.2.1; have hs2 := hD2.size; have hS1 : ¬ w.heap.size = w2.heap.size := (by omega); have hS2 : ¬ w2.heap.size = w.heap.size := (by omega); clear hD2 hob hc2 hnx))
        | ((with_reducible refine guard_load 48 ?_); refine wpList_load_fld rfl _ rfl (FldAt.new w2 F.tag F.text F.num _) rfl ?_)
        | (at_builtin; have hR3 : Rws ((w2.alloc (.cells #[.int .i64 F.tag, .bool F.text, .int .u64 (F.num : Int), .slice a5 F.bytes.length cap5] 48)).alloc (.cells #[.int .i64 F.tag, .bool F.text, .int .u64 (F.num : Int), .slice a5 F.bytes.length cap5] 48)) (w.heap.size + 5) v L := (HR2.out.alloc _).alloc _; refine wpList_append_own _ rfl _ _ 42 rfl (w.heap.size + 5) 48 i0 _ 4 48 Tryz.underlying42 hi hz0 hz1 hz2 rfl (by decide) _ _ _ rfl hR3.own ⟨w2.heap.size + 1, 0, none⟩ 1 1 [.int .i64 F.tag, .bool F.text, .int .u64 (F.num : Int), .slice a5 F.bytes.length cap5] rfl rfl (by have h := news4 (w2.alloc (.cells #[.int .i64 F.tag, .bool F.text, .int .u64 (F.num : Int), .slice a5 F.bytes.length cap5] 48)) F (.slice a5 F.bytes.length cap5) 48; simpa using h) (one4 _ _ rfl) (by have := HI.out.2.2.1; unfold maxLen; omega) (by have := HI.out.2.2.1; omega) (by simp; omega) ?_; intro v4 w4 ho4 hg4 _; obtain ⟨g4, cap4, rfl⟩ := own_form ho4 (by omega); have HR3 : Hid (Rws ((w2.alloc (.cells #[.int .i64 F.tag, .bool F.text, .int .u64 (F.num : Int), .slice a5 F.bytes.length cap5] 48)).alloc (.cells #[.int .i64 F.tag, .bool F.text, .int .u64 (F.num : Int), .slice a5 F.bytes.length cap5] 48)) (w.heap.size + 5) v L) := hR3; have HG4 : Hid (((w2.alloc (.cells #[.int .i64 F.tag, .bool F.text, .int .u64 (F.num : Int), .slice a5 F.bytes.length cap5] 48)).alloc (.cells #[.int .i64 F.tag, .bool F.text, .int .u64 (F.num : Int), .slice a5 F.bytes.length cap5] 48)).grownBy w4 v.ownBlock) := hg4; have HO4 : Hid (w4.ownsRow (w.heap.size + 5) 48 4 (.slice (some ⟨g4, 0, none⟩) (L.length + 1) cap4) (L.length + 1) (flat L ++ [.int .i64 F.tag, .bool F.text, .int .u64 (F.num : Int), .slice a5 F.bytes.length cap5])) := ho4; have hD4 := ((HD2.out.alloc (.cells #[.int .i64 F.tag, .bool F.text, .int .u64 (F.num : Int), .slice a5 F.bytes.length cap5] 48)).alloc (.cells #[.int .i64 F.tag, .bool F.text, .int .u64 (F.num : Int), .slice a5 F.bytes.length cap5] 48)).grown hg4 (fun k hk => (hR3.own.lt k hk).1); obtain ⟨_, _, _, hv4, hzv4, _, _, _, _⟩ := hD4.cells; have HD4 : Hid (DecB w w4 (some ⟨b, off, none⟩) n cap (i + sz) i v) := hD4; have htg := tag_kept HR2.out.own hg4; clear hD4 ho4 hg4 hR3))
      · go_roundg (n - (i + sz))
        case rel =>
          obtain ⟨f', rfl⟩ : ∃ f', fuel = f' + 1 := ⟨fuel - 1, by have := HI.out.2.1; omega⟩
          refine ⟨f', i + sz, i, F.tag, L ++ [(F, .slice a5 F.bytes.length cap5)], _, rfl, by omega, rfl, ?_, by have := HI.out.2.1; omega, by have := HI.out.2.2.1; simp; omega, HD4.out.put _, ?_, ?_⟩
          · rw [HI.out.1, decs_succ, if_neg (by rw [HN.out]; omega), (next_parts HNX.out).1, (next_parts HNX.out).2.1, (next_parts HNX.out).2.2, if_neg (by simp), List.map_append]; rfl
          · rw [List.length_append, flat_append]
            exact own_same2 HO4.out (fun k hk _ => heap_setCell_other w4 ⟨w.heap.size, 0, none⟩ k _ (by show k ≠ w.heap.size; omega))
          · intro p hp
            have hsame : ∀ k, w.heap.size + 5 ≤ k → k < w4.heap.size → (w4.setCell ⟨w.heap.size, 0, none⟩ (.slice (some ⟨g4, 0, none⟩) (L.length + 1) cap4)).heap[k]? = w4.heap[k]? := fun k hk _ => heap_setCell_other w4 ⟨w.heap.size, 0, none⟩ k _ (by show k ≠ w.heap.size; omega)
            rcases List.mem_append.1 hp with hp | hp
            · have h := own_grown HR3.out.own HG4.out (HR3.out.byt p hp)
              exact ⟨h.1, own_same2 h.2 hsame⟩
            · obtain rfl := List.mem_singleton.1 hp
              have hA : Own ((w2.alloc (.cells #[.int .i64 F.tag, .bool F.text, .int .u64 (F.num : Int), .slice a5 F.bytes.length cap5] 48)).alloc (.cells #[.int .i64 F.tag, .bool F.text, .int .u64 (F.num : Int), .slice a5 F.bytes.length cap5] 48)) (w.heap.size + 5) (.slice a5 F.bytes.length cap5) F.bytes := ⟨HOB.out.1, (HOB.out.2.alloc _).alloc _⟩
              have h := own_grown HR3.out.own HG4.out hA
              exact ⟨h.1, own_same2 h.2 hsame⟩
        case measure => have := HGK.out; omega
      · obtain ⟨_, q1, q2, q3, q4, qb⟩ := HD1.out.keptB HK2.out
        have r1 := q1.trans HD1.out.fs
        have r2 := q2.trans HD1.out.at0
        have r3 := q3.trans HD1.out.er
        have r4 := q4.trans HD1.out.beg
        refine leaves_cons (f := 53) (args := #[.pointer (some ⟨w.heap.size + 1 + 1 + 1 + 1, 0, none⟩), .pointer (some ⟨w.heap.size, 0, none⟩), .pointer (some ⟨w.heap.size + 1, 0, none⟩), .pointer (some ⟨w.heap.size + 1 + 1, 0, none⟩)]) (by simp) (by simp [go_sem]) ?_
        refine (dclos_catch (w.heap.size + 1 + 1 + 1 + 1) w.heap.size (w.heap.size + 1) (w.heap.size + 1 + 1) (i : Int) (e : Int) v 0 0 [] w2 (by rw [cell_of_row _ _ 0 _ _ _ r4]; rfl) (by rw [cell_of_row _ _ 0 _ _ _ r1]; rfl) (by rw [cell_of_row _ _ 0 _ _ _ r2]; rfl) (by rw [cell_of_row _ _ 0 _ _ _ r3]; rfl) (by omega) (by omega) (by omega) (by omega) (by omega) (by omega) (frozen_of_row _ _ 0 _ _ r1) (frozen_of_row _ _ 0 _ _ r2) (frozen_of_row _ _ 0 _ _ r3)).mono ?_
        rintro r u' w3 ⟨rfl, rfl, m3, rfl⟩
        obtain ⟨W3, hW3, s1, s2, s3, s4⟩ := caught (.slice none 0 0) (i : Int) (e : Int) r1 r2 r3 qb m3
        rw [hW3]
        have hre : recs l = ([], i, e) := by rw [HI.out.1, decs_succ, if_neg (by rw [HN.out]; omega), hnx, if_pos he]
        exact ⟨_, results_cells3 rfl _ _ _ _ _ _ _ _ rfl rfl rfl (loadFs s1) (loadI s2) (loadE s3), _, [], by rw [hre], by rw [hre]; rfl, Rws.nil _ _, s4⟩
    · have hne : decide (i = n) = true := by simp; omega
      have HNE : Hid (decide (i = n) = true) := hne
      obtain rfl : i = n := by omega
      obtain ⟨xa, xn, xc, rfl⟩ : ∃ xa xn xc, v = .slice xa xn xc := by
        rcases HI.out.2.2.2.2.own.2 with ⟨h, _⟩ | ⟨g, cap, cur, h, _⟩
        · exact ⟨_, _, _, h⟩
        · exact ⟨_, _, _, h⟩
      obtain ⟨_, _, _, y1, y2, y3, y4, y5, y6⟩ := HI.out.2.2.2.1.cells
      have hn1 : ¬ w.heap.size = w.heap.size + 1 := by omega
      have hn2 : ¬ w.heap.size + 1 = w.heap.size := by omega
      have hn3 : ¬ w.heap.size + 1 + 1 = w.heap.size := by omega
      have hn4 : ¬ w.heap.size + 1 + 1 = w.heap.size + 1 := by omega
      clear hne
      go_wp2_with (go_at_call 54; refine (done_any _ _ _ cap _ _ HI.out.2.2.2.1.cur).mono ?_; rw [HNE.out]; rintro r w1 ⟨rfl, m1, rfl⟩)
      refine leaves_cons (f := 53) (args := #[.pointer (some ⟨w.heap.size + 1 + 1 + 1 + 1, 0, none⟩), .pointer (some ⟨w.heap.size, 0, none⟩), .pointer (some ⟨w.heap.size + 1, 0, none⟩), .pointer (some ⟨w.heap.size + 1 + 1, 0, none⟩)]) (by simp) (by simp [go_sem]) ?_
      refine (dclos_idle _ _ _ _ _).mono ?_
      rintro r u' w3 ⟨rfl, rfl, rfl⟩
      have hDD := HI.out.2.2.2.1.drewN m1
      obtain ⟨W3, hW3, s1, s2, s3, s4⟩ := caught (.slice xa xn xc) 0 0 hDD.fs hDD.at0 hDD.er hDD.bel 0
      have hW4 : ((((wr.drewN m1).setCell ⟨w.heap.size, 0, none⟩ (.slice xa xn xc)).setCell ⟨w.heap.size + 1, 0, none⟩ (.int .i64 0)).setCell ⟨w.heap.size + 1 + 1, 0, none⟩ (.int .i64 0)) = W3 := hW3
      have hRR : Rws W3 (w.heap.size + 5) (.slice xa xn xc) L := by
        rw [← hW4]
        exact (HI.out.2.2.2.2.drewN m1).same (fun k hk _ => (heap_setCell_other _ ⟨w.heap.size + 1 + 1, 0, none⟩ k _ (by show k ≠ w.heap.size + 1 + 1; omega)).trans ((heap_setCell_other _ ⟨w.heap.size + 1, 0, none⟩ k _ (by show k ≠ w.heap.size + 1; omega)).trans (heap_setCell_other _ ⟨w.heap.size, 0, none⟩ k _ (by show k ≠ w.heap.size; omega))))
      rw [hW4]
      have hre : recs l = (L.map Prod.fst, 0, 0) := by rw [HI.out.1, decs_succ, if_pos (by rw [HN.out]; exact Nat.le_refl _)]
      exact ⟨_, results_cells3 rfl _ _ _ _ _ _ _ _ rfl rfl rfl (loadFs s1) (loadI s2) (loadE s3), _, L, by rw [hre]; rfl, by rw [hre], hRR.mono (by omega), s4⟩
end Go.Proofs.YtfcgcpfckbmgnaaGreat
namespace Go.Proofs.YtfcgcpfckbmgnaaGreat
open Go.ChangeShapes Go.WideShapes Go.ChangeAt Go.RowKit
set_option linter.unusedVariables false
/-- a writer: its fields (a row of its own), the last tag, the error -/
structure WrAt (w : World) (base q : Nat) (v : Value) (L : List (Fld × Value)) (A : Int) (e : Nat) : Prop where
  blk : w.heap[q]? = some (.cells #[v, .int .i64 A, .int .i64 (e : Int)] 87)
  row : Rws w base v L
  qlt : q < base
  bsz : base ≤ w.heap.size
theorem WrAt.cells {w : World} {base q : Nat} {v : Value} {L : List (Fld × Value)} {A : Int} {e : Nat} (h : WrAt w base q v L A e) : w.cell? ⟨q, 0, none⟩ = some v ∧ w.cell? ⟨q, 1, none⟩ = some (.int .i64 A) ∧ w.cell? ⟨q, 2, none⟩ = some (.int .i64 (e : Int)) ∧ w.frozen? ⟨q, 0, none⟩ = false ∧ w.frozen? ⟨q, 1, none⟩ = false ∧ w.frozen? ⟨q, 2, none⟩ = false :=
  ⟨by rw [cell_of_row _ _ 0 _ _ _ h.blk]; rfl, by rw [cell_of_row _ _ 1 _ _ _ h.blk]; rfl, by rw [cell_of_row _ _ 2 _ _ _ h.blk]; rfl, frozen_of_row _ _ 0 _ _ h.blk, frozen_of_row _ _ 1 _ _ h.blk, frozen_of_row _ _ 2 _ _ h.blk⟩
theorem WrAt.keep {w w' : World} {base q : Nat} {v : Value} {L : List (Fld × Value)} {A : Int} {e : Nat} (h : WrAt w base q v L A e) (hb : Below w.heap.size w w') : WrAt w' base q v L A e :=
  ⟨(hb.block q (lt_of_heap h.blk)).trans h.blk, h.row.same (fun k _ hk => hb.block k hk), h.qlt, Nat.le_trans h.bsz hb.size⟩
theorem neww_any (w : World) : Calls Tryz.prog 22 #[] w fun r w' => r = .returned (.pointer (some ⟨w.heap.size, 0, none⟩)) ∧ WrAt w' (w.heap.size + 1) w.heap.size (.slice none 0 0) [] 0 0 ∧ Below w.heap.size w w' := by
  go_enter Tryz.func22, Tryz.ntmps22
  go_wp2
  go_ret
  refine ⟨rfl, ⟨?_, Rws.nil _ _, Nat.lt_succ_self _, by simp⟩, (Below.refl _ _).alloc (Nat.le_refl _) _⟩
  simp only [World.alloc, Array.getElem?_push]
  rw [if_pos trivial]; rfl
/-- keep's field in its box, the writer beside it -/
theorem box_of {w : World} {base q : Nat} {v : Value} {L : List (Fld × Value)} {A : Int} {e : Nat} (h : WrAt w base q v L A e) (F : Fld) (bv : Value) : ∃ W, w.alloc (.cells #[.int .i64 F.tag, .bool F.text, .int .u64 (F.num : Int), bv] 48) = W ∧ WrAt W base q v L A e ∧ FldAt W w.heap.size F.tag F.text F.num bv ∧ Below w.heap.size w W ∧ W.heap.size = w.heap.size + 1 :=
  have hb := (Below.refl w.heap.size w).alloc (Nat.le_refl _) (.cells #[.int .i64 F.tag, .bool F.text, .int .u64 (F.num : Int), bv] 48)
  ⟨_, rfl, h.keep hb, FldAt.new _ _ _ _ _, hb, by simp⟩
set_option maxRecDepth 20000 in
set_option maxHeartbeats 400000 in
theorem keep_err (F : Fld) (bv : Value) (w : World) (base q : Nat) (v : Value) (L : List (Fld × Value)) (A : Int) (e : Nat) (h : WrAt w base q v L A e) (he : e ≠ 0) :
    Calls Tryz.prog 45 #[.pointer (some ⟨q, 0, none⟩), FV F.tag F.text F.num bv] w fun r w' => r = .returned (.pointer (some ⟨q, 0, none⟩)) ∧ WrAt w' base q v L A e ∧ Below w.heap.size w w' := by
  obtain ⟨W, hW, h1, h2, h3, h4⟩ := box_of h F bv
  have HW : Hid (_ = W) := hW
  have HWR : Hid (WrAt W base q v L A e) := h1
  have HB : Hid (Below w.heap.size w W) := h3
  obtain ⟨_, _, c2, _, _, _⟩ := h1.cells
  rw [← hW] at c2
  have heb : ((e : Int) != 0) = true := by simp; omega
  clear hW h1 h2 h3 h4 h
  go_enter Tryz.func45, Tryz.ntmps45
  go_wp2
  go_ret
  rw [HW.out]
  exact ⟨rfl, HWR.out, HB.out⟩
theorem WrAt.drewN {w : World} {base q : Nat} {v : Value} {L : List (Fld × Value)} {A : Int} {e : Nat} (h : WrAt w base q v L A e) (m : Nat) : WrAt (w.drewN m) base q v L A e := ⟨by simpa using h.blk, h.row.drewN m, h.qlt, by simpa using h.bsz⟩
theorem check_at (F : Fld) (A : Int) (ad : Option Addr) (n cap : Nat) (w : World) (hn : F.bytes.length = n) (hnum : F.num ≤ 18446744073709551615) :
    Calls Tryz.prog 68 #[FV F.tag F.text F.num (.slice ad n cap), .int .i64 A] w fun r w' => r = .returned (.int .i64 (flt F A : Int)) ∧ Below w.heap.size w w' := by
  subst hn
  exact check_any F A ad cap w hnum
set_option maxRecDepth 20000 in
set_option maxHeartbeats 1000000 in
theorem keep_zero (F : Fld) (ad : Option Addr) (n cap : Nat) (w : World) (base q : Nat) (v : Value) (L : List (Fld × Value)) (A : Int) (h : WrAt w base q v L A 0) (hn : F.bytes.length = n) (hnum : F.num ≤ 18446744073709551615) (hz : flt F A = 22) :
    Calls Tryz.prog 45 #[.pointer (some ⟨q, 0, none⟩), FV F.tag F.text F.num (.slice ad n cap)] w fun r w' => r = .returned (.pointer (some ⟨q, 0, none⟩)) ∧ WrAt w' base q v L A 0 ∧ Below w.heap.size w w' := by
  obtain ⟨W, hW, h1, h2, h3, h4⟩ := box_of h F (.slice ad n cap)
  have HW : Hid (_ = W) := hW
  have HWR : Hid (WrAt W base q v L A 0) := h1
  have HF : Hid (FldAt W w.heap.size F.tag F.text F.num (.slice ad n cap)) := h2
  have HB : Hid (Below w.heap.size w W ∧ W.heap.size = w.heap.size + 1) := ⟨h3, h4⟩
  have HQ : Hid (q < w.heap.size) := lt_of_heap h.blk
  have HN : Hid (F.bytes.length = n) := hn
  have HNUM : Hid (F.num ≤ 18446744073709551615) := hnum
  obtain ⟨_, c1, c2, _, _, _⟩ := h1.cells
  obtain ⟨b0, b1, b2, b3⟩ := h2.cells
  have HZ : Hid (flt F A = 22) := hz
  clear h h1 h2 h3 h4 hn hnum hz
  rw [← hW] at c2
  clear hW
  go_enter Tryz.func45, Tryz.ntmps45
  go_wp2
  rw [HW.out]
  go_region_held3 (fun w' => w'.cell? ⟨w.heap.size, 0, none⟩ = some (.int .i64 F.tag) ∧ w'.cell? ⟨w.heap.size, 1, none⟩ = some (.bool F.text) ∧ w'.cell? ⟨w.heap.size, 2, none⟩ = some (.int .u64 (F.num : Int)) ∧ w'.cell? ⟨w.heap.size, 3, none⟩ = some (.slice ad n cap) ∧ w'.cell? ⟨q, 1, none⟩ = some (.int .i64 A)) (go_keep) ((go_at_call 68; refine (check_at F A ad n cap _ HN.out HNUM.out).mono ?_; rw [HZ.out]; rintro r w1 ⟨rfl, hb1⟩; have hf1 : FldAt w1 w.heap.size F.tag F.text F.num (.slice ad n cap) := (show FldAt W.drew w.heap.size F.tag F.text F.num (.slice ad n cap) from HF.out).keep hb1; have hw1 : WrAt w1 base q v L A 0 := (show WrAt W.drew base q v L A 0 from HWR.out.drewN 1).keep hb1; obtain ⟨d0, d1, d2, d3⟩ := hf1.cells; obtain ⟨x0, x1, x2, x3, x4, x5⟩ := hw1.cells; have HF1 : Hid (FldAt w1 w.heap.size F.tag F.text F.num (.slice ad n cap)) := hf1; have HW1 : Hid (WrAt w1 base q v L A 0) := hw1; have HB1 : Hid (Below W.heap.size W w1) := ((Below.refl W.heap.size W).drew).trans hb1; clear hb1 hf1 hw1))
  go_wp2
  go_ret
  exact ⟨rfl, HW1.out, HB.out.1.trans (HB1.out.mono (by rw [HB.out.2]; omega))⟩
theorem WrAt.set0 {w : World} {base q : Nat} {v : Value} {L : List (Fld × Value)} {A : Int} {e : Nat} (h : WrAt w base q v L A e) (e' : Nat) : WrAt ((w.setCell ⟨q, 0, none⟩ (.slice none 0 0)).setCell ⟨q, 2, none⟩ (.int .i64 (e' : Int))) base q (.slice none 0 0) [] A e' := by
  refine ⟨?_, Rws.nil _ _, h.qlt, by simpa [World.setCell] using h.bsz⟩
  have h1 := heap_setCell_same w q 0 _ _ (.slice none 0 0) h.blk
  have h2 := heap_setCell_same _ q 2 _ _ (.int .i64 (e' : Int)) h1
  exact h2
set_option maxRecDepth 20000 in
set_option maxHeartbeats 1000000 in
theorem keep_bad (F : Fld) (ad : Option Addr) (n cap : Nat) (w : World) (base q : Nat) (v : Value) (L : List (Fld × Value)) (A : Int) (e : Nat) (h : WrAt w base q v L A 0) (hn : F.bytes.length = n) (hnum : F.num ≤ 18446744073709551615) (hz : flt F A = e) (he0 : e ≠ 0) (he1 : e ≠ 22) :
    Calls Tryz.prog 45 #[.pointer (some ⟨q, 0, none⟩), FV F.tag F.text F.num (.slice ad n cap)] w fun r w' => r = .returned (.pointer (some ⟨q, 0, none⟩)) ∧ WrAt w' base q (.slice none 0 0) [] A e ∧ Kept q q w w' := by
  obtain ⟨W, hW, h1, h2, h3, h4⟩ := box_of h F (.slice ad n cap)
  have HW : Hid (_ = W) := hW
  have HWR : Hid (WrAt W base q v L A 0) := h1
  have HF : Hid (FldAt W w.heap.size F.tag F.text F.num (.slice ad n cap)) := h2
  have HB : Hid (Below w.heap.size w W ∧ W.heap.size = w.heap.size + 1) := ⟨h3, h4⟩
  have HQ : Hid (q < w.heap.size) := lt_of_heap h.blk
  have HN : Hid (F.bytes.length = n) := hn
  have HNUM : Hid (F.num ≤ 18446744073709551615) := hnum
  obtain ⟨_, c1, c2, _, _, _⟩ := h1.cells
  obtain ⟨b0, b1, b2, b3⟩ := h2.cells
  have HZ : Hid (flt F A = e) := hz
  have heb : ¬ (e : Int) = 0 := by omega
  have heb2 : ¬ (e : Int) = 22 := by omega
  clear h h1 h2 h3 h4 hn hnum hz
  rw [← hW] at c2
  clear hW
  go_enter Tryz.func45, Tryz.ntmps45
  go_wp2
  rw [HW.out]
  go_region_held3 (fun w' => w'.cell? ⟨w.heap.size, 0, none⟩ = some (.int .i64 F.tag) ∧ w'.cell? ⟨w.heap.size, 1, none⟩ = some (.bool F.text) ∧ w'.cell? ⟨w.heap.size, 2, none⟩ = some (.int .u64 (F.num : Int)) ∧ w'.cell? ⟨w.heap.size, 3, none⟩ = some (.slice ad n cap) ∧ w'.cell? ⟨q, 1, none⟩ = some (.int .i64 A)) (go_keep) ((go_at_call 68; refine (check_at F A ad n cap _ HN.out HNUM.out).mono ?_; rw [HZ.out]; rintro r w1 ⟨rfl, hb1⟩; have hf1 : FldAt w1 w.heap.size F.tag F.text F.num (.slice ad n cap) := (show FldAt W.drew w.heap.size F.tag F.text F.num (.slice ad n cap) from HF.out).keep hb1; have hw1 : WrAt w1 base q v L A 0 := (show WrAt W.drew base q v L A 0 from HWR.out.drewN 1).keep hb1; obtain ⟨d0, d1, d2, d3⟩ := hf1.cells; obtain ⟨x0, x1, x2, x3, x4, x5⟩ := hw1.cells; have HF1 : Hid (FldAt w1 w.heap.size F.tag F.text F.num (.slice ad n cap)) := hf1; have HW1 : Hid (WrAt w1 base q v L A 0) := hw1; have HB1 : Hid (Below W.heap.size W w1) := ((Below.refl W.heap.size W).drew).trans hb1; clear hb1 hf1 hw1))
  go_wp2
  go_ret
  refine ⟨rfl, HW1.out.set0 e, ?_⟩
  have hk := HB.out.1.trans (HB1.out.mono (by rw [HB.out.2]; omega))
  exact ⟨hk.os, hk.tape, hk.output, by simp [World.setCell]; exact hk.size, fun k hk1 hk2 _ => (heap_setCell_other _ ⟨q, 2, none⟩ k _ hk2).trans ((heap_setCell_other _ ⟨q, 0, none⟩ k _ hk2).trans (hk.block k hk1))⟩
end Go.Proofs.YtfcgcpfckbmgnaaGreat
namespace Go.Proofs.YtfcgcpfckbmgnaaGreat
open Go.ChangeShapes Go.WideShapes Go.ChangeAt Go.RowKit
set_option linter.unusedVariables false
set_option maxRecDepth 20000 in
theorem clone_fld (l : List Nat) (ad : Option Addr) (n cap : Nat) (w : World) (hn : l.length = n) (hb : Bytes w ad l) (h0 : l = [] → ad = none ∧ cap = 0) (hl : n ≤ 140737488355328) :
    Calls Tryz.prog 69 #[.slice ad n cap] w fun r w' => ∃ v, r = .returned v ∧ Own w' w.heap.size v l ∧ Below w.heap.size w w' := by
  by_cases hc : l = []
  · obtain ⟨rfl, rfl⟩ := h0 hc
    subst hc
    simp only [List.length_nil] at hn
    subst hn
    clear hb h0 hl
    have he : ∀ w : World, (binOp .eql 22 (.slice none 0 0) (.slice none 0 0)).run Tryz.prog w = .ok (.bool true) w := fun _ => rfl
    go_enter Tryz.func69, Tryz.ntmps69
    go_wp2
    go_ret
    exact ⟨_, rfl, own_nil _ _, Below.refl _ _⟩
  · obtain ⟨b, off, rfl, _, _⟩ := hb.nonempty hc
    exact clone_any l b off n cap w hn (by rw [← hn]; exact List.length_pos_iff.2 hc) hb hl
/-- the field behind the row, the writer's cells written -/
theorem keep_fin {w W3 w4 : World} {base q : Nat} {v : Value} {L : List (Fld × Value)} {A : Int} {F : Fld} {xa : Option Addr} {n xc g cap' : Nat} (hR0 : Rws w base v L) (hq : q < base) (hbs : base ≤ w.heap.size) (hbl : ∀ k, k < w.heap.size → W3.heap[k]? = w.heap[k]?) (hst : W3.os = w.os ∧ W3.tape = w.tape ∧ W3.output = w.output) (hs3 : w.heap.size ≤ W3.heap.size) (hO3 : Own W3 base (.slice xa n xc) F.bytes) (hR3 : Rws W3 base v L)
    (hown : w4.ownsRow base 48 4 (.slice (some ⟨g, 0, none⟩) (L.length + 1) cap') (L.length + 1) (flat L ++ [.int .i64 F.tag, .bool F.text, .int .u64 (F.num : Int), .slice xa n xc])) (hgrow : (W3.drew.alloc (.cells #[.int .i64 F.tag, .bool F.text, .int .u64 (F.num : Int), .slice xa n xc] 48)).grownBy w4 v.ownBlock) (hat : v.ownBlock = some g ∨ g = W3.heap.size + 1) (hqb : w4.heap[q]? = some (.cells #[v, .int .i64 A, .int .i64 0] 87)) (hlt : base ≤ w4.heap.size) :
    WrAt ((w4.setCell ⟨q, 0, none⟩ (.slice (some ⟨g, 0, none⟩) (L.length + 1) cap')).setCell ⟨q, 1, none⟩ (.int .i64 F.tag)) base q (.slice (some ⟨g, 0, none⟩) (L.length + 1) cap') (L ++ [(F, .slice xa n xc)]) F.tag 0 ∧ (v.ownBlock = some g ∨ w.heap.size ≤ g) ∧ Kept q (v.ownBlock.getD q) w ((w4.setCell ⟨q, 0, none⟩ (.slice (some ⟨g, 0, none⟩) (L.length + 1) cap')).setCell ⟨q, 1, none⟩ (.int .i64 F.tag)) := by
  have hR4 : Rws (W3.drew.alloc (.cells #[.int .i64 F.tag, .bool F.text, .int .u64 (F.num : Int), .slice xa n xc] 48)) base v L := (hR3.drewN 1).alloc _
  have hO4 : Own (W3.drew.alloc (.cells #[.int .i64 F.tag, .bool F.text, .int .u64 (F.num : Int), .slice xa n xc] 48)) base (.slice xa n xc) F.bytes := own_app hO3 (((Below.refl _ _).drew).alloc (Nat.le_refl _) _)
  have hso : ∀ k, base ≤ k → ((w4.setCell ⟨q, 0, none⟩ (.slice (some ⟨g, 0, none⟩) (L.length + 1) cap')).setCell ⟨q, 1, none⟩ (.int .i64 F.tag)).heap[k]? = w4.heap[k]? := fun k hk =>
    (heap_setCell_other _ ⟨q, 1, none⟩ k _ (by show k ≠ q; omega)).trans (heap_setCell_other _ ⟨q, 0, none⟩ k _ (by show k ≠ q; omega))
  refine ⟨⟨?_, ⟨?_, ?_⟩, hq, by simpa [World.setCell] using hlt⟩, ?_, ?_⟩
  · have h1 := heap_setCell_same w4 q 0 _ _ (.slice (some ⟨g, 0, none⟩) (L.length + 1) cap') hqb
    have h2 := heap_setCell_same _ q 1 _ _ (.int .i64 F.tag) h1
    exact h2
  · rw [flat_append, List.length_append]
    exact own_same hown hso
  · intro p hp
    rcases List.mem_append.1 hp with h | h
    · have h1 := own_grown hR4.own hgrow (hR4.byt p h)
      exact ⟨h1.1, own_same h1.2 hso⟩
    · obtain rfl := List.mem_singleton.1 h
      have h1 := own_grown hR4.own hgrow hO4
      exact ⟨h1.1, own_same h1.2 hso⟩
  · rcases hat with h | h
    · exact .inl h
    · exact .inr (by omega)
  · refine ⟨hgrow.os.trans hst.1, hgrow.tape.trans hst.2.1, hgrow.output.trans hst.2.2, ?_, fun k hk h1 h2 => ?_⟩
    · have h5 := hgrow.size
      simp [World.setCell] at h5 ⊢
      omega
    · refine (heap_setCell_other _ ⟨q, 1, none⟩ k _ h1).trans ((heap_setCell_other _ ⟨q, 0, none⟩ k _ h1).trans ?_)
      rw [hgrow.block k (by simp; omega) (fun hh => ?_)]
      · exact (Below.heap_alloc W3.drew _ k (by show k < W3.heap.size; omega)).trans (hbl k hk)
      · rw [← hh] at h2
        exact h2 rfl
theorem own_lt {w : World} {base : Nat} {v : Value} {L : List (Fld × Value)} (h : Rws w base v L) {k : Nat} (hk : v.ownBlock = some k) : base ≤ k ∧ k < w.heap.size := h.own.lt k hk
theorem far_of {w W3 w4 : World} {base q : Nat} {v : Value} {L : List (Fld × Value)} {A : Int} {F : Fld} {xa : Option Addr} {n xc : Nat} (hR0 : Rws w base v L) (hq : q < base) (hbs : base ≤ w.heap.size) (hf : FldAt W3 w.heap.size F.tag F.text F.num (.slice xa n xc)) (hqb : W3.heap[q]? = some (.cells #[v, .int .i64 A, .int .i64 0] 87)) (hgrow : (W3.drew.alloc (.cells #[.int .i64 F.tag, .bool F.text, .int .u64 (F.num : Int), .slice xa n xc] 48)).grownBy w4 v.ownBlock) :
    FldAt w4 w.heap.size F.tag F.text F.num (.slice xa n xc) ∧ w4.heap[q]? = some (.cells #[v, .int .i64 A, .int .i64 0] 87) := by
  have h1 := lt_of_heap hf
  have h2 := lt_of_heap hqb
  constructor
  · refine (hgrow.block w.heap.size (by simp; omega) (fun hh => ?_)).trans ((Below.heap_alloc W3.drew _ w.heap.size h1).trans hf)
    have := (own_lt hR0 hh.symm).2
    omega
  · refine (hgrow.block q (by simp; omega) (fun hh => ?_)).trans ((Below.heap_alloc W3.drew _ q h2).trans hqb)
    have := (own_lt hR0 hh.symm).1
    omega
set_option maxRecDepth 20000 in
set_option maxHeartbeats 2000000 in
theorem keep_ok (F : Fld) (ad : Option Addr) (n cap : Nat) (w : World) (base q : Nat) (v : Value) (L : List (Fld × Value)) (A : Int) (h : WrAt w base q v L A 0) (hn : F.bytes.length = n) (hnum : F.num ≤ 18446744073709551615) (hz : flt F A = 0) (hby : Bytes w ad F.bytes) (h0 : F.bytes = [] → ad = none ∧ cap = 0) (hnl : n ≤ 140737488355328) (hL : L.length ≤ 1000) :
    Calls Tryz.prog 45 #[.pointer (some ⟨q, 0, none⟩), FV F.tag F.text F.num (.slice ad n cap)] w fun r w' => r = .returned (.pointer (some ⟨q, 0, none⟩)) ∧ ∃ g cap' bv, WrAt w' base q (.slice (some ⟨g, 0, none⟩) (L.length + 1) cap') (L ++ [(F, bv)]) F.tag 0 ∧ (v.ownBlock = some g ∨ w.heap.size ≤ g) ∧ Kept q (v.ownBlock.getD q) w w' ∧ ∀ k, bv.ownBlock = some k → w.heap.size ≤ k := by
  obtain ⟨i0, hi, hz0, hz1, hz2⟩ := info_parts Tryz.infoFd
  have HY : Hid (Bytes w ad F.bytes) := hby
  have H0 : Hid (F.bytes = [] → ad = none ∧ cap = 0) := h0
  obtain ⟨va, vn, vc, rfl⟩ : ∃ va vn vc, v = .slice va vn vc := by
    rcases h.row.own.2 with ⟨h5, _⟩ | ⟨g5, cap5, cur5, h5, _⟩
    · exact ⟨_, _, _, h5⟩
    · exact ⟨_, _, _, h5⟩
  have HR0 : Hid (Rws w base (.slice va vn vc) L) := h.row
  have HBK : Hid (w.heap[q]? = some (.cells #[.slice va vn vc, .int .i64 A, .int .i64 0] 87)) := h.blk
  obtain ⟨W, hW, h1, h2, h3, h4⟩ := box_of h F (.slice ad n cap)
  have HW : Hid (_ = W) := hW
  have HWR : Hid (WrAt W base q (.slice va vn vc) L A 0) := h1
  have HF : Hid (FldAt W w.heap.size F.tag F.text F.num (.slice ad n cap)) := h2
  have HB : Hid (Below w.heap.size w W ∧ W.heap.size = w.heap.size + 1) := ⟨h3, h4⟩
  have HQ : Hid (q < w.heap.size) := lt_of_heap h.blk
  have HN : Hid (F.bytes.length = n) := hn
  have HNUM : Hid (F.num ≤ 18446744073709551615) := hnum
  obtain ⟨_, c1, c2, _, _, _⟩ := h1.cells
  obtain ⟨b0, b1, b2, b3⟩ := h2.cells
  have HZ : Hid (flt F A = 0) := hz
  have HQB : Hid (q < base ∧ base ≤ w.heap.size) := ⟨h.qlt, h.bsz⟩
  have hq1 : ¬ w.heap.size = q := by have := HQ.out; omega
  have hq2 : ¬ q = w.heap.size := fun hh => hq1 hh.symm
  clear h h1 h2 h3 h4 hn hnum hz hby h0
  rw [← hW] at c2
  clear hW
  go_enter Tryz.func45, Tryz.ntmps45
  go_wp2
  rw [HW.out]
  go_region_held3 (fun w' => w'.cell? ⟨w.heap.size, 0, none⟩ = some (.int .i64 F.tag) ∧ w'.cell? ⟨w.heap.size, 1, none⟩ = some (.bool F.text) ∧ w'.cell? ⟨w.heap.size, 2, none⟩ = some (.int .u64 (F.num : Int)) ∧ w'.cell? ⟨w.heap.size, 3, none⟩ = some (.slice ad n cap) ∧ w'.cell? ⟨q, 1, none⟩ = some (.int .i64 A)) (go_keep) ((go_at_call 68; refine (check_at F A ad n cap _ HN.out HNUM.out).mono ?_; rw [HZ.out]; rintro r w1 ⟨rfl, hb1⟩; have hf1 : FldAt w1 w.heap.size F.tag F.text F.num (.slice ad n cap) := (show FldAt W.drew w.heap.size F.tag F.text F.num (.slice ad n cap) from HF.out).keep hb1; have hw1 : WrAt w1 base q (.slice va vn vc) L A 0 := (show WrAt W.drew base q (.slice va vn vc) L A 0 from HWR.out.drewN 1).keep hb1; obtain ⟨d0, d1, d2, d3⟩ := hf1.cells; obtain ⟨x0, x1, x2, x3, x4, x5⟩ := hw1.cells; have HF1 : Hid (FldAt w1 w.heap.size F.tag F.text F.num (.slice ad n cap)) := hf1; have HW1 : Hid (WrAt w1 base q (.slice va vn vc) L A 0) := hw1; have HB1 : Hid (Below W.heap.size W w1) := ((Below.refl W.heap.size W).drew).trans hb1; clear hb1 hf1 hw1))
  go_wp2_with (go_at_call 69; refine (clone_fld F.bytes ad n cap w1 HN.out (HY.out.keep (HB.out.1.trans (HB1.out.mono (by rw [HB.out.2]; omega)))) H0.out hnl).mono ?_; rintro r w2 ⟨v2, rfl, ho2, hb2⟩; obtain ⟨xa, xc, hv2, _, _, _, _⟩ := ho2.shape; rw [HN.out] at hv2; subst hv2; have hf2 := HF1.out.keep hb2; obtain ⟨_, _, _, y3⟩ := hf2.cells; have z3 := frozen_of_row _ _ 3 _ _ hf2; have HF2 : Hid (FldAt w2 w.heap.size F.tag F.text F.num (.slice ad n cap)) := hf2; have HO2 : Hid (Own w2 w1.heap.size (.slice xa n xc) F.bytes) := ho2; have HB2 : Hid (Below w1.heap.size w1 w2) := hb2; clear hf2 ho2 hb2)
  obtain ⟨W3, hW3⟩ : ∃ W3, w2.setCell ⟨w.heap.size, 3, none⟩ (.slice xa n xc) = W3 := ⟨_, rfl⟩
  rw [hW3]
  have hw1s : w.heap.size + 1 ≤ w1.heap.size := by have h5 := HB1.out.size; rw [HB.out.2] at h5; exact h5
  have hw2s : w1.heap.size ≤ w2.heap.size := HB2.out.size
  have hw3s : W3.heap.size = w2.heap.size := by rw [← hW3]; simp [World.setCell]
  have HBL : Hid (∀ k, k < w.heap.size → W3.heap[k]? = w.heap[k]?) := fun k hk => by
    rw [← hW3]
    exact (heap_setCell_other _ ⟨w.heap.size, 3, none⟩ k _ (by show k ≠ w.heap.size; omega)).trans ((HB2.out.block k (by omega)).trans ((HB1.out.block k (by rw [HB.out.2]; omega)).trans (HB.out.1.block k hk)))
  have HST : Hid (W3.os = w.os ∧ W3.tape = w.tape ∧ W3.output = w.output) := by
    rw [← hW3]
    exact ⟨HB2.out.os.trans (HB1.out.os.trans HB.out.1.os), HB2.out.tape.trans (HB1.out.tape.trans HB.out.1.tape), HB2.out.output.trans (HB1.out.output.trans HB.out.1.output)⟩
  have HR3 : Hid (Rws W3 base (.slice va vn vc) L) := HR0.out.same (fun k _ hk => HBL.out k hk)
  have hf3 : FldAt W3 w.heap.size F.tag F.text F.num (.slice xa n xc) := by rw [← hW3]; exact HF2.out.setBytes _
  have HO3 : Hid (Own W3 base (.slice xa n xc) F.bytes) := by
    rw [← hW3]
    refine ⟨HO2.out.1, World.ownsRow.mono (own_same HO2.out.2 (fun k hk => heap_setCell_other _ ⟨w.heap.size, 3, none⟩ k _ (by show k ≠ w.heap.size; omega))) ?_⟩
    have := HQB.out; omega
  have HQ3 : Hid (W3.heap[q]? = some (.cells #[.slice va vn vc, .int .i64 A, .int .i64 0] 87)) := (HBL.out q HQ.out).trans HBK.out
  have HF3 : Hid (FldAt W3 w.heap.size F.tag F.text F.num (.slice xa n xc)) := hf3
  have HR4 : Hid (Rws (W3.drew.alloc (.cells #[.int .i64 F.tag, .bool F.text, .int .u64 (F.num : Int), .slice xa n xc] 48)) base (.slice va vn vc) L) := (HR3.out.drewN 1).alloc _
  have HNW := news4 W3.drew F (.slice xa n xc) 48
  have hs4 : base ≤ (W3.drew.alloc (.cells #[.int .i64 F.tag, .bool F.text, .int .u64 (F.num : Int), .slice xa n xc] 48)).heap.size := by have := HQB.out; simp; omega
  have hb48 : (L.length + 1) * 48 ≤ 140737488355328 := by omega
  have c0 : W3.cell? ⟨q, 0, none⟩ = some (.slice va vn vc) := by rw [cell_of_row _ _ 0 _ _ _ HQ3.out]; rfl
  have c0d : W3.drew.cell? ⟨q, 0, none⟩ = some (.slice va vn vc) := c0
  have c0a : (W3.drew.alloc (.cells #[.int .i64 F.tag, .bool F.text, .int .u64 (F.num : Int), .slice xa n xc] 48)).cell? ⟨q, 0, none⟩ = some (.slice va vn vc) := by
    have h5 := lt_of_heap HQ3.out
    rw [← c0]
    exact World.cell?_of_block (w := W3) (a := ⟨q, 0, none⟩) (Below.heap_alloc W3.drew _ q h5)
  have c0b : (W3.alloc (.cells #[.int .i64 F.tag, .bool F.text, .int .u64 (F.num : Int), .slice xa n xc] 48)).cell? ⟨q, 0, none⟩ = some (.slice va vn vc) := c0a
  have hqW : ¬ q = W3.heap.size := by have h5 := lt_of_heap HQ3.out; omega
  have hqW2 : ¬ W3.heap.size = q := fun hh => hqW hh.symm
  have hsW : ¬ w.heap.size = W3.heap.size := by omega
  have hsW2 : ¬ W3.heap.size = w.heap.size := fun hh => hsW hh.symm
  have HWS : Hid (w.heap.size ≤ W3.heap.size) := by show _ ≤ _; omega
  obtain ⟨e0, e1, e2, e3⟩ := hf3.cells
  clear hf3 y3 z3 d0 d1 d2 d3 x0 x1 x2 x3 x4 x5 hw3s
  go_region_law ((refine step_append_lies _ (by rfl) _ _ 42 (by rfl) base 48 i0 _ 4 48 Tryz.underlying42 hi hz0 hz1 hz2 rfl (by decide) (.slice va vn vc) L.length (flat L) (by rfl) HR4.out.own ⟨W3.heap.size, 0, none⟩ 1 1 [.int .i64 F.tag, .bool F.text, .int .u64 (F.num : Int), .slice xa n xc] (by rfl) (by rfl) HNW (one4 F (.slice xa n xc) rfl) (by omega) (by unfold maxLen; omega) (by omega) hs4 (W3.heap.size + 1) (by simp) ?_; intro g4 cap4 w4 hown4 hgrow4 hat4 hlt4; obtain ⟨hf4, hq4⟩ := far_of HR0.out HQB.out.1 HQB.out.2 HF3.out HQ3.out hgrow4; obtain ⟨f0, f1, f2, f3⟩ := hf4.cells; have p0 : w4.cell? ⟨q, 0, none⟩ = some (.slice va vn vc) := (by rw [cell_of_row _ _ 0 _ _ _ hq4]; rfl); have p1 : w4.cell? ⟨q, 1, none⟩ = some (.int .i64 A) := (by rw [cell_of_row _ _ 1 _ _ _ hq4]; rfl); have p2 := frozen_of_row _ _ 0 _ _ hq4; have p3 := frozen_of_row _ _ 1 _ _ hq4; have HOW : Hid (_) := hown4; have HGR : Hid (_) := hgrow4; have HAT : Hid (_) := hat4; have HQ4 : Hid (_) := hq4; clear hown4 hgrow4 hat4 hq4 hf4))
  all_goals go_wp2
  all_goals go_ret
  all_goals (obtain ⟨k1, k2, k3⟩ := keep_fin HR0.out HQB.out.1 HQB.out.2 HBL.out HST.out HWS.out HO3.out HR3.out HOW.out HGR.out HAT.out HQ4.out (Nat.le_trans hs4 HGR.out.size); exact ⟨rfl, g4, cap4, _, k1, k2, k3, fun k hk => by have h9 := (HO2.out.2.lt k hk).1; omega⟩)
end Go.Proofs.YtfcgcpfckbmgnaaGreat
namespace Go.Proofs.YtfcgcpfckbmgnaaGreat
open Go.ChangeShapes Go.WideShapes Go.ChangeAt Go.RowKit
set_option linter.unusedVariables false
theorem lay3b (w : World) (x y z : Value) (X Y Z : TypeId := 42) : (((w.alloc (.cells #[x] 42)).alloc (.cells #[y] 3)).alloc (.cells #[z] 31)).cell? ⟨w.heap.size, 0, none⟩ = some x ∧ (((w.alloc (.cells #[x] 42)).alloc (.cells #[y] 3)).alloc (.cells #[z] 31)).cell? ⟨w.heap.size + 1, 0, none⟩ = some y ∧ (((w.alloc (.cells #[x] 42)).alloc (.cells #[y] 3)).alloc (.cells #[z] 31)).cell? ⟨w.heap.size + 1 + 1, 0, none⟩ = some z ∧ Below w.heap.size w (((w.alloc (.cells #[x] 42)).alloc (.cells #[y] 3)).alloc (.cells #[z] 31)) := by
  have e0 : (((w.alloc (.cells #[x] 42)).alloc (.cells #[y] 3)).alloc (.cells #[z] 31)).heap[w.heap.size]? = some (.cells #[x] 42) := by
    simp only [World.alloc, Array.getElem?_push, Array.size_push]
    rw [if_neg (by omega), if_neg (by omega), if_pos trivial]
  have e1 : (((w.alloc (.cells #[x] 42)).alloc (.cells #[y] 3)).alloc (.cells #[z] 31)).heap[w.heap.size + 1]? = some (.cells #[y] 3) := by
    simp only [World.alloc, Array.getElem?_push, Array.size_push]
    rw [if_neg (by omega), if_pos trivial]
  have e2 : (((w.alloc (.cells #[x] 42)).alloc (.cells #[y] 3)).alloc (.cells #[z] 31)).heap[w.heap.size + 1 + 1]? = some (.cells #[z] 31) := by
    simp only [World.alloc, Array.getElem?_push, Array.size_push]
    rw [if_pos trivial]
  refine ⟨?_, ?_, ?_, (((Below.refl _ _).alloc (Nat.le_refl _) _).alloc (by simp) _).alloc (by simp; try omega) _⟩
  · rw [cell_of_row _ _ 0 _ _ _ e0]; rfl
  · rw [cell_of_row _ _ 0 _ _ _ e1]; rfl
  · rw [cell_of_row _ _ 0 _ _ _ e2]; rfl
set_option maxRecDepth 20000 in
set_option maxHeartbeats 400000 in
theorem tdec_big (l : List Nat) (a : Option Addr) (n cap : Nat) (w : World) (hn : l.length = n) (hl : ¬ n ≤ 1024) (hm : n ≤ maxLen) :
    Calls Tryz.prog 35 #[.slice a n cap] w fun r w' => DecPost w l r w' := by
  have hmf : ∀ (fn : Fn) (first cap : Array Value) (w : World), (Instr.makeFunc fn first cap).run Tryz.prog w = .ok (.func fn first cap) w := fun _ _ _ _ => rfl
  have hlI : (1024 : Int) < (n : Int) := by omega
  have HR : Hid (recs l = ([], 0, 24)) := by show _ = _; unfold recs; rw [if_pos (by omega)]
  clear hn
  go_enter_defers Tryz.func35, Tryz.ntmps35
  go_wp2
  obtain ⟨s1, s2, s3, s4⟩ := lay3b w (.slice none 0 0) (.int .i64 0) (.int .i64 24)
  exact ⟨_, results_cells3 rfl _ _ _ _ _ _ _ _ rfl rfl rfl (loadFs s1) (loadI s2) (loadE s3), _, [], by rw [HR.out]; rfl, by rw [HR.out]; rfl, Rws.nil _ _, s4⟩
set_option maxRecDepth 20000 in
set_option maxHeartbeats 400000 in
theorem tdec_nil (a : Option Addr) (cap : Nat) (w : World) :
    Calls Tryz.prog 35 #[.slice a 0 cap] w fun r w' => DecPost w [] r w' := by
  have hmf : ∀ (fn : Fn) (first cap : Array Value) (w : World), (Instr.makeFunc fn first cap).run Tryz.prog w = .ok (.func fn first cap) w := fun _ _ _ _ => rfl
  obtain ⟨W, hW, hD⟩ := lay5 w a 0 cap
  have HW : Hid (_ = W) := hW
  have HD : Hid (DecB w W a 0 cap 0 0 (.slice none 0 0)) := hD
  obtain ⟨_, _, _, y1, y2, y3, y4, y5, y6⟩ := hD.cells
  have hn1 : ¬ w.heap.size = w.heap.size + 1 := by omega
  have hn2 : ¬ w.heap.size + 1 = w.heap.size := by omega
  have hn3 : ¬ w.heap.size + 1 + 1 = w.heap.size := by omega
  have hn4 : ¬ w.heap.size + 1 + 1 = w.heap.size + 1 := by omega
  have hre : recs [] = ([], 0, 0) := by rfl
  clear hW hD
  go_enter_defers Tryz.func35, Tryz.ntmps35
  go_wp2
  rw [HW.out]
  refine wp_loop_rounds 1 ?_
  rw [rounds_succ]
  go_wp2_with (go_at_call 54; refine (done_any _ _ _ cap _ _ HD.out.cur).mono ?_; rw [decide_eq_true rfl]; rintro r w1 ⟨rfl, m1, rfl⟩)
  refine leaves_cons (f := 53) (args := #[.pointer (some ⟨w.heap.size + 1 + 1 + 1 + 1, 0, none⟩), .pointer (some ⟨w.heap.size, 0, none⟩), .pointer (some ⟨w.heap.size + 1, 0, none⟩), .pointer (some ⟨w.heap.size + 1 + 1, 0, none⟩)]) (by simp) (by simp [go_sem]) ?_
  refine (dclos_idle _ _ _ _ _).mono ?_
  rintro r u' w3 ⟨rfl, rfl, rfl⟩
  have hDD := HD.out.drewN m1
  obtain ⟨W3, hW3, s1, s2, s3, s4⟩ := caught (.slice none 0 0) 0 0 hDD.fs hDD.at0 hDD.er hDD.bel 0
  have hW4 : ((((W.drewN m1).setCell ⟨w.heap.size, 0, none⟩ (.slice none 0 0)).setCell ⟨w.heap.size + 1, 0, none⟩ (.int .i64 0)).setCell ⟨w.heap.size + 1 + 1, 0, none⟩ (.int .i64 0)) = W3 := hW3
  rw [hW4]
  exact ⟨_, results_cells3 rfl _ _ _ _ _ _ _ _ rfl rfl rfl (loadFs s1) (loadI s2) (loadE s3), _, [], by rw [hre]; rfl, by rw [hre]; rfl, Rws.nil _ _, s4⟩
theorem tdec (l : List Nat) (a : Option Addr) (n cap : Nat) (w : World) (hn : l.length = n) (hb : Bytes w a l) (hcap : n ≤ cap) (hm : n ≤ maxLen) :
    Calls Tryz.prog 35 #[.slice a n cap] w fun r w' => DecPost w l r w' := by
  by_cases hl : n ≤ 1024
  · by_cases h0 : 0 < n
    · obtain ⟨b, off, rfl, _, _⟩ := hb.nonempty (by intro h; subst h; simp at hn; omega)
      exact tdec_any l b off n cap w hn hb hcap hl h0
    · obtain rfl : n = 0 := by omega
      obtain rfl : l = [] := List.length_eq_zero_iff.1 hn
      exact tdec_nil a cap w
  · exact tdec_big l a n cap w hn hl hm
end Go.Proofs.YtfcgcpfckbmgnaaGreat
namespace Go.Proofs.YtfcgcpfckbmgnaaGreat
open Go.ChangeShapes Go.WideShapes Go.ChangeAt Go.RowKit
/-- what is asked of a field that was read -/
def FRight (f : Fld) : Prop := f.num ≤ 18446744073709551615 ∧ f.bytes.length ≤ 200 ∧ norm f = f ∧ ∀ x ∈ f.bytes, x < 256
theorem decs_facts (l : List Nat) (hl : ∀ x ∈ l, x < 256) : ∀ (fuel i : Nat) (A : Int) (acc : List Fld), i ≤ l.length → l.length - i < fuel →
    ((decs fuel l A i acc).2.2 = 0 → ∃ rest, (decs fuel l A i acc).1 = acc ++ rest ∧ (decs fuel l A i acc).2.1 = 0 ∧ encs rest A (l.take i) = encs [] 0 l ∧ ∀ f ∈ rest, FRight f) ∧
    ((decs fuel l A i acc).2.2 ≠ 0 → (decs fuel l A i acc).1 = [] ∧ (decs fuel l A i acc).2.1 ≤ l.length) := by
  intro fuel
  induction fuel with
  | zero => intro i A acc h1 h2; omega
  | succ fuel ih =>
    intro i A acc h1 h2
    have hs : decs (fuel + 1) l A i acc = if l.length ≤ i then (acc, 0, 0) else if (next (l.drop i) A).2.2 ≠ 0 then ([], i, (next (l.drop i) A).2.2) else decs fuel l (next (l.drop i) A).1.tag (i + (next (l.drop i) A).2.1) (acc ++ [(next (l.drop i) A).1]) := rfl
    rw [hs]
    by_cases hi : l.length ≤ i
    · rw [if_pos hi]
      refine ⟨fun _ => ⟨[], by simp, rfl, ?_, by simp⟩, fun h => absurd rfl h⟩
      rw [List.take_of_length_le hi]; rfl
    · rw [if_neg hi]
      rcases hx : next (l.drop i) A with ⟨F, sz, e⟩
      simp only
      by_cases he : e = 0
      · subst he
        rw [if_neg (by simp)]
        have hl2 : ∀ x ∈ l.drop i, x < 256 := fun x hx => hl x (List.mem_of_mem_drop hx)
        obtain ⟨r1, r2, r3, r4, r5, r6, r7, _, _, _, r8⟩ := next_right (l.drop i) hl2 A F sz hx
        rw [List.length_drop] at r4
        obtain ⟨k1, k2⟩ := ih (i + sz) F.tag (acc ++ [F]) (by omega) (by omega)
        refine ⟨fun h => ?_, k2⟩
        obtain ⟨rest, e1, e2, e3, e4⟩ := k1 h
        refine ⟨F :: rest, by rw [e1]; simp, e2, ?_, ?_⟩
        · show (if flt F A ≠ 0 then _ else encs rest F.tag (l.take i ++ one F)) = _
          rw [r1, if_neg (by simp), r3, ← List.take_add]
          exact e3
        · intro f hf
          rcases List.mem_cons.1 hf with rfl | hf
          · exact ⟨r6, r8, r2, r7⟩
          · exact e4 f hf
      · rw [if_pos he]
        exact ⟨fun h => absurd h he, fun _ => ⟨rfl, by simp only; omega⟩⟩
theorem encs_len : ∀ (fs : List Fld) (A : Int) (b r : List Nat), (∀ f ∈ fs, f.num ≤ 18446744073709551615) → encs fs A b = (r, 0) → b.length + 2 * fs.length ≤ r.length
  | [], A, b, r, _, h => by
    have h' : (if 1024 < b.length then (([] : List Nat), 24) else (b, 0)) = (r, 0) := h
    by_cases hb : 1024 < b.length
    · rw [if_pos hb] at h'; simp at h'
    · rw [if_neg hb] at h'
      have := (Prod.mk.inj h').1
      subst this; simp
  | f :: fs, A, b, r, hn, h => by
    have h' : (if flt f A ≠ 0 then (([] : List Nat), flt f A) else encs fs f.tag (b ++ one f)) = (r, 0) := h
    by_cases hz : flt f A = 0
    · rw [hz, if_neg (by simp)] at h'
      have h1 := encs_len fs f.tag (b ++ one f) r (fun g hg => hn g (List.mem_cons_of_mem _ hg)) h'
      have h2 := (one_len f A (hn f (by simp)) hz).1
      simp only [List.length_append, List.length_cons] at h1 ⊢
      omega
    · rw [if_pos hz] at h'
      exact absurd (Prod.mk.inj h').2 hz
/-- a whole record that is read: its fields, written again, are the record -/
theorem recs_ok (l : List Nat) (hl : ∀ x ∈ l, x < 256) (h : (recs l).2.2 = 0) : (recs l).2.1 = 0 ∧ encs (recs l).1 0 [] = (l, 0) ∧ (∀ f ∈ (recs l).1, FRight f) ∧ l.length ≤ 1024 := by
  unfold recs at h ⊢
  by_cases hb : 1024 < l.length
  · rw [if_pos hb] at h; cases h
  · rw [if_neg hb] at h ⊢
    obtain ⟨rest, e1, e2, e3, e4⟩ := (decs_facts l hl (l.length + 1) 0 0 [] (by omega) (by omega)).1 h
    rw [e1, List.nil_append]
    refine ⟨e2, ?_, e4, by omega⟩
    rw [List.take_zero] at e3
    rw [e3]
    show (if 1024 < l.length then ([], 24) else (l, 0)) = (l, 0)
    rw [if_neg hb]
theorem recs_bad (l : List Nat) (hl : ∀ x ∈ l, x < 256) (h : (recs l).2.2 ≠ 0) : (recs l).1 = [] ∧ (recs l).2.1 ≤ l.length := by
  unfold recs at h ⊢
  by_cases hb : 1024 < l.length
  · rw [if_pos hb]; exact ⟨rfl, by simp⟩
  · rw [if_neg hb] at h ⊢
    exact (decs_facts l hl (l.length + 1) 0 0 [] (by omega) (by omega)).2 h
end Go.Proofs.YtfcgcpfckbmgnaaGreat
namespace Go.Proofs.YtfcgcpfckbmgnaaGreat
open Go.ChangeShapes Go.WideShapes Go.ChangeAt Go.RowKit
theorem drewN_add (w : World) (a b : Nat) : (w.drewN a).drewN b = w.drewN (a + b) := by
  induction b with
  | zero => rfl
  | succ b ih => show ((w.drewN a).drewN b).drew = (w.drewN (a + b)).drew; rw [ih]
theorem same_end (l m : List Nat) (hl : l.length = m.length) (h : ∀ i, i < l.length → l.getD i 0 = m.getD i 0) : l = m := by
  apply List.ext_getElem hl
  intro i h1 h2
  have := h i h1
  simpa [List.getD_eq_getElem?_getD, List.getElem?_eq_getElem h1, List.getElem?_eq_getElem h2] using this
set_option maxRecDepth 20000 in
set_option maxHeartbeats 1000000 in
theorem same_any (l m : List Nat) (a1 a2 : Option Addr) (c1 c2 : Nat) (w : World) (hb1 : Bytes w a1 l) (hb2 : Bytes w a2 m) (hl : l.length ≤ maxLen) (hm : m.length ≤ maxLen) :
    Calls Tryz.prog 9 #[.slice a1 l.length c1, .slice a2 m.length c2] w fun e w' => e = .returned (.bool (decide (l = m))) ∧ ∃ n, w' = w.drewN n := by
  unfold maxLen at hl hm
  by_cases hne : l.length = m.length
  · have HN : Hid (l.length = m.length) := hne
    have hnb : ((l.length : Int) != (m.length : Int)) = false := by simp; omega
    obtain ⟨hy1, hb1⟩ := hb1
    obtain ⟨hy2, hb2⟩ := hb2
    by_cases h0 : l = []
    · subst h0
      have h1 : m = [] := List.length_eq_zero_iff.1 hne.symm
      subst h1
      clear hne
      go_enter Tryz.func9, Tryz.ntmps9
      go_wp2
      refine wp_loop_rounds 1 ?_
      rw [rounds_succ]
      go_wp2
      go_ret
      exact ⟨rfl, 0, rfl⟩
    · have h1 : m ≠ [] := by intro h; subst h; simp at hne; exact h0 hne
      rcases hb1 with hb1 | ⟨b, off, rfl, hlt1, hc1⟩
      · exact absurd hb1 h0
      rcases hb2 with hb2 | ⟨b', off', rfl, hlt2, hc2⟩
      · exact absurd hb2 h1
      clear h0 h1 hne
      go_enter Tryz.func9, Tryz.ntmps9
      go_wp2
      go_loopw [13] (fun i wr => ∃ k n0 : Nat, k ≤ l.length ∧ i = .int .i64 k ∧ wr = w.drewN n0 ∧ ∀ j, j < k → l.getD j 0 = m.getD j 0) (fun i _ => l.length - (intOf i).toNat)
      case atStart => exact ⟨0, 0, Nat.zero_le _, rfl, rfl, fun j hj => absurd hj (Nat.not_lt_zero _)⟩
      case round =>
        obtain ⟨k, n0, hk, rfl, rfl, hj⟩ := hrel
        have HJ : Hid (∀ j, j < k → l.getD j 0 = m.getD j 0) := hj
        clear hj
        by_cases hlt : k < l.length
        · have e1 := hc1 k hlt
          have e2 := hc2 k (by have := HN.out; omega)
          have hkm : k < m.length := by have := HN.out; omega
          obtain ⟨x, hx⟩ : ∃ x, x = l.getD k 0 := ⟨_, rfl⟩
          obtain ⟨y, hy⟩ : ∃ y, y = m.getD k 0 := ⟨_, rfl⟩
          rw [← hx] at e1
          rw [← hy] at e2
          have HX : Hid (x = l.getD k 0) := hx
          have HY : Hid (y = m.getD k 0) := hy
          clear hx hy hc1 hc2 hy1 hy2
          by_cases hxy : x = y
          · have HXY : Hid (x = y) := hxy
            have hq : ((x : Int) != (y : Int)) = false := by simp [hxy]
            clear hxy
            go_wp2
            go_quiet (fail)
            go_wp2
            go_roundw
            case rel =>
              refine ⟨k + 1, n0 + nq, by omega, by go_num, by first | rfl | exact drewN_add _ _ _, fun j hj => ?_⟩
              by_cases hjk : j < k
              · exact HJ.out j hjk
              · obtain rfl : j = k := by omega
                rw [← HX.out, ← HY.out, HXY.out]
            case measure => simp [intOf]; omega
          · have hq : ((x : Int) != (y : Int)) = true := by simp; omega
            have HNE : Hid (decide (l = m) = false) := by
              show _ = _
              rw [decide_eq_false_iff_not]
              intro h
              apply hxy
              rw [HX.out, HY.out, h]
            clear hxy
            go_wp2
            go_quiet (fail)
            go_wp2
            go_ret
            exact ⟨by rw [HNE.out]; rfl, n0 + nq, by first | rfl | exact drewN_add _ _ _⟩
        · have HEQ : Hid (decide (l = m) = true) := by
            show _ = _
            rw [decide_eq_true_iff]
            exact same_end l m HN.out fun i hi => HJ.out i (by omega)
          clear hc1 hc2 hy1 hy2
          go_wp2
          go_ret
          exact ⟨by rw [HEQ.out]; rfl, n0, rfl⟩
  · have hnb : ((l.length : Int) != (m.length : Int)) = true := by simp; omega
    have HNE : Hid (decide (l = m) = false) := by
      show _ = _
      rw [decide_eq_false_iff_not]
      intro h
      exact hne (by rw [h])
    clear hne hb1 hb2
    go_enter Tryz.func9, Tryz.ntmps9
    go_wp2
    go_ret
    exact ⟨by rw [HNE.out]; rfl, 0, rfl⟩
theorem same_at (l m : List Nat) (n1 n2 : Nat) (a1 a2 : Option Addr) (c1 c2 : Nat) (w : World) (e1 : l.length = n1) (e2 : m.length = n2) (hb1 : Bytes w a1 l) (hb2 : Bytes w a2 m) (hl : l.length ≤ maxLen) (hm : m.length ≤ maxLen) :
    Calls Tryz.prog 9 #[.slice a1 n1 c1, .slice a2 n2 c2] w fun e w' => e = .returned (.bool (decide (l = m))) ∧ ∃ n, w' = w.drewN n := by
  subst e1 e2
  exact same_any l m a1 a2 c1 c2 w hb1 hb2 hl hm
end Go.Proofs.YtfcgcpfckbmgnaaGreat
namespace Go.Proofs.YtfcgcpfckbmgnaaGreat
open Go.ChangeShapes Go.WideShapes Go.ChangeAt Go.RowKit
theorem copy_step (l : List Nat) (k n : Nat) (hn : n = l.length) (h : k < l.length) :
    (B8 (l.take k) ++ List.replicate (n - k) (Value.int .u8 0)).set k (.int .u8 (l.getD k 0 : Nat)) = B8 (l.take (k + 1)) ++ List.replicate (n - (k + 1)) (Value.int .u8 0) := by
  subst hn
  have h1 : (B8 (l.take k)).length = k := by simp [B8]; omega
  rw [show l.length - k = (l.length - (k + 1)) + 1 from by omega, List.replicate_succ]
  rw [List.set_append, if_neg (by omega), h1, Nat.sub_self, List.set_cons_zero]
  rw [List.take_succ_eq_append_getElem h, B8_append, List.append_assoc]
  simp [B8, List.getD_eq_getElem?_getD, h]
theorem Tryz.info5c : (Tryz.prog.info? 5).map (fun i => (i.zero, i.size, i.bytes)) = some (some (.int .u8 0), 1, 1) := by kernel_rfl
set_option maxRecDepth 20000 in
set_option maxHeartbeats 1000000 in
theorem copy_any (l : List Nat) (a : Option Addr) (cap : Nat) (w : World) (hb : Bytes w a l) (hl : l.length ≤ 281474976710656) :
    Calls Tryz.prog 5 #[.slice a l.length cap] w fun e w' => ∃ v, e = .returned v ∧ Own w' w.heap.size v l ∧ Below w.heap.size w w' := by
  obtain ⟨i0, hi, hz0, hz1, hz2⟩ := info_parts Tryz.info5c
  have hl3 : l.length ≤ maxLen := by unfold maxLen; omega
  obtain ⟨hy, hb⟩ := hb
  have HY : Hid (∀ i, l.getD i 0 < 256) := hy
  go_enter Tryz.func5, Tryz.ntmps5
  go_wp2_with (at_make; refine wpList_make_full _ rfl _ _ 22 rfl w.heap.size 5 i0 (.int .u8 0) 1 Tryz.underlying22 hi hz0 hz1 _ _ _ _ l.length rfl rfl rfl rfl (by rw [hz2]; omega) hl3 (Nat.le_refl _) ?_)
  intro w1 ho hg
  have hb1 : Below w.heap.size w w1 := (Below.refl _ _).grown hg (Nat.le_refl _) (fun k hk => by cases hk)
  clear hg
  have ho1 : w1.ownsRow w.heap.size 5 1 (.slice (some ⟨w.heap.size, 0, none⟩) l.length l.length) l.length (B8 (l.take 0) ++ List.replicate (l.length - 0) (Value.int .u8 0)) := by
    have h := ho
    rw [toList_madeCells_one] at h
    simpa [B8] using h
  clear ho
  rcases hb with rfl | ⟨b, off, rfl, hlt, hc⟩
  · go_wp2
    refine wp_loop_rounds 1 ?_
    rw [rounds_succ]
    go_wp2
    go_ret
    exact ⟨_, rfl, ⟨HY.out, ho1⟩, hb1⟩
  · go_wp2
    go_loopw [10] (fun i wr => ∃ k : Nat, k ≤ l.length ∧ i = .int .i64 k ∧ wr.ownsRow w.heap.size 5 1 (.slice (some ⟨w.heap.size, 0, none⟩) l.length l.length) l.length (B8 (l.take k) ++ List.replicate (l.length - k) (Value.int .u8 0)) ∧ Below w.heap.size w wr) (fun i _ => l.length - (intOf i).toNat)
    case atStart => exact ⟨0, Nat.zero_le _, rfl, ho1, hb1⟩
    case round =>
      obtain ⟨k, hk, rfl, ho, hbe⟩ := hrel
      by_cases hkl : k < l.length
      · have e1 := hc k hkl
        rw [← hbe.cell (p := ⟨b, off + k, none⟩) hlt] at e1
        have hst := ho.stored k (.int .u8 (l.getD k 0 : Nat))
        rw [copy_step l k _ rfl hkl] at hst
        have e2 := ho.cellAt k (by omega)
        have e3 := ho.frozenAt k
        obtain ⟨z, hz⟩ : ∃ z, wr.cell? ⟨w.heap.size, k, none⟩ = some z := by
          rw [e2]
          exact ⟨_, List.getElem?_eq_getElem (by rw [List.length_append, List.length_replicate]; simp [B8]; omega)⟩
        have hb2 := hbe.grown hst.2 (by have := hbe.size; omega) (fun j hj => by cases hj; exact Nat.le_refl _)
        have HS : Hid (_ ∧ _) := ⟨hst.1, hb2⟩
        clear e2 hst hb2 ho hbe hc hy ho1 hb1
        obtain ⟨x, hx⟩ : ∃ x, x = l.getD k 0 := ⟨_, rfl⟩
        rw [← hx] at e1 HS
        clear hx
        go_wp2
        go_roundw
        case rel => exact ⟨k + 1, by omega, by go_num, HS.out.1, HS.out.2⟩
        case measure => simp [intOf]; omega
      · have hkl2 : k = l.length := by omega
        have HO : Hid (wr.ownsRow w.heap.size 5 1 (.slice (some ⟨w.heap.size, 0, none⟩) l.length l.length) l.length (B8 l)) := by
          have h := ho
          rw [hkl2, List.take_of_length_le (Nat.le_refl _), Nat.sub_self, List.replicate_zero, List.append_nil] at h
          exact h
        clear ho hc hy ho1 hb1 hkl2
        go_wp2
        go_ret
        exact ⟨_, rfl, ⟨HY.out, HO.out⟩, hbe⟩
end Go.Proofs.YtfcgcpfckbmgnaaGreat
