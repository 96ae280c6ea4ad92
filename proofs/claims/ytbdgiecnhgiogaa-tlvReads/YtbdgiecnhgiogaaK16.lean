/- Own texts, joined: Tln, Rd4. -/
import Derived.Test.YtbdgiecnhgiogaaK08
import Derived.Test.YtbdgiecnhgiogaaK10
import Derived.Test.YtbdgiecnhgiogaaK11
import Derived.Test.YtbdgiecnhgiogaaK15
namespace Go.Proofs.Ytbdgiecnhgiogaa
open Go.ChangeShapes Go.WideShapes Go.ChangeAt Go.RowKit
set_option linter.unusedVariables false
/-- what is asked of a field that lies in memory -/
structure FOk (w : World) (p : Fld × Value) : Prop where
  num : p.1.num ≤ 18446744073709551615
  byt : ∃ ad cap, p.2 = .slice ad p.1.bytes.length cap ∧ p.1.bytes.length ≤ cap ∧ Bytes w ad p.1.bytes
  len : p.1.bytes.length ≤ maxLen
/-- the fields L lie from address a on -/
structure FsAt (w : World) (a : Option Addr) (L : List (Fld × Value)) : Prop where
  row : L = [] ∨ ∃ b off, a = some ⟨b, off, none⟩ ∧ b < w.heap.size ∧ ∀ j, j < L.length * 4 → w.cell? ⟨b, off + j, none⟩ = (flat L)[j]?
  fok : ∀ p ∈ L, FOk w p
theorem FOk.keep {w w' : World} {p : Fld × Value} (h : FOk w p) (hb : Below w.heap.size w w') : FOk w' p := by
  obtain ⟨ad, cap, h1, h2, h3⟩ := h.byt
  exact ⟨h.num, ⟨ad, cap, h1, h2, h3.keep hb⟩, h.len⟩
theorem FsAt.keep {w w' : World} {a : Option Addr} {L : List (Fld × Value)} (h : FsAt w a L) (hb : Below w.heap.size w w') : FsAt w' a L := by
  refine ⟨?_, fun p hp => (h.fok p hp).keep hb⟩
  rcases h.row with h1 | ⟨b, off, h1, h2, h3⟩
  · exact .inl h1
  · exact .inr ⟨b, off, h1, Nat.lt_of_lt_of_le h2 hb.size, fun j hj => (hb.cell (p := ⟨b, off + j, none⟩) h2).trans (h3 j hj)⟩
theorem flat_get : ∀ (L : List (Fld × Value)) (k : Nat) (p : Fld × Value), L[k]? = some p → (flat L)[k * 4]? = some (.int .i64 p.1.tag) ∧ (flat L)[k * 4 + 1]? = some (.bool p.1.text) ∧ (flat L)[k * 4 + 2]? = some (.int .u64 (p.1.num : Int)) ∧ (flat L)[k * 4 + 3]? = some p.2
  | q :: r, 0, p, h => by simp at h; subst h; exact ⟨rfl, rfl, rfl, rfl⟩
  | q :: r, k + 1, p, h => by
    have := flat_get r k p (by simpa using h)
    rw [show (k + 1) * 4 = k * 4 + 4 from by omega]
    simpa [flat] using this
  | [], k, p, h => by simp at h
theorem FsAt.cells {w : World} {b off : Nat} {L : List (Fld × Value)} (h : FsAt w (some ⟨b, off, none⟩) L) (k : Nat) (p : Fld × Value) (hp : L[k]? = some p) : w.cell? ⟨b, off + k * 4, none⟩ = some (.int .i64 p.1.tag) ∧ w.cell? ⟨b, off + k * 4 + 1, none⟩ = some (.bool p.1.text) ∧ w.cell? ⟨b, off + k * 4 + 2, none⟩ = some (.int .u64 (p.1.num : Int)) ∧ w.cell? ⟨b, off + k * 4 + 3, none⟩ = some p.2 := by
  have hk : k < L.length := by
    by_cases hh : k < L.length
    · exact hh
    · rw [List.getElem?_eq_none (by omega)] at hp; cases hp
  rcases h.row with rfl | ⟨b', off', hx, _, hc⟩
  · simp at hk
  · cases hx
    obtain ⟨f0, f1, f2, f3⟩ := flat_get L k p hp
    exact ⟨(hc (k * 4) (by omega)).trans f0, (hc (k * 4 + 1) (by omega)).trans f1, (hc (k * 4 + 2) (by omega)).trans f2, (hc (k * 4 + 3) (by omega)).trans f3⟩
theorem Rws.fs {w : World} {base : Nat} {v : Value} {L : List (Fld × Value)} (h : Rws w base v L) (hn : ∀ p ∈ L, p.1.num ≤ 18446744073709551615 ∧ p.1.bytes.length ≤ maxLen) : ∃ a cap, v = .slice a L.length cap ∧ FsAt w a L := by
  have hf : ∀ p ∈ L, FOk w p := by
    intro p hp
    obtain ⟨a, cap, h1, h2, _, h3, _⟩ := (h.byt p hp).shape
    exact ⟨(hn p hp).1, ⟨a, cap, h1, h2, h3⟩, (hn p hp).2⟩
  rcases h.own.2 with ⟨rfl, h2⟩ | ⟨g, cap, cur, rfl, _, h5, _⟩
  · have : L = [] := List.length_eq_zero_iff.1 h2
    subst this
    exact ⟨none, 0, rfl, .inl rfl, hf⟩
  · refine ⟨some ⟨g, 0, none⟩, cap, rfl, .inr ⟨g, 0, rfl, lt_of_heap h5, fun j hj => ?_⟩, hf⟩
    rw [Nat.zero_add]
    exact h.own.cellAt j hj
theorem own_app {w w' : World} {base : Nat} {v : Value} {l : List Nat} (h : Own w base v l) (hb : Below w.heap.size w w') : Own w' base v l := ⟨h.1, own_below h.2 hb⟩
theorem encs_cons (f : Fld) (r : List Fld) (last : Int) (b : List Nat) : encs (f :: r) last b = if flt f last ≠ 0 then ([], flt f last) else encs r f.tag (b ++ one f) := rfl
theorem encs_nil (last : Int) (b : List Nat) : encs [] last b = if 1024 < b.length then ([], 24) else (b, 0) := rfl
theorem drop_fld (L : List (Fld × Value)) (k : Nat) (p : Fld × Value) (h : L[k]? = some p) : (L.drop k).map Prod.fst = p.1 :: (L.drop (k + 1)).map Prod.fst := by
  have hk : k < L.length := by
    by_cases hh : k < L.length
    · exact hh
    · rw [List.getElem?_eq_none (by omega)] at h; cases h
  rw [List.getElem?_eq_getElem hk] at h
  rw [List.drop_eq_getElem_cons hk, List.map_cons, Option.some.inj h]
set_option maxRecDepth 20000 in
set_option maxHeartbeats 1000000 in
theorem tenc_any (L : List (Fld × Value)) (b off n cap : Nat) (w : World) (hn : L.length = n) (hfs : FsAt w (some ⟨b, off, none⟩) L) (hm : n ≤ 140737488355328) :
    Calls Try.prog 28 #[.slice (some ⟨b, off, none⟩) n cap] w fun r w' => ∃ v, r = .returned (.tuple #[v, .int .i64 ((encs (L.map Prod.fst) 0 []).2 : Int)]) ∧ Own w' w.heap.size v (encs (L.map Prod.fst) 0 []).1 ∧ Below w.heap.size w w' := by
  have HF : Hid (FsAt w (some ⟨b, off, none⟩) L) := hfs
  have HN : Hid (L.length = n) := hn
  have hmI : (n : Int) ≤ 140737488355328 := by omega
  clear hfs hn
  go_enter Try.func28, Try.ntmps28
  go_wp2
  go_loopw [4, 5, 11] (fun vb va vi wr => ∃ (k : Nat) (A : Int) (acc : List Nat), k ≤ n ∧ vi = .int .i64 k ∧ va = .int .i64 A ∧ 0 ≤ A ∧ A ≤ 31 ∧ Hid (encs (L.map Prod.fst) 0 [] = encs ((L.drop k).map Prod.fst) A acc ∧ (acc.length : Int) ≤ 220 * A ∧ Own wr w.heap.size vb acc ∧ Below w.heap.size w wr)) (fun _ _ vi _ => n - (intOf vi).toNat)
  case atStart => exact ⟨0, 0, [], Nat.zero_le _, rfl, rfl, by omega, by omega, rfl, by simp, ⟨by simp, World.ownsRow_nil _ _ _ 1⟩, Below.refl _ _⟩
  case round =>
    obtain ⟨k, A, acc, hk, rfl, rfl, hA0, hA1, HI⟩ := hrel
    by_cases hkl : k < n
    · obtain ⟨p, hp⟩ : ∃ p, L[k]? = some p := ⟨_, List.getElem?_eq_getElem (by rw [HN.out]; exact hkl)⟩
      have hpm : p ∈ L := List.mem_of_getElem? hp
      obtain ⟨c0, c1, c2, c3⟩ := (HF.out.keep HI.out.2.2.2).cells k p hp
      obtain ⟨ad, pcap, hpv, hpc, _⟩ := (HF.out.fok p hpm).byt
      have HNUM : Hid (p.1.num ≤ 18446744073709551615) := (HF.out.fok p hpm).num
      have HBY : Hid (∀ w', Below w.heap.size w w' → Bytes w' ad p.1.bytes) := by
        intro w' hb'
        obtain ⟨ad2, cap2, h1, _, h3⟩ := ((HF.out.fok p hpm).keep hb').byt
        rw [hpv] at h1
        cases h1
        exact h3
      have HST : Hid (encs (L.map Prod.fst) 0 [] = if flt p.1 A ≠ 0 then ([], flt p.1 A) else encs ((L.drop (k + 1)).map Prod.fst) p.1.tag (acc ++ one p.1)) := by
        show _ = _
        rw [HI.out.1, drop_fld L k p hp, encs_cons]
      rw [hpv] at c3
      obtain ⟨F, hFe⟩ : ∃ F, p.1 = F := ⟨_, rfl⟩
      rw [hFe] at c0 c1 c2 c3 HNUM HBY HST
      clear hpv hFe hp hpm
      have T1 : Hid True := trivial
      by_cases hz : flt F A = 0
      · obtain ⟨t1, t2, t3⟩ := flt_tag hz
        have HZ : Hid (flt F A = 0) := hz
        have HST2 : Hid (encs (L.map Prod.fst) 0 [] = encs ((L.drop (k + 1)).map Prod.fst) F.tag (acc ++ one F)) := by show _ = _; rw [HST.out, hz, if_neg (by simp)]
        have HLEN : Hid (((acc ++ one F).length : Int) ≤ 220 * F.tag) := by
          have h1 := (one_len F A HNUM.out hz).2
          have h2 := HI.out.2.1
          show ((acc ++ one F).length : Int) ≤ _
          rw [List.length_append]
          omega
        have hacc : acc.length ≤ 140737488000000 := by have := HI.out.2.1; omega
        clear hz HST
        go_wp2_with (first
          | ((with_reducible refine guard_load 32 ?_); clear T1; refine wpList_load_fld rfl _ rfl (FldAt.new wr F.tag F.text F.num _) rfl ?_)
          | (go_at_call 41; refine (check_any F A ad pcap _ HNUM.out).mono ?_; rw [HZ.out]; rintro r w2 ⟨rfl, hb2⟩; have hba : Below w.heap.size w (wr.alloc (.cells #[.int .i64 F.tag, .bool F.text, .int .u64 (F.num : Int), .slice ad F.bytes.length pcap] 32)) := HI.out.2.2.2.alloc HI.out.2.2.2.size _; have HB2 : Hid (Below w.heap.size w w2) := hba.trans (hb2.mono hba.size); have HF2 : Hid (FldAt w2 wr.heap.size F.tag F.text F.num (.slice ad F.bytes.length pcap)) := (FldAt.new wr F.tag F.text F.num _).keep hb2; have HO2 : Hid (Own w2 w.heap.size u4 acc) := own_app (own_app HI.out.2.2.1 ((Below.refl _ _).alloc (Nat.le_refl _) _)) hb2; clear hb2 hba)
          | ((with_reducible refine guard_load 32 ?_); refine wpList_load_fld rfl _ rfl HF2.out rfl ?_)
          | (go_at_call 42; refine (putf_any F A ad pcap w.heap.size _ acc w2 HZ.out HNUM.out (fun w' hb => HBY.out w' (HB2.out.trans hb)) HO2.out HB2.out.size hacc).mono ?_; rintro r w3 ⟨v3, rfl, ho3, hb3, hnb3⟩; have hf3 : FldAt w3 wr.heap.size F.tag F.text F.num (.slice ad F.bytes.length pcap) := hnb3 _ _ _ _ HF2.out (by decide); obtain ⟨g0, _, _, _⟩ := hf3.cells; have HB3 : Hid (Below w.heap.size w w3) := HB2.out.trans hb3; have HO3 : Hid (Own w3 w.heap.size v3 (acc ++ one F)) := ho3; clear hf3 hb3 hnb3 ho3))
        go_roundw
        case rel => exact ⟨k + 1, F.tag, acc ++ one F, by omega, by go_num, rfl, by omega, by omega, HST2.out, HLEN.out, HO3.out, HB3.out⟩
        case measure => simp [intOf]; omega
      · obtain ⟨e, he⟩ : ∃ e, flt F A = e := ⟨_, rfl⟩
        have HZ : Hid (flt F A = e) := he
        have heb : ((e : Int) != 0) = true := by rw [he] at hz; simp; omega
        have HST2 : Hid (encs (L.map Prod.fst) 0 [] = ([], e)) := by show _ = _; rw [HST.out, if_pos hz, he]
        clear hz he HST
        go_wp2_with (first
          | ((with_reducible refine guard_load 32 ?_); clear T1; refine wpList_load_fld rfl _ rfl (FldAt.new wr F.tag F.text F.num _) rfl ?_)
          | (go_at_call 41; refine (check_any F A ad pcap _ HNUM.out).mono ?_; rw [HZ.out]; rintro r w2 ⟨rfl, hb2⟩; have hba : Below w.heap.size w (wr.alloc (.cells #[.int .i64 F.tag, .bool F.text, .int .u64 (F.num : Int), .slice ad F.bytes.length pcap] 32)) := HI.out.2.2.2.alloc HI.out.2.2.2.size _; have HB2 : Hid (Below w.heap.size w w2) := hba.trans (hb2.mono hba.size); have HF2 : Hid (FldAt w2 wr.heap.size F.tag F.text F.num (.slice ad F.bytes.length pcap)) := (FldAt.new wr F.tag F.text F.num _).keep hb2; have HO2 : Hid (Own w2 w.heap.size u4 acc) := own_app (own_app HI.out.2.2.1 ((Below.refl _ _).alloc (Nat.le_refl _) _)) hb2; clear hb2 hba))
        go_ret2
        exact ⟨_, by rw [HST2.out]; rfl, by rw [HST2.out]; exact own_nil _ _, HB2.out⟩
    · obtain rfl : k = n := by omega
      have HE : Hid (encs (L.map Prod.fst) 0 [] = if 1024 < acc.length then ([], 24) else (acc, 0)) := by
        show _ = _
        rw [HI.out.1, List.drop_eq_nil_of_le (by rw [HN.out]; exact Nat.le_refl _)]; rfl
      obtain ⟨xa, xc, rfl, _, _, _, _⟩ := HI.out.2.2.1.shape
      have hacc : (acc.length : Int) ≤ 6820 := by have := HI.out.2.1; omega
      obtain ⟨m, hm2⟩ : ∃ m, acc.length = m := ⟨_, rfl⟩
      have HM : Hid (acc.length = m) := hm2
      rw [hm2] at hacc
      by_cases hb : 1024 < m
      · have HE2 : Hid (encs (L.map Prod.fst) 0 [] = ([], 24)) := by show _ = _; rw [HE.out, if_pos (by rw [hm2]; exact hb)]
        have hbI : (1024 : Int) < (m : Int) := by omega
        clear HE
        go_wp2
        go_ret2
        exact ⟨_, by rw [HE2.out]; rfl, by rw [HE2.out]; exact own_nil _ _, HI.out.2.2.2⟩
      · have HE2 : Hid (encs (L.map Prod.fst) 0 [] = (acc, 0)) := by show _ = _; rw [HE.out, if_neg (by rw [hm2]; exact hb)]
        have hbI : ¬ (1024 : Int) < (m : Int) := by omega
        clear HE
        go_wp2
        go_ret2
        exact ⟨_, by rw [HE2.out]; rfl, by rw [HE2.out]; have h := HI.out.2.2.1; rw [hm2] at h; exact h, HI.out.2.2.2⟩
end Go.Proofs.Ytbdgiecnhgiogaa
namespace Go.Proofs.Ytbdgiecnhgiogaa
open Go.ChangeShapes Go.WideShapes Go.ChangeAt Go.RowKit
set_option linter.unusedVariables false
/-- fields that were written have rising tags -/
theorem encs_rise : ∀ (fs : List Fld) (A : Int) (b r : List Nat), encs fs A b = (r, 0) → fs.Pairwise (fun f g => f.tag < g.tag) ∧ ∀ f ∈ fs, A < f.tag ∧ 1 ≤ f.tag ∧ f.tag ≤ 31 ∧ flt f 0 = 0
  | [], A, b, r, _ => ⟨.nil, by simp⟩
  | f :: fs, A, b, r, h => by
    have h' : (if flt f A ≠ 0 then (([] : List Nat), flt f A) else encs fs f.tag (b ++ one f)) = (r, 0) := h
    by_cases hz : flt f A = 0
    · rw [hz, if_neg (by simp)] at h'
      obtain ⟨h1, h2⟩ := encs_rise fs f.tag (b ++ one f) r h'
      obtain ⟨t1, t2, t3⟩ := flt_tag hz
      have hz0 : flt f 0 = 0 := by
        unfold flt at hz ⊢
        rw [if_neg (by omega), if_neg (by omega)] at hz
        rw [if_neg (by omega), if_neg (by omega)]
        exact hz
      refine ⟨List.pairwise_cons.2 ⟨fun g hg => (h2 g hg).1, h1⟩, fun g hg => ?_⟩
      rcases List.mem_cons.1 hg with rfl | hg
      · exact ⟨by omega, by omega, by omega, hz0⟩
      · obtain ⟨a1, a2, a3, a4⟩ := h2 g hg
        exact ⟨by omega, a2, a3, a4⟩
    · rw [if_pos hz] at h'
      exact absurd (Prod.mk.inj h').2 hz
theorem make_any (n : Int) (w : World) : (Instr.makeMap 71 (some (.int .i64 n))).run Try.prog w = .ok (.map (some w.heap.size)) (w.alloc (.map #[] 0)) := by
  simp [Instr.makeMap]
  rfl
/-- what NewReader answers -/
def NewPost (w : World) (l : List Nat) (r : Ending) (w' : World) : Prop :=
  Below w.heap.size w w' ∧ (((recs l).2.2 ≠ 0 ∧ r = .returned (.tuple #[.pointer none, .int .i64 ((recs l).2.2 : Int)])) ∨
  ((recs l).2.2 = 0 ∧ ∃ q b L, r = .returned (.tuple #[.pointer (some ⟨q, 0, none⟩), .int .i64 0]) ∧ L.map Prod.fst = (recs l).1 ∧ RdAt w' w.heap.size q b L 0 ∧ w.heap.size ≤ q ∧ w.heap.size ≤ b))
set_option maxRecDepth 20000 in
set_option maxHeartbeats 400000 in
theorem newr_bad (l : List Nat) (a : Option Addr) (n cap : Nat) (w : World) (hn : l.length = n) (hb : Bytes w a l) (hcap : n ≤ cap) (hm : n ≤ maxLen) (he : (recs l).2.2 ≠ 0) :
    Calls Try.prog 17 #[.slice a n cap] w fun r w' => r = .returned (.tuple #[.pointer none, .int .i64 ((recs l).2.2 : Int)]) ∧ Below w.heap.size w w' := by
  have HN : Hid (l.length = n) := hn
  have HB : Hid (Bytes w a l) := hb
  obtain ⟨e, hE⟩ : ∃ e, (recs l).2.2 = e := ⟨_, rfl⟩
  obtain ⟨i, hI⟩ : ∃ i, (recs l).2.1 = i := ⟨_, rfl⟩
  rw [hE] at he ⊢
  have HE : Hid (_) := hE
  have HI : Hid (_) := hI
  have heb : ((e : Int) != 0) = true := by simp; omega
  have heb2 : ¬ (e : Int) = 0 := by omega
  clear hn hb he hE hI
  go_enter Try.func17, Try.ntmps17
  go_wp2_with (go_at_call 26; refine (tdec l a n cap w HN.out HB.out hcap hm).mono ?_; rintro r w1 ⟨v, L, hr, hL, hR, hb1⟩; rw [HE.out, HI.out] at hr; subst hr; have HB1 : Hid (_) := hb1; clear hL hR hb1)
  go_ret2
  exact ⟨rfl, HB1.out⟩
/-- behind k rounds: the first k fields lie in the map -/
structure NR (w1 wr : World) (L : List (Fld × Value)) (k : Nat) : Prop where
  bel : Below w1.heap.size w1 wr
  blk : wr.heap[w1.heap.size + 1]? = some (.cells #[.map (some w1.heap.size), .int .i64 0] 73)
  map : ∃ D, wr.ownsMap Try.prog 3 hv w1.heap.size k D ∧ Rep D (L.take k)
theorem NR.start (w1 : World) (L : List (Fld × Value)) : NR w1 ((w1.alloc (.map #[] 0)).alloc (.cells #[.map (some w1.heap.size), .int .i64 0] 73)) L 0 := by
  refine ⟨(((Below.refl _ _).alloc (Nat.le_refl _) _).alloc (by simp) _), ?_, .map [], World.ownsMap.alloc (World.ownsMap_made w1 _ _ _) _, rep_nil⟩
  have := heap_alloc_new (w1.alloc (.map #[] 0)) (.cells #[.map (some w1.heap.size), .int .i64 0] 73)
  simpa using this
/-- the round's store -/
theorem NR.step {w1 wr : World} {L : List (Fld × Value)} {k : Nat} {p : Fld × Value} (h : NR w1 wr L k) (hp : L[k]? = some p) (hn : getT (L.take k) p.1.tag = none) (ht : (Lit.int .i64 p.1.tag).wf = true) (hk : k < maxLen) :
    ∃ W W2, wr.alloc (.cells #[.int .i64 p.1.tag, .bool p.1.text, .int .u64 (p.1.num : Int), p.2] 32) = W ∧ FldAt W wr.heap.size p.1.tag p.1.text p.1.num p.2 ∧ W.cell? ⟨w1.heap.size + 1, 0, none⟩ = some (.map (some w1.heap.size)) ∧
    (Instr.mapUpdate 71 (.map (some w1.heap.size)) (.int .i64 p.1.tag) (FV p.1.tag p.1.text p.1.num p.2)).run Try.prog W.drew = .ok () W2 ∧ NR w1 W2 L (k + 1) := by
  obtain ⟨D, hm, hr⟩ := h.map
  have hq := lt_of_heap h.blk
  have hb := hm.lt
  have hmW : (wr.alloc (.cells #[.int .i64 p.1.tag, .bool p.1.text, .int .u64 (p.1.num : Int), p.2] 32)).drew.ownsMap Try.prog 3 hv w1.heap.size k D := World.ownsMap.drew (World.ownsMap.alloc hm _)
  obtain ⟨W2, hrun, hm2, ht2⟩ := World.ownsMap.store hmW rd_keyed Try.underlying71 hk (rd_key ht) (val := FP p) (d := .held (FP p)) (ps := []) rfl
  have hg := ht2.grown
  have hbW : Below w1.heap.size w1 (wr.alloc (.cells #[.int .i64 p.1.tag, .bool p.1.text, .int .u64 (p.1.num : Int), p.2] 32)) := h.bel.alloc (by omega) _
  have hqW : (wr.alloc (.cells #[.int .i64 p.1.tag, .bool p.1.text, .int .u64 (p.1.num : Int), p.2] 32)).heap[w1.heap.size + 1]? = some (.cells #[.map (some w1.heap.size), .int .i64 0] 73) := (Below.heap_alloc wr _ _ hq).trans h.blk
  have hsz : wr.heap.size < (wr.alloc (.cells #[.int .i64 p.1.tag, .bool p.1.text, .int .u64 (p.1.num : Int), p.2] 32)).heap.size := by simp
  refine ⟨_, W2, rfl, FldAt.new wr _ _ _ _, by rw [cell_of_row _ _ 0 _ _ _ hqW]; rfl, hrun, ⟨hg.os.trans hbW.os, hg.tape.trans hbW.tape, hg.output.trans hbW.output, Nat.le_trans hbW.size hg.size, fun j hj => (hg.block j (Nat.lt_of_lt_of_le hj hbW.size) (by intro hh; have := Option.some.inj hh; omega)).trans (hbW.block j hj)⟩, (hg.block _ (by show _ < (World.alloc ..).heap.size; omega) (by intro hh; have := Option.some.inj hh; omega)).trans hqW, _, hm2, ?_⟩
  have hlt : k < L.length := by
    by_cases hh : k < L.length
    · exact hh
    · rw [List.getElem?_eq_none (by omega)] at hp; cases hp
  have hp2 : L[k] = p := by rw [List.getElem?_eq_getElem hlt] at hp; exact Option.some.inj hp
  rw [List.take_succ_eq_append_getElem hlt, hp2]
  exact hr.put p hn
theorem take_fresh {L : List (Fld × Value)} (h : (L.map Prod.fst).Pairwise (fun f g => f.tag < g.tag)) {k : Nat} {p : Fld × Value} (hp : L[k]? = some p) : getT (L.take k) p.1.tag = none := by
  rw [getT_none]
  intro r hr he
  have hlt : k < L.length := by
    by_cases hh : k < L.length
    · exact hh
    · rw [List.getElem?_eq_none (by omega)] at hp; cases hp
  obtain ⟨i, hi, hri⟩ := List.mem_iff_getElem.1 hr
  have hi2 : i < k := by simp at hi; omega
  rw [List.pairwise_iff_getElem] at h
  have h1 := h i k (by simp; omega) (by simpa using hlt) hi2
  rw [List.getElem?_eq_getElem hlt] at hp
  simp only [List.getElem_map, List.getElem_take] at h1 hri
  rw [hri, Option.some.inj hp] at h1
  omega
theorem wf_tag {t : Int} (h1 : 1 ≤ t) (h2 : t ≤ 31) : (Lit.int .i64 t).wf = true := WalkArith.wf_i64 (by omega)
set_option maxRecDepth 20000 in
set_option maxHeartbeats 1000000 in
theorem newr_ok (l : List Nat) (a : Option Addr) (n cap : Nat) (w : World) (hn : l.length = n) (hb : Bytes w a l) (hcap : n ≤ cap) (hm : n ≤ maxLen) (he : (recs l).2.2 = 0) :
    Calls Try.prog 17 #[.slice a n cap] w fun r w' => Below w.heap.size w w' ∧ ∃ q b L, r = .returned (.tuple #[.pointer (some ⟨q, 0, none⟩), .int .i64 0]) ∧ L.map Prod.fst = (recs l).1 ∧ RdAt w' w.heap.size q b L 0 ∧ w.heap.size ≤ q ∧ w.heap.size ≤ b := by
  have hl : ∀ x ∈ l, x < 256 := by
    intro x hx
    obtain ⟨i, hi, rfl⟩ := List.mem_iff_getElem.1 hx
    have := hb.1 i
    simpa [List.getD_eq_getElem?_getD, hi] using this
  obtain ⟨r1, r2, r3, r4⟩ := recs_ok l hl he
  obtain ⟨r5, r6⟩ := encs_rise _ _ _ _ r2
  have HRI : Hid ((recs l).1.Pairwise (fun f g => f.tag < g.tag) ∧ (∀ f ∈ (recs l).1, FRight f) ∧ ∀ f ∈ (recs l).1, 1 ≤ f.tag ∧ f.tag ≤ 31) := ⟨r5, r3, fun f hf => ⟨(r6 f hf).2.1, (r6 f hf).2.2.1⟩⟩
  have HLN : Hid ((recs l).1.length ≤ 512) := by
    have h1 := encs_len _ _ _ _ (fun f hf => (r3 f hf).1) r2
    show _ ≤ _
    simp only [List.length_nil] at h1
    omega
  have HN : Hid (l.length = n) := hn
  have HB : Hid (Bytes w a l) := hb
  have HE : Hid (_) := he
  have HI : Hid (_) := r1
  have hmm := make_any
  clear hn hb he r1 r2 r3 r4 r5 r6 hl
  go_enter Try.func17, Try.ntmps17
  go_wp2_with (go_at_call 26; refine (tdec l a n cap w HN.out HB.out hcap hm).mono ?_; rintro r w1 ⟨v, L, hr, hL, hR, hb1⟩; rw [HE.out, HI.out] at hr; subst hr; obtain ⟨a2, cap2, hv2, hF⟩ := hR.fs (fun p hp => by have h9 := HRI.out.2.1 p.1 (by rw [hL]; exact List.mem_map_of_mem hp); exact ⟨h9.1, by unfold maxLen; have := h9.2.1; omega⟩); subst hv2; have HB1 : Hid (_) := hb1; have HL : Hid (_) := hL; have HR : Hid (Rws w1 w.heap.size (.slice a2 L.length cap2) L) := hR; have HF : Hid (FsAt w1 a2 L) := hF; obtain ⟨N, hN⟩ : ∃ N, L.length = N := ⟨_, rfl⟩; have HN2 : Hid (L.length = N) := hN; rw [hN]; have hN5 : N ≤ 512 := (by have h9 := HLN.out; rw [hL, List.length_map, hN] at h9; exact h9); clear hL hR hb1 hF hN)
  have HST : Hid (_) := NR.start w1 L
  go_loopw [26] (fun vi wr => ∃ k : Nat, k ≤ N ∧ vi = .int .i64 k ∧ Hid (NR w1 wr L k)) (fun vi _ => N - (intOf vi).toNat)
  case atStart => exact ⟨0, Nat.zero_le _, rfl, HST.out⟩
  case round =>
    obtain ⟨k, hk, rfl, HI2⟩ := hrel
    by_cases hkl : k < N
    · obtain ⟨p, hp⟩ : ∃ p, L[k]? = some p := ⟨_, List.getElem?_eq_getElem (by rw [HN2.out]; exact hkl)⟩
      have hpm : p ∈ L := List.mem_of_getElem? hp
      obtain ⟨b2, off2, hab⟩ : ∃ b off, a2 = some ⟨b, off, none⟩ := by
        rcases HF.out.row with h0 | ⟨b2, off2, h1, _⟩
        · rw [h0] at hpm; cases hpm
        · exact ⟨b2, off2, h1⟩
      subst hab
      obtain ⟨c0, c1, c2, c3⟩ := (HF.out.keep HI2.out.bel).cells k p hp
      obtain ⟨ad, pcap, hpv, _, _⟩ := (HF.out.fok p hpm).byt
      have hfm : p.1 ∈ (recs l).1 := by rw [HL.out]; exact List.mem_map_of_mem hpm
      obtain ⟨W, W2, hW, hf, cq, hrun, hNR⟩ := HI2.out.step hp (take_fresh (by rw [← HL.out]; exact HRI.out.1) hp) (wf_tag (HRI.out.2.2 _ hfm).1 (HRI.out.2.2 _ hfm).2) (by unfold maxLen; omega)
      obtain ⟨F, bv⟩ := p
      simp only at c0 c1 c2 c3 hpv hW hf cq hrun
      subst hpv
      obtain ⟨f0, f1, f2, f3⟩ := hf.cells
      have HNR : Hid (NR w1 W2 L (k + 1)) := hNR
      obtain ⟨M, hM⟩ : ∃ M, F.bytes.length = M := ⟨_, rfl⟩
      rw [hM] at c3 hW f3 hrun
      have HW : Hid (_ = W) := hW
      clear hM hNR hf hfm hpm hp hW
      go_wp2
      rw [HW.out]
      go_region
      all_goals go_wp2
      go_roundw
      case rel => exact ⟨k + 1, by omega, by go_num, HNR.out⟩
      case measure => simp [intOf]; omega
    · obtain rfl : k = N := by omega
      go_wp2
      go_ret2
      refine ⟨below_next HB1.out HI2.out.bel, w1.heap.size + 1, w1.heap.size, L, rfl, HL.out.symm, ⟨HI2.out.blk, ?_, fun p hp => ?_⟩, by have := HB1.out.size; omega, HB1.out.size⟩
      · obtain ⟨D, hm1, hr1⟩ := HI2.out.map
        rw [List.take_of_length_le (by rw [HN2.out]; exact Nat.le_refl _)] at hr1
        exact ⟨_, D, hm1, hr1⟩
      · exact own_app (HR.out.byt p hp) HI2.out.bel
theorem newr_any (l : List Nat) (a : Option Addr) (n cap : Nat) (w : World) (hn : l.length = n) (hb : Bytes w a l) (hcap : n ≤ cap) (hm : n ≤ maxLen) :
    Calls Try.prog 17 #[.slice a n cap] w fun r w' => NewPost w l r w' := by
  by_cases he : (recs l).2.2 = 0
  · refine (newr_ok l a n cap w hn hb hcap hm he).mono ?_
    rintro r w' ⟨h1, h2⟩
    exact ⟨h1, .inr ⟨he, h2⟩⟩
  · refine (newr_bad l a n cap w hn hb hcap hm he).mono ?_
    rintro r w' ⟨h1, h2⟩
    exact ⟨h2, .inl ⟨he, h1⟩⟩
end Go.Proofs.Ytbdgiecnhgiogaa
