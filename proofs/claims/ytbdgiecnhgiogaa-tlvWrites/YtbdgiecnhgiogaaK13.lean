/- Own texts, joined: Tln. -/
import Derived.Test.YtbdgiecnhgiogaaK07
import Derived.Test.YtbdgiecnhgiogaaK10
import Derived.Test.YtbdgiecnhgiogaaK12
namespace Go.Proofs.Ytbdgiecnhgiogaa
open Go.ChangeShapes Go.WideShapes Go.ChangeAt Go.RowKit
set_option linter.unusedVariables false
/-- what is asked of a field that lies in memory -/
structure FOk (w : World) (p : Fld × Value) : Prop where
  num : p.1.num ≤ 18446744073709551615
  byt : ∃ ad cap, p.2 = .slice ad p.1.bytes.length cap ∧ p.1.bytes.length ≤ cap ∧ Bytes w ad p.1.bytes
  len : p.1.bytes.length ≤ maxLen
/-- the fields L lie from address a on -/
structure FsAt (w : World) (a : Option Addr) (L : List (Fld × Value)) : Prop where
  row : L = [] ∨ ∃ b off, a = some ⟨b, off, none⟩ ∧ b < w.heap.size ∧ ∀ j, j < L.length * 4 → w.cell? ⟨b, off + j, none⟩ = (flat L)[j]?
  fok : ∀ p ∈ L, FOk w p
theorem FOk.keep {w w' : World} {p : Fld × Value} (h : FOk w p) (hb : Below w.heap.size w w') : FOk w' p := by
  obtain ⟨ad, cap, h1, h2, h3⟩ := h.byt
  exact ⟨h.num, ⟨ad, cap, h1, h2, h3.keep hb⟩, h.len⟩
theorem FsAt.keep {w w' : World} {a : Option Addr} {L : List (Fld × Value)} (h : FsAt w a L) (hb : Below w.heap.size w w') : FsAt w' a L := by
  refine ⟨?_, fun p hp => (h.fok p hp).keep hb⟩
  rcases h.row with h1 | ⟨b, off, h1, h2, h3⟩
  · exact .inl h1
  · exact .inr ⟨b, off, h1, Nat.lt_of_lt_of_le h2 hb.size, fun j hj => (hb.cell (p := ⟨b, off + j, none⟩) h2).trans (h3 j hj)⟩
theorem flat_get : ∀ (L : List (Fld × Value)) (k : Nat) (p : Fld × Value), L[k]? = some p → (flat L)[k * 4]? = some (.int .i64 p.1.tag) ∧ (flat L)[k * 4 + 1]? = some (.bool p.1.text) ∧ (flat L)[k * 4 + 2]? = some (.int .u64 (p.1.num : Int)) ∧ (flat L)[k * 4 + 3]? = some p.2
  | q :: r, 0, p, h => by simp at h; subst h; exact ⟨rfl, rfl, rfl, rfl⟩
  | q :: r, k + 1, p, h => by
    have := flat_get r k p (by simpa using h)
    rw [show (k + 1) * 4 = k * 4 + 4 from by omega]
    simpa [flat] using this
  | [], k, p, h => by simp at h
theorem FsAt.cells {w : World} {b off : Nat} {L : List (Fld × Value)} (h : FsAt w (some ⟨b, off, none⟩) L) (k : Nat) (p : Fld × Value) (hp : L[k]? = some p) : w.cell? ⟨b, off + k * 4, none⟩ = some (.int .i64 p.1.tag) ∧ w.cell? ⟨b, off + k * 4 + 1, none⟩ = some (.bool p.1.text) ∧ w.cell? ⟨b, off + k * 4 + 2, none⟩ = some (.int .u64 (p.1.num : Int)) ∧ w.cell? ⟨b, off + k * 4 + 3, none⟩ = some p.2 := by
  have hk : k < L.length := by
    by_cases hh : k < L.length
    · exact hh
    · rw [List.getElem?_eq_none (by omega)] at hp; cases hp
  rcases h.row with rfl | ⟨b', off', hx, _, hc⟩
  · simp at hk
  · cases hx
    obtain ⟨f0, f1, f2, f3⟩ := flat_get L k p hp
    exact ⟨(hc (k * 4) (by omega)).trans f0, (hc (k * 4 + 1) (by omega)).trans f1, (hc (k * 4 + 2) (by omega)).trans f2, (hc (k * 4 + 3) (by omega)).trans f3⟩
theorem Rws.fs {w : World} {base : Nat} {v : Value} {L : List (Fld × Value)} (h : Rws w base v L) (hn : ∀ p ∈ L, p.1.num ≤ 18446744073709551615 ∧ p.1.bytes.length ≤ maxLen) : ∃ a cap, v = .slice a L.length cap ∧ FsAt w a L := by
  have hf : ∀ p ∈ L, FOk w p := by
    intro p hp
    obtain ⟨a, cap, h1, h2, _, h3, _⟩ := (h.byt p hp).shape
    exact ⟨(hn p hp).1, ⟨a, cap, h1, h2, h3⟩, (hn p hp).2⟩
  rcases h.own.2 with ⟨rfl, h2⟩ | ⟨g, cap, cur, rfl, _, h5, _⟩
  · have : L = [] := List.length_eq_zero_iff.1 h2
    subst this
    exact ⟨none, 0, rfl, .inl rfl, hf⟩
  · refine ⟨some ⟨g, 0, none⟩, cap, rfl, .inr ⟨g, 0, rfl, lt_of_heap h5, fun j hj => ?_⟩, hf⟩
    rw [Nat.zero_add]
    exact h.own.cellAt j hj
theorem own_app {w w' : World} {base : Nat} {v : Value} {l : List Nat} (h : Own w base v l) (hb : Below w.heap.size w w') : Own w' base v l := ⟨h.1, own_below h.2 hb⟩
theorem encs_cons (f : Fld) (r : List Fld) (last : Int) (b : List Nat) : encs (f :: r) last b = if flt f last ≠ 0 then ([], flt f last) else encs r f.tag (b ++ one f) := rfl
theorem encs_nil (last : Int) (b : List Nat) : encs [] last b = if 1024 < b.length then ([], 24) else (b, 0) := rfl
theorem drop_fld (L : List (Fld × Value)) (k : Nat) (p : Fld × Value) (h : L[k]? = some p) : (L.drop k).map Prod.fst = p.1 :: (L.drop (k + 1)).map Prod.fst := by
  have hk : k < L.length := by
    by_cases hh : k < L.length
    · exact hh
    · rw [List.getElem?_eq_none (by omega)] at h; cases h
  rw [List.getElem?_eq_getElem hk] at h
  rw [List.drop_eq_getElem_cons hk, List.map_cons, Option.some.inj h]
set_option maxRecDepth 20000 in
set_option maxHeartbeats 1000000 in
theorem tenc_any (L : List (Fld × Value)) (b off n cap : Nat) (w : World) (hn : L.length = n) (hfs : FsAt w (some ⟨b, off, none⟩) L) (hm : n ≤ 140737488355328) :
    Calls Try.prog 28 #[.slice (some ⟨b, off, none⟩) n cap] w fun r w' => ∃ v, r = .returned (.tuple #[v, .int .i64 ((encs (L.map Prod.fst) 0 []).2 : Int)]) ∧ Own w' w.heap.size v (encs (L.map Prod.fst) 0 []).1 ∧ Below w.heap.size w w' := by
  have HF : Hid (FsAt w (some ⟨b, off, none⟩) L) := hfs
  have HN : Hid (L.length = n) := hn
  have hmI : (n : Int) ≤ 140737488355328 := by omega
  clear hfs hn
  go_enter Try.func28, Try.ntmps28
  go_wp2
  go_loopw [4, 5, 11] (fun vb va vi wr => ∃ (k : Nat) (A : Int) (acc : List Nat), k ≤ n ∧ vi = .int .i64 k ∧ va = .int .i64 A ∧ 0 ≤ A ∧ A ≤ 31 ∧ Hid (encs (L.map Prod.fst) 0 [] = encs ((L.drop k).map Prod.fst) A acc ∧ (acc.length : Int) ≤ 220 * A ∧ Own wr w.heap.size vb acc ∧ Below w.heap.size w wr)) (fun _ _ vi _ => n - (intOf vi).toNat)
  case atStart => exact ⟨0, 0, [], Nat.zero_le _, rfl, rfl, by omega, by omega, rfl, by simp, ⟨by simp, World.ownsRow_nil _ _ _ 1⟩, Below.refl _ _⟩
  case round =>
    obtain ⟨k, A, acc, hk, rfl, rfl, hA0, hA1, HI⟩ := hrel
    by_cases hkl : k < n
    · obtain ⟨p, hp⟩ : ∃ p, L[k]? = some p := ⟨_, List.getElem?_eq_getElem (by rw [HN.out]; exact hkl)⟩
      have hpm : p ∈ L := List.mem_of_getElem? hp
      obtain ⟨c0, c1, c2, c3⟩ := (HF.out.keep HI.out.2.2.2).cells k p hp
      obtain ⟨ad, pcap, hpv, hpc, _⟩ := (HF.out.fok p hpm).byt
      have HNUM : Hid (p.1.num ≤ 18446744073709551615) := (HF.out.fok p hpm).num
      have HBY : Hid (∀ w', Below w.heap.size w w' → Bytes w' ad p.1.bytes) := by
        intro w' hb'
        obtain ⟨ad2, cap2, h1, _, h3⟩ := ((HF.out.fok p hpm).keep hb').byt
        rw [hpv] at h1
        cases h1
        exact h3
      have HST : Hid (encs (L.map Prod.fst) 0 [] = if flt p.1 A ≠ 0 then ([], flt p.1 A) else encs ((L.drop (k + 1)).map Prod.fst) p.1.tag (acc ++ one p.1)) := by
        show _ = _
        rw [HI.out.1, drop_fld L k p hp, encs_cons]
      rw [hpv] at c3
      obtain ⟨F, hFe⟩ : ∃ F, p.1 = F := ⟨_, rfl⟩
      rw [hFe] at c0 c1 c2 c3 HNUM HBY HST
      clear hpv hFe hp hpm
      have T1 : Hid True := trivial
      by_cases hz : flt F A = 0
      · obtain ⟨t1, t2, t3⟩ := flt_tag hz
        have HZ : Hid (flt F A = 0) := hz
        have HST2 : Hid (encs (L.map Prod.fst) 0 [] = encs ((L.drop (k + 1)).map Prod.fst) F.tag (acc ++ one F)) := by show _ = _; rw [HST.out, hz, if_neg (by simp)]
        have HLEN : Hid (((acc ++ one F).length : Int) ≤ 220 * F.tag) := by
          have h1 := (one_len F A HNUM.out hz).2
          have h2 := HI.out.2.1
          show ((acc ++ one F).length : Int) ≤ _
          rw [List.length_append]
          omega
        have hacc : acc.length ≤ 140737488000000 := by have := HI.out.2.1; omega
        clear hz HST
        go_wp2_with (first
          | ((with_reducible refine guard_load 32 ?_); clear T1; refine wpList_load_fld rfl _ rfl (FldAt.new wr F.tag F.text F.num _) rfl ?_)
          | (go_at_call 41; refine (check_any F A ad pcap _ HNUM.out).mono ?_; rw [HZ.out]; rintro r w2 ⟨rfl, hb2⟩; have hba : Below w.heap.size w (wr.alloc (.cells #[.int .i64 F.tag, .bool F.text, .int .u64 (F.num : Int), .slice ad F.bytes.length pcap] 32)) := HI.out.2.2.2.alloc HI.out.2.2.2.size _; have HB2 : Hid (Below w.heap.size w w2) := hba.trans (hb2.mono hba.size); have HF2 : Hid (FldAt w2 wr.heap.size F.tag F.text F.num (.slice ad F.bytes.length pcap)) := (FldAt.new wr F.tag F.text F.num _).keep hb2; have HO2 : Hid (Own w2 w.heap.size u4 acc) := own_app (own_app HI.out.2.2.1 ((Below.refl _ _).alloc (Nat.le_refl _) _)) hb2; clear hb2 hba)
          | ((with_reducible refine guard_load 32 ?_); refine wpList_load_fld rfl _ rfl HF2.out rfl ?_)
          | (go_at_call 42; refine (putf_any F A ad pcap w.heap.size _ acc w2 HZ.out HNUM.out (fun w' hb => HBY.out w' (HB2.out.trans hb)) HO2.out HB2.out.size hacc).mono ?_; rintro r w3 ⟨v3, rfl, ho3, hb3, hnb3⟩; have hf3 : FldAt w3 wr.heap.size F.tag F.text F.num (.slice ad F.bytes.length pcap) := hnb3 _ _ _ _ HF2.out (by decide); obtain ⟨g0, _, _, _⟩ := hf3.cells; have HB3 : Hid (Below w.heap.size w w3) := HB2.out.trans hb3; have HO3 : Hid (Own w3 w.heap.size v3 (acc ++ one F)) := ho3; clear hf3 hb3 hnb3 ho3))
        go_roundw
        case rel => exact ⟨k + 1, F.tag, acc ++ one F, by omega, by go_num, rfl, by omega, by omega, HST2.out, HLEN.out, HO3.out, HB3.out⟩
        case measure => simp [intOf]; omega
      · obtain ⟨e, he⟩ : ∃ e, flt F A = e := ⟨_, rfl⟩
        have HZ : Hid (flt F A = e) := he
        have heb : ((e : Int) != 0) = true := by rw [he] at hz; simp; omega
        have HST2 : Hid (encs (L.map Prod.fst) 0 [] = ([], e)) := by show _ = _; rw [HST.out, if_pos hz, he]
        clear hz he HST
        go_wp2_with (first
          | ((with_reducible refine guard_load 32 ?_); clear T1; refine wpList_load_fld rfl _ rfl (FldAt.new wr F.tag F.text F.num _) rfl ?_)
          | (go_at_call 41; refine (check_any F A ad pcap _ HNUM.out).mono ?_; rw [HZ.out]; rintro r w2 ⟨rfl, hb2⟩; have hba : Below w.heap.size w (wr.alloc (.cells #[.int .i64 F.tag, .bool F.text, .int .u64 (F.num : Int), .slice ad F.bytes.length pcap] 32)) := HI.out.2.2.2.alloc HI.out.2.2.2.size _; have HB2 : Hid (Below w.heap.size w w2) := hba.trans (hb2.mono hba.size); have HF2 : Hid (FldAt w2 wr.heap.size F.tag F.text F.num (.slice ad F.bytes.length pcap)) := (FldAt.new wr F.tag F.text F.num _).keep hb2; have HO2 : Hid (Own w2 w.heap.size u4 acc) := own_app (own_app HI.out.2.2.1 ((Below.refl _ _).alloc (Nat.le_refl _) _)) hb2; clear hb2 hba))
        go_ret2
        exact ⟨_, by rw [HST2.out]; rfl, by rw [HST2.out]; exact own_nil _ _, HB2.out⟩
    · obtain rfl : k = n := by omega
      have HE : Hid (encs (L.map Prod.fst) 0 [] = if 1024 < acc.length then ([], 24) else (acc, 0)) := by
        show _ = _
        rw [HI.out.1, List.drop_eq_nil_of_le (by rw [HN.out]; exact Nat.le_refl _)]; rfl
      obtain ⟨xa, xc, rfl, _, _, _, _⟩ := HI.out.2.2.1.shape
      have hacc : (acc.length : Int) ≤ 6820 := by have := HI.out.2.1; omega
      obtain ⟨m, hm2⟩ : ∃ m, acc.length = m := ⟨_, rfl⟩
      have HM : Hid (acc.length = m) := hm2
      rw [hm2] at hacc
      by_cases hb : 1024 < m
      · have HE2 : Hid (encs (L.map Prod.fst) 0 [] = ([], 24)) := by show _ = _; rw [HE.out, if_pos (by rw [hm2]; exact hb)]
        have hbI : (1024 : Int) < (m : Int) := by omega
        clear HE
        go_wp2
        go_ret2
        exact ⟨_, by rw [HE2.out]; rfl, by rw [HE2.out]; exact own_nil _ _, HI.out.2.2.2⟩
      · have HE2 : Hid (encs (L.map Prod.fst) 0 [] = (acc, 0)) := by show _ = _; rw [HE.out, if_neg (by rw [hm2]; exact hb)]
        have hbI : ¬ (1024 : Int) < (m : Int) := by omega
        clear HE
        go_wp2
        go_ret2
        exact ⟨_, by rw [HE2.out]; rfl, by rw [HE2.out]; have h := HI.out.2.2.1; rw [hm2] at h; exact h, HI.out.2.2.2⟩
end Go.Proofs.Ytbdgiecnhgiogaa
