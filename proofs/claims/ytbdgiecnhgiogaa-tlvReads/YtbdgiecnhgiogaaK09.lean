/- Own texts, joined: Tlg. -/
import Derived.Test.YtbdgiecnhgiogaaK04
import Derived.Test.YtbdgiecnhgiogaaK08
namespace Go.Proofs.Ytbdgiecnhgiogaa
open Go.ChangeShapes Go.WideShapes Go.ChangeAt Go.RowKit
set_option linter.unusedVariables false
theorem Kept.refl1 (g : Nat) (w : World) : Kept g g w w := Kept.refl g g w
theorem Kept.chain1 {g : Nat} {a b c : World} (h : Kept g g a b) (k : Kept g g b c) : Kept g g a c :=
  ⟨k.os.trans h.os, k.tape.trans h.tape, k.output.trans h.output, Nat.le_trans h.size k.size, fun j hj h1 h2 => (k.block j (Nat.lt_of_lt_of_le hj h.size) h1 h2).trans (h.block j hj h1 h2)⟩
theorem Kept.of_below1 {g : Nat} {a b : World} (h : Below a.heap.size a b) : Kept g g a b := ⟨h.os, h.tape, h.output, h.size, fun k hk _ _ => h.block k hk⟩
theorem FldAt.kept {w w' : World} {g k : Nat} {tag : Int} {text : Bool} {num : Nat} {bv : Value} (h : FldAt w k tag text num bv) (hk : Kept g g w w') (hne : k ≠ g) : FldAt w' k tag text num bv := (hk.block k (lt_of_heap h) hne hne).trans h
theorem FldAt.frozen {w : World} {k : Nat} {tag : Int} {text : Bool} {num : Nat} {bv : Value} (h : FldAt w k tag text num bv) (j : Nat) : w.frozen? ⟨k, j, none⟩ = false := frozen_of_row _ _ j _ _ h
theorem Kept.past {c k : Nat} {x : Value} {j0 : Nat} {w w3 w5 : World} (h : Kept c c w w3) (ho : w5.os = (w3.setCell ⟨k, j0, none⟩ x).os ∧ w5.tape = (w3.setCell ⟨k, j0, none⟩ x).tape ∧ w5.output = (w3.setCell ⟨k, j0, none⟩ x).output) (hb : ∀ j, j < w.heap.size → w5.heap[j]? = w3.heap[j]?) (hs : w3.heap.size ≤ w5.heap.size) : Kept c c w w5 :=
  ⟨ho.1.trans h.os, ho.2.1.trans h.tape, ho.2.2.trans h.output, Nat.le_trans h.size hs, fun j hj h1 h2 => (hb j hj).trans (h.block j hj h1 h2)⟩
/-- what holds when field is entered: its result has been laid -/
structure Ent (w W0 : World) (l : List Nat) (b off n cap i c : Nat) : Prop where
  cur : CurAt W0 c (some ⟨b, off, none⟩) n cap i
  byt : Bytes W0 (some ⟨b, off, none⟩) l
  res : FldAt W0 w.heap.size 0 false 0 (.slice none 0 0)
  bel : Below w.heap.size w W0
  clt : c < w.heap.size
  kep : Kept c c w W0
theorem ent_of {w : World} {l : List Nat} {b off n cap i c : Nat} (hc : CurAt w c (some ⟨b, off, none⟩) n cap i) (hb : Bytes w (some ⟨b, off, none⟩) l) :
    ∃ W0, w.alloc (.cells #[.int .i64 0, .bool false, .int .u64 0, .slice none 0 0] 32) = W0 ∧ Ent w W0 l b off n cap i c := by
  have hB : Below w.heap.size w (w.alloc (.cells #[.int .i64 0, .bool false, .int .u64 0, .slice none 0 0] 32)) := (Below.refl _ _).alloc (Nat.le_refl _) _
  exact ⟨_, rfl, hc.keep hB, hb.keep hB, FldAt.new w 0 false 0 _, hB, lt_of_heap (show w.heap[c]? = _ from hc), Kept.of_below1 hB⟩
/-- behind a number: the cursor has gone on, all else is as it was -/
theorem Ent.on {w W0 w1 : World} {l : List Nat} {b off n cap i j c : Nat} (h : Ent w W0 l b off n cap i c) (hbc : b ≠ c) (hc : CurAt w1 c (some ⟨b, off, none⟩) n cap j) (hk : Kept c c W0 w1) : Bytes w1 (some ⟨b, off, none⟩) l ∧ FldAt w1 w.heap.size 0 false 0 (.slice none 0 0) ∧ Kept c c w w1 ∧ w.heap.size < w1.heap.size :=
  ⟨hk.bytes h.byt hbc hbc, h.res.kept hk (by have := h.clt; omega), h.kep.chain1 hk, Nat.lt_of_lt_of_le (lt_of_heap h.res) hk.size⟩
set_option maxRecDepth 20000 in
set_option maxHeartbeats 1000000 in
theorem field_bad1 (l : List Nat) (b off n cap i e c : Nat) (ahead : Int) (w : World) (hc : CurAt w c (some ⟨b, off, none⟩) n cap i) (hn : l.length = n) (hb : Bytes w (some ⟨b, off, none⟩) l) (hbc : b ≠ c) (hcap : n ≤ cap) (hl : n ≤ 1024) (hi : i ≤ n) (he : e ≠ 0) (hd : dec 0 0 (l.drop i) = (0, 0, e)) :
    Calls Try.prog 40 #[.pointer (some ⟨c, 0, none⟩), .int .i64 ahead] w fun r w' => r = errP e ∧ Kept c c w w' := by
  obtain ⟨W0, hW0, hE⟩ := ent_of hc hb
  have HE : Hid (Ent w W0 l b off n cap i c) := hE
  have HN : Hid (l.length = n) := hn
  have HD : Hid (_) := hd
  have T1 : Hid True := trivial
  clear hc hb hn hE hd
  go_enter Try.func40, Try.ntmps40
  go_wp2_with (go_at_call 49; refine (num_bad l b off n cap i e c W0 HE.out.cur HN.out HE.out.byt hcap hl hi he HD.out).mono ?_; rintro r w1 ⟨rfl, m, rfl⟩)
  exact body_panic ⟨rfl, HE.out.kep.drewN m⟩
set_option maxRecDepth 20000 in
set_option maxHeartbeats 1000000 in
theorem field_tagA (l : List Nat) (b off n cap i k n1 c : Nat) (ahead : Int) (w : World) (hc : CurAt w c (some ⟨b, off, none⟩) n cap i) (hn : l.length = n) (hb : Bytes w (some ⟨b, off, none⟩) l) (hbc : b ≠ c) (hcap : n ≤ cap) (hl : n ≤ 1024) (hi : i ≤ n) (hd : dec 0 0 (l.drop i) = (k, n1, 0)) (hk : k < 2) (hk2 : k ≤ 18446744073709551615) :
    Calls Try.prog 40 #[.pointer (some ⟨c, 0, none⟩), .int .i64 ahead] w fun r w' => r = errP 20 ∧ Kept c c w w' := by
  obtain ⟨W0, hW0, hE⟩ := ent_of hc hb
  have HE : Hid (Ent w W0 l b off n cap i c) := hE
  have HN : Hid (l.length = n) := hn
  have HD : Hid (_) := hd
  have T1 : Hid True := trivial
  clear hc hb hn hE hd
  go_enter Try.func40, Try.ntmps40
  go_wp2_with (go_at_call 49; clear T1; refine (num_ok l b off n cap i k n1 c W0 HE.out.cur HN.out HE.out.byt hcap hl hi HD.out).mono ?_; rintro r w1 ⟨rfl, hc1, hk1⟩; obtain ⟨hby1, hres1, hkw1, hsz1⟩ := HE.out.on hbc hc1 hk1; have HC1 : Hid (CurAt w1 c (some ⟨b, off, none⟩) n cap (i + n1) ∧ Bytes w1 (some ⟨b, off, none⟩) l ∧ FldAt w1 w.heap.size 0 false 0 (.slice none 0 0) ∧ Kept c c w w1) := ⟨hc1, hby1, hres1, hkw1⟩; clear hc1 hk1 hby1 hres1 hkw1)
  exact body_panic ⟨rfl, HC1.out.2.2.2⟩
set_option maxRecDepth 20000 in
set_option maxHeartbeats 1000000 in
theorem field_tagB (l : List Nat) (b off n cap i k n1 c : Nat) (ahead : Int) (w : World) (hc : CurAt w c (some ⟨b, off, none⟩) n cap i) (hn : l.length = n) (hb : Bytes w (some ⟨b, off, none⟩) l) (hbc : b ≠ c) (hcap : n ≤ cap) (hl : n ≤ 1024) (hi : i ≤ n) (hd : dec 0 0 (l.drop i) = (k, n1, 0)) (hk : 63 < k) (hk2 : k ≤ 18446744073709551615) :
    Calls Try.prog 40 #[.pointer (some ⟨c, 0, none⟩), .int .i64 ahead] w fun r w' => r = errP 20 ∧ Kept c c w w' := by
  obtain ⟨W0, hW0, hE⟩ := ent_of hc hb
  have HE : Hid (Ent w W0 l b off n cap i c) := hE
  have HN : Hid (l.length = n) := hn
  have HD : Hid (_) := hd
  have T1 : Hid True := trivial
  clear hc hb hn hE hd
  go_enter Try.func40, Try.ntmps40
  go_wp2_with (go_at_call 49; clear T1; refine (num_ok l b off n cap i k n1 c W0 HE.out.cur HN.out HE.out.byt hcap hl hi HD.out).mono ?_; rintro r w1 ⟨rfl, hc1, hk1⟩; obtain ⟨hby1, hres1, hkw1, hsz1⟩ := HE.out.on hbc hc1 hk1; have HC1 : Hid (CurAt w1 c (some ⟨b, off, none⟩) n cap (i + n1) ∧ Bytes w1 (some ⟨b, off, none⟩) l ∧ FldAt w1 w.heap.size 0 false 0 (.slice none 0 0) ∧ Kept c c w w1) := ⟨hc1, hby1, hres1, hkw1⟩; clear hc1 hk1 hby1 hres1 hkw1)
  exact body_panic ⟨rfl, HC1.out.2.2.2⟩
set_option maxRecDepth 20000 in
set_option maxHeartbeats 1000000 in
theorem field_ord (l : List Nat) (b off n cap i k n1 c : Nat) (ahead : Int) (w : World) (hc : CurAt w c (some ⟨b, off, none⟩) n cap i) (hn : l.length = n) (hb : Bytes w (some ⟨b, off, none⟩) l) (hbc : b ≠ c) (hcap : n ≤ cap) (hl : n ≤ 1024) (hi : i ≤ n) (hd : dec 0 0 (l.drop i) = (k, n1, 0)) (hk : 2 ≤ k) (hk2 : k ≤ 63) (ho : ((k / 2 : Nat) : Int) ≤ ahead) :
    Calls Try.prog 40 #[.pointer (some ⟨c, 0, none⟩), .int .i64 ahead] w fun r w' => r = errP 21 ∧ Kept c c w w' := by
  obtain ⟨W0, hW0, hE⟩ := ent_of hc hb
  have HE : Hid (Ent w W0 l b off n cap i c) := hE
  have HN : Hid (l.length = n) := hn
  have HD : Hid (_) := hd
  have T1 : Hid True := trivial
  clear hc hb hn hE hd
  go_enter Try.func40, Try.ntmps40
  go_wp2_with (go_at_call 49; clear T1; refine (num_ok l b off n cap i k n1 c W0 HE.out.cur HN.out HE.out.byt hcap hl hi HD.out).mono ?_; rintro r w1 ⟨rfl, hc1, hk1⟩; obtain ⟨hby1, hres1, hkw1, hsz1⟩ := HE.out.on hbc hc1 hk1; have HC1 : Hid (CurAt w1 c (some ⟨b, off, none⟩) n cap (i + n1) ∧ Bytes w1 (some ⟨b, off, none⟩) l ∧ FldAt w1 w.heap.size 0 false 0 (.slice none 0 0) ∧ Kept c c w w1) := ⟨hc1, hby1, hres1, hkw1⟩; clear hc1 hk1 hby1 hres1 hkw1)
  exact body_panic ⟨rfl, HC1.out.2.2.2.chain1 (Kept.of_below1 ((Below.refl _ _).alloc (Nat.le_refl _) _))⟩
/-- behind the first number: f lies in a block of its own -/
structure Mid (w w1 W2 : World) (l : List Nat) (b off n cap j c : Nat) (T : Nat) (p : Bool) : Prop where
  cur : CurAt W2 c (some ⟨b, off, none⟩) n cap j
  byt : Bytes W2 (some ⟨b, off, none⟩) l
  res : FldAt W2 w.heap.size 0 false 0 (.slice none 0 0)
  fld : FldAt W2 w1.heap.size T p 0 (.slice none 0 0)
  kep : Kept c c w W2
  clt : c < w.heap.size
  slt : w.heap.size < w1.heap.size
theorem mid_of {w w1 : World} {l : List Nat} {b off n cap j c T : Nat} {p : Bool} (hc : CurAt w1 c (some ⟨b, off, none⟩) n cap j) (hb : Bytes w1 (some ⟨b, off, none⟩) l) (hr : FldAt w1 w.heap.size 0 false 0 (.slice none 0 0)) (hk : Kept c c w w1) (hclt : c < w.heap.size) :
    ∃ W2, w1.alloc (.cells #[.int .i64 (T : Int), .bool p, .int .u64 0, .slice none 0 0] 32) = W2 ∧ Mid w w1 W2 l b off n cap j c T p := by
  have hB : Below w1.heap.size w1 (w1.alloc (.cells #[.int .i64 (T : Int), .bool p, .int .u64 0, .slice none 0 0] 32)) := (Below.refl _ _).alloc (Nat.le_refl _) _
  exact ⟨_, rfl, hc.keep hB, hb.keep hB, hr.keep hB, FldAt.new w1 T p 0 _, hk.chain1 (Kept.of_below1 hB), hclt, lt_of_heap hr⟩
/-- behind the second number -/
theorem Mid.on {w w1 W2 w3 : World} {l : List Nat} {b off n cap j j2 c T : Nat} {p : Bool} (h : Mid w w1 W2 l b off n cap j c T p) (hbc : b ≠ c) (hc : CurAt w3 c (some ⟨b, off, none⟩) n cap j2) (hk : Kept c c W2 w3) : Mid w w1 w3 l b off n cap j2 c T p :=
  ⟨hc, hk.bytes h.byt hbc hbc, h.res.kept hk (by have := h.clt; omega), h.fld.kept hk (by have := h.clt; have := h.slt; omega), h.kep.chain1 hk, h.clt, h.slt⟩
set_option maxRecDepth 20000 in
set_option maxHeartbeats 1000000 in
theorem field_bad2N (l : List Nat) (b off n cap i k n1 T e c : Nat) (ahead : Int) (w : World) (hc : CurAt w c (some ⟨b, off, none⟩) n cap i) (hn : l.length = n) (hb : Bytes w (some ⟨b, off, none⟩) l) (hbc : b ≠ c) (hcap : n ≤ cap) (hl : n ≤ 1024) (hi : i ≤ n) (hd : dec 0 0 (l.drop i) = (k, n1, 0)) (hTk : (k : Int) / 2 = (T : Int)) (hpk : ((k : Int) % 2 == 1) = false) (hT1 : 1 ≤ T) (hT31 : T ≤ 31) (hah : ahead < (T : Int)) (hi2 : i + n1 ≤ n) (he : e ≠ 0) (hd2 : dec 0 0 (l.drop (i + n1)) = (0, 0, e)) :
    Calls Try.prog 40 #[.pointer (some ⟨c, 0, none⟩), .int .i64 ahead] w fun r w' => r = errP e ∧ Kept c c w w' := by
  obtain ⟨W0, hW0, hE⟩ := ent_of hc hb
  have HE : Hid (Ent w W0 l b off n cap i c) := hE
  have HN : Hid (l.length = n) := hn
  have HD : Hid (_) := hd
  have T1 : Hid True := trivial
  have hT1I : (1 : Int) ≤ (T : Int) := by omega
  have hT31I : (T : Int) ≤ 31 := by omega
  have hna : ¬ (T : Int) ≤ ahead := by omega
  have T2 : Hid True := trivial
  have HD2 : Hid (_) := hd2
  have hkk : (k : Int) ≤ 18446744073709551615 := by omega
  clear hc hb hn hE hd hd2
  go_enter Try.func40, Try.ntmps40
  go_wp2_with (first
    | (go_at_call 49; clear T1; refine (num_ok l b off n cap i k n1 c W0 HE.out.cur HN.out HE.out.byt hcap hl hi HD.out).mono ?_; rintro r w1 ⟨rfl, hc1, hk1⟩; obtain ⟨hby1, hres1, hkw1, hsz1⟩ := HE.out.on hbc hc1 hk1; have HC1 : Hid (CurAt w1 c (some ⟨b, off, none⟩) n cap (i + n1) ∧ Bytes w1 (some ⟨b, off, none⟩) l ∧ FldAt w1 w.heap.size 0 false 0 (.slice none 0 0) ∧ Kept c c w w1) := ⟨hc1, hby1, hres1, hkw1⟩; obtain ⟨W2, hW2, hM⟩ := mid_of (T := T) (p := false) hc1 hby1 hres1 hkw1 HE.out.clt; have HM : Hid (Mid w w1 W2 l b off n cap (i + n1) c T false) := hM; have HW2 : Hid (_ = W2) := hW2; clear hc1 hk1 hby1 hres1 hkw1 hM HC1 hW2)
    | (go_at_call 49; rw [HW2.out]; refine (num_bad l b off n cap (i + n1) e c W2 HM.out.cur HN.out HM.out.byt hcap hl hi2 he HD2.out).mono ?_; rintro r w3 ⟨rfl, m, rfl⟩))
  exact body_panic ⟨rfl, HM.out.kep.drewN m⟩
set_option maxRecDepth 20000 in
set_option maxHeartbeats 1000000 in
theorem field_zeroN (l : List Nat) (b off n cap i k n1 T m c : Nat) (ahead : Int) (w : World) (hc : CurAt w c (some ⟨b, off, none⟩) n cap i) (hn : l.length = n) (hb : Bytes w (some ⟨b, off, none⟩) l) (hbc : b ≠ c) (hcap : n ≤ cap) (hl : n ≤ 1024) (hi : i ≤ n) (hd : dec 0 0 (l.drop i) = (k, n1, 0)) (hTk : (k : Int) / 2 = (T : Int)) (hpk : ((k : Int) % 2 == 1) = false) (hT1 : 1 ≤ T) (hT31 : T ≤ 31) (hah : ahead < (T : Int)) (hi2 : i + n1 ≤ n) (hd2 : dec 0 0 (l.drop (i + n1)) = (0, m, 0)) :
    Calls Try.prog 40 #[.pointer (some ⟨c, 0, none⟩), .int .i64 ahead] w fun r w' => r = errP 22 ∧ Kept c c w w' := by
  obtain ⟨W0, hW0, hE⟩ := ent_of hc hb
  have HE : Hid (Ent w W0 l b off n cap i c) := hE
  have HN : Hid (l.length = n) := hn
  have HD : Hid (_) := hd
  have T1 : Hid True := trivial
  have hT1I : (1 : Int) ≤ (T : Int) := by omega
  have hT31I : (T : Int) ≤ 31 := by omega
  have hna : ¬ (T : Int) ≤ ahead := by omega
  have T2 : Hid True := trivial
  have HD2 : Hid (_) := hd2
  have hkk : (k : Int) ≤ 18446744073709551615 := by omega
  clear hc hb hn hE hd hd2
  go_enter Try.func40, Try.ntmps40
  go_wp2_with (first
    | (go_at_call 49; clear T1; refine (num_ok l b off n cap i k n1 c W0 HE.out.cur HN.out HE.out.byt hcap hl hi HD.out).mono ?_; rintro r w1 ⟨rfl, hc1, hk1⟩; obtain ⟨hby1, hres1, hkw1, hsz1⟩ := HE.out.on hbc hc1 hk1; have HC1 : Hid (CurAt w1 c (some ⟨b, off, none⟩) n cap (i + n1) ∧ Bytes w1 (some ⟨b, off, none⟩) l ∧ FldAt w1 w.heap.size 0 false 0 (.slice none 0 0) ∧ Kept c c w w1) := ⟨hc1, hby1, hres1, hkw1⟩; obtain ⟨W2, hW2, hM⟩ := mid_of (T := T) (p := false) hc1 hby1 hres1 hkw1 HE.out.clt; have HM : Hid (Mid w w1 W2 l b off n cap (i + n1) c T false) := hM; have HW2 : Hid (_ = W2) := hW2; clear hc1 hk1 hby1 hres1 hkw1 hM HC1 hW2)
    | (go_at_call 49; rw [HW2.out]; refine (num_ok l b off n cap (i + n1) 0 m c W2 HM.out.cur HN.out HM.out.byt hcap hl hi2 HD2.out).mono ?_; rintro r w3 ⟨rfl, hc3, hk3⟩; have HM3 : Hid (Mid w w1 w3 l b off n cap (i + n1 + m) c T false) := HM.out.on hbc hc3 hk3; clear hc3 hk3))
  exact body_panic ⟨rfl, HM3.out.kep⟩
set_option maxRecDepth 20000 in
set_option maxHeartbeats 1000000 in
theorem field_bad2T (l : List Nat) (b off n cap i k n1 T e c : Nat) (ahead : Int) (w : World) (hc : CurAt w c (some ⟨b, off, none⟩) n cap i) (hn : l.length = n) (hb : Bytes w (some ⟨b, off, none⟩) l) (hbc : b ≠ c) (hcap : n ≤ cap) (hl : n ≤ 1024) (hi : i ≤ n) (hd : dec 0 0 (l.drop i) = (k, n1, 0)) (hTk : (k : Int) / 2 = (T : Int)) (hpk : ((k : Int) % 2 == 1) = true) (hT1 : 1 ≤ T) (hT31 : T ≤ 31) (hah : ahead < (T : Int)) (hi2 : i + n1 ≤ n) (he : e ≠ 0) (hd2 : dec 0 0 (l.drop (i + n1)) = (0, 0, e)) :
    Calls Try.prog 40 #[.pointer (some ⟨c, 0, none⟩), .int .i64 ahead] w fun r w' => r = errP e ∧ Kept c c w w' := by
  obtain ⟨W0, hW0, hE⟩ := ent_of hc hb
  have HE : Hid (Ent w W0 l b off n cap i c) := hE
  have HN : Hid (l.length = n) := hn
  have HD : Hid (_) := hd
  have T1 : Hid True := trivial
  have hT1I : (1 : Int) ≤ (T : Int) := by omega
  have hT31I : (T : Int) ≤ 31 := by omega
  have hna : ¬ (T : Int) ≤ ahead := by omega
  have T2 : Hid True := trivial
  have HD2 : Hid (_) := hd2
  have hkk : (k : Int) ≤ 18446744073709551615 := by omega
  clear hc hb hn hE hd hd2
  go_enter Try.func40, Try.ntmps40
  go_wp2_with (first
    | (go_at_call 49; clear T1; refine (num_ok l b off n cap i k n1 c W0 HE.out.cur HN.out HE.out.byt hcap hl hi HD.out).mono ?_; rintro r w1 ⟨rfl, hc1, hk1⟩; obtain ⟨hby1, hres1, hkw1, hsz1⟩ := HE.out.on hbc hc1 hk1; have HC1 : Hid (CurAt w1 c (some ⟨b, off, none⟩) n cap (i + n1) ∧ Bytes w1 (some ⟨b, off, none⟩) l ∧ FldAt w1 w.heap.size 0 false 0 (.slice none 0 0) ∧ Kept c c w w1) := ⟨hc1, hby1, hres1, hkw1⟩; obtain ⟨W2, hW2, hM⟩ := mid_of (T := T) (p := true) hc1 hby1 hres1 hkw1 HE.out.clt; have HM : Hid (Mid w w1 W2 l b off n cap (i + n1) c T true) := hM; have HW2 : Hid (_ = W2) := hW2; clear hc1 hk1 hby1 hres1 hkw1 hM HC1 hW2)
    | (go_at_call 49; rw [HW2.out]; refine (num_bad l b off n cap (i + n1) e c W2 HM.out.cur HN.out HM.out.byt hcap hl hi2 he HD2.out).mono ?_; rintro r w3 ⟨rfl, m, rfl⟩))
  exact body_panic ⟨rfl, HM.out.kep.drewN m⟩
set_option maxRecDepth 20000 in
set_option maxHeartbeats 1000000 in
theorem field_zeroT (l : List Nat) (b off n cap i k n1 T m c : Nat) (ahead : Int) (w : World) (hc : CurAt w c (some ⟨b, off, none⟩) n cap i) (hn : l.length = n) (hb : Bytes w (some ⟨b, off, none⟩) l) (hbc : b ≠ c) (hcap : n ≤ cap) (hl : n ≤ 1024) (hi : i ≤ n) (hd : dec 0 0 (l.drop i) = (k, n1, 0)) (hTk : (k : Int) / 2 = (T : Int)) (hpk : ((k : Int) % 2 == 1) = true) (hT1 : 1 ≤ T) (hT31 : T ≤ 31) (hah : ahead < (T : Int)) (hi2 : i + n1 ≤ n) (hd2 : dec 0 0 (l.drop (i + n1)) = (0, m, 0)) :
    Calls Try.prog 40 #[.pointer (some ⟨c, 0, none⟩), .int .i64 ahead] w fun r w' => r = errP 22 ∧ Kept c c w w' := by
  obtain ⟨W0, hW0, hE⟩ := ent_of hc hb
  have HE : Hid (Ent w W0 l b off n cap i c) := hE
  have HN : Hid (l.length = n) := hn
  have HD : Hid (_) := hd
  have T1 : Hid True := trivial
  have hT1I : (1 : Int) ≤ (T : Int) := by omega
  have hT31I : (T : Int) ≤ 31 := by omega
  have hna : ¬ (T : Int) ≤ ahead := by omega
  have T2 : Hid True := trivial
  have HD2 : Hid (_) := hd2
  have hkk : (k : Int) ≤ 18446744073709551615 := by omega
  clear hc hb hn hE hd hd2
  go_enter Try.func40, Try.ntmps40
  go_wp2_with (first
    | (go_at_call 49; clear T1; refine (num_ok l b off n cap i k n1 c W0 HE.out.cur HN.out HE.out.byt hcap hl hi HD.out).mono ?_; rintro r w1 ⟨rfl, hc1, hk1⟩; obtain ⟨hby1, hres1, hkw1, hsz1⟩ := HE.out.on hbc hc1 hk1; have HC1 : Hid (CurAt w1 c (some ⟨b, off, none⟩) n cap (i + n1) ∧ Bytes w1 (some ⟨b, off, none⟩) l ∧ FldAt w1 w.heap.size 0 false 0 (.slice none 0 0) ∧ Kept c c w w1) := ⟨hc1, hby1, hres1, hkw1⟩; obtain ⟨W2, hW2, hM⟩ := mid_of (T := T) (p := true) hc1 hby1 hres1 hkw1 HE.out.clt; have HM : Hid (Mid w w1 W2 l b off n cap (i + n1) c T true) := hM; have HW2 : Hid (_ = W2) := hW2; clear hc1 hk1 hby1 hres1 hkw1 hM HC1 hW2)
    | (go_at_call 49; rw [HW2.out]; refine (num_ok l b off n cap (i + n1) 0 m c W2 HM.out.cur HN.out HM.out.byt hcap hl hi2 HD2.out).mono ?_; rintro r w3 ⟨rfl, hc3, hk3⟩; have HM3 : Hid (Mid w w1 w3 l b off n cap (i + n1 + m) c T true) := HM.out.on hbc hc3 hk3; clear hc3 hk3))
  exact body_panic ⟨rfl, HM3.out.kep⟩
set_option maxRecDepth 20000 in
set_option maxHeartbeats 1000000 in
theorem field_num (l : List Nat) (b off n cap i k n1 T u m c : Nat) (ahead : Int) (w : World) (hc : CurAt w c (some ⟨b, off, none⟩) n cap i) (hn : l.length = n) (hb : Bytes w (some ⟨b, off, none⟩) l) (hbc : b ≠ c) (hcap : n ≤ cap) (hl : n ≤ 1024) (hi : i ≤ n) (hd : dec 0 0 (l.drop i) = (k, n1, 0)) (hTk : (k : Int) / 2 = (T : Int)) (hpk : ((k : Int) % 2 == 1) = false) (hT1 : 1 ≤ T) (hT31 : T ≤ 31) (hah : ahead < (T : Int)) (hi2 : i + n1 ≤ n) (hu : u ≠ 0) (hu2 : u ≤ 18446744073709551615) (hd2 : dec 0 0 (l.drop (i + n1)) = (u, m, 0)) :
    Calls Try.prog 40 #[.pointer (some ⟨c, 0, none⟩), .int .i64 ahead] w fun r w' => r = .returned (FV T false u (.slice none 0 0)) ∧ CurAt w' c (some ⟨b, off, none⟩) n cap (i + n1 + m) ∧ Kept c c w w' := by
  obtain ⟨W0, hW0, hE⟩ := ent_of hc hb
  have HE : Hid (Ent w W0 l b off n cap i c) := hE
  have HN : Hid (l.length = n) := hn
  have HD : Hid (_) := hd
  have T1 : Hid True := trivial
  have hT1I : (1 : Int) ≤ (T : Int) := by omega
  have hT31I : (T : Int) ≤ 31 := by omega
  have hna : ¬ (T : Int) ≤ ahead := by omega
  have T2 : Hid True := trivial
  have HD2 : Hid (_) := hd2
  have hkk : (k : Int) ≤ 18446744073709551615 := by omega
  clear hc hb hn hE hd hd2
  have hub : ((u : Int) == 0) = false := by simp; omega
  go_enter Try.func40, Try.ntmps40
  go_wp2_with (first
    | (go_at_call 49; clear T1; refine (num_ok l b off n cap i k n1 c W0 HE.out.cur HN.out HE.out.byt hcap hl hi HD.out).mono ?_; rintro r w1 ⟨rfl, hc1, hk1⟩; obtain ⟨hby1, hres1, hkw1, hsz1⟩ := HE.out.on hbc hc1 hk1; have HC1 : Hid (CurAt w1 c (some ⟨b, off, none⟩) n cap (i + n1) ∧ Bytes w1 (some ⟨b, off, none⟩) l ∧ FldAt w1 w.heap.size 0 false 0 (.slice none 0 0) ∧ Kept c c w w1) := ⟨hc1, hby1, hres1, hkw1⟩; obtain ⟨W2, hW2, hM⟩ := mid_of (T := T) (p := false) hc1 hby1 hres1 hkw1 HE.out.clt; have HM : Hid (Mid w w1 W2 l b off n cap (i + n1) c T false) := hM; have HW2 : Hid (_ = W2) := hW2; clear hc1 hk1 hby1 hres1 hkw1 hM HC1 hW2)
    | (go_at_call 49; rw [HW2.out]; refine (num_ok l b off n cap (i + n1) u m c W2 HM.out.cur HN.out HM.out.byt hcap hl hi2 HD2.out).mono ?_; rintro r w3 ⟨rfl, hc3, hk3⟩; have hM3 := HM.out.on hbc hc3 hk3; have HM3 : Hid (Mid w w1 w3 l b off n cap (i + n1 + m) c T false) := hM3; have hf3 := hM3.fld; obtain ⟨g0, g1, g2, g3⟩ := hf3.cells; have z2 := hf3.frozen 2; have z3 := hf3.frozen 3; have hne : ¬ w1.heap.size = w.heap.size := (by have := hM3.slt; omega); clear hc3 hk3 hM3 hf3)
    | ((with_reducible refine guard_load 32 ?_); refine wpList_load_fld rfl _ rfl (HM3.out.fld.setNum u) rfl ?_)
    | ((with_reducible refine guard_store 32 ?_); refine wpList_store_fld rfl _ _ rfl (k := w.heap.size) (num2 := u) (show FldAt (w3.setCell ⟨w1.heap.size, 2, none⟩ (.int .u64 (u : Int))) w.heap.size 0 false 0 (.slice none 0 0) from (heap_setCell_other w3 ⟨w1.heap.size, 2, none⟩ w.heap.size _ (fun h => hne h.symm)).trans HM3.out.res) rfl rfl rfl ?_; intro w5 hf5 hos5 hk5 hs5))
  exact bodyPost_ret (results_fld rfl _ _ _ rfl hf5) rfl ⟨rfl, (hk5 c (by have := HM3.out.clt; omega)).trans ((heap_setCell_other w3 ⟨w1.heap.size, 2, none⟩ c _ (by have := HM3.out.clt; have := HM3.out.slt; show c ≠ w1.heap.size; omega)).trans HM3.out.cur), HM3.out.kep.past hos5 (fun j hj => (hk5 j (by omega)).trans (heap_setCell_other w3 ⟨w1.heap.size, 2, none⟩ j _ (by have := HM3.out.slt; show j ≠ w1.heap.size; omega))) (by rw [hs5]; simp)⟩
set_option maxRecDepth 20000 in
set_option maxHeartbeats 1000000 in
theorem field_long (l : List Nat) (b off n cap i k n1 T u m c : Nat) (ahead : Int) (w : World) (hc : CurAt w c (some ⟨b, off, none⟩) n cap i) (hn : l.length = n) (hb : Bytes w (some ⟨b, off, none⟩) l) (hbc : b ≠ c) (hcap : n ≤ cap) (hl : n ≤ 1024) (hi : i ≤ n) (hd : dec 0 0 (l.drop i) = (k, n1, 0)) (hTk : (k : Int) / 2 = (T : Int)) (hpk : ((k : Int) % 2 == 1) = true) (hT1 : 1 ≤ T) (hT31 : T ≤ 31) (hah : ahead < (T : Int)) (hi2 : i + n1 ≤ n) (hu : u ≠ 0) (hu2 : u ≤ 18446744073709551615) (hd2 : dec 0 0 (l.drop (i + n1)) = (u, m, 0)) (hi3 : i + n1 + m ≤ n) (h200 : 200 < u) :
    Calls Try.prog 40 #[.pointer (some ⟨c, 0, none⟩), .int .i64 ahead] w fun r w' => r = errP 23 ∧ Kept c c w w' := by
  obtain ⟨W0, hW0, hE⟩ := ent_of hc hb
  have HE : Hid (Ent w W0 l b off n cap i c) := hE
  have HN : Hid (l.length = n) := hn
  have HD : Hid (_) := hd
  have T1 : Hid True := trivial
  have hT1I : (1 : Int) ≤ (T : Int) := by omega
  have hT31I : (T : Int) ≤ 31 := by omega
  have hna : ¬ (T : Int) ≤ ahead := by omega
  have T2 : Hid True := trivial
  have HD2 : Hid (_) := hd2
  have hkk : (k : Int) ≤ 18446744073709551615 := by omega
  clear hc hb hn hE hd hd2
  have hub : ((u : Int) == 0) = false := by simp; omega
  go_enter Try.func40, Try.ntmps40
  go_wp2_with (first
    | (go_at_call 49; clear T1; refine (num_ok l b off n cap i k n1 c W0 HE.out.cur HN.out HE.out.byt hcap hl hi HD.out).mono ?_; rintro r w1 ⟨rfl, hc1, hk1⟩; obtain ⟨hby1, hres1, hkw1, hsz1⟩ := HE.out.on hbc hc1 hk1; have HC1 : Hid (CurAt w1 c (some ⟨b, off, none⟩) n cap (i + n1) ∧ Bytes w1 (some ⟨b, off, none⟩) l ∧ FldAt w1 w.heap.size 0 false 0 (.slice none 0 0) ∧ Kept c c w w1) := ⟨hc1, hby1, hres1, hkw1⟩; obtain ⟨W2, hW2, hM⟩ := mid_of (T := T) (p := true) hc1 hby1 hres1 hkw1 HE.out.clt; have HM : Hid (Mid w w1 W2 l b off n cap (i + n1) c T true) := hM; have HW2 : Hid (_ = W2) := hW2; clear hc1 hk1 hby1 hres1 hkw1 hM HC1 hW2)
    | (go_at_call 49; rw [HW2.out]; refine (num_ok l b off n cap (i + n1) u m c W2 HM.out.cur HN.out HM.out.byt hcap hl hi2 HD2.out).mono ?_; rintro r w3 ⟨rfl, hc3, hk3⟩; have hM3 := HM.out.on hbc hc3 hk3; have HM3 : Hid (Mid w w1 w3 l b off n cap (i + n1 + m) c T true) := hM3; have hf3 := hM3.fld; obtain ⟨g0, g1, g2, g3⟩ := hf3.cells; have hne : ¬ w1.heap.size = w.heap.size := (by have := hM3.slt; omega); clear hc3 hk3 hM3 hf3)
    | (go_at_call 50; refine (text_long b off n cap (i + n1 + m) u c w3 HM3.out.cur h200 hu2).mono ?_; rintro r w5 ⟨rfl, rfl⟩))
  exact body_panic ⟨rfl, HM3.out.kep⟩
set_option maxRecDepth 20000 in
set_option maxHeartbeats 1000000 in
theorem field_short (l : List Nat) (b off n cap i k n1 T u m c : Nat) (ahead : Int) (w : World) (hc : CurAt w c (some ⟨b, off, none⟩) n cap i) (hn : l.length = n) (hb : Bytes w (some ⟨b, off, none⟩) l) (hbc : b ≠ c) (hcap : n ≤ cap) (hl : n ≤ 1024) (hi : i ≤ n) (hd : dec 0 0 (l.drop i) = (k, n1, 0)) (hTk : (k : Int) / 2 = (T : Int)) (hpk : ((k : Int) % 2 == 1) = true) (hT1 : 1 ≤ T) (hT31 : T ≤ 31) (hah : ahead < (T : Int)) (hi2 : i + n1 ≤ n) (hu : u ≠ 0) (hu2 : u ≤ 18446744073709551615) (hd2 : dec 0 0 (l.drop (i + n1)) = (u, m, 0)) (hi3 : i + n1 + m ≤ n) (h200 : ¬ 200 < u) (hsh : n < i + n1 + m + u) :
    Calls Try.prog 40 #[.pointer (some ⟨c, 0, none⟩), .int .i64 ahead] w fun r w' => r = errP 10 ∧ Kept c c w w' := by
  obtain ⟨W0, hW0, hE⟩ := ent_of hc hb
  have HE : Hid (Ent w W0 l b off n cap i c) := hE
  have HN : Hid (l.length = n) := hn
  have HD : Hid (_) := hd
  have T1 : Hid True := trivial
  have hT1I : (1 : Int) ≤ (T : Int) := by omega
  have hT31I : (T : Int) ≤ 31 := by omega
  have hna : ¬ (T : Int) ≤ ahead := by omega
  have T2 : Hid True := trivial
  have HD2 : Hid (_) := hd2
  have hkk : (k : Int) ≤ 18446744073709551615 := by omega
  clear hc hb hn hE hd hd2
  have hub : ((u : Int) == 0) = false := by simp; omega
  go_enter Try.func40, Try.ntmps40
  go_wp2_with (first
    | (go_at_call 49; clear T1; refine (num_ok l b off n cap i k n1 c W0 HE.out.cur HN.out HE.out.byt hcap hl hi HD.out).mono ?_; rintro r w1 ⟨rfl, hc1, hk1⟩; obtain ⟨hby1, hres1, hkw1, hsz1⟩ := HE.out.on hbc hc1 hk1; have HC1 : Hid (CurAt w1 c (some ⟨b, off, none⟩) n cap (i + n1) ∧ Bytes w1 (some ⟨b, off, none⟩) l ∧ FldAt w1 w.heap.size 0 false 0 (.slice none 0 0) ∧ Kept c c w w1) := ⟨hc1, hby1, hres1, hkw1⟩; obtain ⟨W2, hW2, hM⟩ := mid_of (T := T) (p := true) hc1 hby1 hres1 hkw1 HE.out.clt; have HM : Hid (Mid w w1 W2 l b off n cap (i + n1) c T true) := hM; have HW2 : Hid (_ = W2) := hW2; clear hc1 hk1 hby1 hres1 hkw1 hM HC1 hW2)
    | (go_at_call 49; rw [HW2.out]; refine (num_ok l b off n cap (i + n1) u m c W2 HM.out.cur HN.out HM.out.byt hcap hl hi2 HD2.out).mono ?_; rintro r w3 ⟨rfl, hc3, hk3⟩; have hM3 := HM.out.on hbc hc3 hk3; have HM3 : Hid (Mid w w1 w3 l b off n cap (i + n1 + m) c T true) := hM3; have hf3 := hM3.fld; obtain ⟨g0, g1, g2, g3⟩ := hf3.cells; have hne : ¬ w1.heap.size = w.heap.size := (by have := hM3.slt; omega); clear hc3 hk3 hM3 hf3)
    | (go_at_call 50; refine (text_short b off n cap (i + n1 + m) u c w3 HM3.out.cur h200 hl hi3 hsh).mono ?_; rintro r w5 ⟨rfl, mm, rfl⟩))
  exact body_panic ⟨rfl, HM3.out.kep.drewN mm⟩
set_option maxRecDepth 20000 in
set_option maxHeartbeats 1000000 in
theorem field_text (l : List Nat) (b off n cap i k n1 T u m c : Nat) (ahead : Int) (w : World) (hc : CurAt w c (some ⟨b, off, none⟩) n cap i) (hn : l.length = n) (hb : Bytes w (some ⟨b, off, none⟩) l) (hbc : b ≠ c) (hcap : n ≤ cap) (hl : n ≤ 1024) (hi : i ≤ n) (hd : dec 0 0 (l.drop i) = (k, n1, 0)) (hTk : (k : Int) / 2 = (T : Int)) (hpk : ((k : Int) % 2 == 1) = true) (hT1 : 1 ≤ T) (hT31 : T ≤ 31) (hah : ahead < (T : Int)) (hi2 : i + n1 ≤ n) (hu : u ≠ 0) (hu2 : u ≤ 18446744073709551615) (hd2 : dec 0 0 (l.drop (i + n1)) = (u, m, 0)) (hi3 : i + n1 + m ≤ n) (h200 : ¬ 200 < u) (hsh : i + n1 + m + u ≤ n) :
    Calls Try.prog 40 #[.pointer (some ⟨c, 0, none⟩), .int .i64 ahead] w fun r w' => ∃ bv, r = .returned (FV T true 0 bv) ∧ Own w' w.heap.size bv ((l.drop (i + n1 + m)).take u) ∧ CurAt w' c (some ⟨b, off, none⟩) n cap (i + n1 + m + u) ∧ Kept c c w w' := by
  obtain ⟨W0, hW0, hE⟩ := ent_of hc hb
  have HE : Hid (Ent w W0 l b off n cap i c) := hE
  have HN : Hid (l.length = n) := hn
  have HD : Hid (_) := hd
  have T1 : Hid True := trivial
  have hT1I : (1 : Int) ≤ (T : Int) := by omega
  have hT31I : (T : Int) ≤ 31 := by omega
  have hna : ¬ (T : Int) ≤ ahead := by omega
  have T2 : Hid True := trivial
  have HD2 : Hid (_) := hd2
  have hkk : (k : Int) ≤ 18446744073709551615 := by omega
  clear hc hb hn hE hd hd2
  have hub : ((u : Int) == 0) = false := by simp; omega
  go_enter Try.func40, Try.ntmps40
  go_wp2_with (first
    | (go_at_call 49; clear T1; refine (num_ok l b off n cap i k n1 c W0 HE.out.cur HN.out HE.out.byt hcap hl hi HD.out).mono ?_; rintro r w1 ⟨rfl, hc1, hk1⟩; obtain ⟨hby1, hres1, hkw1, hsz1⟩ := HE.out.on hbc hc1 hk1; have HC1 : Hid (CurAt w1 c (some ⟨b, off, none⟩) n cap (i + n1) ∧ Bytes w1 (some ⟨b, off, none⟩) l ∧ FldAt w1 w.heap.size 0 false 0 (.slice none 0 0) ∧ Kept c c w w1) := ⟨hc1, hby1, hres1, hkw1⟩; obtain ⟨W2, hW2, hM⟩ := mid_of (T := T) (p := true) hc1 hby1 hres1 hkw1 HE.out.clt; have HM : Hid (Mid w w1 W2 l b off n cap (i + n1) c T true) := hM; have HW2 : Hid (_ = W2) := hW2; clear hc1 hk1 hby1 hres1 hkw1 hM HC1 hW2)
    | (go_at_call 49; rw [HW2.out]; refine (num_ok l b off n cap (i + n1) u m c W2 HM.out.cur HN.out HM.out.byt hcap hl hi2 HD2.out).mono ?_; rintro r w3 ⟨rfl, hc3, hk3⟩; have hM3 := HM.out.on hbc hc3 hk3; have HM3 : Hid (Mid w w1 w3 l b off n cap (i + n1 + m) c T true) := hM3; have hf3 := hM3.fld; obtain ⟨g0, g1, g2, g3⟩ := hf3.cells; have hne : ¬ w1.heap.size = w.heap.size := (by have := hM3.slt; omega); clear hc3 hk3 hM3 hf3)
    | (go_at_call 50; refine (text_ok l b off n cap (i + n1 + m) u c w3 HM3.out.cur HN.out HM3.out.byt hcap h200 (by omega) hl hsh).mono ?_; rintro r w5 ⟨v, rfl, ho5, hc5, hk5⟩; obtain ⟨a5, cap5, rfl, _, _, _, _⟩ := ho5.shape; have hM5 := HM3.out.on hbc hc5 hk5; have HM5 : Hid (Mid w w1 w5 l b off n cap (i + n1 + m + u) c T true) := hM5; obtain ⟨_, _, _, q3⟩ := hM5.fld.cells; have z3 := hM5.fld.frozen 3; have HO5 : Hid (Own w5 w3.heap.size _ ((l.drop (i + n1 + m)).take u)) := ho5; have HS5 : Hid (w1.heap.size < w3.heap.size) := lt_of_heap HM3.out.fld; clear hM5 ho5 hc5 hk5)
    | ((with_reducible refine guard_load 32 ?_); refine wpList_load_fld rfl _ rfl (HM5.out.fld.setBytes _) rfl ?_)
    | ((with_reducible refine guard_store 32 ?_); refine wpList_store_fld rfl _ _ rfl (k := w.heap.size) (num2 := 0) ((heap_setCell_other w5 ⟨w1.heap.size, 3, none⟩ w.heap.size _ (fun h => hne h.symm)).trans HM5.out.res) rfl rfl rfl ?_; intro w6 hf6 hos6 hk6 hs6))
  refine bodyPost_ret (results_fld rfl _ _ _ rfl hf6) rfl ⟨_, rfl, ⟨HO5.out.1, ?_⟩, (hk6 c (by have := HM5.out.clt; omega)).trans ((heap_setCell_other w5 ⟨w1.heap.size, 3, none⟩ c _ (by have := HM5.out.clt; have := HM5.out.slt; show c ≠ w1.heap.size; omega)).trans HM5.out.cur), HM5.out.kep.past hos6 (fun j hj => (hk6 j (by omega)).trans (heap_setCell_other w5 ⟨w1.heap.size, 3, none⟩ j _ (by have := HM5.out.slt; show j ≠ w1.heap.size; omega))) (by rw [hs6]; simp)⟩
  have hmo := own_same (w' := w6) HO5.out.2 (fun k (hk : w3.heap.size ≤ k) => (hk6 k (by have := HM5.out.slt; have := HS5.out; omega)).trans (heap_setCell_other w5 ⟨w1.heap.size, 3, none⟩ k _ (by have := HS5.out; show k ≠ w1.heap.size; omega)))
  rw [show min u (l.length - (i + n1 + m)) = ((l.drop (i + n1 + m)).take u).length from by simp]
  refine World.ownsRow.mono (base' := w.heap.size) hmo ?_
  have := HM5.out.slt; have := HS5.out; omega
end Go.Proofs.Ytbdgiecnhgiogaa
