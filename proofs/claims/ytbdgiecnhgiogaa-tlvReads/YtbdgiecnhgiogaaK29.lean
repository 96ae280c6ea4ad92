/- Own texts, joined: Tlr. -/
import Derived.Test.YtbdgiecnhgiogaaK16
import Derived.Test.YtbdgiecnhgiogaaK28
import Derived.Test.YtbdgiecnhgiogaaK19
namespace Go.Proofs.Ytbdgiecnhgiogaa
open Go.ChangeShapes Go.WideShapes Go.ChangeAt Go.RowKit
set_option linter.unusedVariables false
theorem results_fld3 {fn : Func} {p u v : Tmp} (h : fn.results = #[.cell p 32, .tmp u, .tmp v]) (tmps : Array Value) (w : World) (k : Nat) {tag : Int} {text : Bool} {num : Nat} {bv x y : Value} (hp : tmps.getD p undef = .pointer (some ⟨k, 0, none⟩)) (hx : tmps.getD u undef = x) (hy : tmps.getD v undef = y) (hl : FldAt w k tag text num bv) :
    (results fn tmps).run Try.prog w = .ok (.tuple #[FV tag text num bv, x, y]) w := by
  simp only [Array.getD_eq_getD_getElem?] at hp hx hy
  simp [results, h, hp, hx, hy, asAddr, hl.loadVar]
/-- what holds when Next is entered: its result and none lie in blocks of their own -/
structure Rin (w W : World) (a : Option Addr) (l : List Nat) : Prop where
  res : FldAt W w.heap.size 0 false 0 (.slice none 0 0)
  non : FldAt W (w.heap.size + 1) 0 false 0 (.slice none 0 0)
  byt : Bytes W a l
  bel : Below w.heap.size w W
theorem rin_of {w : World} {a : Option Addr} {l : List Nat} (hb : Bytes w a l) : ∃ W, (w.alloc (.cells #[.int .i64 0, .bool false, .int .u64 0, .slice none 0 0] 32)).alloc (.cells #[.int .i64 0, .bool false, .int .u64 0, .slice none 0 0] 32) = W ∧ Rin w W a l := by
  have h1 : Below w.heap.size w (w.alloc (.cells #[.int .i64 0, .bool false, .int .u64 0, .slice none 0 0] 32)) := (Below.refl _ _).alloc (Nat.le_refl _) _
  have h2 : Below (w.alloc (.cells #[.int .i64 0, .bool false, .int .u64 0, .slice none 0 0] 32)).heap.size (w.alloc (.cells #[.int .i64 0, .bool false, .int .u64 0, .slice none 0 0] 32)) ((w.alloc (.cells #[.int .i64 0, .bool false, .int .u64 0, .slice none 0 0] 32)).alloc (.cells #[.int .i64 0, .bool false, .int .u64 0, .slice none 0 0] 32)) := (Below.refl _ _).alloc (Nat.le_refl _) _
  refine ⟨_, rfl, (FldAt.new w 0 false 0 _).keep h2, ?_, (hb.keep h1).keep h2, h1.trans (h2.mono h1.size)⟩
  have h := FldAt.new (w.alloc (.cells #[.int .i64 0, .bool false, .int .u64 0, .slice none 0 0] 32)) 0 false 0 (.slice none 0 0)
  simpa using h
theorem Rin.end {w W w5 : World} {a : Option Addr} {l : List Nat} (h : Rin w W a l) (ho : w5.os = W.os ∧ w5.tape = W.tape ∧ w5.output = W.output) (hk : ∀ j, j ≠ w.heap.size → w5.heap[j]? = W.heap[j]?) (hs : w5.heap.size = W.heap.size) : Below w.heap.size w w5 :=
  ⟨ho.1.trans h.bel.os, ho.2.1.trans h.bel.tape, ho.2.2.trans h.bel.output, by rw [hs]; exact h.bel.size, fun k hk2 => (hk k (by omega)).trans (h.bel.block k hk2)⟩
set_option maxRecDepth 20000 in
set_option maxHeartbeats 1000000 in
theorem rnext_bad1 (l : List Nat) (a : Option Addr) (n cap e : Nat) (last : Int) (w : World) (hn : l.length = n) (hb : Bytes w a l) (hcap : n ≤ cap) (hl : n ≤ 1024) (he : e ≠ 0) (hd : dec 0 0 l = (0, 0, e)) :
    Calls Try.prog 33 #[.slice a n cap, .int .i64 last] w fun r w' => r = .returned (.tuple #[FV 0 false 0 (.slice none 0 0), .int .i64 0, .int .i64 (e : Int)]) ∧ Below w.heap.size w w' := by
  obtain ⟨W, hW, hR⟩ := rin_of hb
  have HW : Hid (_ = W) := hW
  have HR : Hid (Rin w W a l) := hR
  have HN : Hid (l.length = n) := hn
  have HD : Hid (_) := hd
  have hlm : l.length ≤ maxLen := by unfold maxLen; omega
  have T1 : Hid True := trivial
  clear hb hn hd hW hR
  have heb : ((e : Int) != 0) = true := by simp; omega
  go_enter Try.func33, Try.ntmps33
  go_wp2_with (first
    | (go_at_call 45; clear T1; rw [HW.out]; refine (rdec_at l n 0 0 e a cap W HN.out HD.out HR.out.byt hlm).mono ?_; rintro x w1 ⟨rfl, hw1⟩; subst hw1)
    | ((with_reducible refine guard_load 32 ?_); refine wpList_load_fld rfl _ rfl HR.out.non rfl ?_)
    | ((with_reducible refine guard_store 32 ?_); refine wpList_store_fld rfl _ _ rfl (k := w.heap.size) (num2 := 0) HR.out.res rfl rfl rfl ?_; intro w5 hf5 hos5 hk5 hs5))
  all_goals
    refine bodyPost_ret (results_fld3 rfl _ _ _ rfl rfl rfl hf5) rfl ?_
    exact ⟨rfl, HR.out.end hos5 hk5 hs5⟩
set_option maxRecDepth 20000 in
set_option maxHeartbeats 1000000 in
theorem rnext_tagA (l : List Nat) (b off : Nat) (n cap k n1 : Nat) (last : Int) (w : World) (hn : l.length = n) (hb : Bytes w (some ⟨b, off, none⟩) l) (hcap : n ≤ cap) (hl : n ≤ 1024) (hd : dec 0 0 l = (k, n1, 0)) (hk : k < 2) :
    Calls Try.prog 33 #[.slice (some ⟨b, off, none⟩) n cap, .int .i64 last] w fun r w' => r = .returned (.tuple #[FV 0 false 0 (.slice none 0 0), .int .i64 0, .int .i64 20]) ∧ Below w.heap.size w w' := by
  obtain ⟨W, hW, hR⟩ := rin_of hb
  have HW : Hid (_ = W) := hW
  have HR : Hid (Rin w W (some ⟨b, off, none⟩) l) := hR
  have HN : Hid (l.length = n) := hn
  have HD : Hid (_) := hd
  have hlm : l.length ≤ maxLen := by unfold maxLen; omega
  have T1 : Hid True := trivial
  clear hb hn hd hW hR
  go_enter Try.func33, Try.ntmps33
  go_wp2_with (first
    | (go_at_call 45; clear T1; rw [HW.out]; refine (rdec_at l n k n1 0 (some ⟨b, off, none⟩) cap W HN.out HD.out HR.out.byt hlm).mono ?_; rintro x w1 ⟨rfl, hw1⟩; subst hw1)
    | ((with_reducible refine guard_load 32 ?_); refine wpList_load_fld rfl _ rfl HR.out.non rfl ?_)
    | ((with_reducible refine guard_store 32 ?_); refine wpList_store_fld rfl _ _ rfl (k := w.heap.size) (num2 := 0) HR.out.res rfl rfl rfl ?_; intro w5 hf5 hos5 hk5 hs5))
  all_goals
    refine bodyPost_ret (results_fld3 rfl _ _ _ rfl rfl rfl hf5) rfl ?_
    exact ⟨rfl, HR.out.end hos5 hk5 hs5⟩
set_option maxRecDepth 20000 in
set_option maxHeartbeats 1000000 in
theorem rnext_tagB (l : List Nat) (b off : Nat) (n cap k n1 : Nat) (last : Int) (w : World) (hn : l.length = n) (hb : Bytes w (some ⟨b, off, none⟩) l) (hcap : n ≤ cap) (hl : n ≤ 1024) (hd : dec 0 0 l = (k, n1, 0)) (hk : 63 < k) (hk2 : k ≤ 18446744073709551615) :
    Calls Try.prog 33 #[.slice (some ⟨b, off, none⟩) n cap, .int .i64 last] w fun r w' => r = .returned (.tuple #[FV 0 false 0 (.slice none 0 0), .int .i64 0, .int .i64 20]) ∧ Below w.heap.size w w' := by
  obtain ⟨W, hW, hR⟩ := rin_of hb
  have HW : Hid (_ = W) := hW
  have HR : Hid (Rin w W (some ⟨b, off, none⟩) l) := hR
  have HN : Hid (l.length = n) := hn
  have HD : Hid (_) := hd
  have hlm : l.length ≤ maxLen := by unfold maxLen; omega
  have T1 : Hid True := trivial
  clear hb hn hd hW hR
  go_enter Try.func33, Try.ntmps33
  go_wp2_with (first
    | (go_at_call 45; clear T1; rw [HW.out]; refine (rdec_at l n k n1 0 (some ⟨b, off, none⟩) cap W HN.out HD.out HR.out.byt hlm).mono ?_; rintro x w1 ⟨rfl, hw1⟩; subst hw1)
    | ((with_reducible refine guard_load 32 ?_); refine wpList_load_fld rfl _ rfl HR.out.non rfl ?_)
    | ((with_reducible refine guard_store 32 ?_); refine wpList_store_fld rfl _ _ rfl (k := w.heap.size) (num2 := 0) HR.out.res rfl rfl rfl ?_; intro w5 hf5 hos5 hk5 hs5))
  all_goals
    refine bodyPost_ret (results_fld3 rfl _ _ _ rfl rfl rfl hf5) rfl ?_
    exact ⟨rfl, HR.out.end hos5 hk5 hs5⟩
set_option maxRecDepth 20000 in
set_option maxHeartbeats 1000000 in
theorem rnext_ord (l : List Nat) (b off : Nat) (n cap k n1 T : Nat) (last : Int) (w : World) (hn : l.length = n) (hb : Bytes w (some ⟨b, off, none⟩) l) (hcap : n ≤ cap) (hl : n ≤ 1024) (hd : dec 0 0 l = (k, n1, 0)) (hk : 2 ≤ k) (hk2 : k ≤ 63) (hTk : (k : Int) / 2 = (T : Int)) (ho : (T : Int) ≤ last) :
    Calls Try.prog 33 #[.slice (some ⟨b, off, none⟩) n cap, .int .i64 last] w fun r w' => r = .returned (.tuple #[FV 0 false 0 (.slice none 0 0), .int .i64 0, .int .i64 21]) ∧ Below w.heap.size w w' := by
  obtain ⟨W, hW, hR⟩ := rin_of hb
  have HW : Hid (_ = W) := hW
  have HR : Hid (Rin w W (some ⟨b, off, none⟩) l) := hR
  have HN : Hid (l.length = n) := hn
  have HD : Hid (_) := hd
  have hlm : l.length ≤ maxLen := by unfold maxLen; omega
  have T1 : Hid True := trivial
  clear hb hn hd hW hR
  go_enter Try.func33, Try.ntmps33
  go_wp2_with (first
    | (go_at_call 45; clear T1; rw [HW.out]; refine (rdec_at l n k n1 0 (some ⟨b, off, none⟩) cap W HN.out HD.out HR.out.byt hlm).mono ?_; rintro x w1 ⟨rfl, hw1⟩; subst hw1)
    | ((with_reducible refine guard_load 32 ?_); refine wpList_load_fld rfl _ rfl HR.out.non rfl ?_)
    | ((with_reducible refine guard_store 32 ?_); refine wpList_store_fld rfl _ _ rfl (k := w.heap.size) (num2 := 0) HR.out.res rfl rfl rfl ?_; intro w5 hf5 hos5 hk5 hs5))
  all_goals
    refine bodyPost_ret (results_fld3 rfl _ _ _ rfl rfl rfl hf5) rfl ?_
    exact ⟨rfl, HR.out.end hos5 hk5 hs5⟩
set_option maxRecDepth 20000 in
set_option maxHeartbeats 1000000 in
theorem rnext_bad2 (l : List Nat) (b off : Nat) (n cap k n1 T e : Nat) (last : Int) (w : World) (hn : l.length = n) (hb : Bytes w (some ⟨b, off, none⟩) l) (hcap : n ≤ cap) (hl : n ≤ 1024) (hd : dec 0 0 l = (k, n1, 0)) (hk : 2 ≤ k) (hk2 : k ≤ 63) (hTk : (k : Int) / 2 = (T : Int)) (hna : ¬ (T : Int) ≤ last) (hlt : n1 < n) (he : e ≠ 0) (hd2 : dec 0 0 (l.drop n1) = (0, 0, e)) :
    Calls Try.prog 33 #[.slice (some ⟨b, off, none⟩) n cap, .int .i64 last] w fun r w' => r = .returned (.tuple #[FV 0 false 0 (.slice none 0 0), .int .i64 0, .int .i64 (e : Int)]) ∧ Below w.heap.size w w' := by
  obtain ⟨W, hW, hR⟩ := rin_of hb
  have HW : Hid (_ = W) := hW
  have HR : Hid (Rin w W (some ⟨b, off, none⟩) l) := hR
  have HN : Hid (l.length = n) := hn
  have HD : Hid (_) := hd
  have hlm : l.length ≤ maxLen := by unfold maxLen; omega
  have T1 : Hid True := trivial
  clear hb hn hd hW hR
  have HD2 : Hid (_) := hd2
  have hn1I : (n1 : Int) ≤ (n : Int) := by omega
  have hn1c : (n1 : Int) ≤ (cap : Int) := by omega
  have hn0 : (0 : Int) ≤ (n1 : Int) := by omega
  have hnI : (n : Int) ≤ 1024 := by omega
  have HL2 : Hid ((l.drop n1).length = n - n1) := by show _ = _; rw [List.length_drop, HN.out]
  have HM2 : Hid ((l.drop n1).length ≤ maxLen) := by show _ ≤ _; rw [HL2.out]; unfold maxLen; omega
  have HB2 : Hid (Bytes W (some ⟨b, off + n1, none⟩) (l.drop n1)) := HR.out.byt.drop n1
  clear hd2
  have hcn : ¬ cap = n1 := by omega
  have heb : ((e : Int) != 0) = true := by simp; omega
  go_enter Try.func33, Try.ntmps33
  go_wp2_with (first
    | (go_at_call 45; clear T1; rw [HW.out]; refine (rdec_at l n k n1 0 (some ⟨b, off, none⟩) cap W HN.out HD.out HR.out.byt hlm).mono ?_; rintro x w1 ⟨rfl, hw1⟩; subst hw1)
    | (go_at_call 45; refine (rdec_at (l.drop n1) _ 0 0 e _ _ W HL2.out HD2.out HB2.out HM2.out).mono ?_; rintro x w2 ⟨rfl, hw2⟩; subst hw2)
    | ((with_reducible refine guard_load 32 ?_); refine wpList_load_fld rfl _ rfl HR.out.non rfl ?_)
    | ((with_reducible refine guard_store 32 ?_); refine wpList_store_fld rfl _ _ rfl (k := w.heap.size) (num2 := 0) HR.out.res rfl rfl rfl ?_; intro w5 hf5 hos5 hk5 hs5))
  all_goals
    refine bodyPost_ret (results_fld3 rfl _ _ _ rfl rfl rfl hf5) rfl ?_
    exact ⟨rfl, HR.out.end hos5 hk5 hs5⟩
set_option maxRecDepth 20000 in
set_option maxHeartbeats 1000000 in
theorem rnext_bad2e (l : List Nat) (b off : Nat) (n cap k T : Nat) (last : Int) (w : World) (hn : l.length = n) (hb : Bytes w (some ⟨b, off, none⟩) l) (hcap : n ≤ cap) (hl : n ≤ 1024) (hd : dec 0 0 l = (k, n, 0)) (hk : 2 ≤ k) (hk2 : k ≤ 63) (hTk : (k : Int) / 2 = (T : Int)) (hna : ¬ (T : Int) ≤ last) :
    Calls Try.prog 33 #[.slice (some ⟨b, off, none⟩) n cap, .int .i64 last] w fun r w' => r = .returned (.tuple #[FV 0 false 0 (.slice none 0 0), .int .i64 0, .int .i64 10]) ∧ Below w.heap.size w w' := by
  obtain ⟨W, hW, hR⟩ := rin_of hb
  have HW : Hid (_ = W) := hW
  have HR : Hid (Rin w W (some ⟨b, off, none⟩) l) := hR
  have HN : Hid (l.length = n) := hn
  have HD : Hid (_) := hd
  have hlm : l.length ≤ maxLen := by unfold maxLen; omega
  have T1 : Hid True := trivial
  clear hb hn hd hW hR
  have hn1c : (n : Int) ≤ (cap : Int) := by omega
  have hnI : (n : Int) ≤ 1024 := by omega
  go_enter Try.func33, Try.ntmps33
  go_wp2_with (first
    | (go_at_call 45; clear T1; rw [HW.out]; refine (rdec_at l n k n 0 (some ⟨b, off, none⟩) cap W HN.out HD.out HR.out.byt hlm).mono ?_; rintro x w1 ⟨rfl, hw1⟩; subst hw1)
    | (go_at_call 45; refine (rdec_at [] _ 0 0 10 _ _ W (by simp; try omega) rfl (Bytes.none _ _) (by simp)).mono ?_; rintro x w2 ⟨rfl, hw2⟩; subst hw2)
    | ((with_reducible refine guard_load 32 ?_); refine wpList_load_fld rfl _ rfl HR.out.non rfl ?_)
    | ((with_reducible refine guard_store 32 ?_); refine wpList_store_fld rfl _ _ rfl (k := w.heap.size) (num2 := 0) HR.out.res rfl rfl rfl ?_; intro w5 hf5 hos5 hk5 hs5))
  all_goals
    refine bodyPost_ret (results_fld3 rfl _ _ _ rfl rfl rfl hf5) rfl ?_
    exact ⟨rfl, HR.out.end hos5 hk5 hs5⟩
set_option maxRecDepth 20000 in
set_option maxHeartbeats 1000000 in
theorem rnext_zero (l : List Nat) (b off : Nat) (n cap k n1 T m : Nat) (last : Int) (w : World) (hn : l.length = n) (hb : Bytes w (some ⟨b, off, none⟩) l) (hcap : n ≤ cap) (hl : n ≤ 1024) (hd : dec 0 0 l = (k, n1, 0)) (hk : 2 ≤ k) (hk2 : k ≤ 63) (hTk : (k : Int) / 2 = (T : Int)) (hna : ¬ (T : Int) ≤ last) (hlt : n1 < n) (hd2 : dec 0 0 (l.drop n1) = (0, m, 0)) :
    Calls Try.prog 33 #[.slice (some ⟨b, off, none⟩) n cap, .int .i64 last] w fun r w' => r = .returned (.tuple #[FV 0 false 0 (.slice none 0 0), .int .i64 0, .int .i64 22]) ∧ Below w.heap.size w w' := by
  obtain ⟨W, hW, hR⟩ := rin_of hb
  have HW : Hid (_ = W) := hW
  have HR : Hid (Rin w W (some ⟨b, off, none⟩) l) := hR
  have HN : Hid (l.length = n) := hn
  have HD : Hid (_) := hd
  have hlm : l.length ≤ maxLen := by unfold maxLen; omega
  have T1 : Hid True := trivial
  clear hb hn hd hW hR
  have HD2 : Hid (_) := hd2
  have hn1I : (n1 : Int) ≤ (n : Int) := by omega
  have hn1c : (n1 : Int) ≤ (cap : Int) := by omega
  have hn0 : (0 : Int) ≤ (n1 : Int) := by omega
  have hnI : (n : Int) ≤ 1024 := by omega
  have HL2 : Hid ((l.drop n1).length = n - n1) := by show _ = _; rw [List.length_drop, HN.out]
  have HM2 : Hid ((l.drop n1).length ≤ maxLen) := by show _ ≤ _; rw [HL2.out]; unfold maxLen; omega
  have HB2 : Hid (Bytes W (some ⟨b, off + n1, none⟩) (l.drop n1)) := HR.out.byt.drop n1
  clear hd2
  have hcn : ¬ cap = n1 := by omega
  go_enter Try.func33, Try.ntmps33
  go_wp2_with (first
    | (go_at_call 45; clear T1; rw [HW.out]; refine (rdec_at l n k n1 0 (some ⟨b, off, none⟩) cap W HN.out HD.out HR.out.byt hlm).mono ?_; rintro x w1 ⟨rfl, hw1⟩; subst hw1)
    | (go_at_call 45; refine (rdec_at (l.drop n1) _ 0 m 0 _ _ W HL2.out HD2.out HB2.out HM2.out).mono ?_; rintro x w2 ⟨rfl, hw2⟩; subst hw2)
    | ((with_reducible refine guard_load 32 ?_); refine wpList_load_fld rfl _ rfl HR.out.non rfl ?_)
    | ((with_reducible refine guard_store 32 ?_); refine wpList_store_fld rfl _ _ rfl (k := w.heap.size) (num2 := 0) HR.out.res rfl rfl rfl ?_; intro w5 hf5 hos5 hk5 hs5))
  all_goals
    refine bodyPost_ret (results_fld3 rfl _ _ _ rfl rfl rfl hf5) rfl ?_
    exact ⟨rfl, HR.out.end hos5 hk5 hs5⟩
set_option maxRecDepth 20000 in
set_option maxHeartbeats 1000000 in
theorem rnext_num (l : List Nat) (b off : Nat) (n cap k n1 T u m : Nat) (last : Int) (w : World) (hn : l.length = n) (hb : Bytes w (some ⟨b, off, none⟩) l) (hcap : n ≤ cap) (hl : n ≤ 1024) (hd : dec 0 0 l = (k, n1, 0)) (hk : 2 ≤ k) (hk2 : k ≤ 63) (hTk : (k : Int) / 2 = (T : Int)) (hna : ¬ (T : Int) ≤ last) (hlt : n1 < n) (hd2 : dec 0 0 (l.drop n1) = (u, m, 0)) (hu : u ≠ 0) (hu2 : u ≤ 18446744073709551615) (hm : n1 + m ≤ n) (hp : ((k : Int) % 2 == 0) = true) :
    Calls Try.prog 33 #[.slice (some ⟨b, off, none⟩) n cap, .int .i64 last] w fun r w' => r = .returned (.tuple #[FV T false u (.slice none 0 0), .int .i64 ((n1 + m : Nat) : Int), .int .i64 0]) ∧ Below w.heap.size w w' := by
  obtain ⟨W, hW, hR⟩ := rin_of hb
  have HW : Hid (_ = W) := hW
  have HR : Hid (Rin w W (some ⟨b, off, none⟩) l) := hR
  have HN : Hid (l.length = n) := hn
  have HD : Hid (_) := hd
  have hlm : l.length ≤ maxLen := by unfold maxLen; omega
  have T1 : Hid True := trivial
  clear hb hn hd hW hR
  have HD2 : Hid (_) := hd2
  have hn1I : (n1 : Int) ≤ (n : Int) := by omega
  have hn1c : (n1 : Int) ≤ (cap : Int) := by omega
  have hn0 : (0 : Int) ≤ (n1 : Int) := by omega
  have hnI : (n : Int) ≤ 1024 := by omega
  have HL2 : Hid ((l.drop n1).length = n - n1) := by show _ = _; rw [List.length_drop, HN.out]
  have HM2 : Hid ((l.drop n1).length ≤ maxLen) := by show _ ≤ _; rw [HL2.out]; unfold maxLen; omega
  have HB2 : Hid (Bytes W (some ⟨b, off + n1, none⟩) (l.drop n1)) := HR.out.byt.drop n1
  clear hd2
  have hcn : ¬ cap = n1 := by omega
  have hub : ((u : Int) == 0) = false := by simp; omega
  have hmI : (n1 : Int) + (m : Int) ≤ (n : Int) := by omega
  go_enter Try.func33, Try.ntmps33
  go_wp2_with (first
    | (go_at_call 45; clear T1; rw [HW.out]; refine (rdec_at l n k n1 0 (some ⟨b, off, none⟩) cap W HN.out HD.out HR.out.byt hlm).mono ?_; rintro x w1 ⟨rfl, hw1⟩; subst hw1)
    | (go_at_call 45; refine (rdec_at (l.drop n1) _ u m 0 _ _ W HL2.out HD2.out HB2.out HM2.out).mono ?_; rintro x w2 ⟨rfl, hw2⟩; subst hw2)
    | ((with_reducible refine guard_store 32 ?_); refine wpList_store_fld rfl _ _ rfl (k := w.heap.size) (num2 := u) HR.out.res rfl rfl rfl ?_; intro w5 hf5 hos5 hk5 hs5))
  exact bodyPost_ret (results_fld3 rfl _ _ _ rfl rfl rfl hf5) rfl ⟨rfl, HR.out.end hos5 hk5 hs5⟩
set_option maxRecDepth 20000 in
set_option maxHeartbeats 1000000 in
theorem rnext_long (l : List Nat) (b off : Nat) (n cap k n1 T u m : Nat) (last : Int) (w : World) (hn : l.length = n) (hb : Bytes w (some ⟨b, off, none⟩) l) (hcap : n ≤ cap) (hl : n ≤ 1024) (hd : dec 0 0 l = (k, n1, 0)) (hk : 2 ≤ k) (hk2 : k ≤ 63) (hTk : (k : Int) / 2 = (T : Int)) (hna : ¬ (T : Int) ≤ last) (hlt : n1 < n) (hd2 : dec 0 0 (l.drop n1) = (u, m, 0)) (hu : u ≠ 0) (hu2 : u ≤ 18446744073709551615) (hm : n1 + m ≤ n) (hp : ((k : Int) % 2 == 0) = false) (h200 : 200 < u) :
    Calls Try.prog 33 #[.slice (some ⟨b, off, none⟩) n cap, .int .i64 last] w fun r w' => r = .returned (.tuple #[FV 0 false 0 (.slice none 0 0), .int .i64 0, .int .i64 23]) ∧ Below w.heap.size w w' := by
  obtain ⟨W, hW, hR⟩ := rin_of hb
  have HW : Hid (_ = W) := hW
  have HR : Hid (Rin w W (some ⟨b, off, none⟩) l) := hR
  have HN : Hid (l.length = n) := hn
  have HD : Hid (_) := hd
  have hlm : l.length ≤ maxLen := by unfold maxLen; omega
  have T1 : Hid True := trivial
  clear hb hn hd hW hR
  have HD2 : Hid (_) := hd2
  have hn1I : (n1 : Int) ≤ (n : Int) := by omega
  have hn1c : (n1 : Int) ≤ (cap : Int) := by omega
  have hn0 : (0 : Int) ≤ (n1 : Int) := by omega
  have hnI : (n : Int) ≤ 1024 := by omega
  have HL2 : Hid ((l.drop n1).length = n - n1) := by show _ = _; rw [List.length_drop, HN.out]
  have HM2 : Hid ((l.drop n1).length ≤ maxLen) := by show _ ≤ _; rw [HL2.out]; unfold maxLen; omega
  have HB2 : Hid (Bytes W (some ⟨b, off + n1, none⟩) (l.drop n1)) := HR.out.byt.drop n1
  clear hd2
  have hcn : ¬ cap = n1 := by omega
  have hub : ((u : Int) == 0) = false := by simp; omega
  have hmI : (n1 : Int) + (m : Int) ≤ (n : Int) := by omega
  go_enter Try.func33, Try.ntmps33
  go_wp2_with (first
    | (go_at_call 45; clear T1; rw [HW.out]; refine (rdec_at l n k n1 0 (some ⟨b, off, none⟩) cap W HN.out HD.out HR.out.byt hlm).mono ?_; rintro x w1 ⟨rfl, hw1⟩; subst hw1)
    | (go_at_call 45; refine (rdec_at (l.drop n1) _ u m 0 _ _ W HL2.out HD2.out HB2.out HM2.out).mono ?_; rintro x w2 ⟨rfl, hw2⟩; subst hw2)
    | ((with_reducible refine guard_load 32 ?_); refine wpList_load_fld rfl _ rfl HR.out.non rfl ?_)
    | ((with_reducible refine guard_store 32 ?_); refine wpList_store_fld rfl _ _ rfl (k := w.heap.size) (num2 := 0) HR.out.res rfl rfl rfl ?_; intro w5 hf5 hos5 hk5 hs5))
  all_goals
    refine bodyPost_ret (results_fld3 rfl _ _ _ rfl rfl rfl hf5) rfl ?_
    exact ⟨rfl, HR.out.end hos5 hk5 hs5⟩
set_option maxRecDepth 20000 in
set_option maxHeartbeats 1000000 in
theorem rnext_short (l : List Nat) (b off : Nat) (n cap k n1 T u m : Nat) (last : Int) (w : World) (hn : l.length = n) (hb : Bytes w (some ⟨b, off, none⟩) l) (hcap : n ≤ cap) (hl : n ≤ 1024) (hd : dec 0 0 l = (k, n1, 0)) (hk : 2 ≤ k) (hk2 : k ≤ 63) (hTk : (k : Int) / 2 = (T : Int)) (hna : ¬ (T : Int) ≤ last) (hlt : n1 < n) (hd2 : dec 0 0 (l.drop n1) = (u, m, 0)) (hu : u ≠ 0) (hu2 : u ≤ 18446744073709551615) (hm : n1 + m ≤ n) (hp : ((k : Int) % 2 == 0) = false) (h200 : ¬ 200 < u) (hsh : n < n1 + m + u) :
    Calls Try.prog 33 #[.slice (some ⟨b, off, none⟩) n cap, .int .i64 last] w fun r w' => r = .returned (.tuple #[FV 0 false 0 (.slice none 0 0), .int .i64 0, .int .i64 10]) ∧ Below w.heap.size w w' := by
  obtain ⟨W, hW, hR⟩ := rin_of hb
  have HW : Hid (_ = W) := hW
  have HR : Hid (Rin w W (some ⟨b, off, none⟩) l) := hR
  have HN : Hid (l.length = n) := hn
  have HD : Hid (_) := hd
  have hlm : l.length ≤ maxLen := by unfold maxLen; omega
  have T1 : Hid True := trivial
  clear hb hn hd hW hR
  have HD2 : Hid (_) := hd2
  have hn1I : (n1 : Int) ≤ (n : Int) := by omega
  have hn1c : (n1 : Int) ≤ (cap : Int) := by omega
  have hn0 : (0 : Int) ≤ (n1 : Int) := by omega
  have hnI : (n : Int) ≤ 1024 := by omega
  have HL2 : Hid ((l.drop n1).length = n - n1) := by show _ = _; rw [List.length_drop, HN.out]
  have HM2 : Hid ((l.drop n1).length ≤ maxLen) := by show _ ≤ _; rw [HL2.out]; unfold maxLen; omega
  have HB2 : Hid (Bytes W (some ⟨b, off + n1, none⟩) (l.drop n1)) := HR.out.byt.drop n1
  clear hd2
  have hcn : ¬ cap = n1 := by omega
  have hub : ((u : Int) == 0) = false := by simp; omega
  have hmI : (n1 : Int) + (m : Int) ≤ (n : Int) := by omega
  have hshI : (n : Int) - (n1 : Int) - (m : Int) < (u : Int) := by omega
  go_enter Try.func33, Try.ntmps33
  go_wp2_with (first
    | (go_at_call 45; clear T1; rw [HW.out]; refine (rdec_at l n k n1 0 (some ⟨b, off, none⟩) cap W HN.out HD.out HR.out.byt hlm).mono ?_; rintro x w1 ⟨rfl, hw1⟩; subst hw1)
    | (go_at_call 45; refine (rdec_at (l.drop n1) _ u m 0 _ _ W HL2.out HD2.out HB2.out HM2.out).mono ?_; rintro x w2 ⟨rfl, hw2⟩; subst hw2)
    | ((with_reducible refine guard_load 32 ?_); refine wpList_load_fld rfl _ rfl HR.out.non rfl ?_)
    | ((with_reducible refine guard_store 32 ?_); refine wpList_store_fld rfl _ _ rfl (k := w.heap.size) (num2 := 0) HR.out.res rfl rfl rfl ?_; intro w5 hf5 hos5 hk5 hs5))
  all_goals
    refine bodyPost_ret (results_fld3 rfl _ _ _ rfl rfl rfl hf5) rfl ?_
    exact ⟨rfl, HR.out.end hos5 hk5 hs5⟩
set_option maxRecDepth 20000 in
set_option maxHeartbeats 1000000 in
theorem rnext_text (l : List Nat) (b off : Nat) (n cap k n1 T u m : Nat) (last : Int) (w : World) (hn : l.length = n) (hb : Bytes w (some ⟨b, off, none⟩) l) (hcap : n ≤ cap) (hl : n ≤ 1024) (hd : dec 0 0 l = (k, n1, 0)) (hk : 2 ≤ k) (hk2 : k ≤ 63) (hTk : (k : Int) / 2 = (T : Int)) (hna : ¬ (T : Int) ≤ last) (hlt : n1 < n) (hd2 : dec 0 0 (l.drop n1) = (u, m, 0)) (hu : u ≠ 0) (hu2 : u ≤ 18446744073709551615) (hm : n1 + m ≤ n) (hp : ((k : Int) % 2 == 0) = false) (h200 : ¬ 200 < u) (hsh : n1 + m + u ≤ n) :
    Calls Try.prog 33 #[.slice (some ⟨b, off, none⟩) n cap, .int .i64 last] w fun r w' => ∃ bv, r = .returned (.tuple #[FV T true 0 bv, .int .i64 ((n1 + m + u : Nat) : Int), .int .i64 0]) ∧ Own w' w.heap.size bv ((l.drop (n1 + m)).take u) ∧ Below w.heap.size w w' := by
  obtain ⟨W, hW, hR⟩ := rin_of hb
  have HW : Hid (_ = W) := hW
  have HR : Hid (Rin w W (some ⟨b, off, none⟩) l) := hR
  have HN : Hid (l.length = n) := hn
  have HD : Hid (_) := hd
  have hlm : l.length ≤ maxLen := by unfold maxLen; omega
  have T1 : Hid True := trivial
  clear hb hn hd hW hR
  have HD2 : Hid (_) := hd2
  have hn1I : (n1 : Int) ≤ (n : Int) := by omega
  have hn1c : (n1 : Int) ≤ (cap : Int) := by omega
  have hn0 : (0 : Int) ≤ (n1 : Int) := by omega
  have hnI : (n : Int) ≤ 1024 := by omega
  have HL2 : Hid ((l.drop n1).length = n - n1) := by show _ = _; rw [List.length_drop, HN.out]
  have HM2 : Hid ((l.drop n1).length ≤ maxLen) := by show _ ≤ _; rw [HL2.out]; unfold maxLen; omega
  have HB2 : Hid (Bytes W (some ⟨b, off + n1, none⟩) (l.drop n1)) := HR.out.byt.drop n1
  clear hd2
  have hcn : ¬ cap = n1 := by omega
  have hub : ((u : Int) == 0) = false := by simp; omega
  have hmI : (n1 : Int) + (m : Int) ≤ (n : Int) := by omega
  have hshI : (u : Int) ≤ (n : Int) - (n1 : Int) - (m : Int) := by omega
  have HLU : Hid (((l.drop (n1 + m)).take u).length = u) := by show _ = _; rw [List.length_take, List.length_drop, HN.out]; omega
  go_enter Try.func33, Try.ntmps33
  go_wp2_with (first
    | (go_at_call 45; clear T1; rw [HW.out]; refine (rdec_at l n k n1 0 (some ⟨b, off, none⟩) cap W HN.out HD.out HR.out.byt hlm).mono ?_; rintro x w1 ⟨rfl, hw1⟩; subst hw1)
    | (go_at_call 45; refine (rdec_at (l.drop n1) _ u m 0 _ _ W HL2.out HD2.out HB2.out HM2.out).mono ?_; rintro x w2 ⟨rfl, hw2⟩; subst hw2)
    | (go_at_call 8; have hcp := copy_any ((l.drop (n1 + m)).take u) (some ⟨b, off + (n1 + m), none⟩) (cap - (n1 + m)) W ((HR.out.byt.drop (n1 + m)).take u) (by rw [HLU.out]; omega); rw [HLU.out] at hcp; refine hcp.mono ?_; rintro r w3 ⟨v3, rfl, ho3, hb3⟩; obtain ⟨a3, cap3, hv3, _, _, _, _⟩ := ho3.shape; rw [HLU.out] at hv3; subst hv3; have HR3 : Hid (FldAt w3 w.heap.size 0 false 0 (.slice none 0 0)) := HR.out.res.keep hb3; have HB3 : Hid (Below w.heap.size w w3) := HR.out.bel.trans (hb3.mono HR.out.bel.size); have HO3 : Hid (Own w3 W.heap.size (.slice a3 u cap3) ((l.drop (n1 + m)).take u)) := ho3; clear ho3 hb3 hcp)
    | ((with_reducible refine guard_store 32 ?_); refine wpList_store_fld rfl _ _ rfl (k := w.heap.size) (num2 := 0) HR3.out rfl rfl rfl ?_; intro w5 hf5 hos5 hk5 hs5))
  refine bodyPost_ret (results_fld3 rfl _ _ _ rfl rfl rfl hf5) rfl ?_
  have hsz : w.heap.size + 1 < W.heap.size := lt_of_heap HR.out.non
  refine ⟨_, rfl, ⟨HO3.out.1, ?_⟩, ⟨hos5.1.trans HB3.out.os, hos5.2.1.trans HB3.out.tape, hos5.2.2.trans HB3.out.output, by rw [hs5]; exact HB3.out.size, fun k hk2 => (hk5 k (by omega)).trans (HB3.out.block k hk2)⟩⟩
  exact World.ownsRow.mono (base' := w.heap.size) (own_same (w' := w5) HO3.out.2 (fun k (hk : W.heap.size ≤ k) => hk5 k (by omega))) (by omega)
end Go.Proofs.Ytbdgiecnhgiogaa
