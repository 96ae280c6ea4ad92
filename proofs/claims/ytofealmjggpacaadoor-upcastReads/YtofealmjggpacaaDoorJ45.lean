/- Own texts, joined: Tlr, Tls, Sr5, Sr6. -/
import Derived.Test.YtofealmjggpacaaDoorJ31
import Derived.Test.YtofealmjggpacaaDoorJ44
import Derived.Test.YtofealmjggpacaaDoorJ15
import Derived.Test.YtofealmjggpacaaDoorJ30
import Derived.Test.YtofealmjggpacaaDoorJ29
import Derived.Test.YtofealmjggpacaaDoorJ41
import Derived.Test.YtofealmjggpacaaDoorJ38
import Derived.Test.YtofealmjggpacaaDoorJ42
import Derived.Deep.RegionHeld3
namespace Go.Proofs.YtofealmjggpacaaDoor
open Go.ChangeShapes Go.WideShapes Go.ChangeAt Go.RowKit
set_option linter.unusedVariables false
theorem results_fld3 {fn : Func} {p u v : Tmp} (h : fn.results = #[.cell p 142, .tmp u, .tmp v]) (tmps : Array Value) (w : World) (k : Nat) {tag : Int} {text : Bool} {num : Nat} {bv x y : Value} (hp : tmps.getD p undef = .pointer (some ⟨k, 0, none⟩)) (hx : tmps.getD u undef = x) (hy : tmps.getD v undef = y) (hl : FldAt w k tag text num bv) :
    (results fn tmps).run Tryd.prog w = .ok (.tuple #[FV tag text num bv, x, y]) w := by
  simp only [Array.getD_eq_getD_getElem?] at hp hx hy
  simp [results, h, hp, hx, hy, asAddr, hl.loadVar]
/-- what holds when Next is entered: its result and none lie in blocks of their own -/
structure Rin (w W : World) (a : Option Addr) (l : List Nat) : Prop where
  res : FldAt W w.heap.size 0 false 0 (.slice none 0 0)
  non : FldAt W (w.heap.size + 1) 0 false 0 (.slice none 0 0)
  byt : Bytes W a l
  bel : Below w.heap.size w W
theorem rin_of {w : World} {a : Option Addr} {l : List Nat} (hb : Bytes w a l) : ∃ W, (w.alloc (.cells #[.int .i64 0, .bool false, .int .u64 0, .slice none 0 0] 142)).alloc (.cells #[.int .i64 0, .bool false, .int .u64 0, .slice none 0 0] 142) = W ∧ Rin w W a l := by
  have h1 : Below w.heap.size w (w.alloc (.cells #[.int .i64 0, .bool false, .int .u64 0, .slice none 0 0] 142)) := (Below.refl _ _).alloc (Nat.le_refl _) _
  have h2 : Below (w.alloc (.cells #[.int .i64 0, .bool false, .int .u64 0, .slice none 0 0] 142)).heap.size (w.alloc (.cells #[.int .i64 0, .bool false, .int .u64 0, .slice none 0 0] 142)) ((w.alloc (.cells #[.int .i64 0, .bool false, .int .u64 0, .slice none 0 0] 142)).alloc (.cells #[.int .i64 0, .bool false, .int .u64 0, .slice none 0 0] 142)) := (Below.refl _ _).alloc (Nat.le_refl _) _
  refine ⟨_, rfl, (FldAt.new w 0 false 0 _).keep h2, ?_, (hb.keep h1).keep h2, h1.trans (h2.mono h1.size)⟩
  have h := FldAt.new (w.alloc (.cells #[.int .i64 0, .bool false, .int .u64 0, .slice none 0 0] 142)) 0 false 0 (.slice none 0 0)
  simpa using h
theorem Rin.end {w W w5 : World} {a : Option Addr} {l : List Nat} (h : Rin w W a l) (ho : w5.os = W.os ∧ w5.tape = W.tape ∧ w5.output = W.output) (hk : ∀ j, j ≠ w.heap.size → w5.heap[j]? = W.heap[j]?) (hs : w5.heap.size = W.heap.size) : Below w.heap.size w w5 :=
  ⟨ho.1.trans h.bel.os, ho.2.1.trans h.bel.tape, ho.2.2.trans h.bel.output, by rw [hs]; exact h.bel.size, fun k hk2 => (hk k (by omega)).trans (h.bel.block k hk2)⟩
set_option maxRecDepth 20000 in
set_option maxHeartbeats 1000000 in
theorem rnext_bad1 (l : List Nat) (a : Option Addr) (n cap e : Nat) (last : Int) (w : World) (hn : l.length = n) (hb : Bytes w a l) (hcap : n ≤ cap) (hl : n ≤ 1024) (he : e ≠ 0) (hd : dec 0 0 l = (0, 0, e)) :
    Calls Tryd.prog 96 #[.slice a n cap, .int .i64 last] w fun r w' => r = .returned (.tuple #[FV 0 false 0 (.slice none 0 0), .int .i64 0, .int .i64 (e : Int)]) ∧ Below w.heap.size w w' := by
  obtain ⟨W, hW, hR⟩ := rin_of hb
  have HW : Hid (_ = W) := hW
  have HR : Hid (Rin w W a l) := hR
  have HN : Hid (l.length = n) := hn
  have HD : Hid (_) := hd
  have hlm : l.length ≤ maxLen := by unfold maxLen; omega
  have T1 : Hid True := trivial
  clear hb hn hd hW hR
  have heb : ((e : Int) != 0) = true := by simp; omega
  go_enter Tryd.func96, Tryd.ntmps96
  go_wp2_with (first
    | (go_at_call 29; clear T1; rw [HW.out]; refine (rdec_at l n 0 0 e a cap W HN.out HD.out HR.out.byt hlm).mono ?_; rintro x w1 ⟨rfl, hw1⟩; subst hw1)
    | ((with_reducible refine guard_load 142 ?_); refine wpList_load_fld rfl _ rfl HR.out.non rfl ?_)
    | ((with_reducible refine guard_store 142 ?_); refine wpList_store_fld rfl _ _ rfl (k := w.heap.size) (num2 := 0) HR.out.res rfl rfl rfl ?_; intro w5 hf5 hos5 hk5 hs5))
  all_goals
    refine bodyPost_ret (results_fld3 rfl _ _ _ rfl rfl rfl hf5) rfl ?_
    exact ⟨rfl, HR.out.end hos5 hk5 hs5⟩
set_option maxRecDepth 20000 in
set_option maxHeartbeats 1000000 in
theorem rnext_tagA (l : List Nat) (b off : Nat) (n cap k n1 : Nat) (last : Int) (w : World) (hn : l.length = n) (hb : Bytes w (some ⟨b, off, none⟩) l) (hcap : n ≤ cap) (hl : n ≤ 1024) (hd : dec 0 0 l = (k, n1, 0)) (hk : k < 2) :
    Calls Tryd.prog 96 #[.slice (some ⟨b, off, none⟩) n cap, .int .i64 last] w fun r w' => r = .returned (.tuple #[FV 0 false 0 (.slice none 0 0), .int .i64 0, .int .i64 20]) ∧ Below w.heap.size w w' := by
  obtain ⟨W, hW, hR⟩ := rin_of hb
  have HW : Hid (_ = W) := hW
  have HR : Hid (Rin w W (some ⟨b, off, none⟩) l) := hR
  have HN : Hid (l.length = n) := hn
  have HD : Hid (_) := hd
  have hlm : l.length ≤ maxLen := by unfold maxLen; omega
  have T1 : Hid True := trivial
  clear hb hn hd hW hR
  go_enter Tryd.func96, Tryd.ntmps96
  go_wp2_with (first
    | (go_at_call 29; clear T1; rw [HW.out]; refine (rdec_at l n k n1 0 (some ⟨b, off, none⟩) cap W HN.out HD.out HR.out.byt hlm).mono ?_; rintro x w1 ⟨rfl, hw1⟩; subst hw1)
    | ((with_reducible refine guard_load 142 ?_); refine wpList_load_fld rfl _ rfl HR.out.non rfl ?_)
    | ((with_reducible refine guard_store 142 ?_); refine wpList_store_fld rfl _ _ rfl (k := w.heap.size) (num2 := 0) HR.out.res rfl rfl rfl ?_; intro w5 hf5 hos5 hk5 hs5))
  all_goals
    refine bodyPost_ret (results_fld3 rfl _ _ _ rfl rfl rfl hf5) rfl ?_
    exact ⟨rfl, HR.out.end hos5 hk5 hs5⟩
set_option maxRecDepth 20000 in
set_option maxHeartbeats 1000000 in
theorem rnext_tagB (l : List Nat) (b off : Nat) (n cap k n1 : Nat) (last : Int) (w : World) (hn : l.length = n) (hb : Bytes w (some ⟨b, off, none⟩) l) (hcap : n ≤ cap) (hl : n ≤ 1024) (hd : dec 0 0 l = (k, n1, 0)) (hk : 63 < k) (hk2 : k ≤ 18446744073709551615) :
    Calls Tryd.prog 96 #[.slice (some ⟨b, off, none⟩) n cap, .int .i64 last] w fun r w' => r = .returned (.tuple #[FV 0 false 0 (.slice none 0 0), .int .i64 0, .int .i64 20]) ∧ Below w.heap.size w w' := by
  obtain ⟨W, hW, hR⟩ := rin_of hb
  have HW : Hid (_ = W) := hW
  have HR : Hid (Rin w W (some ⟨b, off, none⟩) l) := hR
  have HN : Hid (l.length = n) := hn
  have HD : Hid (_) := hd
  have hlm : l.length ≤ maxLen := by unfold maxLen; omega
  have T1 : Hid True := trivial
  clear hb hn hd hW hR
  go_enter Tryd.func96, Tryd.ntmps96
  go_wp2_with (first
    | (go_at_call 29; clear T1; rw [HW.out]; refine (rdec_at l n k n1 0 (some ⟨b, off, none⟩) cap W HN.out HD.out HR.out.byt hlm).mono ?_; rintro x w1 ⟨rfl, hw1⟩; subst hw1)
    | ((with_reducible refine guard_load 142 ?_); refine wpList_load_fld rfl _ rfl HR.out.non rfl ?_)
    | ((with_reducible refine guard_store 142 ?_); refine wpList_store_fld rfl _ _ rfl (k := w.heap.size) (num2 := 0) HR.out.res rfl rfl rfl ?_; intro w5 hf5 hos5 hk5 hs5))
  all_goals
    refine bodyPost_ret (results_fld3 rfl _ _ _ rfl rfl rfl hf5) rfl ?_
    exact ⟨rfl, HR.out.end hos5 hk5 hs5⟩
set_option maxRecDepth 20000 in
set_option maxHeartbeats 1000000 in
theorem rnext_ord (l : List Nat) (b off : Nat) (n cap k n1 T : Nat) (last : Int) (w : World) (hn : l.length = n) (hb : Bytes w (some ⟨b, off, none⟩) l) (hcap : n ≤ cap) (hl : n ≤ 1024) (hd : dec 0 0 l = (k, n1, 0)) (hk : 2 ≤ k) (hk2 : k ≤ 63) (hTk : (k : Int) / 2 = (T : Int)) (ho : (T : Int) ≤ last) :
    Calls Tryd.prog 96 #[.slice (some ⟨b, off, none⟩) n cap, .int .i64 last] w fun r w' => r = .returned (.tuple #[FV 0 false 0 (.slice none 0 0), .int .i64 0, .int .i64 21]) ∧ Below w.heap.size w w' := by
  obtain ⟨W, hW, hR⟩ := rin_of hb
  have HW : Hid (_ = W) := hW
  have HR : Hid (Rin w W (some ⟨b, off, none⟩) l) := hR
  have HN : Hid (l.length = n) := hn
  have HD : Hid (_) := hd
  have hlm : l.length ≤ maxLen := by unfold maxLen; omega
  have T1 : Hid True := trivial
  clear hb hn hd hW hR
  go_enter Tryd.func96, Tryd.ntmps96
  go_wp2_with (first
    | (go_at_call 29; clear T1; rw [HW.out]; refine (rdec_at l n k n1 0 (some ⟨b, off, none⟩) cap W HN.out HD.out HR.out.byt hlm).mono ?_; rintro x w1 ⟨rfl, hw1⟩; subst hw1)
    | ((with_reducible refine guard_load 142 ?_); refine wpList_load_fld rfl _ rfl HR.out.non rfl ?_)
    | ((with_reducible refine guard_store 142 ?_); refine wpList_store_fld rfl _ _ rfl (k := w.heap.size) (num2 := 0) HR.out.res rfl rfl rfl ?_; intro w5 hf5 hos5 hk5 hs5))
  all_goals
    refine bodyPost_ret (results_fld3 rfl _ _ _ rfl rfl rfl hf5) rfl ?_
    exact ⟨rfl, HR.out.end hos5 hk5 hs5⟩
set_option maxRecDepth 20000 in
set_option maxHeartbeats 1000000 in
theorem rnext_bad2 (l : List Nat) (b off : Nat) (n cap k n1 T e : Nat) (last : Int) (w : World) (hn : l.length = n) (hb : Bytes w (some ⟨b, off, none⟩) l) (hcap : n ≤ cap) (hl : n ≤ 1024) (hd : dec 0 0 l = (k, n1, 0)) (hk : 2 ≤ k) (hk2 : k ≤ 63) (hTk : (k : Int) / 2 = (T : Int)) (hna : ¬ (T : Int) ≤ last) (hlt : n1 < n) (he : e ≠ 0) (hd2 : dec 0 0 (l.drop n1) = (0, 0, e)) :
    Calls Tryd.prog 96 #[.slice (some ⟨b, off, none⟩) n cap, .int .i64 last] w fun r w' => r = .returned (.tuple #[FV 0 false 0 (.slice none 0 0), .int .i64 0, .int .i64 (e : Int)]) ∧ Below w.heap.size w w' := by
  obtain ⟨W, hW, hR⟩ := rin_of hb
  have HW : Hid (_ = W) := hW
  have HR : Hid (Rin w W (some ⟨b, off, none⟩) l) := hR
  have HN : Hid (l.length = n) := hn
  have HD : Hid (_) := hd
  have hlm : l.length ≤ maxLen := by unfold maxLen; omega
  have T1 : Hid True := trivial
  clear hb hn hd hW hR
  have HD2 : Hid (_) := hd2
  have hn1I : (n1 : Int) ≤ (n : Int) := by omega
  have hn1c : (n1 : Int) ≤ (cap : Int) := by omega
  have hn0 : (0 : Int) ≤ (n1 : Int) := by omega
  have hnI : (n : Int) ≤ 1024 := by omega
  have HL2 : Hid ((l.drop n1).length = n - n1) := by show _ = _; rw [List.length_drop, HN.out]
  have HM2 : Hid ((l.drop n1).length ≤ maxLen) := by show _ ≤ _; rw [HL2.out]; unfold maxLen; omega
  have HB2 : Hid (Bytes W (some ⟨b, off + n1, none⟩) (l.drop n1)) := HR.out.byt.drop n1
  clear hd2
  have hcn : ¬ cap = n1 := by omega
  have heb : ((e : Int) != 0) = true := by simp; omega
  go_enter Tryd.func96, Tryd.ntmps96
  go_wp2_with (first
    | (go_at_call 29; clear T1; rw [HW.out]; refine (rdec_at l n k n1 0 (some ⟨b, off, none⟩) cap W HN.out HD.out HR.out.byt hlm).mono ?_; rintro x w1 ⟨rfl, hw1⟩; subst hw1)
    | (go_at_call 29; refine (rdec_at (l.drop n1) _ 0 0 e _ _ W HL2.out HD2.out HB2.out HM2.out).mono ?_; rintro x w2 ⟨rfl, hw2⟩; subst hw2)
    | ((with_reducible refine guard_load 142 ?_); refine wpList_load_fld rfl _ rfl HR.out.non rfl ?_)
    | ((with_reducible refine guard_store 142 ?_); refine wpList_store_fld rfl _ _ rfl (k := w.heap.size) (num2 := 0) HR.out.res rfl rfl rfl ?_; intro w5 hf5 hos5 hk5 hs5))
  all_goals
    refine bodyPost_ret (results_fld3 rfl _ _ _ rfl rfl rfl hf5) rfl ?_
    exact ⟨rfl, HR.out.end hos5 hk5 hs5⟩
set_option maxRecDepth 20000 in
set_option maxHeartbeats 1000000 in
theorem rnext_bad2e (l : List Nat) (b off : Nat) (n cap k T : Nat) (last : Int) (w : World) (hn : l.length = n) (hb : Bytes w (some ⟨b, off, none⟩) l) (hcap : n ≤ cap) (hl : n ≤ 1024) (hd : dec 0 0 l = (k, n, 0)) (hk : 2 ≤ k) (hk2 : k ≤ 63) (hTk : (k : Int) / 2 = (T : Int)) (hna : ¬ (T : Int) ≤ last) :
    Calls Tryd.prog 96 #[.slice (some ⟨b, off, none⟩) n cap, .int .i64 last] w fun r w' => r = .returned (.tuple #[FV 0 false 0 (.slice none 0 0), .int .i64 0, .int .i64 10]) ∧ Below w.heap.size w w' := by
  obtain ⟨W, hW, hR⟩ := rin_of hb
  have HW : Hid (_ = W) := hW
  have HR : Hid (Rin w W (some ⟨b, off, none⟩) l) := hR
  have HN : Hid (l.length = n) := hn
  have HD : Hid (_) := hd
  have hlm : l.length ≤ maxLen := by unfold maxLen; omega
  have T1 : Hid True := trivial
  clear hb hn hd hW hR
  have hn1c : (n : Int) ≤ (cap : Int) := by omega
  have hnI : (n : Int) ≤ 1024 := by omega
  go_enter Tryd.func96, Tryd.ntmps96
  go_wp2_with (first
    | (go_at_call 29; clear T1; rw [HW.out]; refine (rdec_at l n k n 0 (some ⟨b, off, none⟩) cap W HN.out HD.out HR.out.byt hlm).mono ?_; rintro x w1 ⟨rfl, hw1⟩; subst hw1)
    | (go_at_call 29; refine (rdec_at [] _ 0 0 10 _ _ W (by simp; try omega) rfl (Bytes.none _ _) (by simp)).mono ?_; rintro x w2 ⟨rfl, hw2⟩; subst hw2)
    | ((with_reducible refine guard_load 142 ?_); refine wpList_load_fld rfl _ rfl HR.out.non rfl ?_)
    | ((with_reducible refine guard_store 142 ?_); refine wpList_store_fld rfl _ _ rfl (k := w.heap.size) (num2 := 0) HR.out.res rfl rfl rfl ?_; intro w5 hf5 hos5 hk5 hs5))
  all_goals
    refine bodyPost_ret (results_fld3 rfl _ _ _ rfl rfl rfl hf5) rfl ?_
    exact ⟨rfl, HR.out.end hos5 hk5 hs5⟩
set_option maxRecDepth 20000 in
set_option maxHeartbeats 1000000 in
theorem rnext_zero (l : List Nat) (b off : Nat) (n cap k n1 T m : Nat) (last : Int) (w : World) (hn : l.length = n) (hb : Bytes w (some ⟨b, off, none⟩) l) (hcap : n ≤ cap) (hl : n ≤ 1024) (hd : dec 0 0 l = (k, n1, 0)) (hk : 2 ≤ k) (hk2 : k ≤ 63) (hTk : (k : Int) / 2 = (T : Int)) (hna : ¬ (T : Int) ≤ last) (hlt : n1 < n) (hd2 : dec 0 0 (l.drop n1) = (0, m, 0)) :
    Calls Tryd.prog 96 #[.slice (some ⟨b, off, none⟩) n cap, .int .i64 last] w fun r w' => r = .returned (.tuple #[FV 0 false 0 (.slice none 0 0), .int .i64 0, .int .i64 22]) ∧ Below w.heap.size w w' := by
  obtain ⟨W, hW, hR⟩ := rin_of hb
  have HW : Hid (_ = W) := hW
  have HR : Hid (Rin w W (some ⟨b, off, none⟩) l) := hR
  have HN : Hid (l.length = n) := hn
  have HD : Hid (_) := hd
  have hlm : l.length ≤ maxLen := by unfold maxLen; omega
  have T1 : Hid True := trivial
  clear hb hn hd hW hR
  have HD2 : Hid (_) := hd2
  have hn1I : (n1 : Int) ≤ (n : Int) := by omega
  have hn1c : (n1 : Int) ≤ (cap : Int) := by omega
  have hn0 : (0 : Int) ≤ (n1 : Int) := by omega
  have hnI : (n : Int) ≤ 1024 := by omega
  have HL2 : Hid ((l.drop n1).length = n - n1) := by show _ = _; rw [List.length_drop, HN.out]
  have HM2 : Hid ((l.drop n1).length ≤ maxLen) := by show _ ≤ _; rw [HL2.out]; unfold maxLen; omega
  have HB2 : Hid (Bytes W (some ⟨b, off + n1, none⟩) (l.drop n1)) := HR.out.byt.drop n1
  clear hd2
  have hcn : ¬ cap = n1 := by omega
  go_enter Tryd.func96, Tryd.ntmps96
  go_wp2_with (first
    | (go_at_call 29; clear T1; rw [HW.out]; refine (rdec_at l n k n1 0 (some ⟨b, off, none⟩) cap W HN.out HD.out HR.out.byt hlm).mono ?_; rintro x w1 ⟨rfl, hw1⟩; subst hw1)
    | (go_at_call 29; refine (rdec_at (l.drop n1) _ 0 m 0 _ _ W HL2.out HD2.out HB2.out HM2.out).mono ?_; rintro x w2 ⟨rfl, hw2⟩; subst hw2)
    | ((with_reducible refine guard_load 142 ?_); refine wpList_load_fld rfl _ rfl HR.out.non rfl ?_)
    | ((with_reducible refine guard_store 142 ?_); refine wpList_store_fld rfl _ _ rfl (k := w.heap.size) (num2 := 0) HR.out.res rfl rfl rfl ?_; intro w5 hf5 hos5 hk5 hs5))
  all_goals
    refine bodyPost_ret (results_fld3 rfl _ _ _ rfl rfl rfl hf5) rfl ?_
    exact ⟨rfl, HR.out.end hos5 hk5 hs5⟩
set_option maxRecDepth 20000 in
set_option maxHeartbeats 1000000 in
theorem rnext_num (l : List Nat) (b off : Nat) (n cap k n1 T u m : Nat) (last : Int) (w : World) (hn : l.length = n) (hb : Bytes w (some ⟨b, off, none⟩) l) (hcap : n ≤ cap) (hl : n ≤ 1024) (hd : dec 0 0 l = (k, n1, 0)) (hk : 2 ≤ k) (hk2 : k ≤ 63) (hTk : (k : Int) / 2 = (T : Int)) (hna : ¬ (T : Int) ≤ last) (hlt : n1 < n) (hd2 : dec 0 0 (l.drop n1) = (u, m, 0)) (hu : u ≠ 0) (hu2 : u ≤ 18446744073709551615) (hm : n1 + m ≤ n) (hp : ((k : Int) % 2 == 0) = true) :
    Calls Tryd.prog 96 #[.slice (some ⟨b, off, none⟩) n cap, .int .i64 last] w fun r w' => r = .returned (.tuple #[FV T false u (.slice none 0 0), .int .i64 ((n1 + m : Nat) : Int), .int .i64 0]) ∧ Below w.heap.size w w' := by
  obtain ⟨W, hW, hR⟩ := rin_of hb
  have HW : Hid (_ = W) := hW
  have HR : Hid (Rin w W (some ⟨b, off, none⟩) l) := hR
  have HN : Hid (l.length = n) := hn
  have HD : Hid (_) := hd
  have hlm : l.length ≤ maxLen := by unfold maxLen; omega
  have T1 : Hid True := trivial
  clear hb hn hd hW hR
  have HD2 : Hid (_) := hd2
  have hn1I : (n1 : Int) ≤ (n : Int) := by omega
  have hn1c : (n1 : Int) ≤ (cap : Int) := by omega
  have hn0 : (0 : Int) ≤ (n1 : Int) := by omega
  have hnI : (n : Int) ≤ 1024 := by omega
  have HL2 : Hid ((l.drop n1).length = n - n1) := by show _ = _; rw [List.length_drop, HN.out]
  have HM2 : Hid ((l.drop n1).length ≤ maxLen) := by show _ ≤ _; rw [HL2.out]; unfold maxLen; omega
  have HB2 : Hid (Bytes W (some ⟨b, off + n1, none⟩) (l.drop n1)) := HR.out.byt.drop n1
  clear hd2
  have hcn : ¬ cap = n1 := by omega
  have hub : ((u : Int) == 0) = false := by simp; omega
  have hmI : (n1 : Int) + (m : Int) ≤ (n : Int) := by omega
  go_enter Tryd.func96, Tryd.ntmps96
  go_wp2_with (first
    | (go_at_call 29; clear T1; rw [HW.out]; refine (rdec_at l n k n1 0 (some ⟨b, off, none⟩) cap W HN.out HD.out HR.out.byt hlm).mono ?_; rintro x w1 ⟨rfl, hw1⟩; subst hw1)
    | (go_at_call 29; refine (rdec_at (l.drop n1) _ u m 0 _ _ W HL2.out HD2.out HB2.out HM2.out).mono ?_; rintro x w2 ⟨rfl, hw2⟩; subst hw2)
    | ((with_reducible refine guard_store 142 ?_); refine wpList_store_fld rfl _ _ rfl (k := w.heap.size) (num2 := u) HR.out.res rfl rfl rfl ?_; intro w5 hf5 hos5 hk5 hs5))
  exact bodyPost_ret (results_fld3 rfl _ _ _ rfl rfl rfl hf5) rfl ⟨rfl, HR.out.end hos5 hk5 hs5⟩
set_option maxRecDepth 20000 in
set_option maxHeartbeats 1000000 in
theorem rnext_long (l : List Nat) (b off : Nat) (n cap k n1 T u m : Nat) (last : Int) (w : World) (hn : l.length = n) (hb : Bytes w (some ⟨b, off, none⟩) l) (hcap : n ≤ cap) (hl : n ≤ 1024) (hd : dec 0 0 l = (k, n1, 0)) (hk : 2 ≤ k) (hk2 : k ≤ 63) (hTk : (k : Int) / 2 = (T : Int)) (hna : ¬ (T : Int) ≤ last) (hlt : n1 < n) (hd2 : dec 0 0 (l.drop n1) = (u, m, 0)) (hu : u ≠ 0) (hu2 : u ≤ 18446744073709551615) (hm : n1 + m ≤ n) (hp : ((k : Int) % 2 == 0) = false) (h200 : 200 < u) :
    Calls Tryd.prog 96 #[.slice (some ⟨b, off, none⟩) n cap, .int .i64 last] w fun r w' => r = .returned (.tuple #[FV 0 false 0 (.slice none 0 0), .int .i64 0, .int .i64 23]) ∧ Below w.heap.size w w' := by
  obtain ⟨W, hW, hR⟩ := rin_of hb
  have HW : Hid (_ = W) := hW
  have HR : Hid (Rin w W (some ⟨b, off, none⟩) l) := hR
  have HN : Hid (l.length = n) := hn
  have HD : Hid (_) := hd
  have hlm : l.length ≤ maxLen := by unfold maxLen; omega
  have T1 : Hid True := trivial
  clear hb hn hd hW hR
  have HD2 : Hid (_) := hd2
  have hn1I : (n1 : Int) ≤ (n : Int) := by omega
  have hn1c : (n1 : Int) ≤ (cap : Int) := by omega
  have hn0 : (0 : Int) ≤ (n1 : Int) := by omega
  have hnI : (n : Int) ≤ 1024 := by omega
  have HL2 : Hid ((l.drop n1).length = n - n1) := by show _ = _; rw [List.length_drop, HN.out]
  have HM2 : Hid ((l.drop n1).length ≤ maxLen) := by show _ ≤ _; rw [HL2.out]; unfold maxLen; omega
  have HB2 : Hid (Bytes W (some ⟨b, off + n1, none⟩) (l.drop n1)) := HR.out.byt.drop n1
  clear hd2
  have hcn : ¬ cap = n1 := by omega
  have hub : ((u : Int) == 0) = false := by simp; omega
  have hmI : (n1 : Int) + (m : Int) ≤ (n : Int) := by omega
  go_enter Tryd.func96, Tryd.ntmps96
  go_wp2_with (first
    | (go_at_call 29; clear T1; rw [HW.out]; refine (rdec_at l n k n1 0 (some ⟨b, off, none⟩) cap W HN.out HD.out HR.out.byt hlm).mono ?_; rintro x w1 ⟨rfl, hw1⟩; subst hw1)
    | (go_at_call 29; refine (rdec_at (l.drop n1) _ u m 0 _ _ W HL2.out HD2.out HB2.out HM2.out).mono ?_; rintro x w2 ⟨rfl, hw2⟩; subst hw2)
    | ((with_reducible refine guard_load 142 ?_); refine wpList_load_fld rfl _ rfl HR.out.non rfl ?_)
    | ((with_reducible refine guard_store 142 ?_); refine wpList_store_fld rfl _ _ rfl (k := w.heap.size) (num2 := 0) HR.out.res rfl rfl rfl ?_; intro w5 hf5 hos5 hk5 hs5))
  all_goals
    refine bodyPost_ret (results_fld3 rfl _ _ _ rfl rfl rfl hf5) rfl ?_
    exact ⟨rfl, HR.out.end hos5 hk5 hs5⟩
set_option maxRecDepth 20000 in
set_option maxHeartbeats 1000000 in
theorem rnext_short (l : List Nat) (b off : Nat) (n cap k n1 T u m : Nat) (last : Int) (w : World) (hn : l.length = n) (hb : Bytes w (some ⟨b, off, none⟩) l) (hcap : n ≤ cap) (hl : n ≤ 1024) (hd : dec 0 0 l = (k, n1, 0)) (hk : 2 ≤ k) (hk2 : k ≤ 63) (hTk : (k : Int) / 2 = (T : Int)) (hna : ¬ (T : Int) ≤ last) (hlt : n1 < n) (hd2 : dec 0 0 (l.drop n1) = (u, m, 0)) (hu : u ≠ 0) (hu2 : u ≤ 18446744073709551615) (hm : n1 + m ≤ n) (hp : ((k : Int) % 2 == 0) = false) (h200 : ¬ 200 < u) (hsh : n < n1 + m + u) :
    Calls Tryd.prog 96 #[.slice (some ⟨b, off, none⟩) n cap, .int .i64 last] w fun r w' => r = .returned (.tuple #[FV 0 false 0 (.slice none 0 0), .int .i64 0, .int .i64 10]) ∧ Below w.heap.size w w' := by
  obtain ⟨W, hW, hR⟩ := rin_of hb
  have HW : Hid (_ = W) := hW
  have HR : Hid (Rin w W (some ⟨b, off, none⟩) l) := hR
  have HN : Hid (l.length = n) := hn
  have HD : Hid (_) := hd
  have hlm : l.length ≤ maxLen := by unfold maxLen; omega
  have T1 : Hid True := trivial
  clear hb hn hd hW hR
  have HD2 : Hid (_) := hd2
  have hn1I : (n1 : Int) ≤ (n : Int) := by omega
  have hn1c : (n1 : Int) ≤ (cap : Int) := by omega
  have hn0 : (0 : Int) ≤ (n1 : Int) := by omega
  have hnI : (n : Int) ≤ 1024 := by omega
  have HL2 : Hid ((l.drop n1).length = n - n1) := by show _ = _; rw [List.length_drop, HN.out]
  have HM2 : Hid ((l.drop n1).length ≤ maxLen) := by show _ ≤ _; rw [HL2.out]; unfold maxLen; omega
  have HB2 : Hid (Bytes W (some ⟨b, off + n1, none⟩) (l.drop n1)) := HR.out.byt.drop n1
  clear hd2
  have hcn : ¬ cap = n1 := by omega
  have hub : ((u : Int) == 0) = false := by simp; omega
  have hmI : (n1 : Int) + (m : Int) ≤ (n : Int) := by omega
  have hshI : (n : Int) - (n1 : Int) - (m : Int) < (u : Int) := by omega
  go_enter Tryd.func96, Tryd.ntmps96
  go_wp2_with (first
    | (go_at_call 29; clear T1; rw [HW.out]; refine (rdec_at l n k n1 0 (some ⟨b, off, none⟩) cap W HN.out HD.out HR.out.byt hlm).mono ?_; rintro x w1 ⟨rfl, hw1⟩; subst hw1)
    | (go_at_call 29; refine (rdec_at (l.drop n1) _ u m 0 _ _ W HL2.out HD2.out HB2.out HM2.out).mono ?_; rintro x w2 ⟨rfl, hw2⟩; subst hw2)
    | ((with_reducible refine guard_load 142 ?_); refine wpList_load_fld rfl _ rfl HR.out.non rfl ?_)
    | ((with_reducible refine guard_store 142 ?_); refine wpList_store_fld rfl _ _ rfl (k := w.heap.size) (num2 := 0) HR.out.res rfl rfl rfl ?_; intro w5 hf5 hos5 hk5 hs5))
  all_goals
    refine bodyPost_ret (results_fld3 rfl _ _ _ rfl rfl rfl hf5) rfl ?_
    exact ⟨rfl, HR.out.end hos5 hk5 hs5⟩
set_option maxRecDepth 20000 in
set_option maxHeartbeats 1000000 in
theorem rnext_text (l : List Nat) (b off : Nat) (n cap k n1 T u m : Nat) (last : Int) (w : World) (hn : l.length = n) (hb : Bytes w (some ⟨b, off, none⟩) l) (hcap : n ≤ cap) (hl : n ≤ 1024) (hd : dec 0 0 l = (k, n1, 0)) (hk : 2 ≤ k) (hk2 : k ≤ 63) (hTk : (k : Int) / 2 = (T : Int)) (hna : ¬ (T : Int) ≤ last) (hlt : n1 < n) (hd2 : dec 0 0 (l.drop n1) = (u, m, 0)) (hu : u ≠ 0) (hu2 : u ≤ 18446744073709551615) (hm : n1 + m ≤ n) (hp : ((k : Int) % 2 == 0) = false) (h200 : ¬ 200 < u) (hsh : n1 + m + u ≤ n) :
    Calls Tryd.prog 96 #[.slice (some ⟨b, off, none⟩) n cap, .int .i64 last] w fun r w' => ∃ bv, r = .returned (.tuple #[FV T true 0 bv, .int .i64 ((n1 + m + u : Nat) : Int), .int .i64 0]) ∧ Own w' w.heap.size bv ((l.drop (n1 + m)).take u) ∧ Below w.heap.size w w' := by
  obtain ⟨W, hW, hR⟩ := rin_of hb
  have HW : Hid (_ = W) := hW
  have HR : Hid (Rin w W (some ⟨b, off, none⟩) l) := hR
  have HN : Hid (l.length = n) := hn
  have HD : Hid (_) := hd
  have hlm : l.length ≤ maxLen := by unfold maxLen; omega
  have T1 : Hid True := trivial
  clear hb hn hd hW hR
  have HD2 : Hid (_) := hd2
  have hn1I : (n1 : Int) ≤ (n : Int) := by omega
  have hn1c : (n1 : Int) ≤ (cap : Int) := by omega
  have hn0 : (0 : Int) ≤ (n1 : Int) := by omega
  have hnI : (n : Int) ≤ 1024 := by omega
  have HL2 : Hid ((l.drop n1).length = n - n1) := by show _ = _; rw [List.length_drop, HN.out]
  have HM2 : Hid ((l.drop n1).length ≤ maxLen) := by show _ ≤ _; rw [HL2.out]; unfold maxLen; omega
  have HB2 : Hid (Bytes W (some ⟨b, off + n1, none⟩) (l.drop n1)) := HR.out.byt.drop n1
  clear hd2
  have hcn : ¬ cap = n1 := by omega
  have hub : ((u : Int) == 0) = false := by simp; omega
  have hmI : (n1 : Int) + (m : Int) ≤ (n : Int) := by omega
  have hshI : (u : Int) ≤ (n : Int) - (n1 : Int) - (m : Int) := by omega
  have HLU : Hid (((l.drop (n1 + m)).take u).length = u) := by show _ = _; rw [List.length_take, List.length_drop, HN.out]; omega
  go_enter Tryd.func96, Tryd.ntmps96
  go_wp2_with (first
    | (go_at_call 29; clear T1; rw [HW.out]; refine (rdec_at l n k n1 0 (some ⟨b, off, none⟩) cap W HN.out HD.out HR.out.byt hlm).mono ?_; rintro x w1 ⟨rfl, hw1⟩; subst hw1)
    | (go_at_call 29; refine (rdec_at (l.drop n1) _ u m 0 _ _ W HL2.out HD2.out HB2.out HM2.out).mono ?_; rintro x w2 ⟨rfl, hw2⟩; subst hw2)
    | (go_at_call 6; have hcp := copy_any ((l.drop (n1 + m)).take u) (some ⟨b, off + (n1 + m), none⟩) (cap - (n1 + m)) W ((HR.out.byt.drop (n1 + m)).take u) (by rw [HLU.out]; omega); rw [HLU.out] at hcp; refine hcp.mono ?_; rintro r w3 ⟨v3, rfl, ho3, hb3⟩; obtain ⟨a3, cap3, hv3, _, _, _, _⟩ := ho3.shape; rw [HLU.out] at hv3; subst hv3; have HR3 : Hid (FldAt w3 w.heap.size 0 false 0 (.slice none 0 0)) := HR.out.res.keep hb3; have HB3 : Hid (Below w.heap.size w w3) := HR.out.bel.trans (hb3.mono HR.out.bel.size); have HO3 : Hid (Own w3 W.heap.size (.slice a3 u cap3) ((l.drop (n1 + m)).take u)) := ho3; clear ho3 hb3 hcp)
    | ((with_reducible refine guard_store 142 ?_); refine wpList_store_fld rfl _ _ rfl (k := w.heap.size) (num2 := 0) HR3.out rfl rfl rfl ?_; intro w5 hf5 hos5 hk5 hs5))
  refine bodyPost_ret (results_fld3 rfl _ _ _ rfl rfl rfl hf5) rfl ?_
  have hsz : w.heap.size + 1 < W.heap.size := lt_of_heap HR.out.non
  refine ⟨_, rfl, ⟨HO3.out.1, ?_⟩, ⟨hos5.1.trans HB3.out.os, hos5.2.1.trans HB3.out.tape, hos5.2.2.trans HB3.out.output, by rw [hs5]; exact HB3.out.size, fun k hk2 => (hk5 k (by omega)).trans (HB3.out.block k hk2)⟩⟩
  exact World.ownsRow.mono (base' := w.heap.size) (own_same (w' := w5) HO3.out.2 (fun k (hk : W.heap.size ≤ k) => hk5 k (by omega))) (by omega)
end Go.Proofs.YtofealmjggpacaaDoor
namespace Go.Proofs.YtofealmjggpacaaDoor
open Go.ChangeShapes Go.WideShapes Go.ChangeAt Go.RowKit
set_option linter.unusedVariables false
theorem rnext_any (l : List Nat) (b off n cap : Nat) (last : Int) (w : World) (hn : l.length = n) (hb : Bytes w (some ⟨b, off, none⟩) l) (hcap : n ≤ cap) (hl : n ≤ 1024) :
    Calls Tryd.prog 96 #[.slice (some ⟨b, off, none⟩) n cap, .int .i64 last] w fun r w' =>
      ((∃ F sz bv, next l last = (F, sz, 0) ∧ r = .returned (.tuple #[FV F.tag F.text F.num bv, .int .i64 (sz : Int), .int .i64 0]) ∧ Own w' w.heap.size bv F.bytes) ∨ (∃ e : Nat, e ≠ 0 ∧ (next l last).2.2 = e ∧ r = .returned (.tuple #[FV 0 false 0 (.slice none 0 0), .int .i64 0, .int .i64 (e : Int)]))) ∧ Below w.heap.size w w' := by
  have hmem : ∀ j, ∀ x ∈ l.drop j, x < 256 := fun j x hx => hb.mem x (List.mem_of_mem_drop hx)
  rcases hd : dec 0 0 l with ⟨k, n1, e1⟩
  by_cases he1 : e1 = 0
  · subst he1
    have d1 := vdec_form l hb.mem (by rw [hd])
    rw [hd] at d1
    simp only [hn] at d1
    obtain ⟨a1, a2, a3, a4, a5⟩ := d1
    rcases hd2 : dec 0 0 (l.drop n1) with ⟨u, m, e2⟩
    have hx := next_two l last k n1 u m e2 hd hd2
    unfold nextR at hx
    by_cases c1 : k < 2 ∨ 63 < k
    · rw [if_pos c1] at hx
      have he : (next l last).2.2 = 20 := by rw [hx]; rfl
      rcases c1 with c1 | c1
      · exact (rnext_tagA l b off n cap k n1 last w hn hb hcap hl hd c1).mono fun _ _ ⟨h1, h2⟩ => ⟨.inr ⟨20, by omega, he, h1⟩, h2⟩
      · exact (rnext_tagB l b off n cap k n1 last w hn hb hcap hl hd c1 a4).mono fun _ _ ⟨h1, h2⟩ => ⟨.inr ⟨20, by omega, he, h1⟩, h2⟩
    rw [if_neg c1] at hx
    obtain ⟨T, hT⟩ : ∃ T, k / 2 = T := ⟨_, rfl⟩
    have hTk : (k : Int) / 2 = (T : Int) := by omega
    rw [hT] at hx
    by_cases c2 : (T : Int) ≤ last
    · rw [if_pos c2] at hx
      have he : (next l last).2.2 = 21 := by rw [hx]; rfl
      exact (rnext_ord l b off n cap k n1 T last w hn hb hcap hl hd (by omega) (by omega) hTk c2).mono fun _ _ ⟨h1, h2⟩ => ⟨.inr ⟨21, by omega, he, h1⟩, h2⟩
    rw [if_neg c2] at hx
    by_cases c3 : e2 = 0
    · subst c3
      rw [if_neg (by simp)] at hx
      have d2 := vdec_form (l.drop n1) (hmem _) (by rw [hd2])
      rw [hd2] at d2
      simp only [List.length_drop, hn] at d2
      obtain ⟨b1, b2, b3, b4, b5⟩ := d2
      by_cases c4 : u = 0
      · subst c4
        rw [if_pos rfl] at hx
        have he : (next l last).2.2 = 22 := by rw [hx]; rfl
        exact (rnext_zero l b off n cap k n1 T m last w hn hb hcap hl hd (by omega) (by omega) hTk c2 (by omega) hd2).mono fun _ _ ⟨h1, h2⟩ => ⟨.inr ⟨22, by omega, he, h1⟩, h2⟩
      rw [if_neg c4] at hx
      by_cases c5 : k % 2 = 0
      · rw [if_pos c5] at hx
        refine (rnext_num l b off n cap k n1 T u m last w hn hb hcap hl hd (by omega) (by omega) hTk c2 (by omega) hd2 c4 b4 (by omega) (by simp; omega)).mono ?_
        rintro r w' ⟨h1, h2⟩
        exact ⟨.inl ⟨_, _, _, hx, h1, own_nil _ _⟩, h2⟩
      rw [if_neg c5] at hx
      have hp : ((k : Int) % 2 == 0) = false := by simp; omega
      by_cases c6 : 200 < u
      · rw [if_pos c6] at hx
        have he : (next l last).2.2 = 23 := by rw [hx]; rfl
        exact (rnext_long l b off n cap k n1 T u m last w hn hb hcap hl hd (by omega) (by omega) hTk c2 (by omega) hd2 c4 b4 (by omega) hp c6).mono fun _ _ ⟨h1, h2⟩ => ⟨.inr ⟨23, by omega, he, h1⟩, h2⟩
      rw [if_neg c6] at hx
      by_cases c7 : l.length < n1 + m + u
      · rw [if_pos c7] at hx
        have he : (next l last).2.2 = 10 := by rw [hx]; rfl
        rw [hn] at c7
        exact (rnext_short l b off n cap k n1 T u m last w hn hb hcap hl hd (by omega) (by omega) hTk c2 (by omega) hd2 c4 b4 (by omega) hp c6 (by omega)).mono fun _ _ ⟨h1, h2⟩ => ⟨.inr ⟨10, by omega, he, h1⟩, h2⟩
      rw [if_neg c7] at hx
      rw [hn] at c7
      refine (rnext_text l b off n cap k n1 T u m last w hn hb hcap hl hd (by omega) (by omega) hTk c2 (by omega) hd2 c4 b4 (by omega) hp c6 (by omega)).mono ?_
      rintro r w' ⟨bv, h1, h2, h3⟩
      exact ⟨.inl ⟨_, _, bv, hx, h1, h2⟩, h3⟩
    · rw [if_pos c3] at hx
      have hz := dec_zero 0 0 (l.drop n1) (by rw [hd2]; exact c3)
      rw [hd2] at hz
      simp only at hz
      obtain ⟨rfl, rfl⟩ := hz
      have he : (next l last).2.2 = e2 := by rw [hx]; rfl
      by_cases hlt : n1 < n
      · exact (rnext_bad2 l b off n cap k n1 T e2 last w hn hb hcap hl hd (by omega) (by omega) hTk c2 hlt c3 hd2).mono fun _ _ ⟨h1, h2⟩ => ⟨.inr ⟨e2, c3, he, h1⟩, h2⟩
      · obtain rfl : n1 = n := by omega
        rw [List.drop_eq_nil_of_le (by omega)] at hd2
        have : e2 = 10 := by have h := congrArg (fun x => x.2.2) hd2; exact h.symm
        subst this
        exact (rnext_bad2e l b off n1 cap k T last w hn hb hcap hl hd (by omega) (by omega) hTk c2).mono fun _ _ ⟨h1, h2⟩ => ⟨.inr ⟨10, c3, he, h1⟩, h2⟩
  · have hz := dec_zero 0 0 l (by rw [hd]; exact he1)
    rw [hd] at hz
    simp only at hz
    obtain ⟨rfl, rfl⟩ := hz
    have he : (next l last).2.2 = e1 := by rw [next_bad _ _ _ _ _ hd he1]; rfl
    exact (rnext_bad1 l (some ⟨b, off, none⟩) n cap e1 last w hn hb hcap hl he1 hd).mono fun _ _ ⟨h1, h2⟩ => ⟨.inr ⟨e1, he1, he, h1⟩, h2⟩
set_option maxRecDepth 20000 in
set_option maxHeartbeats 1000000 in
theorem rtdec_any (l : List Nat) (b off n cap : Nat) (w : World) (hn : l.length = n) (hb : Bytes w (some ⟨b, off, none⟩) l) (hcap : n ≤ cap) (hl : n ≤ 1024) (h0 : 0 < n) :
    Calls Tryd.prog 69 #[.slice (some ⟨b, off, none⟩) n cap] w fun r w' => DecPost w l r w' := by
  obtain ⟨i0, hi, hz0, hz1, hz2⟩ := info_parts Tryd.infoFd
  have HB : Hid (∀ w', Below w.heap.size w w' → Bytes w' (some ⟨b, off, none⟩) l) := fun w' h => hb.keep h
  have HMEM : Hid (∀ j, ∀ x ∈ l.drop j, x < 256) := fun j x hx => hb.mem x (List.mem_of_mem_drop hx)
  have HN : Hid (l.length = n) := hn
  have HR0 : Hid (recs l = decs (n + 1) l 0 0 []) := by show _ = _; unfold recs; rw [if_neg (by omega), hn]
  have HE0 : Hid (Rws (w.alloc (.cells #[] 142)) w.heap.size (.slice (some ⟨w.heap.size, 0, none⟩) 0 0) []) := ⟨⟨by simp [flat], .inr ⟨w.heap.size, 0, #[], rfl, Nat.le_refl _, heap_alloc_new w _, by simp, by simp, by simp, by simp [flat]⟩⟩, fun p hp => by cases hp⟩
  clear hb hn
  go_enter Tryd.func69, Tryd.ntmps69
  go_wp2
  go_loopw [5, 6, 7] (fun vf va vi wr => ∃ (fuel i : Nat) (A : Int) (L : List (Fld × Value)), va = .int .i64 A ∧ vi = .int .i64 (i : Int) ∧ i ≤ n ∧ Hid (recs l = decs (fuel + 1) l A i (L.map Prod.fst) ∧ n - i ≤ fuel ∧ L.length ≤ i ∧ Below w.heap.size w wr ∧ Rws wr w.heap.size vf L)) (fun _ _ vi _ => n - (intOf vi).toNat)
  case atStart => exact ⟨n, 0, 0, [], rfl, rfl, Nat.zero_le _, HR0.out, by omega, by simp, (Below.refl _ _).alloc (Nat.le_refl _) _, HE0.out⟩
  case round =>
    obtain ⟨fuel, i, A, L, rfl, rfl, hin, HI⟩ := hrel
    clear HR0 HE0
    have hnI : (n : Int) ≤ 1024 := by omega
    have hiI : (i : Int) ≤ (n : Int) := by omega
    have hic : (i : Int) ≤ (cap : Int) := by omega
    have hi0 : (0 : Int) ≤ (i : Int) := by omega
    by_cases hlt : i < n
    · have hci : ¬ cap = i := by omega
      have hltI : (i : Int) < (n : Int) := by omega
      have HL2 : Hid ((l.drop i).length = n - i) := by show _ = _; rw [List.length_drop, HN.out]
      go_wp2_with (first
        | (go_at_call 96; refine (rnext_any (l.drop i) b (off + i) _ _ A wr HL2.out ((HB.out wr HI.out.2.2.2.1).drop i) (by omega) (by omega)).mono ?_; rintro r w2 ⟨hr, hb2⟩; rcases hr with ⟨F, sz, bv, hnx, rfl, hob⟩ | ⟨e, he, hnx, rfl⟩; (obtain ⟨a5, cap5, rfl, _, _, _, _⟩ := hob.shape; obtain ⟨_, _, _, hsz1, hsz2, _, _, _, _, _, _⟩ := next_right (l.drop i) (HMEM.out i) A F sz hnx; rw [List.length_drop, HN.out] at hsz1; have HB2 : Hid (Below w.heap.size w w2) := HI.out.2.2.2.1.trans (hb2.mono HI.out.2.2.2.1.size); have HR2 : Hid (Rws w2 w.heap.size u5 L) := HI.out.2.2.2.2.same (fun k _ hlt => hb2.block k hlt); have HOB : Hid (Own w2 w.heap.size (.slice a5 F.bytes.length cap5) F.bytes) := ⟨hob.1, hob.2.mono HI.out.2.2.2.1.size⟩; have HNX : Hid (next (l.drop i) A = (F, sz, 0)) := hnx; have hs2 := HB2.out.size; have hsI : (i : Int) + (sz : Int) ≤ 1024 := (by omega); clear hob hnx hb2))
        | ((with_reducible refine guard_load 142 ?_); refine wpList_load_fld rfl _ rfl (FldAt.new w2 F.tag F.text F.num _) rfl ?_)
        | (at_builtin; have hR3 : Rws ((w2.alloc (.cells #[.int .i64 F.tag, .bool F.text, .int .u64 (F.num : Int), .slice a5 F.bytes.length cap5] 142)).alloc (.cells #[.int .i64 F.tag, .bool F.text, .int .u64 (F.num : Int), .slice a5 F.bytes.length cap5] 142)) w.heap.size u5 L := (HR2.out.alloc _).alloc _; refine wpList_append_own _ rfl _ _ 138 rfl w.heap.size 142 i0 _ 4 48 Tryd.underlying138 hi hz0 hz1 hz2 rfl (by decide) _ _ _ rfl hR3.own ⟨w2.heap.size + 1, 0, none⟩ 1 1 [.int .i64 F.tag, .bool F.text, .int .u64 (F.num : Int), .slice a5 F.bytes.length cap5] rfl rfl (by have h := news4 (w2.alloc (.cells #[.int .i64 F.tag, .bool F.text, .int .u64 (F.num : Int), .slice a5 F.bytes.length cap5] 142)) F (.slice a5 F.bytes.length cap5) 142; simpa using h) (one4 _ _ rfl) (by have := HI.out.2.2.1; unfold maxLen; omega) (by have := HI.out.2.2.1; omega) (by simp; omega) ?_; intro v4 w4 ho4 hg4 _; have HR3 : Hid (Rws ((w2.alloc (.cells #[.int .i64 F.tag, .bool F.text, .int .u64 (F.num : Int), .slice a5 F.bytes.length cap5] 142)).alloc (.cells #[.int .i64 F.tag, .bool F.text, .int .u64 (F.num : Int), .slice a5 F.bytes.length cap5] 142)) w.heap.size u5 L) := hR3; have HG4 : Hid (((w2.alloc (.cells #[.int .i64 F.tag, .bool F.text, .int .u64 (F.num : Int), .slice a5 F.bytes.length cap5] 142)).alloc (.cells #[.int .i64 F.tag, .bool F.text, .int .u64 (F.num : Int), .slice a5 F.bytes.length cap5] 142)).grownBy w4 u5.ownBlock) := hg4; have HO4 : Hid (w4.ownsRow w.heap.size 142 4 v4 (L.length + 1) (flat L ++ [.int .i64 F.tag, .bool F.text, .int .u64 (F.num : Int), .slice a5 F.bytes.length cap5])) := ho4; have HB4 : Hid (Below w.heap.size w w4) := ((HB2.out.alloc hs2 (.cells #[.int .i64 F.tag, .bool F.text, .int .u64 (F.num : Int), .slice a5 F.bytes.length cap5] 142)).alloc (by simp; omega) (.cells #[.int .i64 F.tag, .bool F.text, .int .u64 (F.num : Int), .slice a5 F.bytes.length cap5] 142)).grown hg4 (by simp; omega) (fun k hk => (hR3.own.lt k hk).1); have htg := tag_kept HR2.out.own hg4; clear ho4 hg4 hR3))
      · go_roundw
        case rel =>
          obtain ⟨f', rfl⟩ : ∃ f', fuel = f' + 1 := ⟨fuel - 1, by have := HI.out.2.1; omega⟩
          refine ⟨f', i + sz, F.tag, L ++ [(F, .slice a5 F.bytes.length cap5)], rfl, by go_num, by omega, ?_, by have := HI.out.2.1; omega, by have := HI.out.2.2.1; simp; omega, HB4.out, ?_, ?_⟩
          · rw [HI.out.1, decs_succ, if_neg (by rw [HN.out]; omega), (next_parts HNX.out).1, (next_parts HNX.out).2.1, (next_parts HNX.out).2.2, if_neg (by simp), List.map_append]; rfl
          · rw [List.length_append, flat_append]
            exact HO4.out
          · intro p hp
            rcases List.mem_append.1 hp with hp | hp
            · exact own_grown HR3.out.own HG4.out (HR3.out.byt p hp)
            · obtain rfl := List.mem_singleton.1 hp
              exact own_grown HR3.out.own HG4.out ⟨HOB.out.1, (HOB.out.2.alloc _).alloc _⟩
        case measure => simp [intOf]; omega
      · have hre : recs l = ([], i, e) := by rw [HI.out.1, decs_succ, if_neg (by rw [HN.out]; omega), hnx, if_pos he]
        have hbb := HI.out.2.2.2.1.trans (hb2.mono HI.out.2.2.2.1.size)
        go_ret3
        exact ⟨_, [], by rw [hre]; rfl, by rw [hre]; rfl, Rws.nil _ _, hbb.alloc hbb.size _⟩
    · obtain rfl : i = n := by omega
      have hre : recs l = (L.map Prod.fst, 0, 0) := by rw [HI.out.1, decs_succ, if_pos (by rw [HN.out]; exact Nat.le_refl _)]
      have HRE : Hid (recs l = (L.map Prod.fst, 0, 0)) := hre
      clear hre
      go_wp2
      go_ret3
      exact ⟨_, L, by rw [HRE.out]; rfl, by rw [HRE.out], HI.out.2.2.2.2, HI.out.2.2.2.1⟩
set_option maxRecDepth 20000 in
set_option maxHeartbeats 400000 in
theorem rtdec_nil (a : Option Addr) (cap : Nat) (w : World) :
    Calls Tryd.prog 69 #[.slice a 0 cap] w fun r w' => DecPost w [] r w' := by
  have hre : recs [] = ([], 0, 0) := by rfl
  have HE0 : Hid (Rws (w.alloc (.cells #[] 142)) w.heap.size (.slice (some ⟨w.heap.size, 0, none⟩) 0 0) []) := ⟨⟨by simp [flat], .inr ⟨w.heap.size, 0, #[], rfl, Nat.le_refl _, heap_alloc_new w _, by simp, by simp, by simp, by simp [flat]⟩⟩, fun p hp => by cases hp⟩
  go_enter Tryd.func69, Tryd.ntmps69
  go_wp2
  refine wp_loop_rounds 1 ?_
  rw [rounds_succ]
  go_wp2
  go_ret3
  exact ⟨_, [], by rw [hre]; rfl, by rw [hre]; rfl, HE0.out, (Below.refl _ _).alloc (Nat.le_refl _) _⟩
set_option maxRecDepth 20000 in
set_option maxHeartbeats 400000 in
theorem rtdec_big (l : List Nat) (a : Option Addr) (n cap : Nat) (w : World) (hn : l.length = n) (hl : ¬ n ≤ 1024) (hm : n ≤ maxLen) :
    Calls Tryd.prog 69 #[.slice a n cap] w fun r w' => DecPost w l r w' := by
  have hlI : (1024 : Int) < (n : Int) := by omega
  have HR : Hid (recs l = ([], 0, 24)) := by show _ = _; unfold recs; rw [if_pos (by omega)]
  clear hn
  go_enter Tryd.func69, Tryd.ntmps69
  go_wp2
  go_ret3
  exact ⟨_, [], by rw [HR.out]; rfl, by rw [HR.out]; rfl, Rws.nil _ _, Below.refl _ _⟩
theorem rtdec (l : List Nat) (a : Option Addr) (n cap : Nat) (w : World) (hn : l.length = n) (hb : Bytes w a l) (hcap : n ≤ cap) (hm : n ≤ maxLen) :
    Calls Tryd.prog 69 #[.slice a n cap] w fun r w' => DecPost w l r w' := by
  by_cases hl : n ≤ 1024
  · by_cases h0 : 0 < n
    · obtain ⟨b, off, rfl, _, _⟩ := hb.nonempty (by intro h; subst h; simp at hn; omega)
      exact rtdec_any l b off n cap w hn hb hcap hl h0
    · obtain rfl : n = 0 := by omega
      obtain rfl : l = [] := List.length_eq_zero_iff.1 hn
      exact rtdec_nil a cap w
  · exact rtdec_big l a n cap w hn hl hm
end Go.Proofs.YtofealmjggpacaaDoor
namespace Go.Proofs.YtofealmjggpacaaDoor
open Go.ChangeShapes Go.WideShapes Go.ChangeAt Go.RowKit
set_option linter.unusedVariables false
set_option maxRecDepth 20000 in
theorem clamp_any (u : Nat) (w : World) : Calls Tryd.prog 40 #[.int .u64 (u : Int)] w fun r w' => r = .returned (.int .i64 (capN u)) ∧ w = w' := by
  by_cases h : u ≤ 4611686018427387904
  · have HC : Hid (capN u = (u : Int)) := if_pos h
    have hI : (u : Int) ≤ 4611686018427387904 := by omega
    have hd : decide ((4611686018427387904 : Int) < (u : Int)) = false := by simp; omega
    clear h
    go_enter Tryd.func40, Tryd.ntmps40
    go_wp2
    go_ret
    exact ⟨by rw [HC.out]; rfl, rfl⟩
  · have HC : Hid (capN u = 4611686018427387904) := if_neg h
    have hI : (4611686018427387904 : Int) < (u : Int) := by omega
    clear h
    go_enter Tryd.func40, Tryd.ntmps40
    go_wp2
    go_ret
    exact ⟨by rw [HC.out]; rfl, rfl⟩
/-- a row of whole numbers that may be written -/
structure RowW (w : World) (b : Nat) (l : List Int) : Prop where
  row : RowI w b l
  fro : ∀ j, w.frozen? ⟨b, j, none⟩ = false
theorem RowW.set {w : World} {b : Nat} {l : List Int} (h : RowW w b l) (t : Nat) (x : Int) (m : List Int) (hl : m.length = l.length) (hm : ∀ j, j < m.length → m.getD j 0 = if j = t then x else l.getD j 0) (ht : t < l.length) : RowW (w.setCell ⟨b, t, none⟩ (.int .i64 x)) b m := by
  refine ⟨⟨by simpa [World.setCell] using h.row.1, fun j hj => ?_⟩, fun j => by rw [World.frozen?_setCell]; exact h.fro j⟩
  rw [hm j hj]
  by_cases e : j = t
  · subst e
    rw [if_pos rfl]
    exact World.cell?_setCell_same _ _ _ (by rw [h.row.2 j ht])
  · rw [if_neg e, World.cell?_setCell_other _ _ _ _ (by intro h9; simp at h9)]
    exact h.row.2 j (by omega)
/-- in the loop: w when called, w3 behind the reading, x now -/
structure Rv (w w3 x : World) (v : Int) (gs : List Fld) : Prop where
  bel : Below w.heap.size w w3
  be3 : Below w3.heap.size w3 x
  res : EvAt w3 w.heap.size zeroE
  non : EvAt w3 (w.heap.size + 1) zeroE
  num : RowW x w3.heap.size (NL v gs)
  ev : EvAt x (w3.heap.size + 1) { zeroE with who := str8 (txtF gs 8), note := str8 (txtF gs 10) }
theorem Rv.keep {w w3 x y : World} {v : Int} {gs : List Fld} (h : Rv w w3 x v gs) (hb : Below x.heap.size x y) : Rv w w3 y v gs :=
  ⟨h.bel, below_next h.be3 hb, h.res, h.non, ⟨h.num.row.keep hb, fun j => by
    have h1 := hb.block w3.heap.size h.num.row.1
    have h2 := h.num.fro j
    unfold World.frozen? at h2 ⊢
    rw [h1]; exact h2⟩, h.ev.after hb⟩
theorem Rv.drew {w w3 x : World} {v : Int} {gs : List Fld} (h : Rv w w3 x v gs) : Hid (Rv w w3 x.drew v gs) := h.keep (Below.refl _ _).drew
theorem zero_nums (v : Int) : NL v [] = [0, 0, 0, 0, 0, 0, 0, 0, 0, 0, 0] := by
  have h : ∀ t : Nat, rval v [] t = 0 := fun t => by
    have h0 : numF [] (t : Int) = 0 := rfl
    unfold rval
    rw [h0]
    split <;> rfl
  unfold NL
  simp [List.range, List.range.loop, h]
theorem Rv.who {w w3 x : World} {v : Int} {gs : List Fld} (h : Rv w w3 x v gs) {f : Fld} (hn : getF gs f.tag = none) (ht : f.tag = 8) (hx : f.text = true) : Rv w w3 (x.setCell ⟨w3.heap.size + 1, 7, none⟩ (.string (str8 f.bytes))) v (gs ++ [f]) := by
  have hne : NL v (gs ++ [f]) = NL v gs := by
    unfold NL
    exact List.map_congr_left (fun t _ => by unfold rval; rw [numF_snoc_text hn hx])
  have h3 := h.num.row.1
  refine ⟨h.bel, h.be3.setCell (p := ⟨w3.heap.size + 1, 7, none⟩) (by show _ ≤ w3.heap.size + 1; omega) _, h.res, h.non, ?_, ?_⟩
  · rw [hne]
    refine ⟨⟨by simpa [World.setCell] using h3, fun j hj => ?_⟩, fun j => by rw [World.frozen?_setCell]; exact h.num.fro j⟩
    rw [World.cell?_setCell_other _ _ _ _ (by intro h9; simp at h9)]
    exact h.num.row.2 j hj
  · refine h.ev.set _ ?_
    have e1 : txtF (gs ++ [f]) 8 = f.bytes := by rw [← ht]; exact txtF_snoc_same hn hx
    have e2 : txtF (gs ++ [f]) 10 = txtF gs 10 := txtF_snoc_other (by rw [ht]; decide)
    rw [e1, e2]; rfl
theorem Rv.note {w w3 x : World} {v : Int} {gs : List Fld} (h : Rv w w3 x v gs) {f : Fld} (hn : getF gs f.tag = none) (ht : f.tag = 10) (hx : f.text = true) : Rv w w3 (x.setCell ⟨w3.heap.size + 1, 9, none⟩ (.string (str8 f.bytes))) v (gs ++ [f]) := by
  have hne : NL v (gs ++ [f]) = NL v gs := by
    unfold NL
    exact List.map_congr_left (fun t _ => by unfold rval; rw [numF_snoc_text hn hx])
  have h3 := h.num.row.1
  refine ⟨h.bel, h.be3.setCell (p := ⟨w3.heap.size + 1, 9, none⟩) (by show _ ≤ w3.heap.size + 1; omega) _, h.res, h.non, ?_, ?_⟩
  · rw [hne]
    refine ⟨⟨by simpa [World.setCell] using h3, fun j hj => ?_⟩, fun j => by rw [World.frozen?_setCell]; exact h.num.fro j⟩
    rw [World.cell?_setCell_other _ _ _ _ (by intro h9; simp at h9)]
    exact h.num.row.2 j hj
  · refine h.ev.set _ ?_
    have e1 : txtF (gs ++ [f]) 10 = f.bytes := by rw [← ht]; exact txtF_snoc_same hn hx
    have e2 : txtF (gs ++ [f]) 8 = txtF gs 8 := txtF_snoc_other (by rw [ht]; decide)
    rw [e1, e2]; rfl
theorem Rv.put {w w3 x : World} {v : Int} {gs : List Fld} (h : Rv w w3 x v gs) {f : Fld} (T : Nat) (hT : f.tag = (T : Int)) (hT11 : T < 11) (hn : getF gs f.tag = none) (ht : isT f.tag = false) (hx : f.text = false) (X : Int) (hX : X = if T = 4 ∧ v ≤ 2 then zag (f.num : Int) else capN f.num) : Rv w w3 (x.setCell ⟨w3.heap.size, T, none⟩ (.int .i64 X)) v (gs ++ [f]) := by
  refine ⟨h.bel, h.be3.setCell (p := ⟨w3.heap.size, T, none⟩) (Nat.le_refl _) _, h.res, h.non, h.num.set T X _ (by rw [NL_len, NL_len]) (fun j hj => ?_) (by rw [NL_len]; exact hT11), ?_⟩
  · rw [NL_len] at hj
    rw [NL_get _ _ _ hj, NL_get _ _ _ hj]
    by_cases e : j = T
    · subst e
      rw [if_pos rfl, hX]
      unfold rval
      rw [← hT, numF_snoc_same hn hx]
    · rw [if_neg e]
      unfold rval
      rw [numF_snoc_other (by rw [hT]; omega)]
  · have e1 : txtF (gs ++ [f]) 8 = txtF gs 8 := txtF_snoc_other (by intro e; rw [e] at ht; cases ht)
    have e2 : txtF (gs ++ [f]) 10 = txtF gs 10 := txtF_snoc_other (by intro e; rw [e] at ht; cases ht)
    rw [e1, e2]
    exact (heap_setCell_other x ⟨w3.heap.size, T, none⟩ (w3.heap.size + 1) _ (by show w3.heap.size + 1 ≠ w3.heap.size; omega)).trans h.ev
end Go.Proofs.YtofealmjggpacaaDoor
namespace Go.Proofs.YtofealmjggpacaaDoor
open Go.ChangeShapes Go.WideShapes Go.ChangeAt Go.RowKit
set_option linter.unusedVariables false
theorem two_ev (w : World) : ∃ W, (w.alloc (.cells (evA zeroE) 25)).alloc (.cells (evA zeroE) 25) = W ∧ EvAt W w.heap.size zeroE ∧ EvAt W (w.heap.size + 1) zeroE ∧ Below w.heap.size w W := by
  refine ⟨_, rfl, (evAt_new w zeroE).after ((Below.refl _ _).alloc (Nat.le_refl _) _), ?_, (((Below.refl _ _).alloc (Nat.le_refl _) _).alloc (by simp) _)⟩
  have := evAt_new (w.alloc (.cells (evA zeroE) 25)) zeroE
  simpa using this
set_option maxRecDepth 20000 in
set_option maxHeartbeats 2000000 in
theorem rdec06_no (v : Int) (a : Option Addr) (n cap : Nat) (w : World) (hv : v < 1 ∨ (1 ≤ v ∧ 5 < v)) :
    Calls Tryd.prog 39 #[.int .i64 v, .slice a n cap] w fun r w' => r = .returned (.tuple #[.agg (evA zeroE), .int .i64 30]) ∧ Below w.heap.size w w' := by
  obtain ⟨W, hW, h0, h1, hb⟩ := two_ev w
  have HW : Hid (_ = W) := hW
  have H0 : Hid (EvAt W w.heap.size zeroE) := h0
  have H1 : Hid (EvAt W (w.heap.size + 1) zeroE) := h1
  have HB : Hid (Below w.heap.size w W) := hb
  have T1 : Hid True := trivial
  clear hW h0 h1 hb
  rcases hv with hv | ⟨hv0, hv⟩
  all_goals
    try have d1 : decide (v < 1) = false := by simp; omega
    go_enter Tryd.func39, Tryd.ntmps39
    go_wp2_with (first
      | ((with_reducible refine guard_store 25 ?_); clear T1; rw [show (w.alloc (.cells #[.int .i64 0, .int .i64 0, .int .i64 0, .int .i64 0, .int .i64 0, .int .i64 0, .int .i64 0, .string ⟨#[]⟩, .int .i64 0, .string ⟨#[]⟩] 25)).alloc (.cells #[.int .i64 0, .int .i64 0, .int .i64 0, .int .i64 0, .int .i64 0, .int .i64 0, .int .i64 0, .string ⟨#[]⟩, .int .i64 0, .string ⟨#[]⟩] 25) = W from HW.out]; refine wpList_store_ev (e := zeroE) (e2 := zeroE) rfl _ _ rfl H1.out rfl rfl ?_; intro x1 z1 z2 z3 z4; have HN : Hid (EvAt x1 (w.heap.size + 1) zeroE) := z1; have HR : Hid (EvAt x1 w.heap.size zeroE) := (z3 _ (by omega)).trans H0.out; have HBX : Hid (Below w.heap.size w x1) := z2 _ _ HB.out (by omega); clear z1 z2 z3 z4)
      | ((with_reducible refine guard_load 25 ?_); refine wpList_load_ev rfl _ rfl HN.out rfl ?_)
      | ((with_reducible refine guard_store 25 ?_); refine wpList_store_ev (e := zeroE) (e2 := zeroE) rfl _ _ rfl HR.out rfl rfl ?_; intro x5 z1 z2 z3 z4))
    exact bodyPost_ret (results_ev rfl _ _ _ _ _ rfl rfl z1) rfl ⟨rfl, z2 _ _ HBX.out (Nat.le_refl _)⟩
theorem mk11 (w : World) : (Instr.makeSlice 68 (.int .i64 11) (.int .i64 11)).run Tryd.prog w = .ok (.slice (some ⟨w.heap.size, 0, none⟩) 11 11) (w.alloc (.cells #[.int .i64 0, .int .i64 0, .int .i64 0, .int .i64 0, .int .i64 0, .int .i64 0, .int .i64 0, .int .i64 0, .int .i64 0, .int .i64 0, .int .i64 0] 3)) := by kernel_rfl
theorem rv_box (w3 : World) : ∃ W, (w3.alloc (.cells #[.int .i64 0, .int .i64 0, .int .i64 0, .int .i64 0, .int .i64 0, .int .i64 0, .int .i64 0, .int .i64 0, .int .i64 0, .int .i64 0, .int .i64 0] 3)).alloc (.cells (evA zeroE) 25) = W ∧ EvAt W (w3.heap.size + 1) zeroE ∧ W.heap[w3.heap.size]? = some (.cells (IV [0, 0, 0, 0, 0, 0, 0, 0, 0, 0, 0]) 3) ∧ Below w3.heap.size w3 W := by
  refine ⟨_, rfl, ?_, ?_, (((Below.refl _ _).alloc (Nat.le_refl _) _).alloc (by simp) _)⟩
  · have := evAt_new (w3.alloc (.cells #[.int .i64 0, .int .i64 0, .int .i64 0, .int .i64 0, .int .i64 0, .int .i64 0, .int .i64 0, .int .i64 0, .int .i64 0, .int .i64 0, .int .i64 0] 3)) zeroE
    simpa using this
  · exact (Below.heap_alloc _ _ _ (by simp)).trans (heap_alloc_new w3 _)
theorem Rv.start {w w3 x : World} {v : Int} (hb : Below w.heap.size w w3) (h0 : EvAt w3 w.heap.size zeroE) (h1 : EvAt w3 (w.heap.size + 1) zeroE) (h3 : Below w3.heap.size w3 x) (hn : x.heap[w3.heap.size]? = some (.cells (IV [0, 0, 0, 0, 0, 0, 0, 0, 0, 0, 0]) 3)) (he : EvAt x (w3.heap.size + 1) zeroE) : Rv w w3 x v [] := by
  refine ⟨hb, h3, h0, h1, ⟨?_, fun j => frozen_of_row _ _ j _ _ hn⟩, he⟩
  rw [zero_nums]
  exact row_of hn
theorem take_mem {fs : List Fld} {k : Nat} {f g : Fld} (h : fs[k]? = some f) (hg : g ∈ fs.take (k + 1)) : g ∈ fs.take k ∨ g = f := by
  have hk : k < fs.length := by
    by_cases hh : k < fs.length
    · exact hh
    · rw [List.getElem?_eq_none (by omega)] at h; cases h
  rw [List.getElem?_eq_getElem hk] at h
  rw [List.take_succ_eq_append_getElem hk, Option.some.inj h] at hg
  rcases List.mem_append.1 hg with h1 | h1
  · exact .inl h1
  · exact .inr (List.mem_singleton.1 h1)
/-- the fields of the version's tags among the first k -/
def gsl (H : Int) (fs : List Fld) (k : Nat) : List Fld := (fs.take k).filter (fun f => decide (f.tag ≤ H))
def alN (H : Int) (fs : List Fld) (k : Nat) : Bool := (fs.take k).any (fun f => decide (H < f.tag))
theorem gsl_step {H : Int} {fs : List Fld} {k : Nat} {f : Fld} (h : fs[k]? = some f) : gsl H fs (k + 1) = if f.tag ≤ H then gsl H fs k ++ [f] else gsl H fs k := by
  have hk : k < fs.length := by
    by_cases hh : k < fs.length
    · exact hh
    · rw [List.getElem?_eq_none (by omega)] at h; cases h
  rw [List.getElem?_eq_getElem hk] at h
  unfold gsl
  rw [List.take_succ_eq_append_getElem hk, Option.some.inj h, List.filter_append, List.filter_cons]
  by_cases e : f.tag ≤ H
  · rw [if_pos e, if_pos (by simpa using e)]; rfl
  · rw [if_neg e, if_neg (by simpa using e)]; simp
theorem alN_step {H : Int} {fs : List Fld} {k : Nat} {f : Fld} (h : fs[k]? = some f) : alN H fs (k + 1) = (alN H fs k || decide (H < f.tag)) := by
  have hk : k < fs.length := by
    by_cases hh : k < fs.length
    · exact hh
    · rw [List.getElem?_eq_none (by omega)] at h; cases h
  rw [List.getElem?_eq_getElem hk] at h
  unfold alN
  rw [List.take_succ_eq_append_getElem hk, Option.some.inj h, List.any_append]
  simp
theorem gsl_fresh {H : Int} {fs : List Fld} (hp : fs.Pairwise (fun f g => f.tag < g.tag)) {k : Nat} {f : Fld} (h : fs[k]? = some f) : getF (gsl H fs k) f.tag = none := by
  rw [getF_none]
  intro g hg e
  have hg2 := (List.mem_filter.1 hg).1
  have hk : k < fs.length := by
    by_cases hh : k < fs.length
    · exact hh
    · rw [List.getElem?_eq_none (by omega)] at h; cases h
  obtain ⟨i, hi, hri⟩ := List.mem_iff_getElem.1 hg2
  have hi2 : i < k := by simp at hi; omega
  rw [List.pairwise_iff_getElem] at hp
  have h1 := hp i k (by omega) hk hi2
  rw [List.getElem?_eq_getElem hk] at h
  rw [List.getElem_take] at hri
  rw [hri, Option.some.inj h] at h1
  omega
theorem fill8 {wr : World} {b : Nat} {S8 S10 : ByteArray} (h : EvAt wr b { zeroE with who := S8, note := S10 }) (n1 n2 n3 n4 n5 n6 n7 n9 : Int) (Z : World) (hZ : ((((((((wr.setCell ⟨b, 0, none⟩ (.int .i64 n1)).setCell ⟨b, 1, none⟩ (.int .i64 n2)).setCell ⟨b, 2, none⟩ (.int .i64 n3)).setCell ⟨b, 3, none⟩ (.int .i64 n4)).setCell ⟨b, 4, none⟩ (.int .i64 n5)).setCell ⟨b, 5, none⟩ (.int .i64 n6)).setCell ⟨b, 6, none⟩ (.int .i64 n7)).setCell ⟨b, 8, none⟩ (.int .i64 n9)) = Z) :
    EvAt Z b ⟨n1, n2, n3, n4, n5, n6, n7, S8, n9, S10⟩ ∧ (∀ j, j ≠ b → Z.heap[j]? = wr.heap[j]?) ∧ (∀ B a, Below B a wr → B ≤ b → Below B a Z) := by
  subst hZ
  have s0 : EvAt (wr.setCell ⟨b, 0, none⟩ (.int .i64 n1)) b { zeroE with who := S8, note := S10, kind := n1 } := h.set _ rfl
  have s1 : EvAt ((wr.setCell ⟨b, 0, none⟩ (.int .i64 n1)).setCell ⟨b, 1, none⟩ (.int .i64 n2)) b { zeroE with who := S8, note := S10, kind := n1, order := n2 } := s0.set _ rfl
  have s2 : EvAt (((wr.setCell ⟨b, 0, none⟩ (.int .i64 n1)).setCell ⟨b, 1, none⟩ (.int .i64 n2)).setCell ⟨b, 2, none⟩ (.int .i64 n3)) b { zeroE with who := S8, note := S10, kind := n1, order := n2, item := n3 } := s1.set _ rfl
  have s3 : EvAt ((((wr.setCell ⟨b, 0, none⟩ (.int .i64 n1)).setCell ⟨b, 1, none⟩ (.int .i64 n2)).setCell ⟨b, 2, none⟩ (.int .i64 n3)).setCell ⟨b, 3, none⟩ (.int .i64 n4)) b { zeroE with who := S8, note := S10, kind := n1, order := n2, item := n3, qty := n4 } := s2.set _ rfl
  have s4 : EvAt (((((wr.setCell ⟨b, 0, none⟩ (.int .i64 n1)).setCell ⟨b, 1, none⟩ (.int .i64 n2)).setCell ⟨b, 2, none⟩ (.int .i64 n3)).setCell ⟨b, 3, none⟩ (.int .i64 n4)).setCell ⟨b, 4, none⟩ (.int .i64 n5)) b { zeroE with who := S8, note := S10, kind := n1, order := n2, item := n3, qty := n4, price := n5 } := s3.set _ rfl
  have s5 : EvAt ((((((wr.setCell ⟨b, 0, none⟩ (.int .i64 n1)).setCell ⟨b, 1, none⟩ (.int .i64 n2)).setCell ⟨b, 2, none⟩ (.int .i64 n3)).setCell ⟨b, 3, none⟩ (.int .i64 n4)).setCell ⟨b, 4, none⟩ (.int .i64 n5)).setCell ⟨b, 5, none⟩ (.int .i64 n6)) b { zeroE with who := S8, note := S10, kind := n1, order := n2, item := n3, qty := n4, price := n5, cur := n6 } := s4.set _ rfl
  have s6 : EvAt (((((((wr.setCell ⟨b, 0, none⟩ (.int .i64 n1)).setCell ⟨b, 1, none⟩ (.int .i64 n2)).setCell ⟨b, 2, none⟩ (.int .i64 n3)).setCell ⟨b, 3, none⟩ (.int .i64 n4)).setCell ⟨b, 4, none⟩ (.int .i64 n5)).setCell ⟨b, 5, none⟩ (.int .i64 n6)).setCell ⟨b, 6, none⟩ (.int .i64 n7)) b { zeroE with who := S8, note := S10, kind := n1, order := n2, item := n3, qty := n4, price := n5, cur := n6, tax := n7 } := s5.set _ rfl
  have s8 : EvAt ((((((((wr.setCell ⟨b, 0, none⟩ (.int .i64 n1)).setCell ⟨b, 1, none⟩ (.int .i64 n2)).setCell ⟨b, 2, none⟩ (.int .i64 n3)).setCell ⟨b, 3, none⟩ (.int .i64 n4)).setCell ⟨b, 4, none⟩ (.int .i64 n5)).setCell ⟨b, 5, none⟩ (.int .i64 n6)).setCell ⟨b, 6, none⟩ (.int .i64 n7)).setCell ⟨b, 8, none⟩ (.int .i64 n9)) b { zeroE with who := S8, note := S10, kind := n1, order := n2, item := n3, qty := n4, price := n5, cur := n6, tax := n7, stamp := n9 } := s6.set _ rfl
  exact ⟨s8, fun j hj => ((heap_setCell_other _ ⟨b, 8, none⟩ j _ hj).trans ((heap_setCell_other _ ⟨b, 6, none⟩ j _ hj).trans ((heap_setCell_other _ ⟨b, 5, none⟩ j _ hj).trans ((heap_setCell_other _ ⟨b, 4, none⟩ j _ hj).trans ((heap_setCell_other _ ⟨b, 3, none⟩ j _ hj).trans ((heap_setCell_other _ ⟨b, 2, none⟩ j _ hj).trans ((heap_setCell_other _ ⟨b, 1, none⟩ j _ hj).trans (heap_setCell_other wr ⟨b, 0, none⟩ j _ hj)))))))), fun B a hb hk => ((((((((hb.setCell (p := ⟨b, 0, none⟩) hk _).setCell (p := ⟨b, 1, none⟩) hk _).setCell (p := ⟨b, 2, none⟩) hk _).setCell (p := ⟨b, 3, none⟩) hk _).setCell (p := ⟨b, 4, none⟩) hk _).setCell (p := ⟨b, 5, none⟩) hk _).setCell (p := ⟨b, 6, none⟩) hk _).setCell (p := ⟨b, 8, none⟩) hk _)⟩
set_option maxRecDepth 20000 in
set_option maxHeartbeats 4000000 in
theorem rdec06_yes (v : Int) (l : List Nat) (a : Option Addr) (n cap : Nat) (w : World) (hn : l.length = n) (hb : Bytes w a l) (hcap : n ≤ cap) (hm : n ≤ maxLen) (hv1 : 1 ≤ v) (hv5 : v ≤ 5) (he : (recs l).2.2 = 0) :
    Calls Tryd.prog 39 #[.int .i64 v, .slice a n cap] w fun r w' => r = .returned (.tuple #[.agg (evA (sdec v l).1), .int .i64 (sdec v l).2]) ∧ Below w.heap.size w w' := by
  have hl := lt_all hb.1
  obtain ⟨r1, r2, r3, r4⟩ := recs_ok l hl he
  obtain ⟨r5, r6⟩ := encs_rise _ _ _ _ r2
  have HPW : Hid ((recs l).1.Pairwise (fun f g => f.tag < g.tag)) := r5
  have HFR : Hid (∀ f ∈ (recs l).1, FRight f ∧ 1 ≤ f.tag ∧ f.tag ≤ 31) := fun f hf => ⟨r3 f hf, (r6 f hf).2.1, (r6 f hf).2.2.1⟩
  obtain ⟨H, hH⟩ : ∃ H, hasK v = H := ⟨_, rfl⟩
  have HHK : Hid (hasK v = H) := hH
  have HHV : Hid ((H : Int) = hasV v) := by show _ = _; rw [← hH]; exact hasK_hasV hv1 hv5
  have hH10 : H ≤ 10 := by have := hasV_le v; have := HHV.out; omega
  have HVV : Hid (1 ≤ v ∧ v ≤ 5) := ⟨hv1, hv5⟩
  have d1 : decide (v < 1) = false := by simp; omega
  have d5 : decide (5 < v) = false := by simp; omega
  obtain ⟨W, hW, h0, h1, hbW⟩ := two_ev w
  have HW : Hid (_ = W) := hW
  have H0 : Hid (EvAt W w.heap.size zeroE) := h0
  have H1 : Hid (EvAt W (w.heap.size + 1) zeroE) := h1
  have HB : Hid (Below w.heap.size w W) := hbW
  have HBY : Hid (Bytes w a l) := hb
  have HN : Hid (_) := hn
  have HE : Hid (_) := he
  have HI0 : Hid (_) := r1
  have HLN : Hid ((recs l).1.length ≤ 512) := by
    have h1 := encs_len _ _ _ _ (fun f hf => (r3 f hf).1) r2
    show _ ≤ _
    simp only [List.length_nil] at h1
    omega
  have T1 : Hid True := trivial
  have hmk := mk11
  clear hW h0 h1 hbW hb hn he hl r1 r2 r3 r4 r5 r6 hH hv1 hv5
  go_enter Tryd.func39, Tryd.ntmps39
  go_wp2_with (first
    | ((with_reducible refine guard_store 25 ?_); clear T1; rw [show (w.alloc (.cells #[.int .i64 0, .int .i64 0, .int .i64 0, .int .i64 0, .int .i64 0, .int .i64 0, .int .i64 0, .string ⟨#[]⟩, .int .i64 0, .string ⟨#[]⟩] 25)).alloc (.cells #[.int .i64 0, .int .i64 0, .int .i64 0, .int .i64 0, .int .i64 0, .int .i64 0, .int .i64 0, .string ⟨#[]⟩, .int .i64 0, .string ⟨#[]⟩] 25) = W from HW.out]; refine wpList_store_ev (e := zeroE) (e2 := zeroE) rfl _ _ rfl H1.out rfl rfl ?_; intro x1 z1 z2 z3 z4; have HNN : Hid (EvAt x1 (w.heap.size + 1) zeroE) := z1; have HRR : Hid (EvAt x1 w.heap.size zeroE) := (z3 _ (by omega)).trans H0.out; have HBX : Hid (Below w.heap.size w x1) := z2 _ _ HB.out (by omega); clear z1 z2 z3 z4)
    | (go_at_call 69; refine (rtdec l a n cap _ HN.out (HBY.out.keep HBX.out) hcap hm).mono ?_; unfold DecPost; rw [HE.out, HI0.out]; rintro _ w3 ⟨vv, L, rfl, hL, hR, hb3⟩; obtain ⟨fa, fc, hvv, hF⟩ := hR.fs (fun p hp => by have h9 := (HFR.out p.1 (by rw [hL]; exact List.mem_map_of_mem hp)).1; exact ⟨h9.1, by unfold maxLen; have := h9.2.1; omega⟩); subst hvv; have HL : Hid (_) := hL; have HRW : Hid (Rws w3 x1.heap.size (.slice fa L.length fc) L) := hR; have HFS : Hid (FsAt w3 fa L) := hF; obtain ⟨N, hN⟩ : ∃ N, L.length = N := ⟨_, rfl⟩; have HNL : Hid (L.length = N) := hN; rw [hN]; have HB3 : Hid (Below w.heap.size w w3) := below_next HBX.out hb3; have HN3 : Hid (EvAt w3 (w.heap.size + 1) zeroE) := HNN.out.after hb3; have HR3 : Hid (EvAt w3 w.heap.size zeroE) := HRR.out.after hb3; have hN5 : N ≤ 512 := (by have h9 := HLN.out; rw [hL, List.length_map, hN] at h9; exact h9); clear hL hR hb3 hF hN; obtain ⟨WB, hWB, hwe, hwn, hwb⟩ := rv_box w3; have HWB : Hid ((w3.alloc (.cells #[.int .i64 0, .int .i64 0, .int .i64 0, .int .i64 0, .int .i64 0, .int .i64 0, .int .i64 0, .int .i64 0, .int .i64 0, .int .i64 0, .int .i64 0] 3)).alloc (.cells #[.int .i64 0, .int .i64 0, .int .i64 0, .int .i64 0, .int .i64 0, .int .i64 0, .int .i64 0, .string ⟨#[]⟩, .int .i64 0, .string ⟨#[]⟩] 25) = WB) := hWB; have HWE : Hid (EvAt WB (w3.heap.size + 1) zeroE) := hwe; have HWN : Hid (_) := hwn; have HWL : Hid (Below w3.heap.size w3 WB) := hwb; clear hWB hwe hwn hwb)
    | ((with_reducible refine guard_store 25 ?_); rw [HWB.out]; refine wpList_store_ev (e := zeroE) (e2 := zeroE) rfl _ _ rfl HWE.out rfl rfl ?_; intro x4 z1 z2 z3 z4; have HRV : Hid (Rv w w3 x4 v []) := Rv.start HB3.out HR3.out HN3.out (z2 _ _ HWL.out (by omega)) ((z3 _ (by omega)).trans HWN.out) z1; clear z1 z2 z3 z4))
  go_loopw [10, 37] (fun va vi wr => ∃ k : Nat, k ≤ N ∧ vi = .int .i64 k ∧ va = .bool (alN H (L.map Prod.fst) k) ∧ Hid (Rv w w3 wr v (gsl H (L.map Prod.fst) k) ∧ ∀ f ∈ (L.map Prod.fst).take k, f.tag ≤ (H : Int) → f.text = isT f.tag)) (fun _ vi _ => N - (intOf vi).toNat)
  case atStart => exact ⟨0, Nat.zero_le _, rfl, rfl, HRV.out, fun f hf => by simp at hf⟩
  case round =>
    obtain ⟨k, hk, rfl, rfl, HI⟩ := hrel
    by_cases hkl : k < N
    · obtain ⟨p, hp⟩ : ∃ p, L[k]? = some p := ⟨_, List.getElem?_eq_getElem (by rw [HNL.out]; exact hkl)⟩
      have hpm : p ∈ L := List.mem_of_getElem? hp
      obtain ⟨fb, foff, hab⟩ : ∃ b off, fa = some ⟨b, off, none⟩ := by
        rcases HFS.out.row with h0 | ⟨b2, off2, h1, _⟩
        · rw [h0] at hpm; cases hpm
        · exact ⟨b2, off2, h1⟩
      subst hab
      obtain ⟨c0, c1, c2, c3⟩ := (HFS.out.keep HI.out.1.be3).cells k p hp
      obtain ⟨ad, pcap, hpv, _, _⟩ := (HFS.out.fok p hpm).byt
      have HFI : Hid ((L.map Prod.fst)[k]? = some p.1) := by show _ = _; rw [List.getElem?_map, hp]; rfl
      have HOW : Hid (Own w3 x1.heap.size p.2 p.1.bytes) := HRW.out.byt p hpm
      have hfr := HFR.out p.1 (by rw [HL.out]; exact List.mem_map_of_mem hpm)
      obtain ⟨⟨T, tx, nu, by0⟩, bv⟩ := p
      simp only at c0 c1 c2 c3 hpv hfr HFI HOW
      subst hpv
      obtain ⟨hfr1, hfr2, hfr3⟩ := hfr
      obtain ⟨t, rfl⟩ := Int.eq_ofNat_of_zero_le (by omega : 0 ≤ T)
      obtain ⟨M, hM⟩ : ∃ M, by0.length = M := ⟨_, rfl⟩
      rw [hM] at c3 HOW
      have HNU : Hid (nu ≤ 18446744073709551615) := hfr1.1
      have HFRESH : Hid (getF (gsl H (L.map Prod.fst) k) ((t : Nat) : Int) = none) := gsl_fresh (f := ⟨(t : Int), tx, nu, by0⟩) (by rw [← HL.out]; exact HPW.out) HFI.out
      have HT : Hid (1 ≤ t ∧ t ≤ 31) := ⟨by omega, by omega⟩
      have hFA : FldAt (wr.alloc (.cells #[.int .i64 (t : Int), .bool tx, .int .u64 (nu : Int), .slice ad M pcap] 142)) wr.heap.size (t : Int) tx nu (.slice ad M pcap) := FldAt.new wr _ _ _ _
      have HFA : Hid (FldAt (wr.alloc (.cells #[.int .i64 (t : Int), .bool tx, .int .u64 (nu : Int), .slice ad M pcap] 142)) wr.heap.size (t : Int) tx nu (.slice ad M pcap)) := hFA
      obtain ⟨g0, _, _, _⟩ := hFA.cells
      have HRA : Hid (Rv w w3 (wr.alloc (.cells #[.int .i64 (t : Int), .bool tx, .int .u64 (nu : Int), .slice ad M pcap] 142)) v (gsl H (L.map Prod.fst) k)) := HI.out.1.keep ((Below.refl _ _).alloc (Nat.le_refl _) _)
      clear hfr1 hfr2 hfr3 hM hpm hp hFA
      go_wp2
      obtain ⟨Y, hY⟩ : ∃ Y, wr.alloc (.cells #[.int .i64 (t : Int), .bool tx, .int .u64 (nu : Int), .slice ad M pcap] 142) = Y := ⟨_, rfl⟩
      rw [hY] at g0 HFA HRA ⊢
      clear hY
      go_region_held3 (fun w' => w'.cell? ⟨wr.heap.size, 0, none⟩ = some (.int .i64 (t : Int))) (go_keep) ((go_at_call 70; refine (rhas_any v _ HVV.out.1 HVV.out.2).mono ?_; rw [HHK.out]; rintro _ y1 ⟨rfl, hb1⟩; have hf1 : FldAt y1 wr.heap.size (t : Int) tx nu (.slice ad M pcap) := (show FldAt Y.drew wr.heap.size (t : Int) tx nu (.slice ad M pcap) from HFA.out).keep hb1; obtain ⟨f0, f1, f2, f3⟩ := hf1.cells; have HR1 : Hid (Rv w w3 y1 v (gsl H (L.map Prod.fst) k)) := (show Rv w w3 Y.drew v (gsl H (L.map Prod.fst) k) from HRA.out.keep (Below.refl _ _).drew).keep hb1; clear hf1 hb1))
      by_cases hal : (H : Int) < (t : Int)
      · go_wp2
        go_roundw
        case rel => exact ⟨k + 1, by omega, by go_num, by rw [alN_step HFI.out]; simp [hal], by rw [gsl_step HFI.out, if_neg (show ¬ (t : Int) ≤ (H : Int) by omega)]; exact HR1.out, fun f hf hfH => by rcases take_mem HFI.out hf with h9 | rfl; exact HI.out.2 f h9 hfH; exfalso; simp only at hfH; omega⟩
        case measure => simp [intOf]; omega
      · have hald : decide ((H : Int) < (t : Int)) = false := by simp; omega
        have hth : t ≤ H := by omega
        have HCV : Hid (Own y1 x1.heap.size (.slice ad M pcap) by0) := own_app HOW.out HR1.out.be3
        clear c0 c1 c2 c3 g0
        by_cases h8 : t = 8
        · subst h8
          cases tx with
          | false =>
            have HSD : Hid (sdec v l = (zeroE, 33)) := sdec_wrong HVV.out.1 HVV.out.2 HE.out HPW.out (fun f hf => (HFR.out f hf).2.1) (f := ⟨((8 : Nat) : Int), false, nu, by0⟩) (by rw [HL.out]; exact List.mem_of_getElem? HFI.out) (by rw [← HHV.out]; show ((8 : Nat) : Int) ≤ (H : Int); omega) (by simp [isT])
            have HNY : Hid (EvAt y1 (w.heap.size + 1) zeroE) := HR1.out.non.after HR1.out.be3
            have HRY : Hid (EvAt y1 w.heap.size zeroE) := HR1.out.res.after HR1.out.be3
            have HBY1 : Hid (Below w.heap.size w y1) := below_next HR1.out.bel HR1.out.be3
            go_wp2_with (first
              | ((with_reducible refine guard_load 25 ?_); refine wpList_load_ev rfl _ rfl HNY.out rfl ?_)
              | ((with_reducible refine guard_store 25 ?_); refine wpList_store_ev (e := zeroE) (e2 := zeroE) rfl _ _ rfl HRY.out rfl rfl ?_; intro x5 z1 z2 z3 z4))
            rw [HSD.out]
            exact bodyPost_ret (results_ev rfl _ _ _ _ _ rfl rfl z1) rfl ⟨rfl, z2 _ _ HBY1.out (Nat.le_refl _)⟩
          | true =>
            obtain ⟨ec0, ec1, ec2, ec3, ec4, ec5, ec6, ec7, ec8, ec9⟩ := HR1.out.ev.cells
            have ef7 := HR1.out.ev.froz 7
            have hcn := conv_own HCV.out
            have HNEW : Hid (Rv w w3 (y1.setCell ⟨w3.heap.size + 1, 7, none⟩ (.string (str8 by0))) v (gsl H (L.map Prod.fst) k ++ [⟨((8 : Nat) : Int), true, nu, by0⟩])) := HR1.out.who (f := ⟨((8 : Nat) : Int), true, nu, by0⟩) HFRESH.out rfl rfl
            go_wp2
            go_roundw
            case rel => exact ⟨k + 1, by omega, by go_num, by rw [alN_step HFI.out]; simp [show ¬ (H : Int) < (8 : Int) from by omega], by rw [gsl_step HFI.out, if_pos (show ((8 : Nat) : Int) ≤ (H : Int) by omega)]; exact HNEW.out, fun f hf hfH => by rcases take_mem HFI.out hf with h9 | rfl; exact HI.out.2 f h9 hfH; exact rfl⟩
            case measure => simp [intOf]; omega
        · have t8 : ((t : Int) == 8) = false := by simp; omega
          by_cases h10 : t = 10
          · subst h10
            cases tx with
            | false =>
              have HSD : Hid (sdec v l = (zeroE, 33)) := sdec_wrong HVV.out.1 HVV.out.2 HE.out HPW.out (fun f hf => (HFR.out f hf).2.1) (f := ⟨((10 : Nat) : Int), false, nu, by0⟩) (by rw [HL.out]; exact List.mem_of_getElem? HFI.out) (by rw [← HHV.out]; show ((10 : Nat) : Int) ≤ (H : Int); omega) (by simp [isT])
              have HNY : Hid (EvAt y1 (w.heap.size + 1) zeroE) := HR1.out.non.after HR1.out.be3
              have HRY : Hid (EvAt y1 w.heap.size zeroE) := HR1.out.res.after HR1.out.be3
              have HBY1 : Hid (Below w.heap.size w y1) := below_next HR1.out.bel HR1.out.be3
              go_wp2_with (first
                | ((with_reducible refine guard_load 25 ?_); refine wpList_load_ev rfl _ rfl HNY.out rfl ?_)
                | ((with_reducible refine guard_store 25 ?_); refine wpList_store_ev (e := zeroE) (e2 := zeroE) rfl _ _ rfl HRY.out rfl rfl ?_; intro x5 z1 z2 z3 z4))
              rw [HSD.out]
              exact bodyPost_ret (results_ev rfl _ _ _ _ _ rfl rfl z1) rfl ⟨rfl, z2 _ _ HBY1.out (Nat.le_refl _)⟩
            | true =>
              obtain ⟨ec0, ec1, ec2, ec3, ec4, ec5, ec6, ec7, ec8, ec9⟩ := HR1.out.ev.cells
              have ef9 := HR1.out.ev.froz 9
              have hcn := conv_own HCV.out
              have HNEW : Hid (Rv w w3 (y1.setCell ⟨w3.heap.size + 1, 9, none⟩ (.string (str8 by0))) v (gsl H (L.map Prod.fst) k ++ [⟨((10 : Nat) : Int), true, nu, by0⟩])) := HR1.out.note (f := ⟨((10 : Nat) : Int), true, nu, by0⟩) HFRESH.out rfl rfl
              go_wp2
              go_roundw
              case rel => exact ⟨k + 1, by omega, by go_num, by rw [alN_step HFI.out]; simp [show ¬ (H : Int) < (10 : Int) from by omega], by rw [gsl_step HFI.out, if_pos (show ((10 : Nat) : Int) ≤ (H : Int) by omega)]; exact HNEW.out, fun f hf hfH => by rcases take_mem HFI.out hf with h9 | rfl; exact HI.out.2 f h9 hfH; exact rfl⟩
              case measure => simp [intOf]; omega
          · have t10 : ((t : Int) == 10) = false := by simp; omega
            have HISF : Hid (isT (t : Int) = false) := by show _ = _; unfold isT; simp; omega
            cases tx with
            | true =>
              have HSD : Hid (sdec v l = (zeroE, 33)) := sdec_wrong HVV.out.1 HVV.out.2 HE.out HPW.out (fun f hf => (HFR.out f hf).2.1) (f := ⟨((t : Nat) : Int), true, nu, by0⟩) (by rw [HL.out]; exact List.mem_of_getElem? HFI.out) (by rw [← HHV.out]; show ((t : Nat) : Int) ≤ (H : Int); omega) (by show true ≠ isT (t : Int); rw [HISF.out]; simp)
              have HNY : Hid (EvAt y1 (w.heap.size + 1) zeroE) := HR1.out.non.after HR1.out.be3
              have HRY : Hid (EvAt y1 w.heap.size zeroE) := HR1.out.res.after HR1.out.be3
              have HBY1 : Hid (Below w.heap.size w y1) := below_next HR1.out.bel HR1.out.be3
              go_wp2_with (first
                | ((with_reducible refine guard_load 25 ?_); refine wpList_load_ev rfl _ rfl HNY.out rfl ?_)
                | ((with_reducible refine guard_store 25 ?_); refine wpList_store_ev (e := zeroE) (e2 := zeroE) rfl _ _ rfl HRY.out rfl rfl ?_; intro x5 z1 z2 z3 z4))
              rw [HSD.out]
              exact bodyPost_ret (results_ev rfl _ _ _ _ _ rfl rfl z1) rfl ⟨rfl, z2 _ _ HBY1.out (Nat.le_refl _)⟩
            | false =>
              have hn4 := HR1.out.num.row.2 t (by rw [NL_len]; omega)
              have hf4 := HR1.out.num.fro t
              by_cases h4 : t = 4 ∧ v ≤ 2
              · obtain ⟨rfl, hv2⟩ := h4
                have v3 : v < 3 := by omega
                have HNEW : Hid (Rv w w3 (y1.setCell ⟨w3.heap.size, 4, none⟩ (.int .i64 (zag (nu : Int)))) v (gsl H (L.map Prod.fst) k ++ [⟨((4 : Nat) : Int), false, nu, by0⟩])) := HR1.out.put (f := ⟨((4 : Nat) : Int), false, nu, by0⟩) 4 rfl (by omega) HFRESH.out HISF.out rfl _ (by rw [if_pos ⟨rfl, hv2⟩])
                go_wp2_with (go_at_call 71; refine (rzag_any (nu : Int) _ (by omega) (by have := HNU.out; omega)).mono ?_; rintro _ y2 ⟨rfl, rfl⟩)
                go_roundw
                case rel => exact ⟨k + 1, by omega, by go_num, by rw [alN_step HFI.out]; simp [show ¬ (H : Int) < (4 : Int) from by omega], by rw [gsl_step HFI.out, if_pos (show ((4 : Nat) : Int) ≤ (H : Int) by omega)]; exact HNEW.out, fun f hf hfH => by rcases take_mem HFI.out hf with h9 | rfl; exact HI.out.2 f h9 hfH; exact rfl⟩
                case measure => simp [intOf]; omega
              · have HNEW : Hid (Rv w w3 (y1.setCell ⟨w3.heap.size, t, none⟩ (.int .i64 (capN nu))) v (gsl H (L.map Prod.fst) k ++ [⟨(t : Int), false, nu, by0⟩])) := HR1.out.put (f := ⟨(t : Int), false, nu, by0⟩) t rfl (by omega) HFRESH.out HISF.out rfl _ (by rw [if_neg h4])
                have ht0 : (0 : Int) ≤ (t : Int) := by omega
                have ht11 : (t : Int) < 11 := by omega
                by_cases ht4 : t = 4
                · subst ht4
                  have v3 : decide (v < 3) = false := by simp; omega
                  go_wp2
                  go_region_with (go_at_call 40; refine (clamp_any nu _).mono ?_; rintro _ y2 ⟨rfl, rfl⟩)
                  all_goals have HNEWD := HNEW.out.drew
                  all_goals go_wp2
                  all_goals go_roundw
                  all_goals (first | (exact ⟨k + 1, by omega, by go_num, by rw [alN_step HFI.out]; simp [show ¬ (H : Int) < (4 : Int) from by omega], by rw [gsl_step HFI.out, if_pos (show ((4 : Nat) : Int) ≤ (H : Int) by omega)]; exact HNEWD.out, fun f hf hfH => by rcases take_mem HFI.out hf with h9 | rfl; exact HI.out.2 f h9 hfH; exact HISF.out.symm⟩) | (simp [intOf]; omega))
                · have tt4 : ((t : Int) == 4) = false := by simp; omega
                  go_wp2
                  go_region_with (go_at_call 40; refine (clamp_any nu _).mono ?_; rintro _ y2 ⟨rfl, rfl⟩)
                  all_goals have HNEWD := HNEW.out.drew
                  all_goals go_wp2
                  all_goals go_roundw
                  all_goals (first | (exact ⟨k + 1, by omega, by go_num, by rw [alN_step HFI.out]; simp [show ¬ (H : Int) < (t : Int) from by omega], by rw [gsl_step HFI.out, if_pos (show ((t : Nat) : Int) ≤ (H : Int) by omega)]; exact HNEWD.out, fun f hf hfH => by rcases take_mem HFI.out hf with h9 | rfl; exact HI.out.2 f h9 hfH; exact HISF.out.symm⟩) | (simp [intOf]; omega))
    · obtain rfl : k = N := by omega
      have HTK : Hid ((L.map Prod.fst).take k = L.map Prod.fst) := List.take_of_length_le (by rw [List.length_map, HNL.out]; exact Nat.le_refl _)
      have HFORM : Hid (∀ f ∈ (recs l).1, f.tag ≤ hasV v → f.text = isT f.tag) := fun f hf hfH => HI.out.2 f (by rw [HTK.out, ← HL.out]; exact hf) (by rw [HHV.out]; exact hfH)
      have HNY : Hid (EvAt wr (w.heap.size + 1) zeroE) := HI.out.1.non.after HI.out.1.be3
      have HRY : Hid (EvAt wr w.heap.size zeroE) := HI.out.1.res.after HI.out.1.be3
      have HBY1 : Hid (Below w.heap.size w wr) := below_next HI.out.1.bel HI.out.1.be3
      by_cases hal : alN H (L.map Prod.fst) k = true
      · have HSD : Hid (sdec v l = (zeroE, 20)) := by
          have h9 := hal
          unfold alN at h9
          rw [HTK.out, List.any_eq_true] at h9
          obtain ⟨f, hf, hfh⟩ := h9
          exact sdec_alien HVV.out.1 HVV.out.2 HE.out HFORM.out (f := f) (by rw [HL.out]; exact hf) (by rw [← HHV.out]; simpa using hfh)
        rw [hal]
        clear hal
        go_wp2_with (first
          | ((with_reducible refine guard_load 25 ?_); refine wpList_load_ev rfl _ rfl HNY.out rfl ?_)
          | ((with_reducible refine guard_store 25 ?_); refine wpList_store_ev (e := zeroE) (e2 := zeroE) rfl _ _ rfl HRY.out rfl rfl ?_; intro x5 z1 z2 z3 z4))
        rw [HSD.out]
        exact bodyPost_ret (results_ev rfl _ _ _ _ _ rfl rfl z1) rfl ⟨rfl, z2 _ _ HBY1.out (Nat.le_refl _)⟩
      · have half : alN H (L.map Prod.fst) k = false := by simpa using hal
        have HALL : Hid (∀ f ∈ L.map Prod.fst, f.tag ≤ (H : Int)) := fun f hf => by
          have h9 := half
          unfold alN at h9
          rw [HTK.out, List.any_eq_false] at h9
          have := h9 f hf
          simp at this
          exact this
        have HGS : Hid (gsl H (L.map Prod.fst) k = L.map Prod.fst) := by
          show _ = _
          unfold gsl
          rw [HTK.out, List.filter_eq_self]
          intro f hf
          simpa using HALL.out f hf
        have HSD : Hid (sdec v l = if chk v (evN v (recs l).1) ≠ 0 then (zeroE, chk v (evN v (recs l).1)) else (evN v (recs l).1, 0)) := sdec_fine HVV.out.1 HVV.out.2 HE.out (fun f hf => (HFR.out f hf).2.1) HFORM.out (fun f hf => by rw [← HHV.out]; exact HALL.out f (by rw [← HL.out]; exact hf))
        rw [HL.out] at HSD
        obtain ⟨n1, hn1⟩ : ∃ x, rval v (L.map Prod.fst) 1 = x := ⟨_, rfl⟩
        have a1 : wr.cell? ⟨w3.heap.size, 1, none⟩ = some (.int .i64 n1) := by
          have h9 := HI.out.1.num.row.2 1 (by rw [NL_len]; omega)
          rw [HGS.out, NL_get _ _ _ (by omega), hn1] at h9
          exact h9
        obtain ⟨n2, hn2⟩ : ∃ x, rval v (L.map Prod.fst) 2 = x := ⟨_, rfl⟩
        have a2 : wr.cell? ⟨w3.heap.size, 2, none⟩ = some (.int .i64 n2) := by
          have h9 := HI.out.1.num.row.2 2 (by rw [NL_len]; omega)
          rw [HGS.out, NL_get _ _ _ (by omega), hn2] at h9
          exact h9
        obtain ⟨n3, hn3⟩ : ∃ x, rval v (L.map Prod.fst) 3 = x := ⟨_, rfl⟩
        have a3 : wr.cell? ⟨w3.heap.size, 3, none⟩ = some (.int .i64 n3) := by
          have h9 := HI.out.1.num.row.2 3 (by rw [NL_len]; omega)
          rw [HGS.out, NL_get _ _ _ (by omega), hn3] at h9
          exact h9
        obtain ⟨n4, hn4⟩ : ∃ x, rval v (L.map Prod.fst) 4 = x := ⟨_, rfl⟩
        have a4 : wr.cell? ⟨w3.heap.size, 4, none⟩ = some (.int .i64 n4) := by
          have h9 := HI.out.1.num.row.2 4 (by rw [NL_len]; omega)
          rw [HGS.out, NL_get _ _ _ (by omega), hn4] at h9
          exact h9
        obtain ⟨n5, hn5⟩ : ∃ x, rval v (L.map Prod.fst) 5 = x := ⟨_, rfl⟩
        have a5 : wr.cell? ⟨w3.heap.size, 5, none⟩ = some (.int .i64 n5) := by
          have h9 := HI.out.1.num.row.2 5 (by rw [NL_len]; omega)
          rw [HGS.out, NL_get _ _ _ (by omega), hn5] at h9
          exact h9
        obtain ⟨n6, hn6⟩ : ∃ x, rval v (L.map Prod.fst) 6 = x := ⟨_, rfl⟩
        have a6 : wr.cell? ⟨w3.heap.size, 6, none⟩ = some (.int .i64 n6) := by
          have h9 := HI.out.1.num.row.2 6 (by rw [NL_len]; omega)
          rw [HGS.out, NL_get _ _ _ (by omega), hn6] at h9
          exact h9
        obtain ⟨n7, hn7⟩ : ∃ x, rval v (L.map Prod.fst) 7 = x := ⟨_, rfl⟩
        have a7 : wr.cell? ⟨w3.heap.size, 7, none⟩ = some (.int .i64 n7) := by
          have h9 := HI.out.1.num.row.2 7 (by rw [NL_len]; omega)
          rw [HGS.out, NL_get _ _ _ (by omega), hn7] at h9
          exact h9
        obtain ⟨n9, hn9⟩ : ∃ x, rval v (L.map Prod.fst) 9 = x := ⟨_, rfl⟩
        have a9 : wr.cell? ⟨w3.heap.size, 9, none⟩ = some (.int .i64 n9) := by
          have h9 := HI.out.1.num.row.2 9 (by rw [NL_len]; omega)
          rw [HGS.out, NL_get _ _ _ (by omega), hn9] at h9
          exact h9
        obtain ⟨S8, hS8⟩ : ∃ x, str8 (txtF (L.map Prod.fst) 8) = x := ⟨_, rfl⟩
        obtain ⟨S10, hS10⟩ : ∃ x, str8 (txtF (L.map Prod.fst) 10) = x := ⟨_, rfl⟩
        have he0 : EvAt wr (w3.heap.size + 1) { zeroE with who := S8, note := S10 } := by
          have h9 := HI.out.1.ev
          rw [HGS.out, hS8, hS10] at h9
          exact h9
        have hEV : evN v (L.map Prod.fst) = ⟨n1, n2, n3, n4, n5, n6, n7, S8, n9, S10⟩ := by unfold evN; rw [hn1, hn2, hn3, hn4, hn5, hn6, hn7, hn9, hS8, hS10]
        rw [hEV] at HSD
        rw [half]
        clear half hEV hn1 hn2 hn3 hn4 hn5 hn6 hn7 hn9 hS8 hS10 hal
        obtain ⟨b0, b1, b2, b3, b4, b5, b6, b7, b8, b9⟩ := he0.cells
        have q0 := he0.froz 0
        have q1 := he0.froz 1
        have q2 := he0.froz 2
        have q3 := he0.froz 3
        have q4 := he0.froz 4
        have q5 := he0.froz 5
        have q6 := he0.froz 6
        have q8 := he0.froz 8
        have hne1 : ¬ w3.heap.size = w3.heap.size + 1 := by omega
        have hne2 : ¬ w3.heap.size + 1 = w3.heap.size := by omega
        obtain ⟨Z, hZ⟩ : ∃ Z, ((((((((wr.setCell ⟨w3.heap.size + 1, 0, none⟩ (.int .i64 n1)).setCell ⟨w3.heap.size + 1, 1, none⟩ (.int .i64 n2)).setCell ⟨w3.heap.size + 1, 2, none⟩ (.int .i64 n3)).setCell ⟨w3.heap.size + 1, 3, none⟩ (.int .i64 n4)).setCell ⟨w3.heap.size + 1, 4, none⟩ (.int .i64 n5)).setCell ⟨w3.heap.size + 1, 5, none⟩ (.int .i64 n6)).setCell ⟨w3.heap.size + 1, 6, none⟩ (.int .i64 n7)).setCell ⟨w3.heap.size + 1, 8, none⟩ (.int .i64 n9)) = Z := ⟨_, rfl⟩
        have HZ : Hid (((((((((wr.setCell ⟨w3.heap.size + 1, 0, none⟩ (.int .i64 n1)).setCell ⟨w3.heap.size + 1, 1, none⟩ (.int .i64 n2)).setCell ⟨w3.heap.size + 1, 2, none⟩ (.int .i64 n3)).setCell ⟨w3.heap.size + 1, 3, none⟩ (.int .i64 n4)).setCell ⟨w3.heap.size + 1, 4, none⟩ (.int .i64 n5)).setCell ⟨w3.heap.size + 1, 5, none⟩ (.int .i64 n6)).setCell ⟨w3.heap.size + 1, 6, none⟩ (.int .i64 n7)).setCell ⟨w3.heap.size + 1, 8, none⟩ (.int .i64 n9)) = Z) := hZ
        have hsz : w.heap.size + 2 ≤ w3.heap.size := by have := HN3.out.lt; omega
        obtain ⟨f1, f2, f3⟩ := fill8 he0 n1 n2 n3 n4 n5 n6 n7 n9 _ hZ
        have HEZ : Hid (EvAt Z (w3.heap.size + 1) ⟨n1, n2, n3, n4, n5, n6, n7, S8, n9, S10⟩) := f1
        have HNZ : Hid (EvAt Z (w.heap.size + 1) zeroE) := (f2 _ (by omega)).trans HNY.out
        have HRZ : Hid (EvAt Z w.heap.size zeroE) := (f2 _ (by omega)).trans HRY.out
        have HBZ : Hid (Below w.heap.size w Z) := f3 _ _ HBY1.out (by omega)
        clear he0 f1 f2 f3 hZ
        obtain ⟨EE, hEE⟩ : ∃ E : Ev, E = ⟨n1, n2, n3, n4, n5, n6, n7, S8, n9, S10⟩ := ⟨_, rfl⟩
        rw [← hEE] at HEZ HSD
        obtain ⟨c, hC⟩ : ∃ c, chk v EE = c := ⟨_, rfl⟩
        have HC : Hid (_) := hC
        rw [hC] at HSD
        clear hEE hC
        by_cases hc : c = 0
        · subst hc
          have HSD2 : Hid (sdec v l = (EE, 0)) := by show _ = _; rw [HSD.out]; rfl
          have T2 : Hid True := trivial
          go_wp2_with (first
          | ((with_reducible refine guard_load 25 ?_); clear T2; rw [HZ.out]; refine wpList_load_ev rfl _ rfl HEZ.out rfl ?_)
          | ((with_reducible refine guard_load 25 ?_); first | refine wpList_load_ev rfl _ rfl HEZ.out rfl ?_ | refine wpList_load_ev rfl _ rfl HNZ.out rfl ?_)
          | (go_at_call 41; refine (rcheck_ev v EE _).mono ?_; rw [HC.out]; rintro _ y9 ⟨rfl, hb9⟩; have h1 := HEZ.out.after hb9; have h2 := HNZ.out.after hb9; have h3 := HRZ.out.after hb9; have h4 := below_next HBZ.out hb9; clear HEZ HNZ HRZ HBZ hb9; have HEZ : Hid (EvAt y9 (w3.heap.size + 1) EE) := h1; have HNZ : Hid (EvAt y9 (w.heap.size + 1) zeroE) := h2; have HRZ : Hid (EvAt y9 w.heap.size zeroE) := h3; have HBZ : Hid (Below w.heap.size w y9) := h4; clear h1 h2 h3 h4)
          | ((with_reducible refine guard_store 25 ?_); refine wpList_store_ev (e := zeroE) (e2 := EE) rfl _ _ rfl HRZ.out rfl rfl ?_; intro x5 z1 z2 z3 z4))
          rw [HSD2.out]
          exact bodyPost_ret (results_ev rfl _ _ _ _ _ rfl rfl z1) rfl ⟨rfl, z2 _ _ HBZ.out (Nat.le_refl _)⟩
        · have HSD2 : Hid (sdec v l = (zeroE, c)) := by show _ = _; rw [HSD.out, if_pos hc]
          have hcb : (c != 0) = true := by simpa using hc
          have T2 : Hid True := trivial
          go_wp2_with (first
          | ((with_reducible refine guard_load 25 ?_); clear T2; rw [HZ.out]; refine wpList_load_ev rfl _ rfl HEZ.out rfl ?_)
          | ((with_reducible refine guard_load 25 ?_); first | refine wpList_load_ev rfl _ rfl HEZ.out rfl ?_ | refine wpList_load_ev rfl _ rfl HNZ.out rfl ?_)
          | (go_at_call 41; refine (rcheck_ev v EE _).mono ?_; rw [HC.out]; rintro _ y9 ⟨rfl, hb9⟩; have h1 := HEZ.out.after hb9; have h2 := HNZ.out.after hb9; have h3 := HRZ.out.after hb9; have h4 := below_next HBZ.out hb9; clear HEZ HNZ HRZ HBZ hb9; have HEZ : Hid (EvAt y9 (w3.heap.size + 1) EE) := h1; have HNZ : Hid (EvAt y9 (w.heap.size + 1) zeroE) := h2; have HRZ : Hid (EvAt y9 w.heap.size zeroE) := h3; have HBZ : Hid (Below w.heap.size w y9) := h4; clear h1 h2 h3 h4)
          | ((with_reducible refine guard_store 25 ?_); refine wpList_store_ev (e := zeroE) (e2 := zeroE) rfl _ _ rfl HRZ.out rfl rfl ?_; intro x5 z1 z2 z3 z4))
          rw [HSD2.out]
          exact bodyPost_ret (results_ev rfl _ _ _ _ _ rfl rfl z1) rfl ⟨rfl, z2 _ _ HBZ.out (Nat.le_refl _)⟩
end Go.Proofs.YtofealmjggpacaaDoor
