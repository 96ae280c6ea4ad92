/- Own texts, joined: Fsz. -/
import Derived.Test.YtlnhhgmdajbepaaK13
namespace Go.Proofs.Ytlnhhgmdajbepaa
open Go.ChangeShapes Go.WideShapes Go.ChangeAt Go.RowKit
set_option linter.unusedVariables false
set_option linter.unusedSimpArgs false
set_option maxRecDepth 100000 in
set_option maxHeartbeats 4000000 in
theorem call_0 (x : World) (base q b : Nat) (A : Ak) (F : Nat → Prop) (h : DF x base q b A F) (ok : AkOk A) (nm to : List UInt8) (P : Option Addr) (C : Nat) (lb : List Nat) (n m : Int) (K : Option Addr) (CK : Nat) (ks : List Int) (ho : OpIn x ⟨0, nm, to, P, C, lb, n, m, K, CK, ks⟩) : Calls Try.prog 18 #[.pointer (some ⟨q, 0, none⟩), opV ⟨0, nm, to, P, C, lb, n, m, K, CK, ks⟩] x fun r x' => ∃ v, r = .returned (.tuple #[v, .int .i64 (doA A ⟨0, nm, to, P, C, lb, n, m, K, CK, ks⟩).2.2.1, .int .i64 ((doA A ⟨0, nm, to, P, C, lb, n, m, K, CK, ks⟩).2.2.2 : Nat)]) ∧ Own x' x.heap.size v (doA A ⟨0, nm, to, P, C, lb, n, m, K, CK, ks⟩).2.1 ∧ DF x' base q b (doA A ⟨0, nm, to, P, C, lb, n, m, K, CK, ks⟩).1 F ∧ (∀ k, F k → x'.heap[k]? = x.heap[k]?) ∧ Below base x x' := by
  obtain ⟨D, hd, rfl, hF⟩ := h
  have HD : Hid (DkAt x base q b D) := hd
  have HF : Hid (∀ k, F k → k < x.heap.size ∧ ¬ Ob q b D.fs k) := hF
  have HO : Hid (OpIn x ⟨0, nm, to, P, C, lb, n, m, K, CK, ks⟩) := ho
  have HOK : Hid (DkOk D) := ok.dk
  have hb0 : Below x.heap.size x (x.alloc (.cells #[.int .i64 0, .string (bs nm), .string (bs to), .slice P lb.length C, .int .i64 n, .int .i64 m, .slice K ks.length CK] 34)) := (Below.refl _ _).alloc (Nat.le_refl _) _
  have HB0 : Hid (Below x.heap.size x (x.alloc (.cells #[.int .i64 0, .string (bs nm), .string (bs to), .slice P lb.length C, .int .i64 n, .int .i64 m, .slice K ks.length CK] 34))) := hb0
  have HD0 : Hid (DkAt (x.alloc (.cells #[.int .i64 0, .string (bs nm), .string (bs to), .slice P lb.length C, .int .i64 n, .int .i64 m, .slice K ks.length CK] 34)) base q b D) := hd.keep hb0
  have hrow := heap_alloc_new x (.cells #[.int .i64 0, .string (bs nm), .string (bs to), .slice P lb.length C, .int .i64 n, .int .i64 m, .slice K ks.length CK] 34)
  have c0 : (x.alloc (.cells #[.int .i64 0, .string (bs nm), .string (bs to), .slice P lb.length C, .int .i64 n, .int .i64 m, .slice K ks.length CK] 34)).cell? ⟨x.heap.size, 0, none⟩ = some (.int .i64 0) := by rw [cell_of_row _ _ 0 _ _ _ hrow]; rfl
  have c1 : (x.alloc (.cells #[.int .i64 0, .string (bs nm), .string (bs to), .slice P lb.length C, .int .i64 n, .int .i64 m, .slice K ks.length CK] 34)).cell? ⟨x.heap.size, 1, none⟩ = some (.string (bs nm)) := by rw [cell_of_row _ _ 1 _ _ _ hrow]; rfl
  have c2 : (x.alloc (.cells #[.int .i64 0, .string (bs nm), .string (bs to), .slice P lb.length C, .int .i64 n, .int .i64 m, .slice K ks.length CK] 34)).cell? ⟨x.heap.size, 2, none⟩ = some (.string (bs to)) := by rw [cell_of_row _ _ 2 _ _ _ hrow]; rfl
  have c3 : (x.alloc (.cells #[.int .i64 0, .string (bs nm), .string (bs to), .slice P lb.length C, .int .i64 n, .int .i64 m, .slice K ks.length CK] 34)).cell? ⟨x.heap.size, 3, none⟩ = some (.slice P lb.length C) := by rw [cell_of_row _ _ 3 _ _ _ hrow]; rfl
  have c4 : (x.alloc (.cells #[.int .i64 0, .string (bs nm), .string (bs to), .slice P lb.length C, .int .i64 n, .int .i64 m, .slice K ks.length CK] 34)).cell? ⟨x.heap.size, 4, none⟩ = some (.int .i64 n) := by rw [cell_of_row _ _ 4 _ _ _ hrow]; rfl
  have c5 : (x.alloc (.cells #[.int .i64 0, .string (bs nm), .string (bs to), .slice P lb.length C, .int .i64 n, .int .i64 m, .slice K ks.length CK] 34)).cell? ⟨x.heap.size, 5, none⟩ = some (.int .i64 m) := by rw [cell_of_row _ _ 5 _ _ _ hrow]; rfl
  have c6 : (x.alloc (.cells #[.int .i64 0, .string (bs nm), .string (bs to), .slice P lb.length C, .int .i64 n, .int .i64 m, .slice K ks.length CK] 34)).cell? ⟨x.heap.size, 6, none⟩ = some (.slice K ks.length CK) := by rw [cell_of_row _ _ 6 _ _ _ hrow]; rfl
  clear hd hF ho ok hb0
  have HR : doA D.ab ⟨0, nm, to, P, C, lb, n, m, K, CK, ks⟩ = ((createA D.ab nm).1, [], 0, (createA D.ab nm).2) := by simp [doA]
  rw [HR]
  clear HR
  go_enter Try.func18, Try.ntmps18
  go_wp2_with (first
    | (go_at_call 26; refine (create_any _ base q b D HD0.out HOK.out nm HO.out.nm).mono ?_; rintro _ x1 ⟨rfl, ht1⟩; have HT1 : Hid (To base q b D.fs (createA D.ab nm).1 (x.alloc (.cells #[.int .i64 0, .string (bs nm), .string (bs to), .slice P lb.length C, .int .i64 n, .int .i64 m, .slice K ks.length CK] 34)) x1) := ht1; clear ht1)
    | go_in)
  go_ret3
  exact ⟨_, rfl, own_nil _ _, HT1.out.f HD.out HF.out HB0.out⟩
set_option maxRecDepth 100000 in
set_option maxHeartbeats 4000000 in
theorem call_2 (x : World) (base q b : Nat) (A : Ak) (F : Nat → Prop) (h : DF x base q b A F) (ok : AkOk A) (nm to : List UInt8) (P : Option Addr) (C : Nat) (lb : List Nat) (n m : Int) (K : Option Addr) (CK : Nat) (ks : List Int) (ho : OpIn x ⟨2, nm, to, P, C, lb, n, m, K, CK, ks⟩) : Calls Try.prog 18 #[.pointer (some ⟨q, 0, none⟩), opV ⟨2, nm, to, P, C, lb, n, m, K, CK, ks⟩] x fun r x' => ∃ v, r = .returned (.tuple #[v, .int .i64 (doA A ⟨2, nm, to, P, C, lb, n, m, K, CK, ks⟩).2.2.1, .int .i64 ((doA A ⟨2, nm, to, P, C, lb, n, m, K, CK, ks⟩).2.2.2 : Nat)]) ∧ Own x' x.heap.size v (doA A ⟨2, nm, to, P, C, lb, n, m, K, CK, ks⟩).2.1 ∧ DF x' base q b (doA A ⟨2, nm, to, P, C, lb, n, m, K, CK, ks⟩).1 F ∧ (∀ k, F k → x'.heap[k]? = x.heap[k]?) ∧ Below base x x' := by
  obtain ⟨D, hd, rfl, hF⟩ := h
  have HD : Hid (DkAt x base q b D) := hd
  have HF : Hid (∀ k, F k → k < x.heap.size ∧ ¬ Ob q b D.fs k) := hF
  have HO : Hid (OpIn x ⟨2, nm, to, P, C, lb, n, m, K, CK, ks⟩) := ho
  have HOK : Hid (DkOk D) := ok.dk
  have hb0 : Below x.heap.size x (x.alloc (.cells #[.int .i64 2, .string (bs nm), .string (bs to), .slice P lb.length C, .int .i64 n, .int .i64 m, .slice K ks.length CK] 34)) := (Below.refl _ _).alloc (Nat.le_refl _) _
  have HB0 : Hid (Below x.heap.size x (x.alloc (.cells #[.int .i64 2, .string (bs nm), .string (bs to), .slice P lb.length C, .int .i64 n, .int .i64 m, .slice K ks.length CK] 34))) := hb0
  have HD0 : Hid (DkAt (x.alloc (.cells #[.int .i64 2, .string (bs nm), .string (bs to), .slice P lb.length C, .int .i64 n, .int .i64 m, .slice K ks.length CK] 34)) base q b D) := hd.keep hb0
  have hrow := heap_alloc_new x (.cells #[.int .i64 2, .string (bs nm), .string (bs to), .slice P lb.length C, .int .i64 n, .int .i64 m, .slice K ks.length CK] 34)
  have c0 : (x.alloc (.cells #[.int .i64 2, .string (bs nm), .string (bs to), .slice P lb.length C, .int .i64 n, .int .i64 m, .slice K ks.length CK] 34)).cell? ⟨x.heap.size, 0, none⟩ = some (.int .i64 2) := by rw [cell_of_row _ _ 0 _ _ _ hrow]; rfl
  have c1 : (x.alloc (.cells #[.int .i64 2, .string (bs nm), .string (bs to), .slice P lb.length C, .int .i64 n, .int .i64 m, .slice K ks.length CK] 34)).cell? ⟨x.heap.size, 1, none⟩ = some (.string (bs nm)) := by rw [cell_of_row _ _ 1 _ _ _ hrow]; rfl
  have c2 : (x.alloc (.cells #[.int .i64 2, .string (bs nm), .string (bs to), .slice P lb.length C, .int .i64 n, .int .i64 m, .slice K ks.length CK] 34)).cell? ⟨x.heap.size, 2, none⟩ = some (.string (bs to)) := by rw [cell_of_row _ _ 2 _ _ _ hrow]; rfl
  have c3 : (x.alloc (.cells #[.int .i64 2, .string (bs nm), .string (bs to), .slice P lb.length C, .int .i64 n, .int .i64 m, .slice K ks.length CK] 34)).cell? ⟨x.heap.size, 3, none⟩ = some (.slice P lb.length C) := by rw [cell_of_row _ _ 3 _ _ _ hrow]; rfl
  have c4 : (x.alloc (.cells #[.int .i64 2, .string (bs nm), .string (bs to), .slice P lb.length C, .int .i64 n, .int .i64 m, .slice K ks.length CK] 34)).cell? ⟨x.heap.size, 4, none⟩ = some (.int .i64 n) := by rw [cell_of_row _ _ 4 _ _ _ hrow]; rfl
  have c5 : (x.alloc (.cells #[.int .i64 2, .string (bs nm), .string (bs to), .slice P lb.length C, .int .i64 n, .int .i64 m, .slice K ks.length CK] 34)).cell? ⟨x.heap.size, 5, none⟩ = some (.int .i64 m) := by rw [cell_of_row _ _ 5 _ _ _ hrow]; rfl
  have c6 : (x.alloc (.cells #[.int .i64 2, .string (bs nm), .string (bs to), .slice P lb.length C, .int .i64 n, .int .i64 m, .slice K ks.length CK] 34)).cell? ⟨x.heap.size, 6, none⟩ = some (.slice K ks.length CK) := by rw [cell_of_row _ _ 6 _ _ _ hrow]; rfl
  clear hd hF ho ok hb0
  have HR : doA D.ab ⟨2, nm, to, P, C, lb, n, m, K, CK, ks⟩ = ((syncA D.ab nm).1, [], 0, (syncA D.ab nm).2) := by simp [doA]
  rw [HR]
  clear HR
  go_enter Try.func18, Try.ntmps18
  go_wp2_with (first
    | (go_at_call 30; refine (sync_any _ base q b D HD0.out HOK.out nm HO.out.nm).mono ?_; rintro _ x1 ⟨rfl, ht1⟩; have HT1 : Hid (To base q b D.fs (syncA D.ab nm).1 (x.alloc (.cells #[.int .i64 2, .string (bs nm), .string (bs to), .slice P lb.length C, .int .i64 n, .int .i64 m, .slice K ks.length CK] 34)) x1) := ht1; clear ht1)
    | go_in)
  go_ret3
  exact ⟨_, rfl, own_nil _ _, HT1.out.f HD.out HF.out HB0.out⟩
set_option maxRecDepth 100000 in
set_option maxHeartbeats 4000000 in
theorem call_4 (x : World) (base q b : Nat) (A : Ak) (F : Nat → Prop) (h : DF x base q b A F) (ok : AkOk A) (nm to : List UInt8) (P : Option Addr) (C : Nat) (lb : List Nat) (n m : Int) (K : Option Addr) (CK : Nat) (ks : List Int) (ho : OpIn x ⟨4, nm, to, P, C, lb, n, m, K, CK, ks⟩) : Calls Try.prog 18 #[.pointer (some ⟨q, 0, none⟩), opV ⟨4, nm, to, P, C, lb, n, m, K, CK, ks⟩] x fun r x' => ∃ v, r = .returned (.tuple #[v, .int .i64 (doA A ⟨4, nm, to, P, C, lb, n, m, K, CK, ks⟩).2.2.1, .int .i64 ((doA A ⟨4, nm, to, P, C, lb, n, m, K, CK, ks⟩).2.2.2 : Nat)]) ∧ Own x' x.heap.size v (doA A ⟨4, nm, to, P, C, lb, n, m, K, CK, ks⟩).2.1 ∧ DF x' base q b (doA A ⟨4, nm, to, P, C, lb, n, m, K, CK, ks⟩).1 F ∧ (∀ k, F k → x'.heap[k]? = x.heap[k]?) ∧ Below base x x' := by
  obtain ⟨D, hd, rfl, hF⟩ := h
  have HD : Hid (DkAt x base q b D) := hd
  have HF : Hid (∀ k, F k → k < x.heap.size ∧ ¬ Ob q b D.fs k) := hF
  have HO : Hid (OpIn x ⟨4, nm, to, P, C, lb, n, m, K, CK, ks⟩) := ho
  have HOK : Hid (DkOk D) := ok.dk
  have hb0 : Below x.heap.size x (x.alloc (.cells #[.int .i64 4, .string (bs nm), .string (bs to), .slice P lb.length C, .int .i64 n, .int .i64 m, .slice K ks.length CK] 34)) := (Below.refl _ _).alloc (Nat.le_refl _) _
  have HB0 : Hid (Below x.heap.size x (x.alloc (.cells #[.int .i64 4, .string (bs nm), .string (bs to), .slice P lb.length C, .int .i64 n, .int .i64 m, .slice K ks.length CK] 34))) := hb0
  have HD0 : Hid (DkAt (x.alloc (.cells #[.int .i64 4, .string (bs nm), .string (bs to), .slice P lb.length C, .int .i64 n, .int .i64 m, .slice K ks.length CK] 34)) base q b D) := hd.keep hb0
  have hrow := heap_alloc_new x (.cells #[.int .i64 4, .string (bs nm), .string (bs to), .slice P lb.length C, .int .i64 n, .int .i64 m, .slice K ks.length CK] 34)
  have c0 : (x.alloc (.cells #[.int .i64 4, .string (bs nm), .string (bs to), .slice P lb.length C, .int .i64 n, .int .i64 m, .slice K ks.length CK] 34)).cell? ⟨x.heap.size, 0, none⟩ = some (.int .i64 4) := by rw [cell_of_row _ _ 0 _ _ _ hrow]; rfl
  have c1 : (x.alloc (.cells #[.int .i64 4, .string (bs nm), .string (bs to), .slice P lb.length C, .int .i64 n, .int .i64 m, .slice K ks.length CK] 34)).cell? ⟨x.heap.size, 1, none⟩ = some (.string (bs nm)) := by rw [cell_of_row _ _ 1 _ _ _ hrow]; rfl
  have c2 : (x.alloc (.cells #[.int .i64 4, .string (bs nm), .string (bs to), .slice P lb.length C, .int .i64 n, .int .i64 m, .slice K ks.length CK] 34)).cell? ⟨x.heap.size, 2, none⟩ = some (.string (bs to)) := by rw [cell_of_row _ _ 2 _ _ _ hrow]; rfl
  have c3 : (x.alloc (.cells #[.int .i64 4, .string (bs nm), .string (bs to), .slice P lb.length C, .int .i64 n, .int .i64 m, .slice K ks.length CK] 34)).cell? ⟨x.heap.size, 3, none⟩ = some (.slice P lb.length C) := by rw [cell_of_row _ _ 3 _ _ _ hrow]; rfl
  have c4 : (x.alloc (.cells #[.int .i64 4, .string (bs nm), .string (bs to), .slice P lb.length C, .int .i64 n, .int .i64 m, .slice K ks.length CK] 34)).cell? ⟨x.heap.size, 4, none⟩ = some (.int .i64 n) := by rw [cell_of_row _ _ 4 _ _ _ hrow]; rfl
  have c5 : (x.alloc (.cells #[.int .i64 4, .string (bs nm), .string (bs to), .slice P lb.length C, .int .i64 n, .int .i64 m, .slice K ks.length CK] 34)).cell? ⟨x.heap.size, 5, none⟩ = some (.int .i64 m) := by rw [cell_of_row _ _ 5 _ _ _ hrow]; rfl
  have c6 : (x.alloc (.cells #[.int .i64 4, .string (bs nm), .string (bs to), .slice P lb.length C, .int .i64 n, .int .i64 m, .slice K ks.length CK] 34)).cell? ⟨x.heap.size, 6, none⟩ = some (.slice K ks.length CK) := by rw [cell_of_row _ _ 6 _ _ _ hrow]; rfl
  clear hd hF ho ok hb0
  have HR : doA D.ab ⟨4, nm, to, P, C, lb, n, m, K, CK, ks⟩ = ((removeA D.ab nm).1, [], 0, (removeA D.ab nm).2) := by simp [doA]
  rw [HR]
  clear HR
  go_enter Try.func18, Try.ntmps18
  go_wp2_with (first
    | (go_at_call 42; refine (remove_any _ base q b D HD0.out HOK.out nm HO.out.nm).mono ?_; rintro _ x1 ⟨rfl, ht1⟩; have HT1 : Hid (To base q b D.fs (removeA D.ab nm).1 (x.alloc (.cells #[.int .i64 4, .string (bs nm), .string (bs to), .slice P lb.length C, .int .i64 n, .int .i64 m, .slice K ks.length CK] 34)) x1) := ht1; clear ht1)
    | go_in)
  go_ret3
  exact ⟨_, rfl, own_nil _ _, HT1.out.f HD.out HF.out HB0.out⟩
set_option maxRecDepth 100000 in
set_option maxHeartbeats 4000000 in
theorem call_3 (x : World) (base q b : Nat) (A : Ak) (F : Nat → Prop) (h : DF x base q b A F) (ok : AkOk A) (nm to : List UInt8) (P : Option Addr) (C : Nat) (lb : List Nat) (n m : Int) (K : Option Addr) (CK : Nat) (ks : List Int) (ho : OpIn x ⟨3, nm, to, P, C, lb, n, m, K, CK, ks⟩) : Calls Try.prog 18 #[.pointer (some ⟨q, 0, none⟩), opV ⟨3, nm, to, P, C, lb, n, m, K, CK, ks⟩] x fun r x' => ∃ v, r = .returned (.tuple #[v, .int .i64 (doA A ⟨3, nm, to, P, C, lb, n, m, K, CK, ks⟩).2.2.1, .int .i64 ((doA A ⟨3, nm, to, P, C, lb, n, m, K, CK, ks⟩).2.2.2 : Nat)]) ∧ Own x' x.heap.size v (doA A ⟨3, nm, to, P, C, lb, n, m, K, CK, ks⟩).2.1 ∧ DF x' base q b (doA A ⟨3, nm, to, P, C, lb, n, m, K, CK, ks⟩).1 F ∧ (∀ k, F k → x'.heap[k]? = x.heap[k]?) ∧ Below base x x' := by
  obtain ⟨D, hd, rfl, hF⟩ := h
  have HD : Hid (DkAt x base q b D) := hd
  have HF : Hid (∀ k, F k → k < x.heap.size ∧ ¬ Ob q b D.fs k) := hF
  have HO : Hid (OpIn x ⟨3, nm, to, P, C, lb, n, m, K, CK, ks⟩) := ho
  have HOK : Hid (DkOk D) := ok.dk
  have hb0 : Below x.heap.size x (x.alloc (.cells #[.int .i64 3, .string (bs nm), .string (bs to), .slice P lb.length C, .int .i64 n, .int .i64 m, .slice K ks.length CK] 34)) := (Below.refl _ _).alloc (Nat.le_refl _) _
  have HB0 : Hid (Below x.heap.size x (x.alloc (.cells #[.int .i64 3, .string (bs nm), .string (bs to), .slice P lb.length C, .int .i64 n, .int .i64 m, .slice K ks.length CK] 34))) := hb0
  have HD0 : Hid (DkAt (x.alloc (.cells #[.int .i64 3, .string (bs nm), .string (bs to), .slice P lb.length C, .int .i64 n, .int .i64 m, .slice K ks.length CK] 34)) base q b D) := hd.keep hb0
  have hrow := heap_alloc_new x (.cells #[.int .i64 3, .string (bs nm), .string (bs to), .slice P lb.length C, .int .i64 n, .int .i64 m, .slice K ks.length CK] 34)
  have c0 : (x.alloc (.cells #[.int .i64 3, .string (bs nm), .string (bs to), .slice P lb.length C, .int .i64 n, .int .i64 m, .slice K ks.length CK] 34)).cell? ⟨x.heap.size, 0, none⟩ = some (.int .i64 3) := by rw [cell_of_row _ _ 0 _ _ _ hrow]; rfl
  have c1 : (x.alloc (.cells #[.int .i64 3, .string (bs nm), .string (bs to), .slice P lb.length C, .int .i64 n, .int .i64 m, .slice K ks.length CK] 34)).cell? ⟨x.heap.size, 1, none⟩ = some (.string (bs nm)) := by rw [cell_of_row _ _ 1 _ _ _ hrow]; rfl
  have c2 : (x.alloc (.cells #[.int .i64 3, .string (bs nm), .string (bs to), .slice P lb.length C, .int .i64 n, .int .i64 m, .slice K ks.length CK] 34)).cell? ⟨x.heap.size, 2, none⟩ = some (.string (bs to)) := by rw [cell_of_row _ _ 2 _ _ _ hrow]; rfl
  have c3 : (x.alloc (.cells #[.int .i64 3, .string (bs nm), .string (bs to), .slice P lb.length C, .int .i64 n, .int .i64 m, .slice K ks.length CK] 34)).cell? ⟨x.heap.size, 3, none⟩ = some (.slice P lb.length C) := by rw [cell_of_row _ _ 3 _ _ _ hrow]; rfl
  have c4 : (x.alloc (.cells #[.int .i64 3, .string (bs nm), .string (bs to), .slice P lb.length C, .int .i64 n, .int .i64 m, .slice K ks.length CK] 34)).cell? ⟨x.heap.size, 4, none⟩ = some (.int .i64 n) := by rw [cell_of_row _ _ 4 _ _ _ hrow]; rfl
  have c5 : (x.alloc (.cells #[.int .i64 3, .string (bs nm), .string (bs to), .slice P lb.length C, .int .i64 n, .int .i64 m, .slice K ks.length CK] 34)).cell? ⟨x.heap.size, 5, none⟩ = some (.int .i64 m) := by rw [cell_of_row _ _ 5 _ _ _ hrow]; rfl
  have c6 : (x.alloc (.cells #[.int .i64 3, .string (bs nm), .string (bs to), .slice P lb.length C, .int .i64 n, .int .i64 m, .slice K ks.length CK] 34)).cell? ⟨x.heap.size, 6, none⟩ = some (.slice K ks.length CK) := by rw [cell_of_row _ _ 6 _ _ _ hrow]; rfl
  clear hd hF ho ok hb0
  have HR : doA D.ab ⟨3, nm, to, P, C, lb, n, m, K, CK, ks⟩ = ((renameA D.ab nm to).1, [], 0, (renameA D.ab nm to).2) := by simp [doA]
  rw [HR]
  clear HR
  go_enter Try.func18, Try.ntmps18
  go_wp2_with (first
    | (go_at_call 39; refine (rename_any _ base q b D HD0.out HOK.out nm to HO.out.nm HO.out.to).mono ?_; rintro _ x1 ⟨rfl, ht1⟩; have HT1 : Hid (To base q b D.fs (renameA D.ab nm to).1 (x.alloc (.cells #[.int .i64 3, .string (bs nm), .string (bs to), .slice P lb.length C, .int .i64 n, .int .i64 m, .slice K ks.length CK] 34)) x1) := ht1; clear ht1)
    | go_in)
  go_ret3
  exact ⟨_, rfl, own_nil _ _, HT1.out.f HD.out HF.out HB0.out⟩
set_option maxRecDepth 100000 in
set_option maxHeartbeats 4000000 in
theorem call_5 (x : World) (base q b : Nat) (A : Ak) (F : Nat → Prop) (h : DF x base q b A F) (ok : AkOk A) (nm to : List UInt8) (P : Option Addr) (C : Nat) (lb : List Nat) (n m : Int) (K : Option Addr) (CK : Nat) (ks : List Int) (ho : OpIn x ⟨5, nm, to, P, C, lb, n, m, K, CK, ks⟩) : Calls Try.prog 18 #[.pointer (some ⟨q, 0, none⟩), opV ⟨5, nm, to, P, C, lb, n, m, K, CK, ks⟩] x fun r x' => ∃ v, r = .returned (.tuple #[v, .int .i64 (doA A ⟨5, nm, to, P, C, lb, n, m, K, CK, ks⟩).2.2.1, .int .i64 ((doA A ⟨5, nm, to, P, C, lb, n, m, K, CK, ks⟩).2.2.2 : Nat)]) ∧ Own x' x.heap.size v (doA A ⟨5, nm, to, P, C, lb, n, m, K, CK, ks⟩).2.1 ∧ DF x' base q b (doA A ⟨5, nm, to, P, C, lb, n, m, K, CK, ks⟩).1 F ∧ (∀ k, F k → x'.heap[k]? = x.heap[k]?) ∧ Below base x x' := by
  obtain ⟨D, hd, rfl, hF⟩ := h
  have HD : Hid (DkAt x base q b D) := hd
  have HF : Hid (∀ k, F k → k < x.heap.size ∧ ¬ Ob q b D.fs k) := hF
  have HO : Hid (OpIn x ⟨5, nm, to, P, C, lb, n, m, K, CK, ks⟩) := ho
  have HOK : Hid (DkOk D) := ok.dk
  have hb0 : Below x.heap.size x (x.alloc (.cells #[.int .i64 5, .string (bs nm), .string (bs to), .slice P lb.length C, .int .i64 n, .int .i64 m, .slice K ks.length CK] 34)) := (Below.refl _ _).alloc (Nat.le_refl _) _
  have HB0 : Hid (Below x.heap.size x (x.alloc (.cells #[.int .i64 5, .string (bs nm), .string (bs to), .slice P lb.length C, .int .i64 n, .int .i64 m, .slice K ks.length CK] 34))) := hb0
  have HD0 : Hid (DkAt (x.alloc (.cells #[.int .i64 5, .string (bs nm), .string (bs to), .slice P lb.length C, .int .i64 n, .int .i64 m, .slice K ks.length CK] 34)) base q b D) := hd.keep hb0
  have hrow := heap_alloc_new x (.cells #[.int .i64 5, .string (bs nm), .string (bs to), .slice P lb.length C, .int .i64 n, .int .i64 m, .slice K ks.length CK] 34)
  have c0 : (x.alloc (.cells #[.int .i64 5, .string (bs nm), .string (bs to), .slice P lb.length C, .int .i64 n, .int .i64 m, .slice K ks.length CK] 34)).cell? ⟨x.heap.size, 0, none⟩ = some (.int .i64 5) := by rw [cell_of_row _ _ 0 _ _ _ hrow]; rfl
  have c1 : (x.alloc (.cells #[.int .i64 5, .string (bs nm), .string (bs to), .slice P lb.length C, .int .i64 n, .int .i64 m, .slice K ks.length CK] 34)).cell? ⟨x.heap.size, 1, none⟩ = some (.string (bs nm)) := by rw [cell_of_row _ _ 1 _ _ _ hrow]; rfl
  have c2 : (x.alloc (.cells #[.int .i64 5, .string (bs nm), .string (bs to), .slice P lb.length C, .int .i64 n, .int .i64 m, .slice K ks.length CK] 34)).cell? ⟨x.heap.size, 2, none⟩ = some (.string (bs to)) := by rw [cell_of_row _ _ 2 _ _ _ hrow]; rfl
  have c3 : (x.alloc (.cells #[.int .i64 5, .string (bs nm), .string (bs to), .slice P lb.length C, .int .i64 n, .int .i64 m, .slice K ks.length CK] 34)).cell? ⟨x.heap.size, 3, none⟩ = some (.slice P lb.length C) := by rw [cell_of_row _ _ 3 _ _ _ hrow]; rfl
  have c4 : (x.alloc (.cells #[.int .i64 5, .string (bs nm), .string (bs to), .slice P lb.length C, .int .i64 n, .int .i64 m, .slice K ks.length CK] 34)).cell? ⟨x.heap.size, 4, none⟩ = some (.int .i64 n) := by rw [cell_of_row _ _ 4 _ _ _ hrow]; rfl
  have c5 : (x.alloc (.cells #[.int .i64 5, .string (bs nm), .string (bs to), .slice P lb.length C, .int .i64 n, .int .i64 m, .slice K ks.length CK] 34)).cell? ⟨x.heap.size, 5, none⟩ = some (.int .i64 m) := by rw [cell_of_row _ _ 5 _ _ _ hrow]; rfl
  have c6 : (x.alloc (.cells #[.int .i64 5, .string (bs nm), .string (bs to), .slice P lb.length C, .int .i64 n, .int .i64 m, .slice K ks.length CK] 34)).cell? ⟨x.heap.size, 6, none⟩ = some (.slice K ks.length CK) := by rw [cell_of_row _ _ 6 _ _ _ hrow]; rfl
  clear hd hF ho ok hb0
  have HR : doA D.ab ⟨5, nm, to, P, C, lb, n, m, K, CK, ks⟩ = ((cutA D.ab nm n).1, [], 0, (cutA D.ab nm n).2) := by simp [doA]
  rw [HR]
  clear HR
  go_enter Try.func18, Try.ntmps18
  go_wp2_with (first
    | (go_at_call 43; refine (cut_any _ base q b D HD0.out HOK.out nm HO.out.nm n).mono ?_; rintro _ x1 ⟨rfl, ht1⟩; have HT1 : Hid (To base q b D.fs (cutA D.ab nm n).1 (x.alloc (.cells #[.int .i64 5, .string (bs nm), .string (bs to), .slice P lb.length C, .int .i64 n, .int .i64 m, .slice K ks.length CK] 34)) x1) := ht1; clear ht1)
    | go_in)
  go_ret3
  exact ⟨_, rfl, own_nil _ _, HT1.out.f HD.out HF.out HB0.out⟩
set_option maxRecDepth 100000 in
set_option maxHeartbeats 4000000 in
theorem call_6 (x : World) (base q b : Nat) (A : Ak) (F : Nat → Prop) (h : DF x base q b A F) (ok : AkOk A) (nm to : List UInt8) (P : Option Addr) (C : Nat) (lb : List Nat) (n m : Int) (K : Option Addr) (CK : Nat) (ks : List Int) (ho : OpIn x ⟨6, nm, to, P, C, lb, n, m, K, CK, ks⟩) : Calls Try.prog 18 #[.pointer (some ⟨q, 0, none⟩), opV ⟨6, nm, to, P, C, lb, n, m, K, CK, ks⟩] x fun r x' => ∃ v, r = .returned (.tuple #[v, .int .i64 (doA A ⟨6, nm, to, P, C, lb, n, m, K, CK, ks⟩).2.2.1, .int .i64 ((doA A ⟨6, nm, to, P, C, lb, n, m, K, CK, ks⟩).2.2.2 : Nat)]) ∧ Own x' x.heap.size v (doA A ⟨6, nm, to, P, C, lb, n, m, K, CK, ks⟩).2.1 ∧ DF x' base q b (doA A ⟨6, nm, to, P, C, lb, n, m, K, CK, ks⟩).1 F ∧ (∀ k, F k → x'.heap[k]? = x.heap[k]?) ∧ Below base x x' := by
  obtain ⟨D, hd, rfl, hF⟩ := h
  have HD : Hid (DkAt x base q b D) := hd
  have HF : Hid (∀ k, F k → k < x.heap.size ∧ ¬ Ob q b D.fs k) := hF
  have HO : Hid (OpIn x ⟨6, nm, to, P, C, lb, n, m, K, CK, ks⟩) := ho
  have HOK : Hid (DkOk D) := ok.dk
  have hb0 : Below x.heap.size x (x.alloc (.cells #[.int .i64 6, .string (bs nm), .string (bs to), .slice P lb.length C, .int .i64 n, .int .i64 m, .slice K ks.length CK] 34)) := (Below.refl _ _).alloc (Nat.le_refl _) _
  have HB0 : Hid (Below x.heap.size x (x.alloc (.cells #[.int .i64 6, .string (bs nm), .string (bs to), .slice P lb.length C, .int .i64 n, .int .i64 m, .slice K ks.length CK] 34))) := hb0
  have HD0 : Hid (DkAt (x.alloc (.cells #[.int .i64 6, .string (bs nm), .string (bs to), .slice P lb.length C, .int .i64 n, .int .i64 m, .slice K ks.length CK] 34)) base q b D) := hd.keep hb0
  have hrow := heap_alloc_new x (.cells #[.int .i64 6, .string (bs nm), .string (bs to), .slice P lb.length C, .int .i64 n, .int .i64 m, .slice K ks.length CK] 34)
  have c0 : (x.alloc (.cells #[.int .i64 6, .string (bs nm), .string (bs to), .slice P lb.length C, .int .i64 n, .int .i64 m, .slice K ks.length CK] 34)).cell? ⟨x.heap.size, 0, none⟩ = some (.int .i64 6) := by rw [cell_of_row _ _ 0 _ _ _ hrow]; rfl
  have c1 : (x.alloc (.cells #[.int .i64 6, .string (bs nm), .string (bs to), .slice P lb.length C, .int .i64 n, .int .i64 m, .slice K ks.length CK] 34)).cell? ⟨x.heap.size, 1, none⟩ = some (.string (bs nm)) := by rw [cell_of_row _ _ 1 _ _ _ hrow]; rfl
  have c2 : (x.alloc (.cells #[.int .i64 6, .string (bs nm), .string (bs to), .slice P lb.length C, .int .i64 n, .int .i64 m, .slice K ks.length CK] 34)).cell? ⟨x.heap.size, 2, none⟩ = some (.string (bs to)) := by rw [cell_of_row _ _ 2 _ _ _ hrow]; rfl
  have c3 : (x.alloc (.cells #[.int .i64 6, .string (bs nm), .string (bs to), .slice P lb.length C, .int .i64 n, .int .i64 m, .slice K ks.length CK] 34)).cell? ⟨x.heap.size, 3, none⟩ = some (.slice P lb.length C) := by rw [cell_of_row _ _ 3 _ _ _ hrow]; rfl
  have c4 : (x.alloc (.cells #[.int .i64 6, .string (bs nm), .string (bs to), .slice P lb.length C, .int .i64 n, .int .i64 m, .slice K ks.length CK] 34)).cell? ⟨x.heap.size, 4, none⟩ = some (.int .i64 n) := by rw [cell_of_row _ _ 4 _ _ _ hrow]; rfl
  have c5 : (x.alloc (.cells #[.int .i64 6, .string (bs nm), .string (bs to), .slice P lb.length C, .int .i64 n, .int .i64 m, .slice K ks.length CK] 34)).cell? ⟨x.heap.size, 5, none⟩ = some (.int .i64 m) := by rw [cell_of_row _ _ 5 _ _ _ hrow]; rfl
  have c6 : (x.alloc (.cells #[.int .i64 6, .string (bs nm), .string (bs to), .slice P lb.length C, .int .i64 n, .int .i64 m, .slice K ks.length CK] 34)).cell? ⟨x.heap.size, 6, none⟩ = some (.slice K ks.length CK) := by rw [cell_of_row _ _ 6 _ _ _ hrow]; rfl
  clear hd hF ho ok hb0
  have HR : doA D.ab ⟨6, nm, to, P, C, lb, n, m, K, CK, ks⟩ = ((readA D.ab nm n m).1, (readA D.ab nm n m).2.1, 0, (readA D.ab nm n m).2.2) := by simp [doA]
  rw [HR]
  clear HR
  go_enter Try.func18, Try.ntmps18
  go_wp2_with (first
    | (go_at_call 33; refine (read_any _ base q b D HD0.out HOK.out nm HO.out.nm n m HO.out.n.1 HO.out.n.2 HO.out.m.1 HO.out.m.2).mono ?_; rintro _ x1 ⟨v1, rfl, ho1, ht1⟩; have HO1 : Hid (Own x1 (x.alloc (.cells #[.int .i64 6, .string (bs nm), .string (bs to), .slice P lb.length C, .int .i64 n, .int .i64 m, .slice K ks.length CK] 34)).heap.size v1 (readA D.ab nm n m).2.1) := ho1; have HT1 : Hid (To base q b D.fs (readA D.ab nm n m).1 (x.alloc (.cells #[.int .i64 6, .string (bs nm), .string (bs to), .slice P lb.length C, .int .i64 n, .int .i64 m, .slice K ks.length CK] 34)) x1) := ht1; clear ht1 ho1)
    | go_in)
  go_ret3
  exact ⟨_, rfl, HO1.out.lower HB0.out.size, HT1.out.f HD.out HF.out HB0.out⟩
set_option maxRecDepth 100000 in
set_option maxHeartbeats 4000000 in
theorem call_7 (x : World) (base q b : Nat) (A : Ak) (F : Nat → Prop) (h : DF x base q b A F) (ok : AkOk A) (nm to : List UInt8) (P : Option Addr) (C : Nat) (lb : List Nat) (n m : Int) (K : Option Addr) (CK : Nat) (ks : List Int) (ho : OpIn x ⟨7, nm, to, P, C, lb, n, m, K, CK, ks⟩) : Calls Try.prog 18 #[.pointer (some ⟨q, 0, none⟩), opV ⟨7, nm, to, P, C, lb, n, m, K, CK, ks⟩] x fun r x' => ∃ v, r = .returned (.tuple #[v, .int .i64 (doA A ⟨7, nm, to, P, C, lb, n, m, K, CK, ks⟩).2.2.1, .int .i64 ((doA A ⟨7, nm, to, P, C, lb, n, m, K, CK, ks⟩).2.2.2 : Nat)]) ∧ Own x' x.heap.size v (doA A ⟨7, nm, to, P, C, lb, n, m, K, CK, ks⟩).2.1 ∧ DF x' base q b (doA A ⟨7, nm, to, P, C, lb, n, m, K, CK, ks⟩).1 F ∧ (∀ k, F k → x'.heap[k]? = x.heap[k]?) ∧ Below base x x' := by
  obtain ⟨D, hd, rfl, hF⟩ := h
  have HD : Hid (DkAt x base q b D) := hd
  have HF : Hid (∀ k, F k → k < x.heap.size ∧ ¬ Ob q b D.fs k) := hF
  have HO : Hid (OpIn x ⟨7, nm, to, P, C, lb, n, m, K, CK, ks⟩) := ho
  have HOK : Hid (DkOk D) := ok.dk
  have hb0 : Below x.heap.size x (x.alloc (.cells #[.int .i64 7, .string (bs nm), .string (bs to), .slice P lb.length C, .int .i64 n, .int .i64 m, .slice K ks.length CK] 34)) := (Below.refl _ _).alloc (Nat.le_refl _) _
  have HB0 : Hid (Below x.heap.size x (x.alloc (.cells #[.int .i64 7, .string (bs nm), .string (bs to), .slice P lb.length C, .int .i64 n, .int .i64 m, .slice K ks.length CK] 34))) := hb0
  have HD0 : Hid (DkAt (x.alloc (.cells #[.int .i64 7, .string (bs nm), .string (bs to), .slice P lb.length C, .int .i64 n, .int .i64 m, .slice K ks.length CK] 34)) base q b D) := hd.keep hb0
  have hrow := heap_alloc_new x (.cells #[.int .i64 7, .string (bs nm), .string (bs to), .slice P lb.length C, .int .i64 n, .int .i64 m, .slice K ks.length CK] 34)
  have c0 : (x.alloc (.cells #[.int .i64 7, .string (bs nm), .string (bs to), .slice P lb.length C, .int .i64 n, .int .i64 m, .slice K ks.length CK] 34)).cell? ⟨x.heap.size, 0, none⟩ = some (.int .i64 7) := by rw [cell_of_row _ _ 0 _ _ _ hrow]; rfl
  have c1 : (x.alloc (.cells #[.int .i64 7, .string (bs nm), .string (bs to), .slice P lb.length C, .int .i64 n, .int .i64 m, .slice K ks.length CK] 34)).cell? ⟨x.heap.size, 1, none⟩ = some (.string (bs nm)) := by rw [cell_of_row _ _ 1 _ _ _ hrow]; rfl
  have c2 : (x.alloc (.cells #[.int .i64 7, .string (bs nm), .string (bs to), .slice P lb.length C, .int .i64 n, .int .i64 m, .slice K ks.length CK] 34)).cell? ⟨x.heap.size, 2, none⟩ = some (.string (bs to)) := by rw [cell_of_row _ _ 2 _ _ _ hrow]; rfl
  have c3 : (x.alloc (.cells #[.int .i64 7, .string (bs nm), .string (bs to), .slice P lb.length C, .int .i64 n, .int .i64 m, .slice K ks.length CK] 34)).cell? ⟨x.heap.size, 3, none⟩ = some (.slice P lb.length C) := by rw [cell_of_row _ _ 3 _ _ _ hrow]; rfl
  have c4 : (x.alloc (.cells #[.int .i64 7, .string (bs nm), .string (bs to), .slice P lb.length C, .int .i64 n, .int .i64 m, .slice K ks.length CK] 34)).cell? ⟨x.heap.size, 4, none⟩ = some (.int .i64 n) := by rw [cell_of_row _ _ 4 _ _ _ hrow]; rfl
  have c5 : (x.alloc (.cells #[.int .i64 7, .string (bs nm), .string (bs to), .slice P lb.length C, .int .i64 n, .int .i64 m, .slice K ks.length CK] 34)).cell? ⟨x.heap.size, 5, none⟩ = some (.int .i64 m) := by rw [cell_of_row _ _ 5 _ _ _ hrow]; rfl
  have c6 : (x.alloc (.cells #[.int .i64 7, .string (bs nm), .string (bs to), .slice P lb.length C, .int .i64 n, .int .i64 m, .slice K ks.length CK] 34)).cell? ⟨x.heap.size, 6, none⟩ = some (.slice K ks.length CK) := by rw [cell_of_row _ _ 6 _ _ _ hrow]; rfl
  clear hd hF ho ok hb0
  have HR : doA D.ab ⟨7, nm, to, P, C, lb, n, m, K, CK, ks⟩ = (D.ab, [], (((sizeA D.ab nm).1 : Nat) : Int), (sizeA D.ab nm).2) := by simp [doA]
  rw [HR]
  clear HR
  go_enter Try.func18, Try.ntmps18
  go_wp2_with (first
    | (go_at_call 40; refine (size_any _ base q b D HD0.out HOK.out nm HO.out.nm).mono ?_; rintro _ x1 ⟨rfl, hb1⟩; have HT1 : Hid (To base q b D.fs D.ab (x.alloc (.cells #[.int .i64 7, .string (bs nm), .string (bs to), .slice P lb.length C, .int .i64 n, .int .i64 m, .slice K ks.length CK] 34)) x1) := To.of_below HD0.out hb1; clear hb1)
    | go_in)
  go_ret3
  exact ⟨_, rfl, own_nil _ _, HT1.out.f HD.out HF.out HB0.out⟩
set_option maxRecDepth 100000 in
set_option maxHeartbeats 4000000 in
theorem call_9 (x : World) (base q b : Nat) (A : Ak) (F : Nat → Prop) (h : DF x base q b A F) (ok : AkOk A) (nm to : List UInt8) (P : Option Addr) (C : Nat) (lb : List Nat) (n m : Int) (K : Option Addr) (CK : Nat) (ks : List Int) (ho : OpIn x ⟨9, nm, to, P, C, lb, n, m, K, CK, ks⟩) : Calls Try.prog 18 #[.pointer (some ⟨q, 0, none⟩), opV ⟨9, nm, to, P, C, lb, n, m, K, CK, ks⟩] x fun r x' => ∃ v, r = .returned (.tuple #[v, .int .i64 (doA A ⟨9, nm, to, P, C, lb, n, m, K, CK, ks⟩).2.2.1, .int .i64 ((doA A ⟨9, nm, to, P, C, lb, n, m, K, CK, ks⟩).2.2.2 : Nat)]) ∧ Own x' x.heap.size v (doA A ⟨9, nm, to, P, C, lb, n, m, K, CK, ks⟩).2.1 ∧ DF x' base q b (doA A ⟨9, nm, to, P, C, lb, n, m, K, CK, ks⟩).1 F ∧ (∀ k, F k → x'.heap[k]? = x.heap[k]?) ∧ Below base x x' := by
  obtain ⟨D, hd, rfl, hF⟩ := h
  have HD : Hid (DkAt x base q b D) := hd
  have HF : Hid (∀ k, F k → k < x.heap.size ∧ ¬ Ob q b D.fs k) := hF
  have HO : Hid (OpIn x ⟨9, nm, to, P, C, lb, n, m, K, CK, ks⟩) := ho
  have HOK : Hid (DkOk D) := ok.dk
  have hb0 : Below x.heap.size x (x.alloc (.cells #[.int .i64 9, .string (bs nm), .string (bs to), .slice P lb.length C, .int .i64 n, .int .i64 m, .slice K ks.length CK] 34)) := (Below.refl _ _).alloc (Nat.le_refl _) _
  have HB0 : Hid (Below x.heap.size x (x.alloc (.cells #[.int .i64 9, .string (bs nm), .string (bs to), .slice P lb.length C, .int .i64 n, .int .i64 m, .slice K ks.length CK] 34))) := hb0
  have HD0 : Hid (DkAt (x.alloc (.cells #[.int .i64 9, .string (bs nm), .string (bs to), .slice P lb.length C, .int .i64 n, .int .i64 m, .slice K ks.length CK] 34)) base q b D) := hd.keep hb0
  have hrow := heap_alloc_new x (.cells #[.int .i64 9, .string (bs nm), .string (bs to), .slice P lb.length C, .int .i64 n, .int .i64 m, .slice K ks.length CK] 34)
  have c0 : (x.alloc (.cells #[.int .i64 9, .string (bs nm), .string (bs to), .slice P lb.length C, .int .i64 n, .int .i64 m, .slice K ks.length CK] 34)).cell? ⟨x.heap.size, 0, none⟩ = some (.int .i64 9) := by rw [cell_of_row _ _ 0 _ _ _ hrow]; rfl
  have c1 : (x.alloc (.cells #[.int .i64 9, .string (bs nm), .string (bs to), .slice P lb.length C, .int .i64 n, .int .i64 m, .slice K ks.length CK] 34)).cell? ⟨x.heap.size, 1, none⟩ = some (.string (bs nm)) := by rw [cell_of_row _ _ 1 _ _ _ hrow]; rfl
  have c2 : (x.alloc (.cells #[.int .i64 9, .string (bs nm), .string (bs to), .slice P lb.length C, .int .i64 n, .int .i64 m, .slice K ks.length CK] 34)).cell? ⟨x.heap.size, 2, none⟩ = some (.string (bs to)) := by rw [cell_of_row _ _ 2 _ _ _ hrow]; rfl
  have c3 : (x.alloc (.cells #[.int .i64 9, .string (bs nm), .string (bs to), .slice P lb.length C, .int .i64 n, .int .i64 m, .slice K ks.length CK] 34)).cell? ⟨x.heap.size, 3, none⟩ = some (.slice P lb.length C) := by rw [cell_of_row _ _ 3 _ _ _ hrow]; rfl
  have c4 : (x.alloc (.cells #[.int .i64 9, .string (bs nm), .string (bs to), .slice P lb.length C, .int .i64 n, .int .i64 m, .slice K ks.length CK] 34)).cell? ⟨x.heap.size, 4, none⟩ = some (.int .i64 n) := by rw [cell_of_row _ _ 4 _ _ _ hrow]; rfl
  have c5 : (x.alloc (.cells #[.int .i64 9, .string (bs nm), .string (bs to), .slice P lb.length C, .int .i64 n, .int .i64 m, .slice K ks.length CK] 34)).cell? ⟨x.heap.size, 5, none⟩ = some (.int .i64 m) := by rw [cell_of_row _ _ 5 _ _ _ hrow]; rfl
  have c6 : (x.alloc (.cells #[.int .i64 9, .string (bs nm), .string (bs to), .slice P lb.length C, .int .i64 n, .int .i64 m, .slice K ks.length CK] 34)).cell? ⟨x.heap.size, 6, none⟩ = some (.slice K ks.length CK) := by rw [cell_of_row _ _ 6 _ _ _ hrow]; rfl
  clear hd hF ho ok hb0
  have HR : doA D.ab ⟨9, nm, to, P, C, lb, n, m, K, CK, ks⟩ = (fuseA D.ab n, [], 0, 0) := by simp [doA]
  rw [HR]
  clear HR
  go_enter Try.func18, Try.ntmps18
  go_wp2_with (first
    | (go_at_call 36; refine (fuse_any _ base q b D HD0.out n).mono ?_; rintro _ x1 ⟨rfl, ht1⟩; have HT1 : Hid (To base q b D.fs (fuseA D.ab n) (x.alloc (.cells #[.int .i64 9, .string (bs nm), .string (bs to), .slice P lb.length C, .int .i64 n, .int .i64 m, .slice K ks.length CK] 34)) x1) := ht1; clear ht1)
    | go_in)
  go_ret3
  exact ⟨_, rfl, own_nil _ _, HT1.out.f HD.out HF.out HB0.out⟩
theorem wpList_append_ksg (w : World) (gs : Nat) (hgs : w.heap.size = gs) {ops : Array Oper} {rest : List Oper} {o : Oper} {act : Act} {Q : Exit → Act → World → Prop}
    (hg : o.guard = none) (s x : Operand) (hop : o.op = Op.call { callee := Callee.builtin Builtin.append, args := #[s, x], argTypes := #[32, 32] })
    (l : List Int) (a : Option Addr) (n cap : Nat) (hs : act.eval s = .slice (some ⟨gs, 0, none⟩) 0 0) (hx : act.eval x = .slice a n cap) (hln : l.length = n) (hb : Ints w a l) (hn : a = none → cap = 0) (hnc : n ≤ cap) (hl : n * 8 ≤ 140737488355328)
    (hK : ∀ K C w', Ints w' K l → (∀ g off, K = some ⟨g, off, none⟩ → l ≠ [] → ∃ c m, w'.heap[g]? = some (.cells c 3 m)) → Below w.heap.size w w' → wpList Try.prog ops Q rest (act.put o.dst (.slice K n C)) w') :
    wpList Try.prog ops Q (o :: rest) act (w.alloc (.cells #[] 3)) := by
  subst hgs
  exact wpList_append_ks w hg s x hop l a n cap hs hx hln hb hn hnc hl hK
theorem not_ob {x : World} {base q b : Nat} {D : Dk} (hd : DkAt x base q b D) {K : Option Addr} {ks : List Int} (hty : ∀ g off, K = some ⟨g, off, none⟩ → ks ≠ [] → ∃ c m, x.heap[g]? = some (.cells c 3 m)) : ∀ g off, K = some ⟨g, off, none⟩ → ks ≠ [] → ¬ Ob q b D.fs g := by
  intro g off e hne hob
  obtain ⟨c, m, hg⟩ := hty g off e hne
  rcases hob with h1 | h1 | ⟨f, hf, h1⟩
  · subst h1
    have := hd.blk
    rw [hg] at this
    injection this with h2
    injection h2 with _ h3
    cases h3
  · subst h1
    obtain ⟨M, hm, _⟩ := hd.map
    obtain ⟨es, cc, hb⟩ := owns_blkS hm
    rw [hg] at hb
    cases hb
  · obtain ⟨cc, hb⟩ := (hd.dat f hf).typ h1
    rw [hg] at hb
    injection hb with h2
    injection h2 with _ h3
    cases h3
set_option maxRecDepth 100000 in
set_option maxHeartbeats 4000000 in
theorem call_8 (x : World) (base q b : Nat) (A : Ak) (F : Nat → Prop) (h : DF x base q b A F) (ok : AkOk A) (nm to : List UInt8) (P : Option Addr) (C : Nat) (lb : List Nat) (n m : Int) (K : Option Addr) (CK : Nat) (ks : List Int) (ho : OpIn x ⟨8, nm, to, P, C, lb, n, m, K, CK, ks⟩) : Calls Try.prog 18 #[.pointer (some ⟨q, 0, none⟩), opV ⟨8, nm, to, P, C, lb, n, m, K, CK, ks⟩] x fun r x' => ∃ v, r = .returned (.tuple #[v, .int .i64 (doA A ⟨8, nm, to, P, C, lb, n, m, K, CK, ks⟩).2.2.1, .int .i64 ((doA A ⟨8, nm, to, P, C, lb, n, m, K, CK, ks⟩).2.2.2 : Nat)]) ∧ Own x' x.heap.size v (doA A ⟨8, nm, to, P, C, lb, n, m, K, CK, ks⟩).2.1 ∧ DF x' base q b (doA A ⟨8, nm, to, P, C, lb, n, m, K, CK, ks⟩).1 F ∧ (∀ k, F k → x'.heap[k]? = x.heap[k]?) ∧ Below base x x' := by
  obtain ⟨D, hd, rfl, hF⟩ := h
  have HD : Hid (DkAt x base q b D) := hd
  have HF : Hid (∀ k, F k → k < x.heap.size ∧ ¬ Ob q b D.fs k) := hF
  have HO : Hid (OpIn x ⟨8, nm, to, P, C, lb, n, m, K, CK, ks⟩) := ho
  have HOK : Hid (DkOk D) := ok.dk
  have hb0 : Below x.heap.size x (x.alloc (.cells #[.int .i64 8, .string (bs nm), .string (bs to), .slice P lb.length C, .int .i64 n, .int .i64 m, .slice K ks.length CK] 34)) := (Below.refl _ _).alloc (Nat.le_refl _) _
  have HB0 : Hid (Below x.heap.size x (x.alloc (.cells #[.int .i64 8, .string (bs nm), .string (bs to), .slice P lb.length C, .int .i64 n, .int .i64 m, .slice K ks.length CK] 34))) := hb0
  have HD0 : Hid (DkAt (x.alloc (.cells #[.int .i64 8, .string (bs nm), .string (bs to), .slice P lb.length C, .int .i64 n, .int .i64 m, .slice K ks.length CK] 34)) base q b D) := hd.keep hb0
  have hrow := heap_alloc_new x (.cells #[.int .i64 8, .string (bs nm), .string (bs to), .slice P lb.length C, .int .i64 n, .int .i64 m, .slice K ks.length CK] 34)
  have c0 : (x.alloc (.cells #[.int .i64 8, .string (bs nm), .string (bs to), .slice P lb.length C, .int .i64 n, .int .i64 m, .slice K ks.length CK] 34)).cell? ⟨x.heap.size, 0, none⟩ = some (.int .i64 8) := by rw [cell_of_row _ _ 0 _ _ _ hrow]; rfl
  have c1 : (x.alloc (.cells #[.int .i64 8, .string (bs nm), .string (bs to), .slice P lb.length C, .int .i64 n, .int .i64 m, .slice K ks.length CK] 34)).cell? ⟨x.heap.size, 1, none⟩ = some (.string (bs nm)) := by rw [cell_of_row _ _ 1 _ _ _ hrow]; rfl
  have c2 : (x.alloc (.cells #[.int .i64 8, .string (bs nm), .string (bs to), .slice P lb.length C, .int .i64 n, .int .i64 m, .slice K ks.length CK] 34)).cell? ⟨x.heap.size, 2, none⟩ = some (.string (bs to)) := by rw [cell_of_row _ _ 2 _ _ _ hrow]; rfl
  have c3 : (x.alloc (.cells #[.int .i64 8, .string (bs nm), .string (bs to), .slice P lb.length C, .int .i64 n, .int .i64 m, .slice K ks.length CK] 34)).cell? ⟨x.heap.size, 3, none⟩ = some (.slice P lb.length C) := by rw [cell_of_row _ _ 3 _ _ _ hrow]; rfl
  have c4 : (x.alloc (.cells #[.int .i64 8, .string (bs nm), .string (bs to), .slice P lb.length C, .int .i64 n, .int .i64 m, .slice K ks.length CK] 34)).cell? ⟨x.heap.size, 4, none⟩ = some (.int .i64 n) := by rw [cell_of_row _ _ 4 _ _ _ hrow]; rfl
  have c5 : (x.alloc (.cells #[.int .i64 8, .string (bs nm), .string (bs to), .slice P lb.length C, .int .i64 n, .int .i64 m, .slice K ks.length CK] 34)).cell? ⟨x.heap.size, 5, none⟩ = some (.int .i64 m) := by rw [cell_of_row _ _ 5 _ _ _ hrow]; rfl
  have c6 : (x.alloc (.cells #[.int .i64 8, .string (bs nm), .string (bs to), .slice P lb.length C, .int .i64 n, .int .i64 m, .slice K ks.length CK] 34)).cell? ⟨x.heap.size, 6, none⟩ = some (.slice K ks.length CK) := by rw [cell_of_row _ _ 6 _ _ _ hrow]; rfl
  clear hd hF ho ok hb0
  have HR : doA D.ab ⟨8, nm, to, P, C, lb, n, m, K, CK, ks⟩ = (restartA D.ab ks, [], 0, 0) := by simp [doA]
  rw [HR]
  clear HR
  go_enter Try.func18, Try.ntmps18
  go_wp2_with (first
    | (at_builtin; refine wpList_append_ksg (x.alloc (.cells #[.int .i64 8, .string (bs nm), .string (bs to), .slice P lb.length C, .int .i64 n, .int .i64 m, .slice K ks.length CK] 34)) (x.heap.size + 1) (by simp) rfl _ _ rfl ks K ks.length CK rfl rfl rfl (HO.out.ks.keep HB0.out) HO.out.kn HO.out.kc HO.out.kl ?_; intro K1 C1 x1 hi1 ht1 hb1; have HI1 : Hid (Ints x1 K1 ks ∧ (∀ g off, K1 = some ⟨g, off, none⟩ → ks ≠ [] → ∃ c m, x1.heap[g]? = some (.cells c 3 m))) := ⟨hi1, ht1⟩; have HB1 : Hid (Below x.heap.size x x1) := HB0.out.trans (hb1.mono HB0.out.size); have HD1 : Hid (DkAt x1 base q b D) := HD.out.keep HB1.out; clear hi1 ht1 hb1)
    | (go_at_call 32; refine (restart_any x1 base q b D HD1.out HOK.out K1 ks.length C1 ks rfl HI1.out.1 (not_ob HD1.out HI1.out.2) (by have := HO.out.kl; simp only at this; omega)).mono ?_; rintro _ x2 ⟨rfl, ht2⟩; have HT2 : Hid (To base q b D.fs (restartA D.ab ks) x1 x2) := ht2; clear ht2)
    | go_in)
  go_ret3
  exact ⟨_, rfl, own_nil _ _, HT2.out.f HD.out HF.out HB1.out⟩
set_option maxRecDepth 100000 in
set_option maxHeartbeats 4000000 in
theorem call_1 (x : World) (base q b : Nat) (A : Ak) (F : Nat → Prop) (h : DF x base q b A F) (ok : AkOk A) (nm to : List UInt8) (P : Option Addr) (C : Nat) (lb : List Nat) (n m : Int) (K : Option Addr) (CK : Nat) (ks : List Int) (ho : OpIn x ⟨1, nm, to, P, C, lb, n, m, K, CK, ks⟩) : Calls Try.prog 18 #[.pointer (some ⟨q, 0, none⟩), opV ⟨1, nm, to, P, C, lb, n, m, K, CK, ks⟩] x fun r x' => ∃ v, r = .returned (.tuple #[v, .int .i64 (doA A ⟨1, nm, to, P, C, lb, n, m, K, CK, ks⟩).2.2.1, .int .i64 ((doA A ⟨1, nm, to, P, C, lb, n, m, K, CK, ks⟩).2.2.2 : Nat)]) ∧ Own x' x.heap.size v (doA A ⟨1, nm, to, P, C, lb, n, m, K, CK, ks⟩).2.1 ∧ DF x' base q b (doA A ⟨1, nm, to, P, C, lb, n, m, K, CK, ks⟩).1 F ∧ (∀ k, F k → x'.heap[k]? = x.heap[k]?) ∧ Below base x x' := by
  obtain ⟨D, hd, rfl, hF⟩ := h
  have HD : Hid (DkAt x base q b D) := hd
  have HF : Hid (∀ k, F k → k < x.heap.size ∧ ¬ Ob q b D.fs k) := hF
  have HO : Hid (OpIn x ⟨1, nm, to, P, C, lb, n, m, K, CK, ks⟩) := ho
  have HOK : Hid (DkOk D) := ok.dk
  have hb0 : Below x.heap.size x (x.alloc (.cells #[.int .i64 1, .string (bs nm), .string (bs to), .slice P lb.length C, .int .i64 n, .int .i64 m, .slice K ks.length CK] 34)) := (Below.refl _ _).alloc (Nat.le_refl _) _
  have HB0 : Hid (Below x.heap.size x (x.alloc (.cells #[.int .i64 1, .string (bs nm), .string (bs to), .slice P lb.length C, .int .i64 n, .int .i64 m, .slice K ks.length CK] 34))) := hb0
  have HD0 : Hid (DkAt (x.alloc (.cells #[.int .i64 1, .string (bs nm), .string (bs to), .slice P lb.length C, .int .i64 n, .int .i64 m, .slice K ks.length CK] 34)) base q b D) := hd.keep hb0
  have hrow := heap_alloc_new x (.cells #[.int .i64 1, .string (bs nm), .string (bs to), .slice P lb.length C, .int .i64 n, .int .i64 m, .slice K ks.length CK] 34)
  have c0 : (x.alloc (.cells #[.int .i64 1, .string (bs nm), .string (bs to), .slice P lb.length C, .int .i64 n, .int .i64 m, .slice K ks.length CK] 34)).cell? ⟨x.heap.size, 0, none⟩ = some (.int .i64 1) := by rw [cell_of_row _ _ 0 _ _ _ hrow]; rfl
  have c1 : (x.alloc (.cells #[.int .i64 1, .string (bs nm), .string (bs to), .slice P lb.length C, .int .i64 n, .int .i64 m, .slice K ks.length CK] 34)).cell? ⟨x.heap.size, 1, none⟩ = some (.string (bs nm)) := by rw [cell_of_row _ _ 1 _ _ _ hrow]; rfl
  have c2 : (x.alloc (.cells #[.int .i64 1, .string (bs nm), .string (bs to), .slice P lb.length C, .int .i64 n, .int .i64 m, .slice K ks.length CK] 34)).cell? ⟨x.heap.size, 2, none⟩ = some (.string (bs to)) := by rw [cell_of_row _ _ 2 _ _ _ hrow]; rfl
  have c3 : (x.alloc (.cells #[.int .i64 1, .string (bs nm), .string (bs to), .slice P lb.length C, .int .i64 n, .int .i64 m, .slice K ks.length CK] 34)).cell? ⟨x.heap.size, 3, none⟩ = some (.slice P lb.length C) := by rw [cell_of_row _ _ 3 _ _ _ hrow]; rfl
  have c4 : (x.alloc (.cells #[.int .i64 1, .string (bs nm), .string (bs to), .slice P lb.length C, .int .i64 n, .int .i64 m, .slice K ks.length CK] 34)).cell? ⟨x.heap.size, 4, none⟩ = some (.int .i64 n) := by rw [cell_of_row _ _ 4 _ _ _ hrow]; rfl
  have c5 : (x.alloc (.cells #[.int .i64 1, .string (bs nm), .string (bs to), .slice P lb.length C, .int .i64 n, .int .i64 m, .slice K ks.length CK] 34)).cell? ⟨x.heap.size, 5, none⟩ = some (.int .i64 m) := by rw [cell_of_row _ _ 5 _ _ _ hrow]; rfl
  have c6 : (x.alloc (.cells #[.int .i64 1, .string (bs nm), .string (bs to), .slice P lb.length C, .int .i64 n, .int .i64 m, .slice K ks.length CK] 34)).cell? ⟨x.heap.size, 6, none⟩ = some (.slice K ks.length CK) := by rw [cell_of_row _ _ 6 _ _ _ hrow]; rfl
  clear hd hF ho ok hb0
  have HR : doA D.ab ⟨1, nm, to, P, C, lb, n, m, K, CK, ks⟩ = ((appendA D.ab nm lb).1, [], 0, (appendA D.ab nm lb).2) := by simp [doA]
  rw [HR]
  clear HR
  obtain ⟨E, hE⟩ : ∃ E, (appendA D.ab nm lb).2 = E := ⟨_, rfl⟩
  have HE : Hid ((appendA D.ab nm lb).2 = E) := hE
  rw [hE]
  clear hE
  go_enter Try.func18, Try.ntmps18
  go_wp2_with (first
    | (go_at_call 29; refine (copy_any lb P C _ (HO.out.b.keep HB0.out) (by have := HO.out.bl; simp only at this; omega)).mono ?_; rintro _ x1 ⟨v1, rfl, ho1, hb1⟩; obtain ⟨P1, C1, rfl, hy1, hf1, hz1⟩ := ho1.ready; have HW1 : Hid (Own x1 x.heap.size (.slice P1 lb.length C1) lb) := ho1.lower HB0.out.size; have HY1 : Hid (Bytes x1 P1 lb ∧ lb.length ≤ C1 ∧ (P1 = none → C1 = 0)) := ⟨hy1, hf1, hz1⟩; have HB1 : Hid (Below x.heap.size x x1) := HB0.out.trans (hb1.mono HB0.out.size); have HD1 : Hid (DkAt x1 base q b D) := HD.out.keep HB1.out; have k1 : x1.cell? ⟨x.heap.size, 1, none⟩ = some (.string (bs nm)) := (hb1.cell (p := ⟨x.heap.size, 1, none⟩) (by simp)).trans c1; clear ho1 hb1 hy1 hf1 hz1)
    | (go_at_call 28; refine (append_any x1 base q b D HD1.out HOK.out nm HO.out.nm P1 lb.length C1 lb rfl HY1.out.1 HY1.out.2.1 HY1.out.2.2 (by have := HO.out.bl; simp only at this; omega)).mono ?_; rw [HE.out]; rintro _ x2 ⟨rfl, ht2⟩; have HT2 : Hid (To base q b D.fs (appendA D.ab nm lb).1 x1 x2) := ht2; clear ht2)
    | go_in)
  have HG : Hid (∀ g, P1 = some ⟨g, 0, none⟩ → x.heap.size ≤ g ∧ g < x1.heap.size) := fun g hg => by
    have h1 := HW1.out.2.lt g (by rw [hg]; rfl)
    exact h1
  have HTF : Hid (DF x2 base q b (appendA D.ab nm lb).1 (fun k => F k ∨ (x.heap.size ≤ k ∧ k < x1.heap.size)) ∧ (∀ k, (F k ∨ (x.heap.size ≤ k ∧ k < x1.heap.size)) → x2.heap[k]? = x1.heap[k]?) ∧ Below base x1 x2) := HT2.out.f HD1.out (fun k hk => by
    rcases hk with hk | ⟨hk1, hk2⟩
    · exact ⟨Nat.lt_of_lt_of_le (HF.out k hk).1 HB1.out.size, (HF.out k hk).2⟩
    · exact ⟨hk2, fun hob => by have := (HD.out.ob hob).2; omega⟩) (Below.refl _ _)
  have HW2 : Hid (Own x2 x.heap.size (.slice P1 lb.length C1) lb) := own_kept HW1.out (fun g hg => HTF.out.2.1 g (.inr (HG.out g hg)))
  have hl0 : (lb.length : Int) ≤ 140737488351232 := by have := HO.out.bl; simp only at this; omega
  obtain ⟨nb, hnb⟩ : ∃ nb, lb.length = nb := ⟨_, rfl⟩
  have HNB : Hid (lb.length = nb) := hnb
  rw [hnb] at HW2 hl0
  try rw [hnb]
  have hnb0 : (0 : Int) ≤ (nb : Int) := by omega
  clear hnb c0 c1 c2 c3 c4 c5 c6 k1 hrow
  try go_wp2
  go_loopw [34] (fun v34 wr => ∃ j : Nat, v34 = .int .i64 (j : Int) ∧ j ≤ nb ∧ Hid (Tz x2 wr x.heap.size P1 nb C1)) (fun v34 _ => nb - (intOf v34).toNat)
  case atStart => exact ⟨0, rfl, Nat.zero_le _, Tz.start HW2.out HNB.out⟩
  case round =>
    obtain ⟨j, rfl, hj, HTZ⟩ := hrel
    by_cases hjn : j < nb
    · obtain ⟨g, zz, hg, e1, e2, hst⟩ := HTZ.out.step j hjn
      have HST : Hid (∀ y : Int, Tz x2 (wr.setCell ⟨g, j, none⟩ (.int .u8 y)) x.heap.size P1 nb C1) := hst
      subst hg
      have hjI : (j : Int) < (nb : Int) := by omega
      clear hst
      go_wp2
      go_roundw
      case rel => exact ⟨j + 1, by go_num, by omega, HST.out _⟩
      case measure => simp [intOf]; omega
    · obtain rfl : j = nb := by omega
      have HFIN : Hid (DF wr base q b (appendA D.ab nm lb).1 F ∧ (∀ k, F k → wr.heap[k]? = x.heap[k]?) ∧ Below base x wr) := by
        have hz := HTZ.out
        have hne : ∀ k, ¬ (x.heap.size ≤ k ∧ k < x1.heap.size) → P1 ≠ some ⟨k, 0, none⟩ := fun k hk e => hk (HG.out k e)
        have hFx : ∀ k, F k → ¬ (x.heap.size ≤ k ∧ k < x1.heap.size) := fun k hk hh => by have := (HF.out k hk).1; omega
        have hbx : base ≤ x.heap.size := Nat.le_trans HD.out.lo.1 (Nat.le_of_lt HD.out.lt.1)
        refine ⟨(HTF.out.1.turn (y := wr) (by rw [hz.size]; exact Nat.le_refl _) (fun k hk hn => hz.block k (hne k (fun hh => hn (.inr hh))))).sub (fun k hk => .inl hk), fun k hk => ?_, ?_⟩
        · rw [hz.block k (hne k (hFx k hk)), HTF.out.2.1 k (.inl hk), HB1.out.block k (HF.out k hk).1]
        · have h3 : Below base x x2 := (HB1.out.mono hbx).trans HTF.out.2.2
          exact h3.trans ⟨hz.os, hz.tape, hz.output, by rw [hz.size]; exact Nat.le_refl _, fun k hk => hz.block k (hne k (by omega))⟩
      clear hjn hj
      go_wp2
      go_ret3
      exact ⟨_, rfl, own_nil _ _, HFIN.out⟩
set_option maxRecDepth 100000 in
set_option maxHeartbeats 4000000 in
theorem call_x (x : World) (base q b : Nat) (A : Ak) (F : Nat → Prop) (h : DF x base q b A F) (ok : AkOk A) (k : Int) (nm to : List UInt8) (P : Option Addr) (C : Nat) (lb : List Nat) (n m : Int) (K : Option Addr) (CK : Nat) (ks : List Int) (ho : OpIn x ⟨k, nm, to, P, C, lb, n, m, K, CK, ks⟩) (hk : k < 0 ∨ 9 < k) : Calls Try.prog 18 #[.pointer (some ⟨q, 0, none⟩), opV ⟨k, nm, to, P, C, lb, n, m, K, CK, ks⟩] x fun r x' => ∃ v, r = .returned (.tuple #[v, .int .i64 (doA A ⟨k, nm, to, P, C, lb, n, m, K, CK, ks⟩).2.2.1, .int .i64 ((doA A ⟨k, nm, to, P, C, lb, n, m, K, CK, ks⟩).2.2.2 : Nat)]) ∧ Own x' x.heap.size v (doA A ⟨k, nm, to, P, C, lb, n, m, K, CK, ks⟩).2.1 ∧ DF x' base q b (doA A ⟨k, nm, to, P, C, lb, n, m, K, CK, ks⟩).1 F ∧ (∀ k, F k → x'.heap[k]? = x.heap[k]?) ∧ Below base x x' := by
  obtain ⟨D, hd, rfl, hF⟩ := h
  have HD : Hid (DkAt x base q b D) := hd
  have HF : Hid (∀ k, F k → k < x.heap.size ∧ ¬ Ob q b D.fs k) := hF
  have HO : Hid (OpIn x ⟨k, nm, to, P, C, lb, n, m, K, CK, ks⟩) := ho
  have HOK : Hid (DkOk D) := ok.dk
  have hb0 : Below x.heap.size x (x.alloc (.cells #[.int .i64 k, .string (bs nm), .string (bs to), .slice P lb.length C, .int .i64 n, .int .i64 m, .slice K ks.length CK] 34)) := (Below.refl _ _).alloc (Nat.le_refl _) _
  have HB0 : Hid (Below x.heap.size x (x.alloc (.cells #[.int .i64 k, .string (bs nm), .string (bs to), .slice P lb.length C, .int .i64 n, .int .i64 m, .slice K ks.length CK] 34))) := hb0
  have HD0 : Hid (DkAt (x.alloc (.cells #[.int .i64 k, .string (bs nm), .string (bs to), .slice P lb.length C, .int .i64 n, .int .i64 m, .slice K ks.length CK] 34)) base q b D) := hd.keep hb0
  have hrow := heap_alloc_new x (.cells #[.int .i64 k, .string (bs nm), .string (bs to), .slice P lb.length C, .int .i64 n, .int .i64 m, .slice K ks.length CK] 34)
  have c0 : (x.alloc (.cells #[.int .i64 k, .string (bs nm), .string (bs to), .slice P lb.length C, .int .i64 n, .int .i64 m, .slice K ks.length CK] 34)).cell? ⟨x.heap.size, 0, none⟩ = some (.int .i64 k) := by rw [cell_of_row _ _ 0 _ _ _ hrow]; rfl
  have c1 : (x.alloc (.cells #[.int .i64 k, .string (bs nm), .string (bs to), .slice P lb.length C, .int .i64 n, .int .i64 m, .slice K ks.length CK] 34)).cell? ⟨x.heap.size, 1, none⟩ = some (.string (bs nm)) := by rw [cell_of_row _ _ 1 _ _ _ hrow]; rfl
  have c2 : (x.alloc (.cells #[.int .i64 k, .string (bs nm), .string (bs to), .slice P lb.length C, .int .i64 n, .int .i64 m, .slice K ks.length CK] 34)).cell? ⟨x.heap.size, 2, none⟩ = some (.string (bs to)) := by rw [cell_of_row _ _ 2 _ _ _ hrow]; rfl
  have c3 : (x.alloc (.cells #[.int .i64 k, .string (bs nm), .string (bs to), .slice P lb.length C, .int .i64 n, .int .i64 m, .slice K ks.length CK] 34)).cell? ⟨x.heap.size, 3, none⟩ = some (.slice P lb.length C) := by rw [cell_of_row _ _ 3 _ _ _ hrow]; rfl
  have c4 : (x.alloc (.cells #[.int .i64 k, .string (bs nm), .string (bs to), .slice P lb.length C, .int .i64 n, .int .i64 m, .slice K ks.length CK] 34)).cell? ⟨x.heap.size, 4, none⟩ = some (.int .i64 n) := by rw [cell_of_row _ _ 4 _ _ _ hrow]; rfl
  have c5 : (x.alloc (.cells #[.int .i64 k, .string (bs nm), .string (bs to), .slice P lb.length C, .int .i64 n, .int .i64 m, .slice K ks.length CK] 34)).cell? ⟨x.heap.size, 5, none⟩ = some (.int .i64 m) := by rw [cell_of_row _ _ 5 _ _ _ hrow]; rfl
  have c6 : (x.alloc (.cells #[.int .i64 k, .string (bs nm), .string (bs to), .slice P lb.length C, .int .i64 n, .int .i64 m, .slice K ks.length CK] 34)).cell? ⟨x.heap.size, 6, none⟩ = some (.slice K ks.length CK) := by rw [cell_of_row _ _ 6 _ _ _ hrow]; rfl
  clear hd hF ho ok hb0
  have HR : doA D.ab ⟨k, nm, to, P, C, lb, n, m, K, CK, ks⟩ = (D.ab, [], 0, 0) := by
    unfold doA
    simp only
    rw [if_neg (by omega), if_neg (by omega), if_neg (by omega), if_neg (by omega), if_neg (by omega), if_neg (by omega), if_neg (by omega), if_neg (by omega), if_neg (by omega), if_neg (by omega)]
  rw [HR]
  have q0 : (k == 0) = false := by simp; omega
  have q1 : (k == 1) = false := by simp; omega
  have q2 : (k == 2) = false := by simp; omega
  have q3 : (k == 3) = false := by simp; omega
  have q4 : (k == 4) = false := by simp; omega
  have q5 : (k == 5) = false := by simp; omega
  have q6 : (k == 6) = false := by simp; omega
  have q7 : (k == 7) = false := by simp; omega
  have q8 : (k == 8) = false := by simp; omega
  have q9 : (k == 9) = false := by simp; omega
  clear HR hk
  go_enter Try.func18, Try.ntmps18
  go_wp2
  go_ret3
  exact ⟨_, rfl, own_nil _ _, (To.of_below HD0.out (Below.refl _ _)).f HD.out HF.out HB0.out⟩
theorem call_F (x : World) (base q b : Nat) (A : Ak) (F : Nat → Prop) (h : DF x base q b A F) (ok : AkOk A) (o : Oa) (ho : OpIn x o) : Calls Try.prog 18 #[.pointer (some ⟨q, 0, none⟩), opV o] x fun r x' => ∃ v, r = .returned (.tuple #[v, .int .i64 (doA A o).2.2.1, .int .i64 ((doA A o).2.2.2 : Nat)]) ∧ Own x' x.heap.size v (doA A o).2.1 ∧ DF x' base q b (doA A o).1 F ∧ (∀ k, F k → x'.heap[k]? = x.heap[k]?) ∧ Below base x x' := by
  obtain ⟨k, nm, to, P, C, lb, n, m, K, CK, ks⟩ := o
  by_cases hx : k < 0 ∨ 9 < k
  · exact call_x x base q b A F h ok k nm to P C lb n m K CK ks ho hx
  · have hk : k = 0 ∨ k = 1 ∨ k = 2 ∨ k = 3 ∨ k = 4 ∨ k = 5 ∨ k = 6 ∨ k = 7 ∨ k = 8 ∨ k = 9 := by omega
    rcases hk with rfl | rfl | rfl | rfl | rfl | rfl | rfl | rfl | rfl | rfl
    · exact call_0 x base q b A F h ok nm to P C lb n m K CK ks ho
    · exact call_1 x base q b A F h ok nm to P C lb n m K CK ks ho
    · exact call_2 x base q b A F h ok nm to P C lb n m K CK ks ho
    · exact call_3 x base q b A F h ok nm to P C lb n m K CK ks ho
    · exact call_4 x base q b A F h ok nm to P C lb n m K CK ks ho
    · exact call_5 x base q b A F h ok nm to P C lb n m K CK ks ho
    · exact call_6 x base q b A F h ok nm to P C lb n m K CK ks ho
    · exact call_7 x base q b A F h ok nm to P C lb n m K CK ks ho
    · exact call_8 x base q b A F h ok nm to P C lb n m K CK ks ho
    · exact call_9 x base q b A F h ok nm to P C lb n m K CK ks ho
end Go.Proofs.Ytlnhhgmdajbepaa
