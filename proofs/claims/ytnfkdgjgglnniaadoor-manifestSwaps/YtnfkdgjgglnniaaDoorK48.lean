/- Own texts, joined: Fsc. -/
import Derived.Test.YtnfkdgjgglnniaaDoorK47
import Derived.Laws.CopyOwn
namespace Go.Proofs.YtnfkdgjgglnniaaDoor
open Go.ChangeShapes Go.WideShapes Go.ChangeAt Go.RowKit
set_option linter.unusedVariables false
set_option linter.unusedSimpArgs false
theorem at_copyS {ops : Array Oper} {rest : List Oper} {a : Act} {w : World} {Q : Exit → Act → World → Prop} {dst : Option Tmp} {ty : TypeId} {pos : String} {after : Array Edge} {args : Array Operand} {ts : Array TypeId}
    (h : wpList Tryd.prog ops Q (⟨dst, .call { callee := .builtin .copy, args := args, argTypes := ts }, ty, pos, after, none⟩ :: rest) a w) : wpList Tryd.prog ops Q (⟨dst, .call { callee := .builtin .copy, args := args, argTypes := ts }, ty, pos, after, none⟩ :: rest) a w := h
theorem info8s : (Tryd.prog.info? 5).map (·.size) = some 1 := by kernel_rfl
theorem row_full {w : World} {base g n : Nat} {xs : List Value} (h : w.ownsRow base 5 1 (.slice (some ⟨g, 0, none⟩) n n) n xs) : w.heap[g]? = some (.cells xs.toArray 5 (0, 0)) := by
  rcases h.2 with ⟨h0, _⟩ | ⟨g', cap, cur, hv, hb, hh, h1, h2, h3, h4⟩
  · cases h0
  · cases hv
    rw [hh]
    have : cur.toList = xs := by rw [← h4, ← h3]; exact (List.take_of_length_le (by simp)).symm
    rw [← this]
theorem slice_under2 : Tryd.prog.underlying 40 = some (.slice (Tryd.prog.elem 40)) := by kernel_rfl
theorem slice_size2 (w : World) : (sizeOf (Tryd.prog.elem 40)).run Tryd.prog w = .ok 1 w := by kernel_rfl
theorem at_slice2 {ops : Array Oper} {rest : List Oper} {a : Act} {w : World} {Q : Exit → Act → World → Prop} {dst : Option Tmp} {ty : TypeId} {pos : String} {after : Array Edge} {s lo hi : Operand}
    (h : wpList Tryd.prog ops Q (⟨dst, .slice 40 s (some lo) (some hi) none, ty, pos, after, none⟩ :: rest) a w) : wpList Tryd.prog ops Q (⟨dst, .slice 40 s (some lo) (some hi) none, ty, pos, after, none⟩ :: rest) a w := h
theorem bytes_lh {w : World} {A : Option Addr} {l : List Nat} (h : Bytes w A l) (I N cap : Nat) (hi : I + N ≤ l.length) (hc : l.length ≤ cap) : Bytes w (if cap = I then A else A.map (·.add (I * 1))) ((l.drop I).take N) := by
  by_cases hci : cap = I
  · rw [if_pos hci, List.drop_of_length_le (by omega), List.take_nil]
    exact Bytes.none _ _
  · rw [if_neg hci]
    rcases h.2 with rfl | ⟨b, off, rfl, hlt, hcell⟩
    · rw [List.drop_nil, List.take_nil]
      exact Bytes.none _ _
    · have e : (⟨b, off, none⟩ : Addr).add (I * 1) = ⟨b, off + I, none⟩ := by rw [Nat.mul_one]; simp [Addr.add]
      rw [Option.map_some, e]
      exact (h.drop I).take N
theorem wpList_slice_lh {ops : Array Oper} {rest : List Oper} {o : Oper} {a : Act} {w : World} {Q : Exit → Act → World → Prop} (hgd : o.guard = none) (s lo hi : Operand) (ho : o.op = .slice 40 s (some lo) (some hi) none)
    {A : Option Addr} {n cap I N : Nat} {H : Int} {l : List Nat} (hs : a.eval s = .slice A n cap) (hlo : a.eval lo = .int .i64 (I : Int)) (hhi : a.eval hi = .int .i64 H) (hH : H = (I : Int) + (N : Int)) (hi2 : I + N ≤ n) (hn : n ≤ cap) (hl : l.length = n) (hb : Bytes w A l)
    (h : ∀ x, Bytes w x ((l.drop I).take N) → wpList Tryd.prog ops Q rest (a.put o.dst (.slice x N (cap - I))) w) : wpList Tryd.prog ops Q (o :: rest) a w :=
  wpList_plain hgd fun _ hK => by
    subst hH
    have hrun := run_slice_lh (P := Tryd.prog) w 40 A n cap slice_under2 .i64 .i64 (I : Int) ((I : Int) + (N : Int)) (by omega) (by omega) (by omega)
    have e1 : ((I : Int) + (N : Int)).toNat - I = N := by omega
    unfold Oper.wp execOp
    simp only [ho, hs, hlo, hhi, Option.map_some, Option.map_none, Sem.run_bind, Sem.run_pure, Result.andThen_ok, run_sliceAt_slice (P := Tryd.prog) w 40 _ _ _ _ slice_under2, hrun, slice_size2, sliced, Int.toNat_natCast, e1]
    exact hK _ _ (h _ (bytes_lh hb I N cap (by omega) (by omega)))
theorem Own.lower {w : World} {b0 b1 : Nat} {v : Value} {l : List Nat} (h : Own w b1 v l) (hb : b0 ≤ b1) : Own w b0 v l := by
  refine ⟨h.1, h.2.1, ?_⟩
  rcases h.2.2 with h1 | ⟨g, cap, cur, h1, h2, h3⟩
  · exact .inl h1
  · exact .inr ⟨g, cap, cur, h1, Nat.le_trans hb h2, h3⟩
theorem own_nil (w : World) (b0 : Nat) : Own w b0 (.slice none 0 0) [] := ⟨fun i => by simp, by simp [B8], .inl ⟨rfl, rfl⟩⟩
theorem dat_bytes {w : World} {base : Nat} {a : Option Addr} {m c : Nat} {l : List Nat} (h : DatAt w base (.slice a m c) l) : Bytes w a l := by
  obtain ⟨a2, c2, h1, _, _, h2, _⟩ := h.bytes
  injection h1 with e1 e2 e3
  rw [e1]
  exact h2
theorem read_turn {w x : World} {base q b k : Nat} {D : Dk} {v : Value} {S : Int} (h : DkAt w base q b D) (hb : Below w.heap.size w x) (hf : FiAt x k v S) (hk : w.heap.size ≤ k) (R : Int) :
    DkAt (x.setCell ⟨q, 5, none⟩ (.int .i64 R)) base q b { D with read := R } ∧ Chg q b D.fs D.fs w (x.setCell ⟨q, 5, none⟩ (.int .i64 R)) ∧ FiAt (x.setCell ⟨q, 5, none⟩ (.int .i64 R)) k v S := by
  have hx := h.keep hb
  have hq := h.lt.1
  refine ⟨hx.setTo rfl ?_ (fun j _ _ hne => heap_setCell_other x ⟨q, 5, none⟩ j _ hne), (Chg.of_below hb).on ((On.refl q x).set 5 _), (heap_setCell_other x ⟨q, 5, none⟩ k _ (show k ≠ q by omega)).trans hf⟩
  rw [heap_setCell_same x q 5 _ _ _ hx.blk]
  rfl
theorem splice_all (X L : List Value) (h : X.length = L.length) : splice L 0 X = X := by
  simp [splice, h]
theorem bytes_src {w w1 : World} {A : Option Addr} {l : List Nat} {n : Nat} (hb : Bytes w A l) (hn : l.length = n) (h1 : Below w.heap.size w w1) (hp : 0 < (B8 l).length) : ∃ ad, A = some ad ∧ ∀ j v, (B8 l)[j]? = some v → w1.cell? (ad.add j) = some v := by
  rcases hb.2 with rfl | ⟨g, off, rfl, hlt, hc⟩
  · simp [B8] at hp
  · exact ⟨_, rfl, bytes_cells (hb.keep h1)⟩
theorem own_row {w : World} {g n : Nat} {l : List Nat} (hy : ∀ i, l.getD i 0 < 256) (hn : l.length = n) (hm : n ≤ maxLen) (h : w.heap[g]? = some (.cells (B8 l).toArray 5 (0, 0))) : Own w g (.slice (some ⟨g, 0, none⟩) n n) l := by
  subst hn
  refine ⟨hy, by rw [B8_length, Nat.mul_one], .inr ⟨g, _, _, rfl, Nat.le_refl _, h, Nat.le_refl _, hm, by simp [B8_length], ?_⟩⟩
  rw [Nat.mul_one]
  exact List.take_of_length_le (by simp [B8_length])
set_option maxRecDepth 100000 in
set_option maxHeartbeats 2000000 in
theorem copied_any (l : List Nat) (n : Nat) (hn : l.length = n) (A : Option Addr) (C : Nat) (w : World) (hb : Bytes w A l) (hl : (n : Int) ≤ 67108864) :
    Calls Tryd.prog 45 #[.slice A n C] w fun r w' => ∃ v, r = .returned v ∧ Own w' w.heap.size v l ∧ Below w.heap.size w w' := by
  obtain ⟨i0, hi, hz0, hz1, hz2⟩ := info8
  have hl3 : n ≤ maxLen := by unfold maxLen; omega
  have HBY : Hid (Bytes w A l) := hb
  have HN : Hid (l.length = n) := hn
  have h0 : (0 : Int) ≤ (n : Int) := by omega
  have HM : Hid (n ≤ maxLen) := hl3
  clear hb hn hl3
  go_enter Tryd.func45, Tryd.ntmps45
  go_wp2_with (first
    | (at_make; go_loud (refine wpList_make_full _ rfl _ _ 40 rfl w.heap.size 5 i0 (.int .u8 0) 1 Tryd.underlying40 hi hz0 hz1 _ _ _ _ n rfl rfl rfl rfl (by rw [hz2]; omega) HM.out (Nat.le_refl _) ?_; intro w1 ho hg; have HB1 : Hid (Below w.heap.size w w1) := (Below.refl _ _).grown hg (Nat.le_refl _) (fun k hk => by cases hk); have HR1 : Hid (w1.heap[w.heap.size]? = some (.cells (List.replicate n (Value.int .u8 0)).toArray 5 (0, 0))) := (by have h := row_full ho; rw [Nat.mul_one, show (Value.int .u8 0).cells = #[Value.int .u8 0] from rfl, toList_madeCells_one] at h; exact h); clear ho hg))
    | (refine at_copyS ?_; refine wpList_copy_splice rfl _ _ _ _ rfl 5 Tryd.underlying40 info8s _ _ _ _ _ _ rfl rfl w.heap.size 0 (List.replicate n (Value.int .u8 0)) 5 HR1.out (B8 l) (by rw [B8_length, HN.out]; simp) (fun hp => ⟨rfl, bytes_src HBY.out HN.out HB1.out hp⟩) (by rw [B8_length, HN.out]; simp) (B8_one l) w.heap.size w HB1.out (Nat.le_refl _) ?_; intro w2 HG2 hb2; have HB2 : Hid (Below w.heap.size w w2) := hb2; clear hb2)
    | go_in)
  go_ret
  have hg2 := HG2.out
  rw [splice_all _ _ (by rw [B8_length, HN.out]; simp)] at hg2
  exact ⟨_, rfl, own_row HBY.out.1 HN.out HM.out hg2, HB2.out⟩
set_option maxRecDepth 100000 in
set_option maxHeartbeats 2000000 in
theorem size_err (w : World) (base q b : Nat) (D : Dk) (h : DkAt w base q b D) (nm : List UInt8) (hl : nm.length ≤ 281474976710656) (hE : barE D [nm] ≠ 0 ∨ getN D.fs nm = none) :
    Calls Tryd.prog 30 #[.pointer (some ⟨q, 0, none⟩), .string (bs nm)] w fun r w' => r = .returned (.tuple #[.int .i64 0, .int .i64 (findE D nm : Nat)]) ∧ Below w.heap.size w w' := by
  have hE0 := (found_no (R := Nat) hE id (fun _ => 0)).2
  obtain ⟨E, hEE⟩ : ∃ E, findE D nm = E := ⟨_, rfl⟩
  have HFE : Hid (findE D nm = E) := hEE
  rw [hEE] at hE0 ⊢
  have hq : ((E : Int) != 0) = true := by simp; exact hE0
  have HD : Hid (DkAt w base q b D) := h
  have HX : Hid (barE D [nm] ≠ 0 ∨ getN D.fs nm = none) := hE
  have HL : Hid (nm.length ≤ 281474976710656) := hl
  clear h hE hl hE0 hEE
  go_enter Tryd.func30, Tryd.ntmps30
  go_wp2_with (first
    | (go_at_call 39; refine (find_err _ base q b D HD.out nm HL.out HX.out).mono ?_; rw [HFE.out]; rintro _ x1 ⟨rfl, hb1⟩; have HB1 : Hid (Below w.heap.size w x1) := hb1; have HF1 : Hid (FiAt (x1.alloc (.cells #[.slice none 0 0, .int .i64 0] 60)) x1.heap.size (.slice none 0 0) 0) := FiAt.new x1 _ _; clear hb1)
    | ((with_reducible refine guard_store 60 ?_); refine wpList_store_fi rfl _ _ rfl rfl HF1.out rfl rfl rfl (v2 := .slice none 0 0) (s2 := 0) ?_; intro x3 hf ho hh hs; have HB3 : Hid (Below w.heap.size w x3) := ho _ _ (HB1.out.alloc HB1.out.size _) HB1.out.size; have HF3 : Hid (FiAt x3 x1.heap.size (.slice none 0 0) (0)) := hf; have cf3 := hf.cells.1; clear hf ho hh hs)
    | go_in)
  go_ret2
  exact ⟨rfl, HB3.out⟩
set_option maxRecDepth 100000 in
set_option maxHeartbeats 2000000 in
theorem size_ok (w : World) (base q b : Nat) (D : Dk) (h : DkAt w base q b D) (ho : DkOk D) (nm : List UInt8) (hl : nm.length ≤ 281474976710656) (hE : barE D [nm] = 0) (f : Fi) (hN : getN D.fs nm = some f) :
    Calls Tryd.prog 30 #[.pointer (some ⟨q, 0, none⟩), .string (bs nm)] w fun r w' => r = .returned (.tuple #[.int .i64 (f.l.length : Nat), .int .i64 0]) ∧ Below w.heap.size w w' := by
  obtain ⟨hfm, hfn⟩ := getN_mem hN
  obtain ⟨a, c, hv, hc1, hc2, hby, hnil, hone⟩ := (h.dat f hfm).bytes
  have hmI : (f.l.length : Int) ≤ 67108864 := by have := usedN_mem hfm; have := ho.used; have := ho.room; omega
  have hsm : (f.s : Int) ≤ f.l.length := by have := ho.safe f hfm; omega
  obtain ⟨m, hm⟩ : ∃ m, f.l.length = m := ⟨_, rfl⟩
  rw [hm] at hv hc1 hmI hsm
  obtain ⟨S, hS⟩ : ∃ S : Int, (f.s : Int) = S := ⟨_, rfl⟩
  have hS0 : 0 ≤ S := by omega
  rw [hS] at hsm
  have HVS : Hid (FiV f = fiV (.slice a m c) S) := by show Value.agg #[f.v, _] = _; rw [hv, ← hS]
  have HONE : Hid ((Value.slice a m c).oneCell' = true) := by show _ = _; rw [← hv]; exact hone
  have HV : Hid (f.v = .slice a m c ∧ (f.s : Int) = S ∧ f.l.length = m ∧ f ∈ D.fs ∧ f.name = nm) := ⟨hv, hS, hm, hfm, hfn⟩
  have HBY : Hid (Bytes w a f.l ∧ m ≤ c ∧ c ≤ maxLen ∧ (a = none → c = 0)) := ⟨hby, hc1, hc2, hnil⟩
  have HD : Hid (DkAt w base q b D) := h
  have HO : Hid (DkOk D) := ho
  have HE : Hid (barE D [nm] = 0) := hE
  have HN : Hid (getN D.fs nm = some f) := hN
  have HL : Hid (nm.length ≤ 281474976710656) := hl
  have hm0 : (0 : Int) ≤ (m : Int) := by omega
  clear h ho hE hl hN hv hS hm hfm hfn hone hby hc2 hnil
  go_enter Tryd.func30, Tryd.ntmps30
  go_wp2_with (first
    | (go_at_call 39; refine (find_ok _ base q b D HD.out nm HL.out HE.out f HN.out).mono ?_; rw [HVS.out]; rintro _ x1 ⟨rfl, hb1⟩; have HB1 : Hid (Below w.heap.size w x1) := hb1; have HF1 : Hid (FiAt (x1.alloc (.cells #[.slice none 0 0, .int .i64 0] 60)) x1.heap.size (.slice none 0 0) 0) := FiAt.new x1 _ _; clear hb1)
    | ((with_reducible refine guard_store 60 ?_); refine wpList_store_fi rfl _ _ rfl rfl HF1.out HONE.out rfl rfl (v2 := .slice a m c) (s2 := S) ?_; intro x3 hf ho hh hs; have HB3 : Hid (Below w.heap.size w x3) := ho _ _ (HB1.out.alloc HB1.out.size _) HB1.out.size; have HF3 : Hid (FiAt x3 x1.heap.size (.slice a m c) (S)) := hf; have cf3 := hf.cells.1; clear hf ho hh hs)
    | go_in)
  go_ret2
  exact ⟨by rw [HV.out.2.2.1]; rfl, HB3.out⟩
theorem dsize_any (w : World) (base q b : Nat) (D : Dk) (h : DkAt w base q b D) (ho : DkOk D) (nm : List UInt8) (hl : nm.length ≤ 281474976710656) :
    Calls Tryd.prog 30 #[.pointer (some ⟨q, 0, none⟩), .string (bs nm)] w fun r w' => r = .returned (.tuple #[.int .i64 ((sizeA D.ab nm).1 : Nat), .int .i64 ((sizeA D.ab nm).2 : Nat)]) ∧ Below w.heap.size w w' := by
  by_cases hE : barE D [nm] ≠ 0 ∨ getN D.fs nm = none
  · unfold sizeA
    rw [(found_no hE _ _).1]
    exact size_err w base q b D h nm hl hE
  · have h1 : barE D [nm] = 0 := by apply Decidable.byContradiction; intro h2; exact hE (.inl h2)
    cases hN : getN D.fs nm with
    | none => exact absurd (.inr hN) hE
    | some f =>
      unfold sizeA
      rw [found_ok hN h1]
      exact size_ok w base q b D h ho nm hl h1 f hN
set_option maxRecDepth 100000 in
set_option maxHeartbeats 2000000 in
theorem read_err (w : World) (base q b : Nat) (D : Dk) (h : DkAt w base q b D) (nm : List UInt8) (hl : nm.length ≤ 281474976710656) (hE : barE D [nm] ≠ 0 ∨ getN D.fs nm = none) (i n : Int) (hi1 : -9223372036854775808 ≤ i) (hi2 : i ≤ 9223372036854775807) (hn1 : -9223372036854775808 ≤ n) (hn2 : n ≤ 9223372036854775807) :
    Calls Tryd.prog 31 #[.pointer (some ⟨q, 0, none⟩), .string (bs nm), .int .i64 i, .int .i64 n] w fun r w' => r = .returned (.tuple #[.slice none 0 0, .int .i64 (findE D nm : Nat)]) ∧ Below w.heap.size w w' := by
  have hE0 := (found_no (R := Nat) hE id (fun _ => 0)).2
  obtain ⟨E, hEE⟩ : ∃ E, findE D nm = E := ⟨_, rfl⟩
  have HFE : Hid (findE D nm = E) := hEE
  rw [hEE] at hE0 ⊢
  have hq : ((E : Int) != 0) = true := by simp; exact hE0
  have HD : Hid (DkAt w base q b D) := h
  have HX : Hid (barE D [nm] ≠ 0 ∨ getN D.fs nm = none) := hE
  have HL : Hid (nm.length ≤ 281474976710656) := hl
  clear h hE hl hE0 hEE
  go_enter Tryd.func31, Tryd.ntmps31
  go_wp2_with (first
    | (go_at_call 39; refine (find_err _ base q b D HD.out nm HL.out HX.out).mono ?_; rw [HFE.out]; rintro _ x1 ⟨rfl, hb1⟩; have HB1 : Hid (Below w.heap.size w x1) := hb1; have HF1 : Hid (FiAt (x1.alloc (.cells #[.slice none 0 0, .int .i64 0] 60)) x1.heap.size (.slice none 0 0) 0) := FiAt.new x1 _ _; clear hb1)
    | ((with_reducible refine guard_store 60 ?_); refine wpList_store_fi rfl _ _ rfl rfl HF1.out rfl rfl rfl (v2 := .slice none 0 0) (s2 := 0) ?_; intro x3 hf ho hh hs; have HB3 : Hid (Below w.heap.size w x3) := ho _ _ (HB1.out.alloc HB1.out.size _) HB1.out.size; have HF3 : Hid (FiAt x3 x1.heap.size (.slice none 0 0) (0)) := hf; have cf3 := hf.cells.1; clear hf ho hh hs)
    | go_in)
  go_ret2
  exact ⟨rfl, HB3.out⟩
set_option maxRecDepth 100000 in
set_option maxHeartbeats 2000000 in
theorem read_arg (w : World) (base q b : Nat) (D : Dk) (h : DkAt w base q b D) (ho : DkOk D) (nm : List UInt8) (hl : nm.length ≤ 281474976710656) (hE : barE D [nm] = 0) (f : Fi) (hN : getN D.fs nm = some f) (i n : Int) (hi1 : -9223372036854775808 ≤ i) (hi2 : i ≤ 9223372036854775807) (hn1 : -9223372036854775808 ≤ n) (hn2 : n ≤ 9223372036854775807) (hbad : i < 0 ∨ n < 0 ∨ (f.l.length : Int) < i ∨ (f.l.length : Int) - i < n) :
    Calls Tryd.prog 31 #[.pointer (some ⟨q, 0, none⟩), .string (bs nm), .int .i64 i, .int .i64 n] w fun r w' => r = .returned (.tuple #[.slice none 0 0, .int .i64 1]) ∧ Below w.heap.size w w' := by
  obtain ⟨hfm, hfn⟩ := getN_mem hN
  obtain ⟨a, c, hv, hc1, hc2, hby, hnil, hone⟩ := (h.dat f hfm).bytes
  have hmI : (f.l.length : Int) ≤ 67108864 := by have := usedN_mem hfm; have := ho.used; have := ho.room; omega
  have hsm : (f.s : Int) ≤ f.l.length := by have := ho.safe f hfm; omega
  obtain ⟨m, hm⟩ : ∃ m, f.l.length = m := ⟨_, rfl⟩
  rw [hm] at hv hc1 hmI hsm
  obtain ⟨S, hS⟩ : ∃ S : Int, (f.s : Int) = S := ⟨_, rfl⟩
  have hS0 : 0 ≤ S := by omega
  rw [hS] at hsm
  have HVS : Hid (FiV f = fiV (.slice a m c) S) := by show Value.agg #[f.v, _] = _; rw [hv, ← hS]
  have HONE : Hid ((Value.slice a m c).oneCell' = true) := by show _ = _; rw [← hv]; exact hone
  have HV : Hid (f.v = .slice a m c ∧ (f.s : Int) = S ∧ f.l.length = m ∧ f ∈ D.fs ∧ f.name = nm) := ⟨hv, hS, hm, hfm, hfn⟩
  have HBY : Hid (Bytes w a f.l ∧ m ≤ c ∧ c ≤ maxLen ∧ (a = none → c = 0)) := ⟨hby, hc1, hc2, hnil⟩
  have HD : Hid (DkAt w base q b D) := h
  have HO : Hid (DkOk D) := ho
  have HE : Hid (barE D [nm] = 0) := hE
  have HN : Hid (getN D.fs nm = some f) := hN
  have HL : Hid (nm.length ≤ 281474976710656) := hl
  have hm0 : (0 : Int) ≤ (m : Int) := by omega
  clear h ho hE hl hN hv hS hm hfm hfn hone hby hc2 hnil
  rw [HV.out.2.2.1] at hbad
  have hwr : 0 ≤ i → i ≤ m → IntKind.i64.wrap ((m : Int) - i) = (m : Int) - i := fun _ _ => by rw [wrap_i64]; omega
  by_cases b1 : i < 0
  · go_enter Tryd.func31, Tryd.ntmps31
    go_wp2_with (first
        | (go_at_call 39; refine (find_ok _ base q b D HD.out nm HL.out HE.out f HN.out).mono ?_; rw [HVS.out]; rintro _ x1 ⟨rfl, hb1⟩; have HB1 : Hid (Below w.heap.size w x1) := hb1; have HF1 : Hid (FiAt (x1.alloc (.cells #[.slice none 0 0, .int .i64 0] 60)) x1.heap.size (.slice none 0 0) 0) := FiAt.new x1 _ _; clear hb1)
        | ((with_reducible refine guard_store 60 ?_); refine wpList_store_fi rfl _ _ rfl rfl HF1.out HONE.out rfl rfl (v2 := .slice a m c) (s2 := S) ?_; intro x3 hf ho hh hs; have HB3 : Hid (Below w.heap.size w x3) := ho _ _ (HB1.out.alloc HB1.out.size _) HB1.out.size; have HF3 : Hid (FiAt x3 x1.heap.size (.slice a m c) (S)) := hf; have cf3 := hf.cells.1; clear hf ho hh hs)
        | go_in)
    go_ret2
    exact ⟨rfl, HB3.out⟩
  · by_cases b2 : n < 0
    · go_enter Tryd.func31, Tryd.ntmps31
      go_wp2_with (first
          | (go_at_call 39; refine (find_ok _ base q b D HD.out nm HL.out HE.out f HN.out).mono ?_; rw [HVS.out]; rintro _ x1 ⟨rfl, hb1⟩; have HB1 : Hid (Below w.heap.size w x1) := hb1; have HF1 : Hid (FiAt (x1.alloc (.cells #[.slice none 0 0, .int .i64 0] 60)) x1.heap.size (.slice none 0 0) 0) := FiAt.new x1 _ _; clear hb1)
          | ((with_reducible refine guard_store 60 ?_); refine wpList_store_fi rfl _ _ rfl rfl HF1.out HONE.out rfl rfl (v2 := .slice a m c) (s2 := S) ?_; intro x3 hf ho hh hs; have HB3 : Hid (Below w.heap.size w x3) := ho _ _ (HB1.out.alloc HB1.out.size _) HB1.out.size; have HF3 : Hid (FiAt x3 x1.heap.size (.slice a m c) (S)) := hf; have cf3 := hf.cells.1; clear hf ho hh hs)
          | go_in)
      go_ret2
      exact ⟨rfl, HB3.out⟩
    · by_cases b3 : (m : Int) < i
      · go_enter Tryd.func31, Tryd.ntmps31
        go_wp2_with (first
            | (go_at_call 39; refine (find_ok _ base q b D HD.out nm HL.out HE.out f HN.out).mono ?_; rw [HVS.out]; rintro _ x1 ⟨rfl, hb1⟩; have HB1 : Hid (Below w.heap.size w x1) := hb1; have HF1 : Hid (FiAt (x1.alloc (.cells #[.slice none 0 0, .int .i64 0] 60)) x1.heap.size (.slice none 0 0) 0) := FiAt.new x1 _ _; clear hb1)
            | ((with_reducible refine guard_store 60 ?_); refine wpList_store_fi rfl _ _ rfl rfl HF1.out HONE.out rfl rfl (v2 := .slice a m c) (s2 := S) ?_; intro x3 hf ho hh hs; have HB3 : Hid (Below w.heap.size w x3) := ho _ _ (HB1.out.alloc HB1.out.size _) HB1.out.size; have HF3 : Hid (FiAt x3 x1.heap.size (.slice a m c) (S)) := hf; have cf3 := hf.cells.1; clear hf ho hh hs)
            | go_in)
        go_ret2
        exact ⟨rfl, HB3.out⟩
      · have b4 : (m : Int) - i < n := by omega
        have hw := hwr (by omega) (by omega)
        clear hbad hwr
        go_enter Tryd.func31, Tryd.ntmps31
        go_wp2_with (first
            | (go_at_call 39; refine (find_ok _ base q b D HD.out nm HL.out HE.out f HN.out).mono ?_; rw [HVS.out]; rintro _ x1 ⟨rfl, hb1⟩; have HB1 : Hid (Below w.heap.size w x1) := hb1; have HF1 : Hid (FiAt (x1.alloc (.cells #[.slice none 0 0, .int .i64 0] 60)) x1.heap.size (.slice none 0 0) 0) := FiAt.new x1 _ _; clear hb1)
            | ((with_reducible refine guard_store 60 ?_); refine wpList_store_fi rfl _ _ rfl rfl HF1.out HONE.out rfl rfl (v2 := .slice a m c) (s2 := S) ?_; intro x3 hf ho hh hs; have HB3 : Hid (Below w.heap.size w x3) := ho _ _ (HB1.out.alloc HB1.out.size _) HB1.out.size; have HF3 : Hid (FiAt x3 x1.heap.size (.slice a m c) (S)) := hf; have cf3 := hf.cells.1; clear hf ho hh hs)
            | go_in)
        go_ret2
        exact ⟨rfl, HB3.out⟩
set_option maxRecDepth 100000 in
set_option maxHeartbeats 2000000 in
theorem read_ok (w : World) (base q b : Nat) (D : Dk) (h : DkAt w base q b D) (ho : DkOk D) (nm : List UInt8) (hl : nm.length ≤ 281474976710656) (hE : barE D [nm] = 0) (f : Fi) (hN : getN D.fs nm = some f) (i n : Int) (hi1 : -9223372036854775808 ≤ i) (hi2 : i ≤ 9223372036854775807) (hn1 : -9223372036854775808 ≤ n) (hn2 : n ≤ 9223372036854775807) (hg1 : 0 ≤ i) (hg2 : 0 ≤ n) (hg3 : i ≤ (f.l.length : Int)) (hg4 : n ≤ (f.l.length : Int) - i) :
    Calls Tryd.prog 31 #[.pointer (some ⟨q, 0, none⟩), .string (bs nm), .int .i64 i, .int .i64 n] w fun r w' => ∃ v, r = .returned (.tuple #[v, .int .i64 0]) ∧ Own w' w.heap.size v ((f.l.drop i.toNat).take n.toNat) ∧ DkAt w' base q b { D with read := wrap64 (D.read + n) } ∧ Chg q b D.fs D.fs w w' := by
  obtain ⟨hfm, hfn⟩ := getN_mem hN
  obtain ⟨a, c, hv, hc1, hc2, hby, hnil, hone⟩ := (h.dat f hfm).bytes
  have hmI : (f.l.length : Int) ≤ 67108864 := by have := usedN_mem hfm; have := ho.used; have := ho.room; omega
  have hsm : (f.s : Int) ≤ f.l.length := by have := ho.safe f hfm; omega
  obtain ⟨m, hm⟩ : ∃ m, f.l.length = m := ⟨_, rfl⟩
  rw [hm] at hv hc1 hmI hsm
  obtain ⟨S, hS⟩ : ∃ S : Int, (f.s : Int) = S := ⟨_, rfl⟩
  have hS0 : 0 ≤ S := by omega
  rw [hS] at hsm
  have HVS : Hid (FiV f = fiV (.slice a m c) S) := by show Value.agg #[f.v, _] = _; rw [hv, ← hS]
  have HONE : Hid ((Value.slice a m c).oneCell' = true) := by show _ = _; rw [← hv]; exact hone
  have HV : Hid (f.v = .slice a m c ∧ (f.s : Int) = S ∧ f.l.length = m ∧ f ∈ D.fs ∧ f.name = nm) := ⟨hv, hS, hm, hfm, hfn⟩
  have HBY : Hid (Bytes w a f.l ∧ m ≤ c ∧ c ≤ maxLen ∧ (a = none → c = 0)) := ⟨hby, hc1, hc2, hnil⟩
  have HD : Hid (DkAt w base q b D) := h
  have HO : Hid (DkOk D) := ho
  have HE : Hid (barE D [nm] = 0) := hE
  have HN : Hid (getN D.fs nm = some f) := hN
  have HL : Hid (nm.length ≤ 281474976710656) := hl
  have hm0 : (0 : Int) ≤ (m : Int) := by omega
  clear h ho hE hl hN hv hS hm hfm hfn hone hby hc2 hnil
  obtain ⟨I, rfl⟩ : ∃ I : Nat, i = (I : Int) := ⟨i.toNat, by omega⟩
  obtain ⟨N, rfl⟩ : ∃ N : Nat, n = (N : Int) := ⟨n.toNat, by omega⟩
  rw [HV.out.2.2.1] at hg3 hg4
  have hw1 : IntKind.i64.wrap ((m : Int) - (I : Int)) = (m : Int) - (I : Int) := by rw [wrap_i64]; omega
  have hw2 : IntKind.i64.wrap ((I : Int) + (N : Int)) = (I : Int) + (N : Int) := by rw [wrap_i64]; omega
  have hI0 : (0 : Int) ≤ (I : Int) := by omega
  have hN0 : (0 : Int) ≤ (N : Int) := by omega
  have HIN : Hid (I + N ≤ m) := by show _ ≤ _; omega
  have HLN : Hid (((f.l.drop I).take N).length = N) := by show _ = _; rw [List.length_take, List.length_drop, HV.out.2.2.1]; omega
  have HNL : Hid ((N : Int) ≤ 67108864) := by show _ ≤ _; omega
  obtain ⟨R, hR⟩ : ∃ R, D.read = R := ⟨_, rfl⟩
  have HRD : Hid (D.read = R) := hR
  clear hR hg1 hg2 hi1 hi2 hn1 hn2
  go_enter Tryd.func31, Tryd.ntmps31
  go_wp2_with (first
    | (go_at_call 39; refine (find_ok _ base q b D HD.out nm HL.out HE.out f HN.out).mono ?_; rw [HVS.out]; rintro _ x1 ⟨rfl, hb1⟩; have HB1 : Hid (Below w.heap.size w x1) := hb1; have HF1 : Hid (FiAt (x1.alloc (.cells #[.slice none 0 0, .int .i64 0] 60)) x1.heap.size (.slice none 0 0) 0) := FiAt.new x1 _ _; clear hb1)
    | ((with_reducible refine guard_store 60 ?_); refine wpList_store_fi rfl _ _ rfl rfl HF1.out HONE.out rfl rfl (v2 := .slice a m c) (s2 := S) ?_; intro x3 hf ho hh hs; have HB3 : Hid (Below w.heap.size w x3) := ho _ _ (HB1.out.alloc HB1.out.size _) HB1.out.size; have HF3 : Hid (FiAt x3 x1.heap.size (.slice a m c) (S)) := hf; have cf3 := hf.cells.1; have cr3 := (HD.out.keep HB3.out).cells.2.2.2.2.2; rw [HRD.out] at cr3; have zr3 := (HD.out.keep HB3.out).froz 5; have HR3 : Hid (_) := read_turn HD.out HB3.out hf HB1.out.size (wrap64 (R + (N : Int))); have cf5 := HR3.out.2.2.cells.1; have HB5 : Hid (Bytes (x3.setCell ⟨q, 5, none⟩ (.int .i64 (wrap64 (R + (N : Int))))) a f.l) := (by have hd := HR3.out.1.dat f HV.out.2.2.2.1; rw [HV.out.1] at hd; exact dat_bytes hd); clear hf ho hh hs)
    | (refine at_slice2 ?_; refine wpList_slice_lh rfl _ _ _ rfl rfl rfl rfl rfl HIN.out HBY.out.2.1 HV.out.2.2.1 HB5.out ?_; intro ax hbx; have HBX : Hid (Bytes _ ax ((f.l.drop I).take N)) := hbx; clear hbx)
    | (go_at_call 45; refine (copied_any ((f.l.drop I).take N) N HLN.out _ _ _ HBX.out HNL.out).mono ?_; rintro _ x6 ⟨v6, rfl, ho6, hb6⟩; have HO6 : Hid (Own x6 _ v6 ((f.l.drop I).take N)) := ho6; have HB6 : Hid (Below _ _ x6) := hb6; clear ho6 hb6)
    | go_in)
  go_ret2
  refine ⟨_, rfl, ?_, HR3.out.1.keep HB6.out |> (by rw [HRD.out]; exact ·), HR3.out.2.1.below HB6.out⟩
  rw [Int.toNat_natCast, Int.toNat_natCast]
  exact HO6.out.lower HR3.out.2.1.size
theorem read_any (w : World) (base q b : Nat) (D : Dk) (h : DkAt w base q b D) (ho : DkOk D) (nm : List UInt8) (hl : nm.length ≤ 281474976710656) (i n : Int) (hi1 : -9223372036854775808 ≤ i) (hi2 : i ≤ 9223372036854775807) (hn1 : -9223372036854775808 ≤ n) (hn2 : n ≤ 9223372036854775807) :
    Calls Tryd.prog 31 #[.pointer (some ⟨q, 0, none⟩), .string (bs nm), .int .i64 i, .int .i64 n] w fun r w' => ∃ v, r = .returned (.tuple #[v, .int .i64 ((readA D.ab nm i n).2.2 : Nat)]) ∧ Own w' w.heap.size v (readA D.ab nm i n).2.1 ∧ To base q b D.fs (readA D.ab nm i n).1 w w' := by
  by_cases hE : barE D [nm] ≠ 0 ∨ getN D.fs nm = none
  · unfold readA
    rw [(found_no hE _ _).1]
    exact (read_err w base q b D h nm hl hE i n hi1 hi2 hn1 hn2).mono (fun r w' hr => ⟨_, hr.1, own_nil _ _, To.of_below h hr.2⟩)
  · have h1 : barE D [nm] = 0 := by apply Decidable.byContradiction; intro h2; exact hE (.inl h2)
    cases hN : getN D.fs nm with
    | none => exact absurd (.inr hN) hE
    | some f =>
      unfold readA
      rw [found_ok hN h1]
      by_cases hbad : i < 0 ∨ n < 0 ∨ (f.l.length : Int) < i ∨ (f.l.length : Int) - i < n
      · rw [if_pos (show i < 0 ∨ n < 0 ∨ (f.ab.l.length : Int) < i ∨ (f.ab.l.length : Int) - i < n from hbad)]
        exact (read_arg w base q b D h ho nm hl h1 f hN i n hi1 hi2 hn1 hn2 hbad).mono (fun r w' hr => ⟨_, hr.1, own_nil _ _, To.of_below h hr.2⟩)
      · rw [if_neg (show ¬ (i < 0 ∨ n < 0 ∨ (f.ab.l.length : Int) < i ∨ (f.ab.l.length : Int) - i < n) from hbad)]
        exact (read_ok w base q b D h ho nm hl h1 f hN i n hi1 hi2 hn1 hn2 (by omega) (by omega) (by omega) (by omega)).mono (fun r w' hr => by
          obtain ⟨v, e, ho1, hd, hc⟩ := hr
          exact ⟨v, e, ho1, { D with read := wrap64 (D.read + n) }, hd, rfl, hc⟩)
set_option maxRecDepth 100000 in
set_option maxHeartbeats 2000000 in
theorem fuse_any (w : World) (base q b : Nat) (D : Dk) (h : DkAt w base q b D) (n : Int) :
    Calls Tryd.prog 10 #[.pointer (some ⟨q, 0, none⟩), .int .i64 n] w fun r w' => r = .returned (.tuple #[]) ∧ To base q b D.fs (fuseA D.ab n) w w' := by
  have HX : Hid (∀ x : Int, To base q b D.fs { D.ab with fuse := x } w (w.setCell ⟨q, 2, none⟩ (.int .i64 x))) := fun x => ⟨{ D with fuse := x }, h.setTo (D2 := { D with fuse := x }) rfl (by rw [heap_setCell_same w q 2 _ _ _ h.blk]; rfl) (fun j _ _ hne => heap_setCell_other w ⟨q, 2, none⟩ j _ hne), rfl, (Chg.of_below (Below.refl _ _)).on ((On.refl q w).set 2 _)⟩
  have c2 := h.cells.2.2.1
  have z2 := h.froz 2
  clear h
  by_cases a1 : n < 0
  · have HF : Hid (fuseA D.ab n = { D.ab with fuse := 0 }) := by show _ = _; unfold fuseA; rw [if_pos a1]
    go_enter Tryd.func10, Tryd.ntmps10
    go_wp2
    go_end0
    exact ⟨rfl, by rw [HF.out]; exact HX.out 0⟩
  · have HF : Hid (fuseA D.ab n = { D.ab with fuse := n }) := by show _ = _; unfold fuseA; rw [if_neg a1]
    go_enter Tryd.func10, Tryd.ntmps10
    go_wp2
    go_end0
    exact ⟨rfl, by rw [HF.out]; exact HX.out n⟩
end Go.Proofs.YtnfkdgjgglnniaaDoor
