/- Own texts, joined: Copy, Tlq. -/
import Derived.Test.YtbdgiecnhgiogaaRows
import Derived.Test.YtbdgiecnhgiogaaK00
import Derived.Test.YtbdgiecnhgiogaaK17
import Derived.Test.YtbdgiecnhgiogaaK13
import Derived.Test.YtbdgiecnhgiogaaK18
import Derived.Lib.SlBytesConst
namespace Go.Proofs.Ytbdgiecnhgiogaa
open Go.ChangeShapes Go.WideShapes Go.ChangeAt Go.RowKit
theorem copy_step (l : List Nat) (k n : Nat) (hn : n = l.length) (h : k < l.length) :
    (B8 (l.take k) ++ List.replicate (n - k) (Value.int .u8 0)).set k (.int .u8 (l.getD k 0 : Nat)) = B8 (l.take (k + 1)) ++ List.replicate (n - (k + 1)) (Value.int .u8 0) := by
  subst hn
  have h1 : (B8 (l.take k)).length = k := by simp [B8]; omega
  rw [show l.length - k = (l.length - (k + 1)) + 1 from by omega, List.replicate_succ]
  rw [List.set_append, if_neg (by omega), h1, Nat.sub_self, List.set_cons_zero]
  rw [List.take_succ_eq_append_getElem h, B8_append, List.append_assoc]
  simp [B8, List.getD_eq_getElem?_getD, h]
theorem Try.info5c : (Try.prog.info? 5).map (fun i => (i.zero, i.size, i.bytes)) = some (some (.int .u8 0), 1, 1) := by kernel_rfl
set_option maxRecDepth 20000 in
set_option maxHeartbeats 1000000 in
theorem copy_any (l : List Nat) (a : Option Addr) (cap : Nat) (w : World) (hb : Bytes w a l) (hl : l.length ≤ 281474976710656) :
    Calls Try.prog 8 #[.slice a l.length cap] w fun e w' => ∃ v, e = .returned v ∧ Own w' w.heap.size v l ∧ Below w.heap.size w w' := by
  obtain ⟨i0, hi, hz0, hz1, hz2⟩ := info_parts Try.info5c
  have hl3 : l.length ≤ maxLen := by unfold maxLen; omega
  obtain ⟨hy, hb⟩ := hb
  have HY : Hid (∀ i, l.getD i 0 < 256) := hy
  go_enter Try.func8, Try.ntmps8
  go_wp2_with (at_make; refine wpList_make_full _ rfl _ _ 27 rfl w.heap.size 5 i0 (.int .u8 0) 1 Try.underlying27 hi hz0 hz1 _ _ _ _ l.length rfl rfl rfl rfl (by rw [hz2]; omega) hl3 (Nat.le_refl _) ?_)
  intro w1 ho hg
  have hb1 : Below w.heap.size w w1 := (Below.refl _ _).grown hg (Nat.le_refl _) (fun k hk => by cases hk)
  clear hg
  have ho1 : w1.ownsRow w.heap.size 5 1 (.slice (some ⟨w.heap.size, 0, none⟩) l.length l.length) l.length (B8 (l.take 0) ++ List.replicate (l.length - 0) (Value.int .u8 0)) := by
    have h := ho
    rw [toList_madeCells_one] at h
    simpa [B8] using h
  clear ho
  rcases hb with rfl | ⟨b, off, rfl, hlt, hc⟩
  · go_wp2
    refine wp_loop_rounds 1 ?_
    rw [rounds_succ]
    go_wp2
    go_ret
    exact ⟨_, rfl, ⟨HY.out, ho1⟩, hb1⟩
  · go_wp2
    go_loopw [10] (fun i wr => ∃ k : Nat, k ≤ l.length ∧ i = .int .i64 k ∧ wr.ownsRow w.heap.size 5 1 (.slice (some ⟨w.heap.size, 0, none⟩) l.length l.length) l.length (B8 (l.take k) ++ List.replicate (l.length - k) (Value.int .u8 0)) ∧ Below w.heap.size w wr) (fun i _ => l.length - (intOf i).toNat)
    case atStart => exact ⟨0, Nat.zero_le _, rfl, ho1, hb1⟩
    case round =>
      obtain ⟨k, hk, rfl, ho, hbe⟩ := hrel
      by_cases hkl : k < l.length
      · have e1 := hc k hkl
        rw [← hbe.cell (p := ⟨b, off + k, none⟩) hlt] at e1
        have hst := ho.stored k (.int .u8 (l.getD k 0 : Nat))
        rw [copy_step l k _ rfl hkl] at hst
        have e2 := ho.cellAt k (by omega)
        have e3 := ho.frozenAt k
        obtain ⟨z, hz⟩ : ∃ z, wr.cell? ⟨w.heap.size, k, none⟩ = some z := by
          rw [e2]
          exact ⟨_, List.getElem?_eq_getElem (by rw [List.length_append, List.length_replicate]; simp [B8]; omega)⟩
        have hb2 := hbe.grown hst.2 (by have := hbe.size; omega) (fun j hj => by cases hj; exact Nat.le_refl _)
        have HS : Hid (_ ∧ _) := ⟨hst.1, hb2⟩
        clear e2 hst hb2 ho hbe hc hy ho1 hb1
        obtain ⟨x, hx⟩ : ∃ x, x = l.getD k 0 := ⟨_, rfl⟩
        rw [← hx] at e1 HS
        clear hx
        go_wp2
        go_roundw
        case rel => exact ⟨k + 1, by omega, by go_num, HS.out.1, HS.out.2⟩
        case measure => simp [intOf]; omega
      · have hkl2 : k = l.length := by omega
        have HO : Hid (wr.ownsRow w.heap.size 5 1 (.slice (some ⟨w.heap.size, 0, none⟩) l.length l.length) l.length (B8 l)) := by
          have h := ho
          rw [hkl2, List.take_of_length_le (Nat.le_refl _), Nat.sub_self, List.replicate_zero, List.append_nil] at h
          exact h
        clear ho hc hy ho1 hb1 hkl2
        go_wp2
        go_ret
        exact ⟨_, rfl, ⟨HY.out, HO.out⟩, hbe⟩
end Go.Proofs.Ytbdgiecnhgiogaa
namespace Go.Proofs.Ytbdgiecnhgiogaa
open Go.ChangeShapes Go.WideShapes Go.ChangeAt Go.RowKit
set_option linter.unusedVariables false
set_option maxRecDepth 20000 in
set_option maxHeartbeats 400000 in
theorem tenc_nil (a : Option Addr) (cap : Nat) (w : World) :
    Calls Try.prog 28 #[.slice a 0 cap] w fun r w' => ∃ v, r = .returned (.tuple #[v, .int .i64 0]) ∧ Own w' w.heap.size v [] ∧ Below w.heap.size w w' := by
  go_enter Try.func28, Try.ntmps28
  go_wp2
  refine wp_loop_rounds 1 ?_
  rw [rounds_succ]
  go_wp2
  go_ret2
  exact ⟨_, rfl, own_nil _ _, Below.refl _ _⟩
theorem tenc (L : List (Fld × Value)) (a : Option Addr) (n cap : Nat) (w : World) (hn : L.length = n) (hfs : FsAt w a L) (hm : n ≤ 140737488355328) :
    Calls Try.prog 28 #[.slice a n cap] w fun r w' => ∃ v, r = .returned (.tuple #[v, .int .i64 ((encs (L.map Prod.fst) 0 []).2 : Int)]) ∧ Own w' w.heap.size v (encs (L.map Prod.fst) 0 []).1 ∧ Below w.heap.size w w' := by
  rcases hfs.row with rfl | ⟨b, off, rfl, _, _⟩
  · simp only [List.length_nil] at hn
    subst hn
    exact tenc_nil a cap w
  · exact tenc_any L b off n cap w hn hfs hm
theorem below_drewN {B : Nat} {a w : World} (h : Below B a w) (n : Nat) : Below B a (w.drewN n) := by
  induction n with
  | zero => exact h
  | succ n ih => exact ih.drew
def headL (g : Nat) : List (Fld × Value) := [(⟨1, false, 5, []⟩, .slice none 0 0), (⟨3, true, 0, [97, 98]⟩, .slice (some ⟨g, 0, none⟩) 2 2)]
theorem head_fs (w : World) : FsAt ((w.alloc (.cells #[.int .u8 97, .int .u8 98] 5 (2, 3))).alloc (.cells #[.int .i64 1, .bool false, .int .u64 5, .slice none 0 0, .int .i64 3, .bool true, .int .u64 0, .slice (some ⟨w.heap.size, 0, none⟩) 2 2] 32)) (some ⟨w.heap.size + 1, 0, none⟩) (headL w.heap.size) := by
  have e1 : ((w.alloc (.cells #[.int .u8 97, .int .u8 98] 5 (2, 3))).alloc (.cells #[.int .i64 1, .bool false, .int .u64 5, .slice none 0 0, .int .i64 3, .bool true, .int .u64 0, .slice (some ⟨w.heap.size, 0, none⟩) 2 2] 32)).heap[w.heap.size + 1]? = some (.cells #[.int .i64 1, .bool false, .int .u64 5, .slice none 0 0, .int .i64 3, .bool true, .int .u64 0, .slice (some ⟨w.heap.size, 0, none⟩) 2 2] 32) := by
    simp only [World.alloc, Array.getElem?_push, Array.size_push]
    rw [if_pos trivial]
  refine ⟨.inr ⟨w.heap.size + 1, 0, rfl, lt_of_heap e1, fun j hj => ?_⟩, fun p hp => ?_⟩
  · rw [Nat.zero_add, cell_of_row _ _ j _ _ _ e1]
    simp only [headL, flat, List.getElem?_toArray]; rfl
  · have hby : Bytes ((w.alloc (.cells #[.int .u8 97, .int .u8 98] 5 (2, 3))).alloc (.cells #[.int .i64 1, .bool false, .int .u64 5, .slice none 0 0, .int .i64 3, .bool true, .int .u64 0, .slice (some ⟨w.heap.size, 0, none⟩) 2 2] 32)) (some ⟨w.heap.size, 0, none⟩) [97, 98] :=
      (bytes_lit_mark w [97, 98] (2, 3) (fun i => by match i with | 0 => decide | 1 => decide | (k + 2) => simp)).keep ((Below.refl _ _).alloc (Nat.le_refl _) _)
    simp only [headL, List.mem_cons, List.not_mem_nil, or_false] at hp
    rcases hp with rfl | rfl
    · exact ⟨by simp, ⟨none, 0, rfl, by simp, Bytes.none _ _⟩, by simp⟩
    · exact ⟨by simp, ⟨some ⟨w.heap.size, 0, none⟩, 2, rfl, by simp, hby⟩, by simp; unfold maxLen; omega⟩
theorem head_encs (g : Nat) : encs ((headL g).map Prod.fst) 0 [] = ([2, 5, 7, 2, 97, 98], 0) := by
  show encs [⟨1, false, 5, []⟩, ⟨3, true, 0, [97, 98]⟩] 0 [] = _
  decide
theorem head_recs : recs [2, 5] = ([⟨1, false, 5, []⟩], 0, 0) := by rfl
theorem head_row {w : World} {base : Nat} {v : Value} {L : List (Fld × Value)} (hL : [(⟨1, false, 5, []⟩ : Fld)] = L.map Prod.fst) (h : Rws w base v L) : ∃ b off cap, v = .slice (some ⟨b, off, none⟩) 1 cap ∧ ∀ o, (w.alloc o).cell? ⟨b, off + 2, none⟩ = some (.int .u64 5) := by
  have hlen : L.length = 1 := by have := congrArg List.length hL; simpa using this.symm
  obtain ⟨p, rfl⟩ := List.length_eq_one_iff.1 hlen
  have hp : p.1 = ⟨1, false, 5, []⟩ := by simpa using hL.symm
  obtain ⟨a, cap, h1, h2⟩ := h.fs (fun q hq => by obtain rfl := List.mem_singleton.1 hq; rw [hp]; exact ⟨by simp, by simp⟩)
  rcases h2.row with h3 | ⟨b, off, rfl, hlt, _⟩
  · cases h3
  · have hc := (h2.cells 0 p rfl).2.2.1
    rw [hp, Nat.zero_mul, Nat.add_zero] at hc
    exact ⟨b, off, cap, h1, fun o => (((Below.refl w.heap.size w).alloc (Nat.le_refl _) o).cell (p := ⟨b, off + 2, none⟩) hlt).trans hc⟩
set_option maxRecDepth 20000 in
set_option maxHeartbeats 400000 in
theorem head05_any (w : World) : Calls Try.prog 7 #[] w fun r w' => r = .returned (.bool true) ∧ Below w.heap.size w w' := by
  have kc := fun (w : World) (C : Array Value) (n c : Nat) => Lib.run_convert_bytes_const (P := Try.prog) w 27 5 C n c Try.underlying27 Try.underlying5
  go_enter Try.func7, Try.ntmps7
  go_wp2_with (first
    | (go_at_call 28; go_loud (refine (tenc (headL w.heap.size) _ 2 _ _ rfl (head_fs w) (by decide)).mono ?_; rw [head_encs]; rintro r w1 ⟨v1, rfl, ho1, hb1⟩; obtain ⟨a1, cap1, rfl, _, _, hby1, _⟩ := ho1.shape; have hb0 : Below w.heap.size w ((w.alloc (.cells #[.int .u8 97, .int .u8 98] 5 (2, 3))).alloc (.cells #[.int .i64 1, .bool false, .int .u64 5, .slice none 0 0, .int .i64 3, .bool true, .int .u64 0, .slice (some ⟨w.heap.size, 0, none⟩) 2 2] 32)) := ((Below.refl _ _).alloc (Nat.le_refl _) _).alloc (by simp) _; have HB1 : Hid (Below w.heap.size w w1) := hb0.trans (hb1.mono hb0.size); have HY1 : Hid (Bytes w1 a1 [2, 5, 7, 2, 97, 98]) := hby1; clear ho1 hb1 hby1))
    | (go_at_call 26; have hby2 := bytes_lit w1 [2, 5] (fun i => by match i with | 0 => decide | 1 => decide | (k + 2) => simp); refine (tdec [2, 5] _ 2 2 _ rfl hby2 (by decide) (by unfold maxLen; decide)).mono ?_; unfold DecPost; rw [head_recs]; rintro r w2 ⟨v2, L2, rfl, hL2, hr2, hb2⟩; obtain ⟨b2, off2, cap2, rfl, hn2⟩ := head_row hL2 hr2; have HB2 : Hid (Below w.heap.size w w2) := (HB1.out.alloc HB1.out.size _).trans (hb2.mono (by have := HB1.out.size; simp; omega)); have HY2 : Hid (Bytes w2 a1 [2, 5, 7, 2, 97, 98]) := (HY1.out.keep ((Below.refl _ _).alloc (Nat.le_refl _) _)).keep hb2; clear hL2 hr2 hb2 hby2)
    | (go_at_call 15; refine (same_at [2, 5, 7, 2, 97, 98] [2, 5, 7, 2, 97, 98] _ _ _ _ _ _ _ rfl rfl (HY2.out.keep ((Below.refl _ _).alloc (Nat.le_refl _) _)) (bytes_lit w2 [2, 5, 7, 2, 97, 98] (fun i => by match i with | 0 => decide | 1 => decide | 2 => decide | 3 => decide | 4 => decide | 5 => decide | (k + 6) => simp)) (by simp [maxLen]) (by simp [maxLen])).mono ?_; rw [decide_eq_true rfl]; rintro r w3 ⟨rfl, m3, rfl⟩))
  go_ret
  exact ⟨rfl, below_drewN (HB2.out.alloc HB2.out.size _) m3⟩
end Go.Proofs.Ytbdgiecnhgiogaa
