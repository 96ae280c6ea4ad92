/- The laws' head. -/
import Derived.Test.YtdfknehdnkmlgaaTll
import Derived.Test.YtdfknehdnkmlgaaTln
import Derived.Test.YtdfknehdnkmlgaaTlo
import Derived.Test.YtdfknehdnkmlgaaSame
import Derived.Test.YtdfknehdnkmlgaaCopy
import Derived.Lib.SlBytesConst
namespace Go.Proofs.Ytdfknehdnkmlgaa
open Go.ChangeShapes Go.WideShapes Go.ChangeAt Go.RowKit
set_option linter.unusedVariables false
set_option maxRecDepth 20000 in
set_option maxHeartbeats 400000 in
theorem tenc_nil (a : Option Addr) (cap : Nat) (w : World) :
    Calls Try.prog 12 #[.slice a 0 cap] w fun r w' => ∃ v, r = .returned (.tuple #[v, .int .i64 0]) ∧ Own w' w.heap.size v [] ∧ Below w.heap.size w w' := by
  go_enter Try.func12, Try.ntmps12
  go_wp2
  refine wp_loop_rounds 1 ?_
  rw [rounds_succ]
  go_wp2
  go_ret2
  exact ⟨_, rfl, own_nil _ _, Below.refl _ _⟩
theorem tenc (L : List (Fld × Value)) (a : Option Addr) (n cap : Nat) (w : World) (hn : L.length = n) (hfs : FsAt w a L) (hm : n ≤ 140737488355328) :
    Calls Try.prog 12 #[.slice a n cap] w fun r w' => ∃ v, r = .returned (.tuple #[v, .int .i64 ((encs (L.map Prod.fst) 0 []).2 : Int)]) ∧ Own w' w.heap.size v (encs (L.map Prod.fst) 0 []).1 ∧ Below w.heap.size w w' := by
  rcases hfs.row with rfl | ⟨b, off, rfl, _, _⟩
  · simp only [List.length_nil] at hn
    subst hn
    exact tenc_nil a cap w
  · exact tenc_any L b off n cap w hn hfs hm
theorem below_drewN {B : Nat} {a w : World} (h : Below B a w) (n : Nat) : Below B a (w.drewN n) := by
  induction n with
  | zero => exact h
  | succ n ih => exact ih.drew
def headL (g : Nat) : List (Fld × Value) := [(⟨1, false, 5, []⟩, .slice none 0 0), (⟨3, true, 0, [97, 98]⟩, .slice (some ⟨g, 0, none⟩) 2 2)]
theorem head_fs (w : World) : FsAt ((w.alloc (.cells #[.int .u8 97, .int .u8 98] 5 (2, 3))).alloc (.cells #[.int .i64 1, .bool false, .int .u64 5, .slice none 0 0, .int .i64 3, .bool true, .int .u64 0, .slice (some ⟨w.heap.size, 0, none⟩) 2 2] 36)) (some ⟨w.heap.size + 1, 0, none⟩) (headL w.heap.size) := by
  have e1 : ((w.alloc (.cells #[.int .u8 97, .int .u8 98] 5 (2, 3))).alloc (.cells #[.int .i64 1, .bool false, .int .u64 5, .slice none 0 0, .int .i64 3, .bool true, .int .u64 0, .slice (some ⟨w.heap.size, 0, none⟩) 2 2] 36)).heap[w.heap.size + 1]? = some (.cells #[.int .i64 1, .bool false, .int .u64 5, .slice none 0 0, .int .i64 3, .bool true, .int .u64 0, .slice (some ⟨w.heap.size, 0, none⟩) 2 2] 36) := by
    simp only [World.alloc, Array.getElem?_push, Array.size_push]
    rw [if_pos trivial]
  refine ⟨.inr ⟨w.heap.size + 1, 0, rfl, lt_of_heap e1, fun j hj => ?_⟩, fun p hp => ?_⟩
  · rw [Nat.zero_add, cell_of_row _ _ j _ _ _ e1]
    simp only [headL, flat, List.getElem?_toArray]; rfl
  · have hby : Bytes ((w.alloc (.cells #[.int .u8 97, .int .u8 98] 5 (2, 3))).alloc (.cells #[.int .i64 1, .bool false, .int .u64 5, .slice none 0 0, .int .i64 3, .bool true, .int .u64 0, .slice (some ⟨w.heap.size, 0, none⟩) 2 2] 36)) (some ⟨w.heap.size, 0, none⟩) [97, 98] :=
      (bytes_lit_mark w [97, 98] (2, 3) (fun i => by match i with | 0 => decide | 1 => decide | (k + 2) => simp)).keep ((Below.refl _ _).alloc (Nat.le_refl _) _)
    simp only [headL, List.mem_cons, List.not_mem_nil, or_false] at hp
    rcases hp with rfl | rfl
    · exact ⟨by simp, ⟨none, 0, rfl, by simp, Bytes.none _ _⟩, by simp⟩
    · exact ⟨by simp, ⟨some ⟨w.heap.size, 0, none⟩, 2, rfl, by simp, hby⟩, by simp; unfold maxLen; omega⟩
theorem head_encs (g : Nat) : encs ((headL g).map Prod.fst) 0 [] = ([2, 5, 7, 2, 97, 98], 0) := by
  show encs [⟨1, false, 5, []⟩, ⟨3, true, 0, [97, 98]⟩] 0 [] = _
  decide
theorem head_recs : recs [2, 5] = ([⟨1, false, 5, []⟩], 0, 0) := by rfl
theorem head_row {w : World} {base : Nat} {v : Value} {L : List (Fld × Value)} (hL : [(⟨1, false, 5, []⟩ : Fld)] = L.map Prod.fst) (h : Rws w base v L) : ∃ b off cap, v = .slice (some ⟨b, off, none⟩) 1 cap ∧ ∀ o, (w.alloc o).cell? ⟨b, off + 2, none⟩ = some (.int .u64 5) := by
  have hlen : L.length = 1 := by have := congrArg List.length hL; simpa using this.symm
  obtain ⟨p, rfl⟩ := List.length_eq_one_iff.1 hlen
  have hp : p.1 = ⟨1, false, 5, []⟩ := by simpa using hL.symm
  obtain ⟨a, cap, h1, h2⟩ := h.fs (fun q hq => by obtain rfl := List.mem_singleton.1 hq; rw [hp]; exact ⟨by simp, by simp⟩)
  rcases h2.row with h3 | ⟨b, off, rfl, hlt, _⟩
  · cases h3
  · have hc := (h2.cells 0 p rfl).2.2.1
    rw [hp, Nat.zero_mul, Nat.add_zero] at hc
    exact ⟨b, off, cap, h1, fun o => (((Below.refl w.heap.size w).alloc (Nat.le_refl _) o).cell (p := ⟨b, off + 2, none⟩) hlt).trans hc⟩
set_option maxRecDepth 20000 in
set_option maxHeartbeats 400000 in
theorem head05_any (w : World) : Calls Try.prog 9 #[] w fun r w' => r = .returned (.bool true) ∧ Below w.heap.size w w' := by
  have kc := fun (w : World) (C : Array Value) (n c : Nat) => Lib.run_convert_bytes_const (P := Try.prog) w 25 5 C n c Try.underlying25 Try.underlying5
  go_enter Try.func9, Try.ntmps9
  go_wp2_with (first
    | (go_at_call 12; go_loud (refine (tenc (headL w.heap.size) _ 2 _ _ rfl (head_fs w) (by decide)).mono ?_; rw [head_encs]; rintro r w1 ⟨v1, rfl, ho1, hb1⟩; obtain ⟨a1, cap1, rfl, _, _, hby1, _⟩ := ho1.shape; have hb0 : Below w.heap.size w ((w.alloc (.cells #[.int .u8 97, .int .u8 98] 5 (2, 3))).alloc (.cells #[.int .i64 1, .bool false, .int .u64 5, .slice none 0 0, .int .i64 3, .bool true, .int .u64 0, .slice (some ⟨w.heap.size, 0, none⟩) 2 2] 36)) := ((Below.refl _ _).alloc (Nat.le_refl _) _).alloc (by simp) _; have HB1 : Hid (Below w.heap.size w w1) := hb0.trans (hb1.mono hb0.size); have HY1 : Hid (Bytes w1 a1 [2, 5, 7, 2, 97, 98]) := hby1; clear ho1 hb1 hby1))
    | (go_at_call 18; have hby2 := bytes_lit w1 [2, 5] (fun i => by match i with | 0 => decide | 1 => decide | (k + 2) => simp); refine (tdec [2, 5] _ 2 2 _ rfl hby2 (by decide) (by unfold maxLen; decide)).mono ?_; unfold DecPost; rw [head_recs]; rintro r w2 ⟨v2, L2, rfl, hL2, hr2, hb2⟩; obtain ⟨b2, off2, cap2, rfl, hn2⟩ := head_row hL2 hr2; have HB2 : Hid (Below w.heap.size w w2) := (HB1.out.alloc HB1.out.size _).trans (hb2.mono (by have := HB1.out.size; simp; omega)); have HY2 : Hid (Bytes w2 a1 [2, 5, 7, 2, 97, 98]) := (HY1.out.keep ((Below.refl _ _).alloc (Nat.le_refl _) _)).keep hb2; clear hL2 hr2 hb2 hby2)
    | (go_at_call 13; refine (same_at [2, 5, 7, 2, 97, 98] [2, 5, 7, 2, 97, 98] _ _ _ _ _ _ _ rfl rfl (HY2.out.keep ((Below.refl _ _).alloc (Nat.le_refl _) _)) (bytes_lit w2 [2, 5, 7, 2, 97, 98] (fun i => by match i with | 0 => decide | 1 => decide | 2 => decide | 3 => decide | 4 => decide | 5 => decide | (k + 6) => simp)) (by simp [maxLen]) (by simp [maxLen])).mono ?_; rw [decide_eq_true rfl]; rintro r w3 ⟨rfl, m3, rfl⟩))
  go_ret
  exact ⟨rfl, below_drewN (HB2.out.alloc HB2.out.size _) m3⟩
end Go.Proofs.Ytdfknehdnkmlgaa
