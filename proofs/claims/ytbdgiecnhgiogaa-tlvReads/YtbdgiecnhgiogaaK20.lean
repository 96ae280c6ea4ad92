/- Own texts, joined: Tlq, Tlwt. -/
import Derived.Test.YtbdgiecnhgiogaaK15
import Derived.Test.YtbdgiecnhgiogaaK16
import Derived.Test.YtbdgiecnhgiogaaK14
import Derived.Test.YtbdgiecnhgiogaaK19
import Derived.Lib.SlBytesConst
import Derived.Test.YtbdgiecnhgiogaaK18
namespace Go.Proofs.Ytbdgiecnhgiogaa
open Go.ChangeShapes Go.WideShapes Go.ChangeAt Go.RowKit
set_option linter.unusedVariables false
set_option maxRecDepth 20000 in
set_option maxHeartbeats 400000 in
theorem tenc_nil (a : Option Addr) (cap : Nat) (w : World) :
    Calls Try.prog 28 #[.slice a 0 cap] w fun r w' => ∃ v, r = .returned (.tuple #[v, .int .i64 0]) ∧ Own w' w.heap.size v [] ∧ Below w.heap.size w w' := by
  go_enter Try.func28, Try.ntmps28
  go_wp2
  refine wp_loop_rounds 1 ?_
  rw [rounds_succ]
  go_wp2
  go_ret2
  exact ⟨_, rfl, own_nil _ _, Below.refl _ _⟩
theorem tenc (L : List (Fld × Value)) (a : Option Addr) (n cap : Nat) (w : World) (hn : L.length = n) (hfs : FsAt w a L) (hm : n ≤ 140737488355328) :
    Calls Try.prog 28 #[.slice a n cap] w fun r w' => ∃ v, r = .returned (.tuple #[v, .int .i64 ((encs (L.map Prod.fst) 0 []).2 : Int)]) ∧ Own w' w.heap.size v (encs (L.map Prod.fst) 0 []).1 ∧ Below w.heap.size w w' := by
  rcases hfs.row with rfl | ⟨b, off, rfl, _, _⟩
  · simp only [List.length_nil] at hn
    subst hn
    exact tenc_nil a cap w
  · exact tenc_any L b off n cap w hn hfs hm
theorem below_drewN {B : Nat} {a w : World} (h : Below B a w) (n : Nat) : Below B a (w.drewN n) := by
  induction n with
  | zero => exact h
  | succ n ih => exact ih.drew
def headL (g : Nat) : List (Fld × Value) := [(⟨1, false, 5, []⟩, .slice none 0 0), (⟨3, true, 0, [97, 98]⟩, .slice (some ⟨g, 0, none⟩) 2 2)]
theorem head_fs (w : World) : FsAt ((w.alloc (.cells #[.int .u8 97, .int .u8 98] 5 (2, 3))).alloc (.cells #[.int .i64 1, .bool false, .int .u64 5, .slice none 0 0, .int .i64 3, .bool true, .int .u64 0, .slice (some ⟨w.heap.size, 0, none⟩) 2 2] 32)) (some ⟨w.heap.size + 1, 0, none⟩) (headL w.heap.size) := by
  have e1 : ((w.alloc (.cells #[.int .u8 97, .int .u8 98] 5 (2, 3))).alloc (.cells #[.int .i64 1, .bool false, .int .u64 5, .slice none 0 0, .int .i64 3, .bool true, .int .u64 0, .slice (some ⟨w.heap.size, 0, none⟩) 2 2] 32)).heap[w.heap.size + 1]? = some (.cells #[.int .i64 1, .bool false, .int .u64 5, .slice none 0 0, .int .i64 3, .bool true, .int .u64 0, .slice (some ⟨w.heap.size, 0, none⟩) 2 2] 32) := by
    simp only [World.alloc, Array.getElem?_push, Array.size_push]
    rw [if_pos trivial]
  refine ⟨.inr ⟨w.heap.size + 1, 0, rfl, lt_of_heap e1, fun j hj => ?_⟩, fun p hp => ?_⟩
  · rw [Nat.zero_add, cell_of_row _ _ j _ _ _ e1]
    simp only [headL, flat, List.getElem?_toArray]; rfl
  · have hby : Bytes ((w.alloc (.cells #[.int .u8 97, .int .u8 98] 5 (2, 3))).alloc (.cells #[.int .i64 1, .bool false, .int .u64 5, .slice none 0 0, .int .i64 3, .bool true, .int .u64 0, .slice (some ⟨w.heap.size, 0, none⟩) 2 2] 32)) (some ⟨w.heap.size, 0, none⟩) [97, 98] :=
      (bytes_lit_mark w [97, 98] (2, 3) (fun i => by match i with | 0 => decide | 1 => decide | (k + 2) => simp)).keep ((Below.refl _ _).alloc (Nat.le_refl _) _)
    simp only [headL, List.mem_cons, List.not_mem_nil, or_false] at hp
    rcases hp with rfl | rfl
    · exact ⟨by simp, ⟨none, 0, rfl, by simp, Bytes.none _ _⟩, by simp⟩
    · exact ⟨by simp, ⟨some ⟨w.heap.size, 0, none⟩, 2, rfl, by simp, hby⟩, by simp; unfold maxLen; omega⟩
theorem head_encs (g : Nat) : encs ((headL g).map Prod.fst) 0 [] = ([2, 5, 7, 2, 97, 98], 0) := by
  show encs [⟨1, false, 5, []⟩, ⟨3, true, 0, [97, 98]⟩] 0 [] = _
  decide
theorem head_recs : recs [2, 5] = ([⟨1, false, 5, []⟩], 0, 0) := by rfl
theorem head_row {w : World} {base : Nat} {v : Value} {L : List (Fld × Value)} (hL : [(⟨1, false, 5, []⟩ : Fld)] = L.map Prod.fst) (h : Rws w base v L) : ∃ b off cap, v = .slice (some ⟨b, off, none⟩) 1 cap ∧ ∀ o, (w.alloc o).cell? ⟨b, off + 2, none⟩ = some (.int .u64 5) := by
  have hlen : L.length = 1 := by have := congrArg List.length hL; simpa using this.symm
  obtain ⟨p, rfl⟩ := List.length_eq_one_iff.1 hlen
  have hp : p.1 = ⟨1, false, 5, []⟩ := by simpa using hL.symm
  obtain ⟨a, cap, h1, h2⟩ := h.fs (fun q hq => by obtain rfl := List.mem_singleton.1 hq; rw [hp]; exact ⟨by simp, by simp⟩)
  rcases h2.row with h3 | ⟨b, off, rfl, hlt, _⟩
  · cases h3
  · have hc := (h2.cells 0 p rfl).2.2.1
    rw [hp, Nat.zero_mul, Nat.add_zero] at hc
    exact ⟨b, off, cap, h1, fun o => (((Below.refl w.heap.size w).alloc (Nat.le_refl _) o).cell (p := ⟨b, off + 2, none⟩) hlt).trans hc⟩
set_option maxRecDepth 20000 in
set_option maxHeartbeats 400000 in
theorem head05_any (w : World) : Calls Try.prog 7 #[] w fun r w' => r = .returned (.bool true) ∧ Below w.heap.size w w' := by
  have kc := fun (w : World) (C : Array Value) (n c : Nat) => Lib.run_convert_bytes_const (P := Try.prog) w 27 5 C n c Try.underlying27 Try.underlying5
  go_enter Try.func7, Try.ntmps7
  go_wp2_with (first
    | (go_at_call 28; go_loud (refine (tenc (headL w.heap.size) _ 2 _ _ rfl (head_fs w) (by decide)).mono ?_; rw [head_encs]; rintro r w1 ⟨v1, rfl, ho1, hb1⟩; obtain ⟨a1, cap1, rfl, _, _, hby1, _⟩ := ho1.shape; have hb0 : Below w.heap.size w ((w.alloc (.cells #[.int .u8 97, .int .u8 98] 5 (2, 3))).alloc (.cells #[.int .i64 1, .bool false, .int .u64 5, .slice none 0 0, .int .i64 3, .bool true, .int .u64 0, .slice (some ⟨w.heap.size, 0, none⟩) 2 2] 32)) := ((Below.refl _ _).alloc (Nat.le_refl _) _).alloc (by simp) _; have HB1 : Hid (Below w.heap.size w w1) := hb0.trans (hb1.mono hb0.size); have HY1 : Hid (Bytes w1 a1 [2, 5, 7, 2, 97, 98]) := hby1; clear ho1 hb1 hby1))
    | (go_at_call 26; have hby2 := bytes_lit w1 [2, 5] (fun i => by match i with | 0 => decide | 1 => decide | (k + 2) => simp); refine (tdec [2, 5] _ 2 2 _ rfl hby2 (by decide) (by unfold maxLen; decide)).mono ?_; unfold DecPost; rw [head_recs]; rintro r w2 ⟨v2, L2, rfl, hL2, hr2, hb2⟩; obtain ⟨b2, off2, cap2, rfl, hn2⟩ := head_row hL2 hr2; have HB2 : Hid (Below w.heap.size w w2) := (HB1.out.alloc HB1.out.size _).trans (hb2.mono (by have := HB1.out.size; simp; omega)); have HY2 : Hid (Bytes w2 a1 [2, 5, 7, 2, 97, 98]) := (HY1.out.keep ((Below.refl _ _).alloc (Nat.le_refl _) _)).keep hb2; clear hL2 hr2 hb2 hby2)
    | (go_at_call 15; refine (same_at [2, 5, 7, 2, 97, 98] [2, 5, 7, 2, 97, 98] _ _ _ _ _ _ _ rfl rfl (HY2.out.keep ((Below.refl _ _).alloc (Nat.le_refl _) _)) (bytes_lit w2 [2, 5, 7, 2, 97, 98] (fun i => by match i with | 0 => decide | 1 => decide | 2 => decide | 3 => decide | 4 => decide | 5 => decide | (k + 6) => simp)) (by simp [maxLen]) (by simp [maxLen])).mono ?_; rw [decide_eq_true rfl]; rintro r w3 ⟨rfl, m3, rfl⟩))
  go_ret
  exact ⟨rfl, below_drewN (HB2.out.alloc HB2.out.size _) m3⟩
end Go.Proofs.Ytbdgiecnhgiogaa
namespace Go.Proofs.Ytbdgiecnhgiogaa
open Go.ChangeShapes Go.WideShapes Go.ChangeAt Go.RowKit
set_option linter.unusedVariables false
/-- a writer's fields, last tag and error behind a field put -/
def wput (fs : List Fld) (A : Int) (e : Nat) (F : Fld) : List Fld × Int × Nat :=
  if e ≠ 0 then (fs, A, e) else if flt F A = 0 then (fs ++ [F], F.tag, 0) else if flt F A = 22 then (fs, A, 0) else ([], A, flt F A)
/-- the writer behind a field put, and all else but its two blocks as it was -/
def WPost (w : World) (base q : Nat) (v : Value) (L : List (Fld × Value)) (A : Int) (e : Nat) (F : Fld) (r : Ending) (w' : World) : Prop :=
  r = .returned (.pointer (some ⟨q, 0, none⟩)) ∧ ∃ v' L', WrAt w' base q v' L' (wput (L.map Prod.fst) A e F).2.1 (wput (L.map Prod.fst) A e F).2.2 ∧ L'.map Prod.fst = (wput (L.map Prod.fst) A e F).1 ∧ (v'.ownBlock = v.ownBlock ∨ ∀ g, v'.ownBlock = some g → w.heap.size ≤ g) ∧ Kept q (v.ownBlock.getD q) w w' ∧ ∀ p ∈ L', p ∈ L ∨ ∀ k, p.2.ownBlock = some k → w.heap.size ≤ k
theorem Kept.of_all {ga gc : Nat} {w w' : World} (h : Below w.heap.size w w') : Kept ga gc w w' := ⟨h.os, h.tape, h.output, h.size, fun k hk _ _ => h.block k hk⟩
theorem keep_any (F : Fld) (ad : Option Addr) (n cap : Nat) (w : World) (base q : Nat) (v : Value) (L : List (Fld × Value)) (A : Int) (e : Nat) (h : WrAt w base q v L A e) (hn : F.bytes.length = n) (hnum : F.num ≤ 18446744073709551615) (hby : Bytes w ad F.bytes) (h0 : F.bytes = [] → F.text = false → ad = none ∧ cap = 0) (hnl : n ≤ 140737488355328) (hL : L.length ≤ 1000) :
    Calls Try.prog 30 #[.pointer (some ⟨q, 0, none⟩), FV F.tag F.text F.num (.slice ad n cap)] w fun r w' => WPost w base q v L A e F r w' := by
  by_cases he : e = 0
  · subst he
    by_cases hz : flt F A = 0
    · refine (keep_ok F ad n cap w base q v L A h hn hnum hz hby (fun hb => h0 hb ?_) hnl hL).mono ?_
      · cases ht : F.text with
        | false => rfl
        | true =>
          exfalso
          obtain ⟨t1, t2, t3⟩ := flt_tag hz
          unfold flt at hz
          rw [if_neg (by omega), if_neg (by omega), if_pos ht, if_pos hb] at hz
          cases hz
      · rintro r w' ⟨rfl, g, cap', bv, hw, hg, hk, hbv⟩
        have e1 : wput (L.map Prod.fst) A 0 F = (L.map Prod.fst ++ [F], F.tag, 0) := by unfold wput; rw [if_neg (by simp), if_pos hz]
        refine ⟨rfl, _, _, by rw [e1]; exact hw, by rw [e1]; simp, ?_, hk, fun p hp => ?_⟩
        rotate_left
        · rcases List.mem_append.1 hp with h5 | h5
          · exact .inl h5
          · obtain rfl := List.mem_singleton.1 h5
            exact .inr hbv
        rcases hg with hg | hg
        · exact .inl (by rw [hg]; rfl)
        · refine .inr (fun g' hg' => ?_)
          have : g = g' := by simpa [Value.ownBlock] using hg'
          omega
    · by_cases hz2 : flt F A = 22
      · refine (keep_zero F ad n cap w base q v L A h hn hnum hz2).mono ?_
        rintro r w' ⟨rfl, hw, hb⟩
        have e1 : wput (L.map Prod.fst) A 0 F = (L.map Prod.fst, A, 0) := by unfold wput; rw [if_neg (by simp), if_neg hz, if_pos hz2]
        exact ⟨rfl, _, _, by rw [e1]; exact hw, by rw [e1], .inl rfl, Kept.of_all hb, fun p hp => .inl hp⟩
      · refine (keep_bad F ad n cap w base q v L A (flt F A) h hn hnum rfl hz hz2).mono ?_
        rintro r w' ⟨rfl, hw, hb⟩
        have e1 : wput (L.map Prod.fst) A 0 F = ([], A, flt F A) := by unfold wput; rw [if_neg (by simp), if_neg hz, if_neg hz2]
        refine ⟨rfl, _, _, by rw [e1]; exact hw, by rw [e1]; rfl, .inr (fun g hg => by simp [Value.ownBlock] at hg), ⟨hb.os, hb.tape, hb.output, hb.size, fun k hk h1 _ => hb.block k hk h1 h1⟩, fun p hp => by cases hp⟩
  · refine (keep_err F (.slice ad n cap) w base q v L A e h he).mono ?_
    rintro r w' ⟨rfl, hw, hb⟩
    have e1 : wput (L.map Prod.fst) A e F = (L.map Prod.fst, A, e) := by unfold wput; rw [if_pos he]
    exact ⟨rfl, _, _, by rw [e1]; exact hw, by rw [e1], .inl rfl, Kept.of_all hb, fun p hp => .inl hp⟩
set_option maxRecDepth 20000 in
theorem wnum_any (tag : Int) (u : Nat) (w : World) (base q : Nat) (v : Value) (L : List (Fld × Value)) (A : Int) (e : Nat) (h : WrAt w base q v L A e) (hu : u ≤ 18446744073709551615) (hL : L.length ≤ 1000) :
    Calls Try.prog 9 #[.pointer (some ⟨q, 0, none⟩), .int .i64 tag, .int .u64 (u : Int)] w fun r w' => WPost w base q v L A e ⟨tag, false, u, []⟩ r w' := by
  have HW : Hid (WrAt w base q v L A e) := h
  clear h
  go_enter Try.func9, Try.ntmps9
  go_wp2_with (go_at_call 30; refine (keep_any ⟨tag, false, u, []⟩ none 0 0 w base q v L A e HW.out rfl hu (Bytes.none _ _) (fun _ _ => ⟨rfl, rfl⟩) (by omega) hL).mono ?_; rintro r w1 ⟨rfl, hp⟩; have HP : Hid (_) := hp; clear hp)
  go_ret
  exact ⟨rfl, HP.out⟩
set_option maxRecDepth 20000 in
theorem wtext_any (tag : Int) (l : List Nat) (ad : Option Addr) (n cap : Nat) (w : World) (base q : Nat) (v : Value) (L : List (Fld × Value)) (A : Int) (e : Nat) (h : WrAt w base q v L A e) (hn : l.length = n) (hby : Bytes w ad l) (hnl : n ≤ 140737488355328) (hL : L.length ≤ 1000) :
    Calls Try.prog 12 #[.pointer (some ⟨q, 0, none⟩), .int .i64 tag, .slice ad n cap] w fun r w' => WPost w base q v L A e ⟨tag, true, 0, l⟩ r w' := by
  have HW : Hid (WrAt w base q v L A e) := h
  have HN : Hid (l.length = n) := hn
  have HY : Hid (Bytes w ad l) := hby
  have H0 : Hid ((⟨tag, true, 0, l⟩ : Fld).bytes = [] → (⟨tag, true, 0, l⟩ : Fld).text = false → ad = none ∧ cap = 0) := fun _ h => by simp at h
  have HU : Hid ((⟨tag, true, 0, l⟩ : Fld).num ≤ 18446744073709551615) := by show 0 ≤ _; omega
  clear h hn hby
  go_enter Try.func12, Try.ntmps12
  go_wp2_with (go_at_call 30; refine (keep_any ⟨tag, true, 0, l⟩ ad n cap w base q v L A e HW.out HN.out HU.out HY.out H0.out hnl hL).mono ?_; rintro r w1 ⟨rfl, hp⟩; have HP : Hid (_) := hp; clear hp)
  go_ret
  exact ⟨rfl, HP.out⟩
set_option maxRecDepth 20000 in
theorem wint_any (tag x : Int) (u : Nat) (w : World) (base q : Nat) (v : Value) (L : List (Fld × Value)) (A : Int) (e : Nat) (h : WrAt w base q v L A e) (hx0 : -9223372036854775808 ≤ x) (hx1 : x ≤ 9223372036854775807) (hz : zig x = (u : Int)) (hu : u ≤ 18446744073709551615) (hL : L.length ≤ 1000) :
    Calls Try.prog 11 #[.pointer (some ⟨q, 0, none⟩), .int .i64 tag, .int .i64 x] w fun r w' => WPost w base q v L A e ⟨tag, false, u, []⟩ r w' := by
  have HW : Hid (WrAt w base q v L A e) := h
  have HZ : Hid (zig x = (u : Int)) := hz
  clear h hz
  go_enter Try.func11, Try.ntmps11
  go_wp2_with (first
    | (go_at_call 31; refine (zig_any x w hx0 hx1).mono ?_; rw [HZ.out]; rintro r w1 ⟨rfl, rfl⟩)
    | (go_at_call 30; refine (keep_any ⟨tag, false, u, []⟩ none 0 0 w base q v L A e HW.out rfl hu (Bytes.none _ _) (fun _ _ => ⟨rfl, rfl⟩) (by omega) hL).mono ?_; rintro r w1 ⟨rfl, hp⟩; have HP : Hid (_) := hp; clear hp))
  go_ret
  exact ⟨rfl, HP.out⟩
theorem rws_fs {w : World} {base : Nat} {v : Value} {L : List (Fld × Value)} (h : Rws w base v L) (hok : ∀ p ∈ L, p.1.num ≤ 18446744073709551615 ∧ p.1.bytes.length ≤ maxLen) : ∃ a cap, v = .slice a L.length cap ∧ FsAt w a L := h.fs hok
set_option maxRecDepth 20000 in
theorem wdone_ok (w : World) (base q : Nat) (v : Value) (L : List (Fld × Value)) (A : Int) (h : WrAt w base q v L A 0) (hok : ∀ p ∈ L, p.1.num ≤ 18446744073709551615 ∧ p.1.bytes.length ≤ maxLen) (hL : L.length ≤ 1000) :
    Calls Try.prog 13 #[.pointer (some ⟨q, 0, none⟩)] w fun r w' => ∃ v', r = .returned (.tuple #[v', .int .i64 ((encs (L.map Prod.fst) 0 []).2 : Int)]) ∧ Own w' w.heap.size v' (encs (L.map Prod.fst) 0 []).1 ∧ Below w.heap.size w w' := by
  obtain ⟨a, cap, rfl, hfs⟩ := rws_fs h.row hok
  obtain ⟨c0, _, c2, _, _, _⟩ := h.cells
  have HF : Hid (FsAt w a L) := hfs
  obtain ⟨n, hn⟩ : ∃ n, L.length = n := ⟨_, rfl⟩
  have HN : Hid (L.length = n) := hn
  rw [hn] at c0 hL
  clear h hfs hok hn
  go_enter Try.func13, Try.ntmps13
  go_wp2_with (go_at_call 28; refine (tenc L a n cap w HN.out HF.out (by omega)).mono ?_; rintro r w1 ⟨v1, rfl, ho1, hb1⟩; have HO1 : Hid (Own w1 w.heap.size v1 (encs (L.map Prod.fst) 0 []).1) := ho1; have HB1 : Hid (Below w.heap.size w w1) := hb1; clear ho1 hb1)
  go_ret2
  exact ⟨_, rfl, HO1.out, HB1.out⟩
set_option maxRecDepth 20000 in
theorem wdone_bad (w : World) (base q : Nat) (v : Value) (L : List (Fld × Value)) (A : Int) (e : Nat) (h : WrAt w base q v L A e) (he : e ≠ 0) :
    Calls Try.prog 13 #[.pointer (some ⟨q, 0, none⟩)] w fun r w' => r = .returned (.tuple #[.slice none 0 0, .int .i64 (e : Int)]) ∧ Below w.heap.size w w' := by
  obtain ⟨_, _, c2, _, _, _⟩ := h.cells
  have heb : ((e : Int) != 0) = true := by simp; omega
  clear h
  go_enter Try.func13, Try.ntmps13
  go_wp2
  go_region
  all_goals go_wp2
  all_goals go_ret2
  all_goals exact ⟨rfl, (Below.refl _ _).drew⟩
end Go.Proofs.Ytbdgiecnhgiogaa
