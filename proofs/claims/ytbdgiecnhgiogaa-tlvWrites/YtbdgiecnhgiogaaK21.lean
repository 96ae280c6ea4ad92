/- Own texts, joined: Tlwt. -/
import Derived.Test.YtbdgiecnhgiogaaK16
import Derived.Test.YtbdgiecnhgiogaaK19
import Derived.Test.YtbdgiecnhgiogaaK20
namespace Go.Proofs.Ytbdgiecnhgiogaa
open Go.ChangeShapes Go.WideShapes Go.ChangeAt Go.RowKit
set_option linter.unusedVariables false
/-- a writer's fields, last tag and error behind a field put -/
def wput (fs : List Fld) (A : Int) (e : Nat) (F : Fld) : List Fld × Int × Nat :=
  if e ≠ 0 then (fs, A, e) else if flt F A = 0 then (fs ++ [F], F.tag, 0) else if flt F A = 22 then (fs, A, 0) else ([], A, flt F A)
/-- the writer behind a field put, and all else but its two blocks as it was -/
def WPost (w : World) (base q : Nat) (v : Value) (L : List (Fld × Value)) (A : Int) (e : Nat) (F : Fld) (r : Ending) (w' : World) : Prop :=
  r = .returned (.pointer (some ⟨q, 0, none⟩)) ∧ ∃ v' L', WrAt w' base q v' L' (wput (L.map Prod.fst) A e F).2.1 (wput (L.map Prod.fst) A e F).2.2 ∧ L'.map Prod.fst = (wput (L.map Prod.fst) A e F).1 ∧ (v'.ownBlock = v.ownBlock ∨ ∀ g, v'.ownBlock = some g → w.heap.size ≤ g) ∧ Kept q (v.ownBlock.getD q) w w' ∧ ∀ p ∈ L', p ∈ L ∨ ∀ k, p.2.ownBlock = some k → w.heap.size ≤ k
theorem Kept.of_all {ga gc : Nat} {w w' : World} (h : Below w.heap.size w w') : Kept ga gc w w' := ⟨h.os, h.tape, h.output, h.size, fun k hk _ _ => h.block k hk⟩
theorem keep_any (F : Fld) (ad : Option Addr) (n cap : Nat) (w : World) (base q : Nat) (v : Value) (L : List (Fld × Value)) (A : Int) (e : Nat) (h : WrAt w base q v L A e) (hn : F.bytes.length = n) (hnum : F.num ≤ 18446744073709551615) (hby : Bytes w ad F.bytes) (h0 : F.bytes = [] → F.text = false → ad = none ∧ cap = 0) (hnl : n ≤ 140737488355328) (hL : L.length ≤ 1000) :
    Calls Try.prog 30 #[.pointer (some ⟨q, 0, none⟩), FV F.tag F.text F.num (.slice ad n cap)] w fun r w' => WPost w base q v L A e F r w' := by
  by_cases he : e = 0
  · subst he
    by_cases hz : flt F A = 0
    · refine (keep_ok F ad n cap w base q v L A h hn hnum hz hby (fun hb => h0 hb ?_) hnl hL).mono ?_
      · cases ht : F.text with
        | false => rfl
        | true =>
          exfalso
          obtain ⟨t1, t2, t3⟩ := flt_tag hz
          unfold flt at hz
          rw [if_neg (by omega), if_neg (by omega), if_pos ht, if_pos hb] at hz
          cases hz
      · rintro r w' ⟨rfl, g, cap', bv, hw, hg, hk, hbv⟩
        have e1 : wput (L.map Prod.fst) A 0 F = (L.map Prod.fst ++ [F], F.tag, 0) := by unfold wput; rw [if_neg (by simp), if_pos hz]
        refine ⟨rfl, _, _, by rw [e1]; exact hw, by rw [e1]; simp, ?_, hk, fun p hp => ?_⟩
        rotate_left
        · rcases List.mem_append.1 hp with h5 | h5
          · exact .inl h5
          · obtain rfl := List.mem_singleton.1 h5
            exact .inr hbv
        rcases hg with hg | hg
        · exact .inl (by rw [hg]; rfl)
        · refine .inr (fun g' hg' => ?_)
          have : g = g' := by simpa [Value.ownBlock] using hg'
          omega
    · by_cases hz2 : flt F A = 22
      · refine (keep_zero F ad n cap w base q v L A h hn hnum hz2).mono ?_
        rintro r w' ⟨rfl, hw, hb⟩
        have e1 : wput (L.map Prod.fst) A 0 F = (L.map Prod.fst, A, 0) := by unfold wput; rw [if_neg (by simp), if_neg hz, if_pos hz2]
        exact ⟨rfl, _, _, by rw [e1]; exact hw, by rw [e1], .inl rfl, Kept.of_all hb, fun p hp => .inl hp⟩
      · refine (keep_bad F ad n cap w base q v L A (flt F A) h hn hnum rfl hz hz2).mono ?_
        rintro r w' ⟨rfl, hw, hb⟩
        have e1 : wput (L.map Prod.fst) A 0 F = ([], A, flt F A) := by unfold wput; rw [if_neg (by simp), if_neg hz, if_neg hz2]
        refine ⟨rfl, _, _, by rw [e1]; exact hw, by rw [e1]; rfl, .inr (fun g hg => by simp [Value.ownBlock] at hg), ⟨hb.os, hb.tape, hb.output, hb.size, fun k hk h1 _ => hb.block k hk h1 h1⟩, fun p hp => by cases hp⟩
  · refine (keep_err F (.slice ad n cap) w base q v L A e h he).mono ?_
    rintro r w' ⟨rfl, hw, hb⟩
    have e1 : wput (L.map Prod.fst) A e F = (L.map Prod.fst, A, e) := by unfold wput; rw [if_pos he]
    exact ⟨rfl, _, _, by rw [e1]; exact hw, by rw [e1], .inl rfl, Kept.of_all hb, fun p hp => .inl hp⟩
set_option maxRecDepth 20000 in
theorem wnum_any (tag : Int) (u : Nat) (w : World) (base q : Nat) (v : Value) (L : List (Fld × Value)) (A : Int) (e : Nat) (h : WrAt w base q v L A e) (hu : u ≤ 18446744073709551615) (hL : L.length ≤ 1000) :
    Calls Try.prog 9 #[.pointer (some ⟨q, 0, none⟩), .int .i64 tag, .int .u64 (u : Int)] w fun r w' => WPost w base q v L A e ⟨tag, false, u, []⟩ r w' := by
  have HW : Hid (WrAt w base q v L A e) := h
  clear h
  go_enter Try.func9, Try.ntmps9
  go_wp2_with (go_at_call 30; refine (keep_any ⟨tag, false, u, []⟩ none 0 0 w base q v L A e HW.out rfl hu (Bytes.none _ _) (fun _ _ => ⟨rfl, rfl⟩) (by omega) hL).mono ?_; rintro r w1 ⟨rfl, hp⟩; have HP : Hid (_) := hp; clear hp)
  go_ret
  exact ⟨rfl, HP.out⟩
set_option maxRecDepth 20000 in
theorem wtext_any (tag : Int) (l : List Nat) (ad : Option Addr) (n cap : Nat) (w : World) (base q : Nat) (v : Value) (L : List (Fld × Value)) (A : Int) (e : Nat) (h : WrAt w base q v L A e) (hn : l.length = n) (hby : Bytes w ad l) (hnl : n ≤ 140737488355328) (hL : L.length ≤ 1000) :
    Calls Try.prog 12 #[.pointer (some ⟨q, 0, none⟩), .int .i64 tag, .slice ad n cap] w fun r w' => WPost w base q v L A e ⟨tag, true, 0, l⟩ r w' := by
  have HW : Hid (WrAt w base q v L A e) := h
  have HN : Hid (l.length = n) := hn
  have HY : Hid (Bytes w ad l) := hby
  have H0 : Hid ((⟨tag, true, 0, l⟩ : Fld).bytes = [] → (⟨tag, true, 0, l⟩ : Fld).text = false → ad = none ∧ cap = 0) := fun _ h => by simp at h
  have HU : Hid ((⟨tag, true, 0, l⟩ : Fld).num ≤ 18446744073709551615) := by show 0 ≤ _; omega
  clear h hn hby
  go_enter Try.func12, Try.ntmps12
  go_wp2_with (go_at_call 30; refine (keep_any ⟨tag, true, 0, l⟩ ad n cap w base q v L A e HW.out HN.out HU.out HY.out H0.out hnl hL).mono ?_; rintro r w1 ⟨rfl, hp⟩; have HP : Hid (_) := hp; clear hp)
  go_ret
  exact ⟨rfl, HP.out⟩
set_option maxRecDepth 20000 in
theorem wint_any (tag x : Int) (u : Nat) (w : World) (base q : Nat) (v : Value) (L : List (Fld × Value)) (A : Int) (e : Nat) (h : WrAt w base q v L A e) (hx0 : -9223372036854775808 ≤ x) (hx1 : x ≤ 9223372036854775807) (hz : zig x = (u : Int)) (hu : u ≤ 18446744073709551615) (hL : L.length ≤ 1000) :
    Calls Try.prog 11 #[.pointer (some ⟨q, 0, none⟩), .int .i64 tag, .int .i64 x] w fun r w' => WPost w base q v L A e ⟨tag, false, u, []⟩ r w' := by
  have HW : Hid (WrAt w base q v L A e) := h
  have HZ : Hid (zig x = (u : Int)) := hz
  clear h hz
  go_enter Try.func11, Try.ntmps11
  go_wp2_with (first
    | (go_at_call 31; refine (zig_any x w hx0 hx1).mono ?_; rw [HZ.out]; rintro r w1 ⟨rfl, rfl⟩)
    | (go_at_call 30; refine (keep_any ⟨tag, false, u, []⟩ none 0 0 w base q v L A e HW.out rfl hu (Bytes.none _ _) (fun _ _ => ⟨rfl, rfl⟩) (by omega) hL).mono ?_; rintro r w1 ⟨rfl, hp⟩; have HP : Hid (_) := hp; clear hp))
  go_ret
  exact ⟨rfl, HP.out⟩
theorem rws_fs {w : World} {base : Nat} {v : Value} {L : List (Fld × Value)} (h : Rws w base v L) (hok : ∀ p ∈ L, p.1.num ≤ 18446744073709551615 ∧ p.1.bytes.length ≤ maxLen) : ∃ a cap, v = .slice a L.length cap ∧ FsAt w a L := h.fs hok
set_option maxRecDepth 20000 in
theorem wdone_ok (w : World) (base q : Nat) (v : Value) (L : List (Fld × Value)) (A : Int) (h : WrAt w base q v L A 0) (hok : ∀ p ∈ L, p.1.num ≤ 18446744073709551615 ∧ p.1.bytes.length ≤ maxLen) (hL : L.length ≤ 1000) :
    Calls Try.prog 13 #[.pointer (some ⟨q, 0, none⟩)] w fun r w' => ∃ v', r = .returned (.tuple #[v', .int .i64 ((encs (L.map Prod.fst) 0 []).2 : Int)]) ∧ Own w' w.heap.size v' (encs (L.map Prod.fst) 0 []).1 ∧ Below w.heap.size w w' := by
  obtain ⟨a, cap, rfl, hfs⟩ := rws_fs h.row hok
  obtain ⟨c0, _, c2, _, _, _⟩ := h.cells
  have HF : Hid (FsAt w a L) := hfs
  obtain ⟨n, hn⟩ : ∃ n, L.length = n := ⟨_, rfl⟩
  have HN : Hid (L.length = n) := hn
  rw [hn] at c0 hL
  clear h hfs hok hn
  go_enter Try.func13, Try.ntmps13
  go_wp2_with (go_at_call 28; refine (tenc L a n cap w HN.out HF.out (by omega)).mono ?_; rintro r w1 ⟨v1, rfl, ho1, hb1⟩; have HO1 : Hid (Own w1 w.heap.size v1 (encs (L.map Prod.fst) 0 []).1) := ho1; have HB1 : Hid (Below w.heap.size w w1) := hb1; clear ho1 hb1)
  go_ret2
  exact ⟨_, rfl, HO1.out, HB1.out⟩
set_option maxRecDepth 20000 in
theorem wdone_bad (w : World) (base q : Nat) (v : Value) (L : List (Fld × Value)) (A : Int) (e : Nat) (h : WrAt w base q v L A e) (he : e ≠ 0) :
    Calls Try.prog 13 #[.pointer (some ⟨q, 0, none⟩)] w fun r w' => r = .returned (.tuple #[.slice none 0 0, .int .i64 (e : Int)]) ∧ Below w.heap.size w w' := by
  obtain ⟨_, _, c2, _, _, _⟩ := h.cells
  have heb : ((e : Int) != 0) = true := by simp; omega
  clear h
  go_enter Try.func13, Try.ntmps13
  go_wp2
  go_region
  all_goals go_wp2
  all_goals go_ret2
  all_goals exact ⟨rfl, (Below.refl _ _).drew⟩
end Go.Proofs.Ytbdgiecnhgiogaa
