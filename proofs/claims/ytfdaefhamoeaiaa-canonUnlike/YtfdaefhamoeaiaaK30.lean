/- Own texts, joined: Zig, Tlwt, Str8. -/
import Derived.Test.YtfdaefhamoeaiaaRows
import Derived.Test.YtfdaefhamoeaiaaK00
import Derived.Test.YtfdaefhamoeaiaaK28
import Derived.Test.YtfdaefhamoeaiaaK29
import Derived.Laws.BytesArg
import Derived.Lib.Bytes
namespace Go.Proofs.Ytfdaefhamoeaiaa
open Go.ChangeShapes Go.WideShapes Go.ChangeAt Go.RowKit
end Go.Proofs.Ytfdaefhamoeaiaa
namespace Go.Proofs.Ytfdaefhamoeaiaa
open Go.ChangeShapes Go.WideShapes Go.ChangeAt Go.RowKit
set_option linter.unusedVariables false
/-- a writer's fields, last tag and error behind a field put -/
def wput (fs : List Fld) (A : Int) (e : Nat) (F : Fld) : List Fld × Int × Nat :=
  if e ≠ 0 then (fs, A, e) else if flt F A = 0 then (fs ++ [F], F.tag, 0) else if flt F A = 22 then (fs, A, 0) else ([], A, flt F A)
/-- the writer behind a field put, and all else but its two blocks as it was -/
def WPost (w : World) (base q : Nat) (v : Value) (L : List (Fld × Value)) (A : Int) (e : Nat) (F : Fld) (r : Ending) (w' : World) : Prop :=
  r = .returned (.pointer (some ⟨q, 0, none⟩)) ∧ ∃ v' L', WrAt w' base q v' L' (wput (L.map Prod.fst) A e F).2.1 (wput (L.map Prod.fst) A e F).2.2 ∧ L'.map Prod.fst = (wput (L.map Prod.fst) A e F).1 ∧ (v'.ownBlock = v.ownBlock ∨ ∀ g, v'.ownBlock = some g → w.heap.size ≤ g) ∧ Kept q (v.ownBlock.getD q) w w' ∧ ∀ p ∈ L', p ∈ L ∨ ∀ k, p.2.ownBlock = some k → w.heap.size ≤ k
theorem Kept.of_all {ga gc : Nat} {w w' : World} (h : Below w.heap.size w w') : Kept ga gc w w' := ⟨h.os, h.tape, h.output, h.size, fun k hk _ _ => h.block k hk⟩
theorem keep_any (F : Fld) (ad : Option Addr) (n cap : Nat) (w : World) (base q : Nat) (v : Value) (L : List (Fld × Value)) (A : Int) (e : Nat) (h : WrAt w base q v L A e) (hn : F.bytes.length = n) (hnum : F.num ≤ 18446744073709551615) (hby : Bytes w ad F.bytes) (h0 : F.bytes = [] → F.text = false → ad = none ∧ cap = 0) (hnl : n ≤ 140737488355328) (hL : L.length ≤ 1000) :
    Calls Try.prog 31 #[.pointer (some ⟨q, 0, none⟩), FV F.tag F.text F.num (.slice ad n cap)] w fun r w' => WPost w base q v L A e F r w' := by
  by_cases he : e = 0
  · subst he
    by_cases hz : flt F A = 0
    · refine (keep_ok F ad n cap w base q v L A h hn hnum hz hby (fun hb => h0 hb ?_) hnl hL).mono ?_
      · cases ht : F.text with
        | false => rfl
        | true =>
          exfalso
          obtain ⟨t1, t2, t3⟩ := flt_tag hz
          unfold flt at hz
          rw [if_neg (by omega), if_neg (by omega), if_pos ht, if_pos hb] at hz
          cases hz
      · rintro r w' ⟨rfl, g, cap', bv, hw, hg, hk, hbv⟩
        have e1 : wput (L.map Prod.fst) A 0 F = (L.map Prod.fst ++ [F], F.tag, 0) := by unfold wput; rw [if_neg (by simp), if_pos hz]
        refine ⟨rfl, _, _, by rw [e1]; exact hw, by rw [e1]; simp, ?_, hk, fun p hp => ?_⟩
        rotate_left
        · rcases List.mem_append.1 hp with h5 | h5
          · exact .inl h5
          · obtain rfl := List.mem_singleton.1 h5
            exact .inr hbv
        rcases hg with hg | hg
        · exact .inl (by rw [hg]; rfl)
        · refine .inr (fun g' hg' => ?_)
          have : g = g' := by simpa [Value.ownBlock] using hg'
          omega
    · by_cases hz2 : flt F A = 22
      · refine (keep_zero F ad n cap w base q v L A h hn hnum hz2).mono ?_
        rintro r w' ⟨rfl, hw, hb⟩
        have e1 : wput (L.map Prod.fst) A 0 F = (L.map Prod.fst, A, 0) := by unfold wput; rw [if_neg (by simp), if_neg hz, if_pos hz2]
        exact ⟨rfl, _, _, by rw [e1]; exact hw, by rw [e1], .inl rfl, Kept.of_all hb, fun p hp => .inl hp⟩
      · refine (keep_bad F ad n cap w base q v L A (flt F A) h hn hnum rfl hz hz2).mono ?_
        rintro r w' ⟨rfl, hw, hb⟩
        have e1 : wput (L.map Prod.fst) A 0 F = ([], A, flt F A) := by unfold wput; rw [if_neg (by simp), if_neg hz, if_neg hz2]
        refine ⟨rfl, _, _, by rw [e1]; exact hw, by rw [e1]; rfl, .inr (fun g hg => by simp [Value.ownBlock] at hg), ⟨hb.os, hb.tape, hb.output, hb.size, fun k hk h1 _ => hb.block k hk h1 h1⟩, fun p hp => by cases hp⟩
  · refine (keep_err F (.slice ad n cap) w base q v L A e h he).mono ?_
    rintro r w' ⟨rfl, hw, hb⟩
    have e1 : wput (L.map Prod.fst) A e F = (L.map Prod.fst, A, e) := by unfold wput; rw [if_pos he]
    exact ⟨rfl, _, _, by rw [e1]; exact hw, by rw [e1], .inl rfl, Kept.of_all hb, fun p hp => .inl hp⟩
set_option maxRecDepth 20000 in
theorem wnum_any (tag : Int) (u : Nat) (w : World) (base q : Nat) (v : Value) (L : List (Fld × Value)) (A : Int) (e : Nat) (h : WrAt w base q v L A e) (hu : u ≤ 18446744073709551615) (hL : L.length ≤ 1000) :
    Calls Try.prog 16 #[.pointer (some ⟨q, 0, none⟩), .int .i64 tag, .int .u64 (u : Int)] w fun r w' => WPost w base q v L A e ⟨tag, false, u, []⟩ r w' := by
  have HW : Hid (WrAt w base q v L A e) := h
  clear h
  go_enter Try.func16, Try.ntmps16
  go_wp2_with (go_at_call 31; refine (keep_any ⟨tag, false, u, []⟩ none 0 0 w base q v L A e HW.out rfl hu (Bytes.none _ _) (fun _ _ => ⟨rfl, rfl⟩) (by omega) hL).mono ?_; rintro r w1 ⟨rfl, hp⟩; have HP : Hid (_) := hp; clear hp)
  go_ret
  exact ⟨rfl, HP.out⟩
set_option maxRecDepth 20000 in
theorem wtext_any (tag : Int) (l : List Nat) (ad : Option Addr) (n cap : Nat) (w : World) (base q : Nat) (v : Value) (L : List (Fld × Value)) (A : Int) (e : Nat) (h : WrAt w base q v L A e) (hn : l.length = n) (hby : Bytes w ad l) (hnl : n ≤ 140737488355328) (hL : L.length ≤ 1000) :
    Calls Try.prog 17 #[.pointer (some ⟨q, 0, none⟩), .int .i64 tag, .slice ad n cap] w fun r w' => WPost w base q v L A e ⟨tag, true, 0, l⟩ r w' := by
  have HW : Hid (WrAt w base q v L A e) := h
  have HN : Hid (l.length = n) := hn
  have HY : Hid (Bytes w ad l) := hby
  have H0 : Hid ((⟨tag, true, 0, l⟩ : Fld).bytes = [] → (⟨tag, true, 0, l⟩ : Fld).text = false → ad = none ∧ cap = 0) := fun _ h => by simp at h
  have HU : Hid ((⟨tag, true, 0, l⟩ : Fld).num ≤ 18446744073709551615) := by show 0 ≤ _; omega
  clear h hn hby
  go_enter Try.func17, Try.ntmps17
  go_wp2_with (go_at_call 31; refine (keep_any ⟨tag, true, 0, l⟩ ad n cap w base q v L A e HW.out HN.out HU.out HY.out H0.out hnl hL).mono ?_; rintro r w1 ⟨rfl, hp⟩; have HP : Hid (_) := hp; clear hp)
  go_ret
  exact ⟨rfl, HP.out⟩
theorem rws_fs {w : World} {base : Nat} {v : Value} {L : List (Fld × Value)} (h : Rws w base v L) (hok : ∀ p ∈ L, p.1.num ≤ 18446744073709551615 ∧ p.1.bytes.length ≤ maxLen) : ∃ a cap, v = .slice a L.length cap ∧ FsAt w a L := h.fs hok
set_option maxRecDepth 20000 in
theorem wdone_ok (w : World) (base q : Nat) (v : Value) (L : List (Fld × Value)) (A : Int) (h : WrAt w base q v L A 0) (hok : ∀ p ∈ L, p.1.num ≤ 18446744073709551615 ∧ p.1.bytes.length ≤ maxLen) (hL : L.length ≤ 1000) :
    Calls Try.prog 19 #[.pointer (some ⟨q, 0, none⟩)] w fun r w' => ∃ v', r = .returned (.tuple #[v', .int .i64 ((encs (L.map Prod.fst) 0 []).2 : Int)]) ∧ Own w' w.heap.size v' (encs (L.map Prod.fst) 0 []).1 ∧ Below w.heap.size w w' := by
  obtain ⟨a, cap, rfl, hfs⟩ := rws_fs h.row hok
  obtain ⟨c0, _, c2, _, _, _⟩ := h.cells
  have HF : Hid (FsAt w a L) := hfs
  obtain ⟨n, hn⟩ : ∃ n, L.length = n := ⟨_, rfl⟩
  have HN : Hid (L.length = n) := hn
  rw [hn] at c0 hL
  clear h hfs hok hn
  go_enter Try.func19, Try.ntmps19
  go_wp2_with (go_at_call 33; refine (tenc L a n cap w HN.out HF.out (by omega)).mono ?_; rintro r w1 ⟨v1, rfl, ho1, hb1⟩; have HO1 : Hid (Own w1 w.heap.size v1 (encs (L.map Prod.fst) 0 []).1) := ho1; have HB1 : Hid (Below w.heap.size w w1) := hb1; clear ho1 hb1)
  go_ret2
  exact ⟨_, rfl, HO1.out, HB1.out⟩
set_option maxRecDepth 20000 in
theorem wdone_bad (w : World) (base q : Nat) (v : Value) (L : List (Fld × Value)) (A : Int) (e : Nat) (h : WrAt w base q v L A e) (he : e ≠ 0) :
    Calls Try.prog 19 #[.pointer (some ⟨q, 0, none⟩)] w fun r w' => r = .returned (.tuple #[.slice none 0 0, .int .i64 (e : Int)]) ∧ Below w.heap.size w w' := by
  obtain ⟨_, _, c2, _, _, _⟩ := h.cells
  have heb : ((e : Int) != 0) = true := by simp; omega
  clear h
  go_enter Try.func19, Try.ntmps19
  go_wp2
  go_region
  all_goals go_wp2
  all_goals go_ret2
  all_goals exact ⟨rfl, (Below.refl _ _).drew⟩
end Go.Proofs.Ytfdaefhamoeaiaa
namespace Go.Proofs.Ytfdaefhamoeaiaa
open Go.ChangeShapes Go.WideShapes Go.ChangeAt Go.RowKit
set_option linter.unusedVariables false
def str8 (l : List Nat) : ByteArray := strOfNums (l.map fun (n : Nat) => (n : Int))
theorem str8_inj {l m : List Nat} (hl : ∀ x ∈ l, x < 256) (hm : ∀ x ∈ m, x < 256) (h : (str8 l).toList = (str8 m).toList) : l = m := by
  have h1 : (str8 l).data.toList = (str8 m).data.toList := by
    unfold str8 at h ⊢
    rw [Lib.strOfNums_toList, Lib.strOfNums_toList] at h
    exact h
  unfold str8 at h1
  rw [strOfNums_data, strOfNums_data, List.map_map, List.map_map] at h1
  have key : ∀ k : List Nat, (∀ x ∈ k, x < 256) → (k.map ((fun n : Int => UInt8.ofNat n.toNat) ∘ fun n : Nat => (n : Int))).map UInt8.toNat = k := by
    intro k
    induction k with
    | nil => intro _; rfl
    | cons x r ih =>
      intro hk
      have hx := hk x (List.mem_cons_self ..)
      simp only [List.map_cons, Function.comp, Int.toNat_natCast, UInt8.toNat_ofNat']
      rw [Nat.mod_eq_of_lt (by omega)]
      congr 1
      exact ih (fun y hy => hk y (List.mem_cons_of_mem _ hy))
  rw [← key l hl, ← key m hm, h1]
theorem conv_bytes {w : World} {a : Option Addr} {l : List Nat} {n cap : Nat} (hn : l.length = n) (hne : l ≠ []) (hb : Bytes w a l) : (convert 27 9 (.slice a n cap)).run Try.prog w = .ok (.string (str8 l)) w := by
  obtain ⟨b, off, rfl, hlt, hc⟩ := hb.nonempty hne
  refine run_convert_bytes_arg w 27 5 Try.underlying27 Try.underlying5 b off n cap (l.map fun (n : Nat) => (n : Int)) (by rw [List.length_map]; exact hn) (fun i hi => ?_) 9 Try.underlying9
  rw [hc i (by omega)]
  simp [List.getD_eq_getElem?_getD, show i < l.length from by omega]
/-- the bytes of a string, as numbers -/
def nums8 (s : ByteArray) : List Nat := s.data.toList.map UInt8.toNat
theorem nums8_len (s : ByteArray) : (nums8 s).length = s.size := by unfold nums8; rw [List.length_map, Array.length_toList]; rfl
theorem nums8_lt (s : ByteArray) : ∀ x ∈ nums8 s, x < 256 := by
  intro x hx
  obtain ⟨c, _, rfl⟩ := List.mem_map.1 hx
  exact c.toNat_lt
theorem str8_data (l : List Nat) : (str8 l).data.toList = l.map UInt8.ofNat := by
  unfold str8
  rw [strOfNums_data, List.map_map]
  exact List.map_congr_left (fun x _ => by show UInt8.ofNat (Int.toNat (x : Int)) = _; rw [Int.toNat_natCast])
theorem nums8_str8 (l : List Nat) (hl : ∀ x ∈ l, x < 256) : nums8 (str8 l) = l := by
  unfold nums8
  rw [str8_data, List.map_map]
  conv => rhs; rw [← List.map_id l]
  refine List.map_congr_left (fun x hx => ?_)
  have := hl x hx
  simp only [Function.comp, UInt8.toNat_ofNat', id]
  omega
theorem str8_nums8 (s : ByteArray) : str8 (nums8 s) = s := by
  have h : (str8 (nums8 s)).data.toList = s.data.toList := by
    rw [str8_data]
    unfold nums8
    rw [List.map_map]
    conv => rhs; rw [← List.map_id s.data.toList]
    exact List.map_congr_left (fun x _ => by simp)
  cases s with
  | mk d =>
    have h2 : (str8 (nums8 ⟨d⟩)).data = d := Array.toList_inj.1 h
    cases hs : str8 (nums8 ⟨d⟩) with
    | mk d2 => rw [hs] at h2; simp only at h2; rw [h2]
theorem str8_nil : str8 [] = ⟨#[]⟩ := rfl
theorem nums8_nil : nums8 ⟨#[]⟩ = [] := rfl
theorem str8_size (l : List Nat) : (str8 l).size = l.length := by unfold str8; rw [strOfNums_size, List.length_map]
theorem nums8_inj {s t : ByteArray} (h : nums8 s = nums8 t) : s = t := by rw [← str8_nums8 s, ← str8_nums8 t, h]
theorem nums8_getD (s : ByteArray) (j : Nat) (hj : j < s.size) : (nums8 s).getD j 0 = (s.data.toList.getD j 0).toNat := by
  have h1 : j < s.data.toList.length := by rw [Array.length_toList]; exact hj
  unfold nums8
  rw [List.getD_eq_getElem?_getD, List.getD_eq_getElem?_getD, List.getElem?_map, List.getElem?_eq_getElem h1]
  rfl
/-- string(b): any bytes of one's own -/
theorem conv_own {w : World} {base : Nat} {v : Value} {l : List Nat} (h : Own w base v l) : (convert 27 9 v).run Try.prog w = .ok (.string (str8 l)) w := by
  obtain ⟨a, cap, rfl, _, _, hb, hx⟩ := h.shape
  rcases hx with ⟨rfl, rfl, _⟩ | ⟨g, rfl, _, _⟩
  · exact run_convert_bytes_nil w 27 5 Try.underlying27 Try.underlying5 _ cap 9 Try.underlying9
  · refine run_convert_bytes_arg w 27 5 Try.underlying27 Try.underlying5 g 0 l.length cap (l.map fun (n : Nat) => (n : Int)) (by rw [List.length_map]) (fun i hi => ?_) 9 Try.underlying9
    obtain ⟨b, off, hbb, _, hc⟩ := hb.nonempty (by intro e; subst e; simp at hi)
    cases hbb
    rw [hc i hi]
    simp [List.getD_eq_getElem?_getD, hi]
end Go.Proofs.Ytfdaefhamoeaiaa
