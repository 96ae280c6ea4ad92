/- Own texts, joined: Tlq, Zig, Tlwt, Str8, Sd1, Sd2, Evc, Sd3. -/
import Derived.Test.YtfcgcpfckbmgnaaGreatK41
import Derived.Lib.SlBytesConst
import Derived.Test.YtfcgcpfckbmgnaaGreatRows
import Derived.Test.YtfcgcpfckbmgnaaGreatK00
import Derived.Laws.BytesArg
import Derived.Lib.Bytes
import Derived.Test.YtfcgcpfckbmgnaaGreatK17
namespace Go.Proofs.YtfcgcpfckbmgnaaGreat
open Go.ChangeShapes Go.WideShapes Go.ChangeAt Go.RowKit
set_option linter.unusedVariables false
set_option maxRecDepth 20000 in
set_option maxHeartbeats 400000 in
theorem tenc_nil (a : Option Addr) (cap : Nat) (w : World) :
    Calls Tryz.prog 47 #[.slice a 0 cap] w fun r w' => ∃ v, r = .returned (.tuple #[v, .int .i64 0]) ∧ Own w' w.heap.size v [] ∧ Below w.heap.size w w' := by
  go_enter Tryz.func47, Tryz.ntmps47
  go_wp2
  refine wp_loop_rounds 1 ?_
  rw [rounds_succ]
  go_wp2
  go_ret2
  exact ⟨_, rfl, own_nil _ _, Below.refl _ _⟩
theorem tenc (L : List (Fld × Value)) (a : Option Addr) (n cap : Nat) (w : World) (hn : L.length = n) (hfs : FsAt w a L) (hm : n ≤ 140737488355328) :
    Calls Tryz.prog 47 #[.slice a n cap] w fun r w' => ∃ v, r = .returned (.tuple #[v, .int .i64 ((encs (L.map Prod.fst) 0 []).2 : Int)]) ∧ Own w' w.heap.size v (encs (L.map Prod.fst) 0 []).1 ∧ Below w.heap.size w w' := by
  rcases hfs.row with rfl | ⟨b, off, rfl, _, _⟩
  · simp only [List.length_nil] at hn
    subst hn
    exact tenc_nil a cap w
  · exact tenc_any L b off n cap w hn hfs hm
theorem below_drewN {B : Nat} {a w : World} (h : Below B a w) (n : Nat) : Below B a (w.drewN n) := by
  induction n with
  | zero => exact h
  | succ n ih => exact ih.drew
def headL (g : Nat) : List (Fld × Value) := [(⟨1, false, 5, []⟩, .slice none 0 0), (⟨3, true, 0, [97, 98]⟩, .slice (some ⟨g, 0, none⟩) 2 2)]
theorem head_fs (w : World) : FsAt ((w.alloc (.cells #[.int .u8 97, .int .u8 98] 5 (2, 3))).alloc (.cells #[.int .i64 1, .bool false, .int .u64 5, .slice none 0 0, .int .i64 3, .bool true, .int .u64 0, .slice (some ⟨w.heap.size, 0, none⟩) 2 2] 48)) (some ⟨w.heap.size + 1, 0, none⟩) (headL w.heap.size) := by
  have e1 : ((w.alloc (.cells #[.int .u8 97, .int .u8 98] 5 (2, 3))).alloc (.cells #[.int .i64 1, .bool false, .int .u64 5, .slice none 0 0, .int .i64 3, .bool true, .int .u64 0, .slice (some ⟨w.heap.size, 0, none⟩) 2 2] 48)).heap[w.heap.size + 1]? = some (.cells #[.int .i64 1, .bool false, .int .u64 5, .slice none 0 0, .int .i64 3, .bool true, .int .u64 0, .slice (some ⟨w.heap.size, 0, none⟩) 2 2] 48) := by
    simp only [World.alloc, Array.getElem?_push, Array.size_push]
    rw [if_pos trivial]
  refine ⟨.inr ⟨w.heap.size + 1, 0, rfl, lt_of_heap e1, fun j hj => ?_⟩, fun p hp => ?_⟩
  · rw [Nat.zero_add, cell_of_row _ _ j _ _ _ e1]
    simp only [headL, flat, List.getElem?_toArray]; rfl
  · have hby : Bytes ((w.alloc (.cells #[.int .u8 97, .int .u8 98] 5 (2, 3))).alloc (.cells #[.int .i64 1, .bool false, .int .u64 5, .slice none 0 0, .int .i64 3, .bool true, .int .u64 0, .slice (some ⟨w.heap.size, 0, none⟩) 2 2] 48)) (some ⟨w.heap.size, 0, none⟩) [97, 98] :=
      (bytes_lit_mark w [97, 98] (2, 3) (fun i => by match i with | 0 => decide | 1 => decide | (k + 2) => simp)).keep ((Below.refl _ _).alloc (Nat.le_refl _) _)
    simp only [headL, List.mem_cons, List.not_mem_nil, or_false] at hp
    rcases hp with rfl | rfl
    · exact ⟨by simp, ⟨none, 0, rfl, by simp, Bytes.none _ _⟩, by simp⟩
    · exact ⟨by simp, ⟨some ⟨w.heap.size, 0, none⟩, 2, rfl, by simp, hby⟩, by simp; unfold maxLen; omega⟩
theorem head_encs (g : Nat) : encs ((headL g).map Prod.fst) 0 [] = ([2, 5, 7, 2, 97, 98], 0) := by
  show encs [⟨1, false, 5, []⟩, ⟨3, true, 0, [97, 98]⟩] 0 [] = _
  decide
theorem head_recs : recs [2, 5] = ([⟨1, false, 5, []⟩], 0, 0) := by rfl
theorem head_row {w : World} {base : Nat} {v : Value} {L : List (Fld × Value)} (hL : [(⟨1, false, 5, []⟩ : Fld)] = L.map Prod.fst) (h : Rws w base v L) : ∃ b off cap, v = .slice (some ⟨b, off, none⟩) 1 cap ∧ ∀ o, (w.alloc o).cell? ⟨b, off + 2, none⟩ = some (.int .u64 5) := by
  have hlen : L.length = 1 := by have := congrArg List.length hL; simpa using this.symm
  obtain ⟨p, rfl⟩ := List.length_eq_one_iff.1 hlen
  have hp : p.1 = ⟨1, false, 5, []⟩ := by simpa using hL.symm
  obtain ⟨a, cap, h1, h2⟩ := h.fs (fun q hq => by obtain rfl := List.mem_singleton.1 hq; rw [hp]; exact ⟨by simp, by simp⟩)
  rcases h2.row with h3 | ⟨b, off, rfl, hlt, _⟩
  · cases h3
  · have hc := (h2.cells 0 p rfl).2.2.1
    rw [hp, Nat.zero_mul, Nat.add_zero] at hc
    exact ⟨b, off, cap, h1, fun o => (((Below.refl w.heap.size w).alloc (Nat.le_refl _) o).cell (p := ⟨b, off + 2, none⟩) hlt).trans hc⟩
end Go.Proofs.YtfcgcpfckbmgnaaGreat
namespace Go.Proofs.YtfcgcpfckbmgnaaGreat
open Go.ChangeShapes Go.WideShapes Go.ChangeAt Go.RowKit
end Go.Proofs.YtfcgcpfckbmgnaaGreat
namespace Go.Proofs.YtfcgcpfckbmgnaaGreat
open Go.ChangeShapes Go.WideShapes Go.ChangeAt Go.RowKit
set_option linter.unusedVariables false
/-- a writer's fields, last tag and error behind a field put -/
def wput (fs : List Fld) (A : Int) (e : Nat) (F : Fld) : List Fld × Int × Nat :=
  if e ≠ 0 then (fs, A, e) else if flt F A = 0 then (fs ++ [F], F.tag, 0) else if flt F A = 22 then (fs, A, 0) else ([], A, flt F A)
/-- the writer behind a field put, and all else but its two blocks as it was -/
def WPost (w : World) (base q : Nat) (v : Value) (L : List (Fld × Value)) (A : Int) (e : Nat) (F : Fld) (r : Ending) (w' : World) : Prop :=
  r = .returned (.pointer (some ⟨q, 0, none⟩)) ∧ ∃ v' L', WrAt w' base q v' L' (wput (L.map Prod.fst) A e F).2.1 (wput (L.map Prod.fst) A e F).2.2 ∧ L'.map Prod.fst = (wput (L.map Prod.fst) A e F).1 ∧ (v'.ownBlock = v.ownBlock ∨ ∀ g, v'.ownBlock = some g → w.heap.size ≤ g) ∧ Kept q (v.ownBlock.getD q) w w' ∧ ∀ p ∈ L', p ∈ L ∨ ∀ k, p.2.ownBlock = some k → w.heap.size ≤ k
theorem Kept.of_all {ga gc : Nat} {w w' : World} (h : Below w.heap.size w w') : Kept ga gc w w' := ⟨h.os, h.tape, h.output, h.size, fun k hk _ _ => h.block k hk⟩
theorem keep_any (F : Fld) (ad : Option Addr) (n cap : Nat) (w : World) (base q : Nat) (v : Value) (L : List (Fld × Value)) (A : Int) (e : Nat) (h : WrAt w base q v L A e) (hn : F.bytes.length = n) (hnum : F.num ≤ 18446744073709551615) (hby : Bytes w ad F.bytes) (h0 : F.bytes = [] → F.text = false → ad = none ∧ cap = 0) (hnl : n ≤ 140737488355328) (hL : L.length ≤ 1000) :
    Calls Tryz.prog 45 #[.pointer (some ⟨q, 0, none⟩), FV F.tag F.text F.num (.slice ad n cap)] w fun r w' => WPost w base q v L A e F r w' := by
  by_cases he : e = 0
  · subst he
    by_cases hz : flt F A = 0
    · refine (keep_ok F ad n cap w base q v L A h hn hnum hz hby (fun hb => h0 hb ?_) hnl hL).mono ?_
      · cases ht : F.text with
        | false => rfl
        | true =>
          exfalso
          obtain ⟨t1, t2, t3⟩ := flt_tag hz
          unfold flt at hz
          rw [if_neg (by omega), if_neg (by omega), if_pos ht, if_pos hb] at hz
          cases hz
      · rintro r w' ⟨rfl, g, cap', bv, hw, hg, hk, hbv⟩
        have e1 : wput (L.map Prod.fst) A 0 F = (L.map Prod.fst ++ [F], F.tag, 0) := by unfold wput; rw [if_neg (by simp), if_pos hz]
        refine ⟨rfl, _, _, by rw [e1]; exact hw, by rw [e1]; simp, ?_, hk, fun p hp => ?_⟩
        rotate_left
        · rcases List.mem_append.1 hp with h5 | h5
          · exact .inl h5
          · obtain rfl := List.mem_singleton.1 h5
            exact .inr hbv
        rcases hg with hg | hg
        · exact .inl (by rw [hg]; rfl)
        · refine .inr (fun g' hg' => ?_)
          have : g = g' := by simpa [Value.ownBlock] using hg'
          omega
    · by_cases hz2 : flt F A = 22
      · refine (keep_zero F ad n cap w base q v L A h hn hnum hz2).mono ?_
        rintro r w' ⟨rfl, hw, hb⟩
        have e1 : wput (L.map Prod.fst) A 0 F = (L.map Prod.fst, A, 0) := by unfold wput; rw [if_neg (by simp), if_neg hz, if_pos hz2]
        exact ⟨rfl, _, _, by rw [e1]; exact hw, by rw [e1], .inl rfl, Kept.of_all hb, fun p hp => .inl hp⟩
      · refine (keep_bad F ad n cap w base q v L A (flt F A) h hn hnum rfl hz hz2).mono ?_
        rintro r w' ⟨rfl, hw, hb⟩
        have e1 : wput (L.map Prod.fst) A 0 F = ([], A, flt F A) := by unfold wput; rw [if_neg (by simp), if_neg hz, if_neg hz2]
        refine ⟨rfl, _, _, by rw [e1]; exact hw, by rw [e1]; rfl, .inr (fun g hg => by simp [Value.ownBlock] at hg), ⟨hb.os, hb.tape, hb.output, hb.size, fun k hk h1 _ => hb.block k hk h1 h1⟩, fun p hp => by cases hp⟩
  · refine (keep_err F (.slice ad n cap) w base q v L A e h he).mono ?_
    rintro r w' ⟨rfl, hw, hb⟩
    have e1 : wput (L.map Prod.fst) A e F = (L.map Prod.fst, A, e) := by unfold wput; rw [if_pos he]
    exact ⟨rfl, _, _, by rw [e1]; exact hw, by rw [e1], .inl rfl, Kept.of_all hb, fun p hp => .inl hp⟩
set_option maxRecDepth 20000 in
theorem wnum_any (tag : Int) (u : Nat) (w : World) (base q : Nat) (v : Value) (L : List (Fld × Value)) (A : Int) (e : Nat) (h : WrAt w base q v L A e) (hu : u ≤ 18446744073709551615) (hL : L.length ≤ 1000) :
    Calls Tryz.prog 23 #[.pointer (some ⟨q, 0, none⟩), .int .i64 tag, .int .u64 (u : Int)] w fun r w' => WPost w base q v L A e ⟨tag, false, u, []⟩ r w' := by
  have HW : Hid (WrAt w base q v L A e) := h
  clear h
  go_enter Tryz.func23, Tryz.ntmps23
  go_wp2_with (go_at_call 45; refine (keep_any ⟨tag, false, u, []⟩ none 0 0 w base q v L A e HW.out rfl hu (Bytes.none _ _) (fun _ _ => ⟨rfl, rfl⟩) (by omega) hL).mono ?_; rintro r w1 ⟨rfl, hp⟩; have HP : Hid (_) := hp; clear hp)
  go_ret
  exact ⟨rfl, HP.out⟩
set_option maxRecDepth 20000 in
theorem wtext_any (tag : Int) (l : List Nat) (ad : Option Addr) (n cap : Nat) (w : World) (base q : Nat) (v : Value) (L : List (Fld × Value)) (A : Int) (e : Nat) (h : WrAt w base q v L A e) (hn : l.length = n) (hby : Bytes w ad l) (hnl : n ≤ 140737488355328) (hL : L.length ≤ 1000) :
    Calls Tryz.prog 24 #[.pointer (some ⟨q, 0, none⟩), .int .i64 tag, .slice ad n cap] w fun r w' => WPost w base q v L A e ⟨tag, true, 0, l⟩ r w' := by
  have HW : Hid (WrAt w base q v L A e) := h
  have HN : Hid (l.length = n) := hn
  have HY : Hid (Bytes w ad l) := hby
  have H0 : Hid ((⟨tag, true, 0, l⟩ : Fld).bytes = [] → (⟨tag, true, 0, l⟩ : Fld).text = false → ad = none ∧ cap = 0) := fun _ h => by simp at h
  have HU : Hid ((⟨tag, true, 0, l⟩ : Fld).num ≤ 18446744073709551615) := by show 0 ≤ _; omega
  clear h hn hby
  go_enter Tryz.func24, Tryz.ntmps24
  go_wp2_with (go_at_call 45; refine (keep_any ⟨tag, true, 0, l⟩ ad n cap w base q v L A e HW.out HN.out HU.out HY.out H0.out hnl hL).mono ?_; rintro r w1 ⟨rfl, hp⟩; have HP : Hid (_) := hp; clear hp)
  go_ret
  exact ⟨rfl, HP.out⟩
theorem rws_fs {w : World} {base : Nat} {v : Value} {L : List (Fld × Value)} (h : Rws w base v L) (hok : ∀ p ∈ L, p.1.num ≤ 18446744073709551615 ∧ p.1.bytes.length ≤ maxLen) : ∃ a cap, v = .slice a L.length cap ∧ FsAt w a L := h.fs hok
set_option maxRecDepth 20000 in
theorem wdone_ok (w : World) (base q : Nat) (v : Value) (L : List (Fld × Value)) (A : Int) (h : WrAt w base q v L A 0) (hok : ∀ p ∈ L, p.1.num ≤ 18446744073709551615 ∧ p.1.bytes.length ≤ maxLen) (hL : L.length ≤ 1000) :
    Calls Tryz.prog 26 #[.pointer (some ⟨q, 0, none⟩)] w fun r w' => ∃ v', r = .returned (.tuple #[v', .int .i64 ((encs (L.map Prod.fst) 0 []).2 : Int)]) ∧ Own w' w.heap.size v' (encs (L.map Prod.fst) 0 []).1 ∧ Below w.heap.size w w' := by
  obtain ⟨a, cap, rfl, hfs⟩ := rws_fs h.row hok
  obtain ⟨c0, _, c2, _, _, _⟩ := h.cells
  have HF : Hid (FsAt w a L) := hfs
  obtain ⟨n, hn⟩ : ∃ n, L.length = n := ⟨_, rfl⟩
  have HN : Hid (L.length = n) := hn
  rw [hn] at c0 hL
  clear h hfs hok hn
  go_enter Tryz.func26, Tryz.ntmps26
  go_wp2_with (go_at_call 47; refine (tenc L a n cap w HN.out HF.out (by omega)).mono ?_; rintro r w1 ⟨v1, rfl, ho1, hb1⟩; have HO1 : Hid (Own w1 w.heap.size v1 (encs (L.map Prod.fst) 0 []).1) := ho1; have HB1 : Hid (Below w.heap.size w w1) := hb1; clear ho1 hb1)
  go_ret2
  exact ⟨_, rfl, HO1.out, HB1.out⟩
set_option maxRecDepth 20000 in
theorem wdone_bad (w : World) (base q : Nat) (v : Value) (L : List (Fld × Value)) (A : Int) (e : Nat) (h : WrAt w base q v L A e) (he : e ≠ 0) :
    Calls Tryz.prog 26 #[.pointer (some ⟨q, 0, none⟩)] w fun r w' => r = .returned (.tuple #[.slice none 0 0, .int .i64 (e : Int)]) ∧ Below w.heap.size w w' := by
  obtain ⟨_, _, c2, _, _, _⟩ := h.cells
  have heb : ((e : Int) != 0) = true := by simp; omega
  clear h
  go_enter Tryz.func26, Tryz.ntmps26
  go_wp2
  go_region
  all_goals go_wp2
  all_goals go_ret2
  all_goals exact ⟨rfl, (Below.refl _ _).drew⟩
end Go.Proofs.YtfcgcpfckbmgnaaGreat
namespace Go.Proofs.YtfcgcpfckbmgnaaGreat
open Go.ChangeShapes Go.WideShapes Go.ChangeAt Go.RowKit
set_option linter.unusedVariables false
def str8 (l : List Nat) : ByteArray := strOfNums (l.map fun (n : Nat) => (n : Int))
theorem str8_inj {l m : List Nat} (hl : ∀ x ∈ l, x < 256) (hm : ∀ x ∈ m, x < 256) (h : (str8 l).toList = (str8 m).toList) : l = m := by
  have h1 : (str8 l).data.toList = (str8 m).data.toList := by
    unfold str8 at h ⊢
    rw [Lib.strOfNums_toList, Lib.strOfNums_toList] at h
    exact h
  unfold str8 at h1
  rw [strOfNums_data, strOfNums_data, List.map_map, List.map_map] at h1
  have key : ∀ k : List Nat, (∀ x ∈ k, x < 256) → (k.map ((fun n : Int => UInt8.ofNat n.toNat) ∘ fun n : Nat => (n : Int))).map UInt8.toNat = k := by
    intro k
    induction k with
    | nil => intro _; rfl
    | cons x r ih =>
      intro hk
      have hx := hk x (List.mem_cons_self ..)
      simp only [List.map_cons, Function.comp, Int.toNat_natCast, UInt8.toNat_ofNat']
      rw [Nat.mod_eq_of_lt (by omega)]
      congr 1
      exact ih (fun y hy => hk y (List.mem_cons_of_mem _ hy))
  rw [← key l hl, ← key m hm, h1]
theorem conv_bytes {w : World} {a : Option Addr} {l : List Nat} {n cap : Nat} (hn : l.length = n) (hne : l ≠ []) (hb : Bytes w a l) : (convert 22 9 (.slice a n cap)).run Tryz.prog w = .ok (.string (str8 l)) w := by
  obtain ⟨b, off, rfl, hlt, hc⟩ := hb.nonempty hne
  refine run_convert_bytes_arg w 22 5 Tryz.underlying22 Tryz.underlying5 b off n cap (l.map fun (n : Nat) => (n : Int)) (by rw [List.length_map]; exact hn) (fun i hi => ?_) 9 Tryz.underlying9
  rw [hc i (by omega)]
  simp [List.getD_eq_getElem?_getD, show i < l.length from by omega]
/-- the bytes of a string, as numbers -/
def nums8 (s : ByteArray) : List Nat := s.data.toList.map UInt8.toNat
theorem nums8_len (s : ByteArray) : (nums8 s).length = s.size := by unfold nums8; rw [List.length_map, Array.length_toList]; rfl
theorem nums8_lt (s : ByteArray) : ∀ x ∈ nums8 s, x < 256 := by
  intro x hx
  obtain ⟨c, _, rfl⟩ := List.mem_map.1 hx
  exact c.toNat_lt
theorem str8_data (l : List Nat) : (str8 l).data.toList = l.map UInt8.ofNat := by
  unfold str8
  rw [strOfNums_data, List.map_map]
  exact List.map_congr_left (fun x _ => by show UInt8.ofNat (Int.toNat (x : Int)) = _; rw [Int.toNat_natCast])
theorem nums8_str8 (l : List Nat) (hl : ∀ x ∈ l, x < 256) : nums8 (str8 l) = l := by
  unfold nums8
  rw [str8_data, List.map_map]
  conv => rhs; rw [← List.map_id l]
  refine List.map_congr_left (fun x hx => ?_)
  have := hl x hx
  simp only [Function.comp, UInt8.toNat_ofNat', id]
  omega
theorem str8_nums8 (s : ByteArray) : str8 (nums8 s) = s := by
  have h : (str8 (nums8 s)).data.toList = s.data.toList := by
    rw [str8_data]
    unfold nums8
    rw [List.map_map]
    conv => rhs; rw [← List.map_id s.data.toList]
    exact List.map_congr_left (fun x _ => by simp)
  cases s with
  | mk d =>
    have h2 : (str8 (nums8 ⟨d⟩)).data = d := Array.toList_inj.1 h
    cases hs : str8 (nums8 ⟨d⟩) with
    | mk d2 => rw [hs] at h2; simp only at h2; rw [h2]
theorem str8_nil : str8 [] = ⟨#[]⟩ := rfl
theorem nums8_nil : nums8 ⟨#[]⟩ = [] := rfl
theorem str8_size (l : List Nat) : (str8 l).size = l.length := by unfold str8; rw [strOfNums_size, List.length_map]
theorem nums8_inj {s t : ByteArray} (h : nums8 s = nums8 t) : s = t := by rw [← str8_nums8 s, ← str8_nums8 t, h]
theorem nums8_getD (s : ByteArray) (j : Nat) (hj : j < s.size) : (nums8 s).getD j 0 = (s.data.toList.getD j 0).toNat := by
  have h1 : j < s.data.toList.length := by rw [Array.length_toList]; exact hj
  unfold nums8
  rw [List.getD_eq_getElem?_getD, List.getD_eq_getElem?_getD, List.getElem?_map, List.getElem?_eq_getElem h1]
  rfl
/-- string(b): any bytes of one's own -/
theorem conv_own {w : World} {base : Nat} {v : Value} {l : List Nat} (h : Own w base v l) : (convert 22 9 v).run Tryz.prog w = .ok (.string (str8 l)) w := by
  obtain ⟨a, cap, rfl, _, _, hb, hx⟩ := h.shape
  rcases hx with ⟨rfl, rfl, _⟩ | ⟨g, rfl, _, _⟩
  · exact run_convert_bytes_nil w 22 5 Tryz.underlying22 Tryz.underlying5 _ cap 9 Tryz.underlying9
  · refine run_convert_bytes_arg w 22 5 Tryz.underlying22 Tryz.underlying5 g 0 l.length cap (l.map fun (n : Nat) => (n : Int)) (by rw [List.length_map]) (fun i hi => ?_) 9 Tryz.underlying9
    obtain ⟨b, off, hbb, _, hc⟩ := hb.nonempty (by intro e; subst e; simp at hi)
    cases hbb
    rw [hc i hi]
    simp [List.getD_eq_getElem?_getD, hi]
end Go.Proofs.YtfcgcpfckbmgnaaGreat
namespace Go.Proofs.YtfcgcpfckbmgnaaGreat
open Go.ChangeShapes Go.WideShapes Go.ChangeAt Go.RowKit
set_option linter.unusedVariables false
/-- the world behind []byte(s) -/
def cvW (w : World) (s : ByteArray) : World := Lib.bytesWorld w 5 s
def cvC (w : World) (s : ByteArray) : Nat := grownCap w s.size 0 5
theorem cv_run (s : ByteArray) (w : World) : (convert 9 22 (.string s)).run Tryz.prog w = .ok (.slice (some ⟨w.heap.size, 0, none⟩) s.size (cvC w s)) (cvW w s) :=
  Lib.run_convert_string_bytes w 9 22 5 s Tryz.underlying9 Tryz.underlying22 Tryz.underlying5
theorem cv_below (s : ByteArray) (w : World) : Below w.heap.size w (cvW w s) := ⟨rfl, rfl, rfl, by unfold cvW; rw [Lib.bytesWorld_size]; omega, fun k hk => Lib.bytesWorld_at_old w 5 s k hk⟩
theorem cv_size (s : ByteArray) (w : World) : (cvW w s).heap.size = w.heap.size + 1 := Lib.bytesWorld_size w 5 s
theorem cv_bytes (s : ByteArray) (w : World) : Bytes (cvW w s) (some ⟨w.heap.size, 0, none⟩) (nums8 s) := by
  refine ⟨fun i => ?_, .inr ⟨w.heap.size, 0, rfl, by rw [cv_size]; omega, fun i hi => ?_⟩⟩
  · rw [List.getD_eq_getElem?_getD]
    rcases h : (nums8 s)[i]? with _ | x
    · decide
    · exact nums8_lt s x (List.mem_of_getElem? h)
  · rw [nums8_len] at hi
    rw [Nat.zero_add, nums8_getD s i hi]
    exact Lib.bytesWorld_cell w 5 s i hi
theorem cv_cell {s : ByteArray} {w : World} {a : Addr} {v : Value} (h : w.cell? a = some v) : (cvW w s).cell? a = some v := by
  have ha : a.block < w.heap.size := by
    by_cases hh : a.block < w.heap.size
    · exact hh
    · exfalso
      unfold World.cell? at h
      rw [Array.getElem?_eq_none (by omega)] at h
      cases h
  unfold cvW
  rw [Lib.bytesWorld_old w 5 s a ha]; exact h
/-- what a writer holds behind a field -/
def wp1 (S : List Fld × Int × Nat) (F : Fld) : List Fld × Int × Nat := wput S.1 S.2.1 S.2.2 F
/-- the writer in block q, the event in block eb, texts in the blocks of G -/
structure Wst (w0 w' : World) (q eb : Nat) (E : Ev) (S : List Fld × Int × Nat) (n : Nat) (G : List (Nat × List Nat)) : Prop where
  wr : ∃ v L, WrAt w' (q + 1) q v L S.2.1 S.2.2 ∧ L.map Prod.fst = S.1 ∧ (∀ x ∈ G, v.ownBlock ≠ some x.1) ∧ L.length ≤ n
  oks : ∀ f ∈ S.1, f.num ≤ 18446744073709551615 ∧ f.bytes.length ≤ maxLen
  ev : EvAt w' eb E
  evq : eb < q
  byt : ∀ x ∈ G, Bytes w' (some ⟨x.1, 0, none⟩) x.2 ∧ x.1 ≠ q ∧ x.1 < w'.heap.size
  bel : Below w0.heap.size w0 w'
  bq : w0.heap.size ≤ eb
theorem Wst.keep {w0 w1 w2 : World} {q eb : Nat} {E : Ev} {S : List Fld × Int × Nat} {n : Nat} {G : List (Nat × List Nat)} (h : Wst w0 w1 q eb E S n G) (hb : Below w1.heap.size w1 w2) : Wst w0 w2 q eb E S n G := by
  obtain ⟨v, L, h1, h2, h3, h4⟩ := h.wr
  exact ⟨⟨v, L, h1.keep hb, h2, h3, h4⟩, h.oks, h.ev.after hb, h.evq, fun x hx => ⟨(h.byt x hx).1.keep hb, (h.byt x hx).2.1, Nat.lt_of_lt_of_le (h.byt x hx).2.2 hb.size⟩, below_next h.bel hb, h.bq⟩
theorem Wst.drew {w0 w1 : World} {q eb : Nat} {E : Ev} {S : List Fld × Int × Nat} {n : Nat} {G : List (Nat × List Nat)} (h : Wst w0 w1 q eb E S n G) : Wst w0 w1.drew q eb E S n G := h.keep (Below.refl _ _).drew
theorem Wst.cv {w0 w1 : World} {q eb : Nat} {E : Ev} {S : List Fld × Int × Nat} {n : Nat} {G : List (Nat × List Nat)} (h : Wst w0 w1 q eb E S n G) (s : ByteArray) : Wst w0 (cvW w1 s) q eb E S n ((w1.heap.size, nums8 s) :: G) := by
  have hk := h.keep (cv_below s w1)
  obtain ⟨v, L, h1, h2, h3, h4⟩ := h.wr
  have hq := lt_of_heap h1.blk
  refine ⟨⟨v, L, h1.keep (cv_below s w1), h2, fun x hx => ?_, h4⟩, h.oks, hk.ev, h.evq, fun x hx => ?_, hk.bel, h.bq⟩
  · rcases List.mem_cons.1 hx with rfl | hx
    · intro hv
      have := (h1.row.own.lt _ hv).2
      simp only at this
      omega
    · exact h3 x hx
  · rcases List.mem_cons.1 hx with rfl | hx
    · exact ⟨cv_bytes s w1, by simp only; omega, by simp only; rw [cv_size]; omega⟩
    · exact hk.byt x hx
/-- behind a put -/
theorem Wst.put {w0 w1 w2 : World} {q eb : Nat} {E : Ev} {S : List Fld × Int × Nat} {n : Nat} {G : List (Nat × List Nat)} {v : Value} {L : List (Fld × Value)} {F : Fld} {r : Ending} (h : Wst w0 w1 q eb E S n G) (hw : WrAt w1 (q + 1) q v L S.2.1 S.2.2) (hL : L.map Prod.fst = S.1) (hv : ∀ x ∈ G, v.ownBlock ≠ some x.1) (hn : L.length ≤ n) (hF : F.num ≤ 18446744073709551615 ∧ F.bytes.length ≤ maxLen) (hp : WPost w1 (q + 1) q v L S.2.1 S.2.2 F r w2) : r = .returned (.pointer (some ⟨q, 0, none⟩)) ∧ Wst w0 w2 q eb E (wp1 S F) (n + 1) G := by
  obtain ⟨h1, v', L', h2, h3, h4, h5, h6⟩ := hp
  rw [hL] at h2 h3
  show _ ∧ Wst w0 w2 q eb E (wput S.1 S.2.1 S.2.2 F) (n + 1) G
  have hrow : ∀ k, v.ownBlock = some k → q + 1 ≤ k ∧ k < w1.heap.size := fun k hk => hw.row.own.lt k hk
  have hne : ∀ k, k < w1.heap.size → k ≠ q → (∀ b, v.ownBlock = some b → k ≠ b) → w2.heap[k]? = w1.heap[k]? := by
    intro k hk hkq hkv
    refine h5.block k hk hkq ?_
    rcases hb : v.ownBlock with _ | b
    · exact hkq
    · exact hkv b hb
  have hev := h.ev.lt
  have hlen : (wput S.1 S.2.1 S.2.2 F).1.length ≤ n + 1 := by
    have : S.1.length ≤ n := by rw [← hL, List.length_map]; exact hn
    unfold wput
    split
    · simp only; omega
    · split
      · simp only [List.length_append, List.length_cons, List.length_nil]; omega
      · split
        · simp only; omega
        · simp
  refine ⟨h1, ⟨v', L', h2, h3, fun x hx hh => ?_, ?_⟩, ?_, ?_, h.evq, fun x hx => ?_, ?_, h.bq⟩
  · rcases h4 with h4 | h4
    · exact hv x hx (h4 ▸ hh)
    · have := h4 _ hh
      have := (h.byt x hx).2.2
      omega
  · have e1 : (L'.map Prod.fst).length = L'.length := List.length_map ..
    rw [h3] at e1; omega
  · intro f hf
    unfold wput at hf
    split at hf
    · exact h.oks f hf
    · split at hf
      · rcases List.mem_append.1 hf with hf | hf
        · exact h.oks f hf
        · obtain rfl := List.mem_singleton.1 hf; exact hF
      · split at hf
        · exact h.oks f hf
        · cases hf
  · exact (hne eb hev (by have := h.evq; omega) (fun b hb => by have := (hrow b hb).1; have := h.evq; omega)).trans h.ev
  · have hx3 := (h.byt x hx).2.2
    have hx2 := (h.byt x hx).2.1
    have hbl := hne x.1 hx3 hx2 (fun b hb e => hv x hx (by rw [hb, e]))
    refine ⟨?_, hx2, Nat.lt_of_lt_of_le hx3 h5.size⟩
    obtain ⟨a1, a2⟩ := (h.byt x hx).1
    refine ⟨a1, ?_⟩
    rcases a2 with a2 | ⟨b, off, a3, a4, a5⟩
    · exact .inl a2
    · cases a3
      exact .inr ⟨x.1, 0, rfl, Nat.lt_of_lt_of_le a4 h5.size, fun i hi => (World.cell?_of_block (w := w1) (a := ⟨x.1, 0 + i, none⟩) hbl).trans (a5 i hi)⟩
  · have hq := h.evq
    have hb0 := h.bq
    refine ⟨h5.os.trans h.bel.os, h5.tape.trans h.bel.tape, h5.output.trans h.bel.output, Nat.le_trans h.bel.size h5.size, fun k hk => (hne k (Nat.lt_of_lt_of_le hk h.bel.size) (by omega) (fun b hb => by have := (hrow b hb).1; omega)).trans (h.bel.block k hk)⟩
theorem num_st (t : Int) (u : Nat) (w0 w1 : World) (q eb : Nat) (E : Ev) (S : List Fld × Int × Nat) (n : Nat) (G : List (Nat × List Nat)) (h : Wst w0 w1 q eb E S n G) (hu : u ≤ 18446744073709551615) (hn : n ≤ 900) :
    Calls Tryz.prog 23 #[.pointer (some ⟨q, 0, none⟩), .int .i64 t, .int .u64 (u : Int)] w1 fun r w2 => r = .returned (.pointer (some ⟨q, 0, none⟩)) ∧ Wst w0 w2 q eb E (wp1 S ⟨t, false, u, []⟩) (n + 1) G := by
  obtain ⟨v, L, h1, h2, h3, h4⟩ := h.wr
  refine (wnum_any t u w1 (q + 1) q v L S.2.1 S.2.2 h1 hu (by omega)).mono ?_
  rintro r w2 hp
  exact h.put h1 h2 h3 h4 ⟨hu, by simp⟩ hp
theorem text_st (t : Int) (l : List Nat) (g m cap : Nat) (w0 w1 : World) (q eb : Nat) (E : Ev) (S : List Fld × Int × Nat) (n : Nat) (G : List (Nat × List Nat)) (h : Wst w0 w1 q eb E S n G) (hg : (g, l) ∈ G) (hm : l.length = m) (hm2 : m ≤ 1000) (hn : n ≤ 900) :
    Calls Tryz.prog 24 #[.pointer (some ⟨q, 0, none⟩), .int .i64 t, .slice (some ⟨g, 0, none⟩) m cap] w1 fun r w2 => r = .returned (.pointer (some ⟨q, 0, none⟩)) ∧ Wst w0 w2 q eb E (wp1 S ⟨t, true, 0, l⟩) (n + 1) G := by
  obtain ⟨v, L, h1, h2, h3, h4⟩ := h.wr
  refine (wtext_any t l (some ⟨g, 0, none⟩) m cap w1 (q + 1) q v L S.2.1 S.2.2 h1 hm (h.byt _ hg).1 (by omega) (by omega)).mono ?_
  rintro r w2 hp
  exact h.put h1 h2 h3 h4 ⟨by show 0 ≤ _; omega, by show l.length ≤ _; rw [hm]; unfold maxLen; omega⟩ hp
theorem done_st (w0 w1 : World) (q eb : Nat) (E : Ev) (S : List Fld × Int × Nat) (n : Nat) (G : List (Nat × List Nat)) (h : Wst w0 w1 q eb E S n G) (h0 : S.2.2 = 0) (hn : n ≤ 900) :
    Calls Tryz.prog 26 #[.pointer (some ⟨q, 0, none⟩)] w1 fun r w2 => ∃ v', r = .returned (.tuple #[v', .int .i64 ((encs S.1 0 []).2 : Int)]) ∧ Own w2 w0.heap.size v' (encs S.1 0 []).1 ∧ Below w0.heap.size w0 w2 := by
  obtain ⟨v, L, h1, h2, h3, h4⟩ := h.wr
  rw [h0] at h1
  refine (wdone_ok w1 (q + 1) q v L S.2.1 h1 (fun p hp => h.oks p.1 (by rw [← h2]; exact List.mem_map_of_mem hp)) (by omega)).mono ?_
  rw [h2]
  rintro r w2 ⟨v', hr, ho, hb⟩
  exact ⟨v', hr, ⟨ho.1, ho.2.mono h.bel.size⟩, below_next h.bel hb⟩
end Go.Proofs.YtfcgcpfckbmgnaaGreat
namespace Go.Proofs.YtfcgcpfckbmgnaaGreat
open Go.ChangeShapes Go.WideShapes Go.ChangeAt Go.RowKit
set_option linter.unusedVariables false
end Go.Proofs.YtfcgcpfckbmgnaaGreat
namespace Go.Proofs.YtfcgcpfckbmgnaaGreat
open Go.ChangeShapes Go.WideShapes Go.ChangeAt Go.RowKit
theorem EvAt.cells {w : World} {b : Nat} {e : Ev} (h : EvAt w b e) : w.cell? ⟨b, 0, none⟩ = some (.int .i64 e.kind) ∧ w.cell? ⟨b, 1, none⟩ = some (.int .i64 e.order) ∧ w.cell? ⟨b, 2, none⟩ = some (.int .i64 e.item) ∧ w.cell? ⟨b, 3, none⟩ = some (.int .i64 e.qty) ∧ w.cell? ⟨b, 4, none⟩ = some (.int .i64 e.price) ∧ w.cell? ⟨b, 5, none⟩ = some (.int .i64 e.cur) ∧ w.cell? ⟨b, 6, none⟩ = some (.int .i64 e.tax) ∧ w.cell? ⟨b, 7, none⟩ = some (.string e.who) ∧ w.cell? ⟨b, 8, none⟩ = some (.int .i64 e.stamp) ∧ w.cell? ⟨b, 9, none⟩ = some (.string e.note) :=
  ⟨by rw [cell_of_row _ _ 0 _ _ _ h]; rfl, by rw [cell_of_row _ _ 1 _ _ _ h]; rfl, by rw [cell_of_row _ _ 2 _ _ _ h]; rfl, by rw [cell_of_row _ _ 3 _ _ _ h]; rfl, by rw [cell_of_row _ _ 4 _ _ _ h]; rfl, by rw [cell_of_row _ _ 5 _ _ _ h]; rfl, by rw [cell_of_row _ _ 6 _ _ _ h]; rfl, by rw [cell_of_row _ _ 7 _ _ _ h]; rfl, by rw [cell_of_row _ _ 8 _ _ _ h]; rfl, by rw [cell_of_row _ _ 9 _ _ _ h]; rfl⟩
end Go.Proofs.YtfcgcpfckbmgnaaGreat
namespace Go.Proofs.YtfcgcpfckbmgnaaGreat
open Go.ChangeShapes Go.WideShapes Go.ChangeAt Go.RowKit
set_option linter.unusedVariables false
def wputs (S : List Fld × Int × Nat) (Fs : List Fld) : List Fld × Int × Nat := Fs.foldl wp1 S
/-- the ten fields of an event -/
abbrev tenF (k o i u p c t : Nat) (who : List Nat) (s : Nat) (note : List Nat) : List Fld := [⟨1, false, k, []⟩, ⟨2, false, o, []⟩, ⟨3, false, i, []⟩, ⟨4, false, u, []⟩, ⟨5, false, p, []⟩, ⟨6, false, c, []⟩, ⟨7, false, t, []⟩, ⟨8, true, 0, who⟩, ⟨9, false, s, []⟩, ⟨10, true, 0, note⟩]
theorem wrapN {k : Nat} (h : k ≤ 18446744073709551615) : IntKind.u64.wrap (k : Int) = (k : Int) := by rw [IntKind.wrap_u64]; omega
/-- what schema.Encode answers of a right event -/
def EncPost (w : World) (fs : List Fld) (r : Ending) (w' : World) : Prop := ∃ v', r = .returned (.tuple #[v', .int .i64 ((encs fs 0 []).2 : Int)]) ∧ Own w' w.heap.size v' (encs fs 0 []).1 ∧ Below w.heap.size w w'
theorem Wst.new {w w3 : World} {E : Ev} {q : Nat} (h : WrAt w3 (q + 1) q (.slice none 0 0) [] 0 0) (he : EvAt w3 w.heap.size E) (hb : Below w.heap.size w w3) (hq : w.heap.size < q) : Wst w w3 q w.heap.size E ([], 0, 0) 0 [] :=
  ⟨⟨_, _, h, rfl, by simp, by simp⟩, by simp, he, hq, by simp, hb, Nat.le_refl _⟩
theorem evc {w : World} {b : Nat} {E : Ev} {k o i p c t s : Nat} {qty : Int} {who note : ByteArray} (h : EvAt w b E) (hE : E = ⟨k, o, i, qty, p, c, t, who, s, note⟩) : w.cell? ⟨b, 0, none⟩ = some (.int .i64 (k : Int)) ∧ w.cell? ⟨b, 1, none⟩ = some (.int .i64 (o : Int)) ∧ w.cell? ⟨b, 2, none⟩ = some (.int .i64 (i : Int)) ∧ w.cell? ⟨b, 3, none⟩ = some (.int .i64 qty) ∧ w.cell? ⟨b, 4, none⟩ = some (.int .i64 (p : Int)) ∧ w.cell? ⟨b, 5, none⟩ = some (.int .i64 (c : Int)) ∧ w.cell? ⟨b, 6, none⟩ = some (.int .i64 (t : Int)) ∧ w.cell? ⟨b, 7, none⟩ = some (.string who) ∧ w.cell? ⟨b, 8, none⟩ = some (.int .i64 (s : Int)) ∧ w.cell? ⟨b, 9, none⟩ = some (.string note) := by
  subst hE; exact h.cells
end Go.Proofs.YtfcgcpfckbmgnaaGreat
