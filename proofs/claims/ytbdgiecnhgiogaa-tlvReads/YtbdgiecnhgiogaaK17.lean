/- Own texts, joined: Rdr, Rdn. -/
import Derived.Test.YtbdgiecnhgiogaaShelf
import Derived.Test.YtbdgiecnhgiogaaK15
import Derived.Test.YtbdgiecnhgiogaaK16
namespace Go.Proofs.Ytbdgiecnhgiogaa
open Go.ChangeShapes Go.WideShapes Go.ChangeAt Go.RowKit Go.Maps Go.Sort Go.Shelf
set_option linter.unusedVariables false
theorem sorts_any (m : Nat) : AnyZI.SortsIn Try.prog Try.sortedA_ren Fence.wide m :=
  ⟨fun blk off cap ss W hH hblk hsz => callsIn_wide.2 (Try.slices_Sort_int blk off cap ss W hH hblk hsz), fun p cap W => callsIn_wide.2 (Try.slices_Sort_int_none p cap W)⟩
theorem rep_keys {D : DataW Value} {L : List (Fld × Value)} {w : World} {b n : Nat} (hr : Rep D L) (hown : w.ownsMap Try.prog 3 hv b n D) : (L.map (fun p => p.1.tag)).Perm (intKeys D) := by
  obtain ⟨es, hD, hpw, _⟩ := hown.entries rd_keyed
  obtain ⟨es', hD', hko⟩ := hown.keysOf
  obtain rfl : es = es' := by rw [hD] at hD'; simpa using hD'
  subst hD
  refine perm_intKeys hpw (fun p hp => by obtain ⟨v, hv⟩ := hko p hp; obtain ⟨x, _, hx, _⟩ := Maps.keyOf_i64 Try.underlying3 hv; exact ⟨x, hx⟩) ?_ (fun x => ?_)
  · exact (List.pairwise_map.2 (hr.apart.imp (fun h => h)))
  · rw [hr.hs]
    constructor
    · intro hx
      obtain ⟨p, hp, rfl⟩ := List.mem_map.1 hx
      cases hg : getT L p.1.tag with
      | some y => rfl
      | none => exact absurd rfl (getT_none.1 hg p hp)
    · intro hx
      cases hg : getT L x with
      | none => rw [hg] at hx; cases hx
      | some y => obtain ⟨h1, h2⟩ := getT_mem hg; exact List.mem_map.2 ⟨y, h1, h2⟩
theorem sort_tags {L : List (Fld × Value)} (h : (L.map Prod.fst).Pairwise (fun f g => f.tag < g.tag)) {ss : List Int} (hp : ss.Perm (L.map (fun p => p.1.tag))) : ss.mergeSort (fun x y => decide (x ≤ y)) = L.map (fun p => p.1.tag) := by
  have h1 : ss.mergeSort leI = (L.map (fun p => p.1.tag)).mergeSort leI := mergeSort_of_perm_i hp
  show ss.mergeSort leI = _
  rw [h1]
  refine List.mergeSort_of_pairwise ?_
  rw [List.pairwise_map] at h ⊢
  exact h.imp (fun h => by simp only [leI, decide_eq_true_eq]; omega)
set_option maxRecDepth 20000 in
set_option maxHeartbeats 2000000 in
/-- Rest: the tags that are left, as new memory -/
theorem rest_any (w : World) (base q b : Nat) (L : List (Fld × Value)) (e : Nat) (h : RdAt w base q b L e) (hr : (L.map Prod.fst).Pairwise (fun f g => f.tag < g.tag)) (hl : L.length ≤ 31) :
    Calls Try.prog 22 #[.pointer (some ⟨q, 0, none⟩)] w fun r w' => ∃ v, r = .returned v ∧ w'.ownsRow w.heap.size 3 1 v L.length ((L.map (fun p => p.1.tag)).map encZ) ∧ Below w.heap.size w w' := by
  refine (callsIn_wide (n := 6)).1 ?_
  obtain ⟨c0, _, _, _⟩ := h.cells
  obtain ⟨nn, D0, hown, hrep⟩ := h.map
  have hbl := hown.lt
  have hsz : Maps.size D0 ≤ 31 := by rw [hrep.sz]; exact hl
  have hmax : Maps.size D0 ≤ maxLen := by unfold maxLen; omega
  have hbytes : Maps.size D0 * 8 ≤ 140737488355328 := by omega
  have HK : Hid ((L.map (fun p => p.1.tag)).Perm (intKeys D0)) := rep_keys hrep hown
  have hseq : SeqGives Fence.wide 2 Try.prog 48 #[.pointer (some ⟨w.heap.size, 0, none⟩)] encZ (fun ss => ss.Perm (intKeys D0)) (Maps.size D0) (w.alloc (.cells #[.map (some b)] 71)) :=
    AnyZI.keys_gives (ρ := Try.keysA_ren) { Try.keysA with } Fence.wide _ trivial rfl (by omega) w.heap.size b nn D0 _ (by simp) (by simp) (by
      obtain ⟨es, clock, hb, Ft, hs, hD⟩ := hown
      exact ⟨es, clock, (Below.heap_alloc _ _ b hbl).trans hb, Ft, hs, hD⟩)
  have cK : ∀ mb W, CallsIn Fence.wide 5 Try.prog 37 #[.map mb] W fun e w' => e = .returned (.func (.func 48) #[] #[.pointer (some ⟨W.heap.size, 0, none⟩)]) ∧ w' = W.alloc (.cells #[.map mb] 71) := fun mb W => AnyZI.keys_in Try.keysA Fence.wide 5 trivial rfl mb W
  have cS := AnyZI.sorted_in Try.sortedA Fence.wide 5 trivial trivial trivial trivial rfl (by omega) (sorts_any _) (enters_of Try.func47 (by kernel_rfl) rfl) 48 #[.pointer (some ⟨w.heap.size, 0, none⟩)] trivial (enters_of Try.func48 (by kernel_rfl) rfl) _ _ hmax hbytes _ hseq
  change CallsIn _ _ Try.prog 36 _ _ _ at cS
  have hfK : Fence.wide.fn 37 := trivial
  have hfS : Fence.wide.fn 36 := trivial
  have hLn : Hid ((L.map (fun p => p.1.tag)).length = L.length) := by show _ = _; simp
  refine callsIn_of_wp Try.func22 rfl trivial ?_ rfl
  simp only [Try.ntmps22, List.size_toArray, List.length_cons, List.length_nil, Nat.reduceAdd, Nat.reduceSub, Array.replicate_succ, Array.replicate_zero, List.push_toArray, List.append_toArray, List.nil_append, List.cons_append]
  gi_wp2_with (first
    | (gi_at_call 37; refine (cK _ _).mono ?_; rintro e w' ⟨rfl, rfl⟩)
    | (gi_at_call 36; refine cS.mono ?_; rintro e w' ⟨v, ss, rfl, hS, hrow, hnil, hb⟩))
  go_ret
  have hp := hS.trans HK.out.symm
  have hlen : ss.length = L.length := by rw [hp.length_eq, hLn.out]
  rw [sort_tags hr hp, hlen] at hrow
  exact ⟨v, rfl, ownsRow_base_a hrow (by simp), ((Below.refl _ w).alloc (Nat.le_refl _) _).trans (hb.mono (by simp))⟩
end Go.Proofs.Ytbdgiecnhgiogaa
namespace Go.Proofs.Ytbdgiecnhgiogaa
open Go.ChangeShapes Go.WideShapes Go.ChangeAt Go.RowKit
set_option linter.unusedVariables false
set_option maxRecDepth 20000 in
theorem take_nil (t : Int) (x : Bool) (w : World) :
    Calls Try.prog 34 #[.pointer none, .int .i64 t, .bool x] w fun r w' => r = .returned ZF ∧ Below w.heap.size w w' := by
  go_enter Try.func34, Try.ntmps34
  go_wp2_with ((with_reducible refine guard_store 32 ?_); refine wpList_store_fld rfl _ _ rfl (k := w.heap.size) (tag2 := 0) (text2 := false) (num2 := 0) (bv2 := .slice none 0 0) (FldAt.new w 0 false 0 (.slice none 0 0)) rfl rfl rfl ?_; intro w6 hf6 hos6 hk6 hs6)
  exact bodyPost_ret (results_fld rfl _ _ _ rfl hf6) rfl ⟨rfl, ⟨hos6.1, hos6.2.1, hos6.2.2, by rw [hs6]; simp, fun k hk => (hk6 k (by omega)).trans (Below.heap_alloc _ _ k hk)⟩⟩
set_option maxRecDepth 20000 in
theorem rnum_nil (t : Int) (w : World) :
    Calls Try.prog 19 #[.pointer none, .int .i64 t] w fun r w' => r = .returned (.int .u64 0) ∧ Below w.heap.size w w' := by
  have hfd := fld_two 0 false 0 (.slice none 0 0)
  go_enter Try.func19, Try.ntmps19
  go_wp2_with (go_at_call 34; refine (take_nil t false w).mono ?_; rintro r w1 ⟨rfl, hb⟩; have HB : Hid (Below w.heap.size w w1) := hb; clear hb)
  go_ret
  exact ⟨rfl, HB.out⟩
set_option maxRecDepth 20000 in
theorem rint_nil (t : Int) (w : World) :
    Calls Try.prog 20 #[.pointer none, .int .i64 t] w fun r w' => r = .returned (.int .i64 0) ∧ Below w.heap.size w w' := by
  have hfd := fld_two 0 false 0 (.slice none 0 0)
  go_enter Try.func20, Try.ntmps20
  go_wp2_with (first
    | (go_at_call 34; refine (take_nil t false w).mono ?_; rintro r w1 ⟨rfl, hb⟩; have HB : Hid (Below w.heap.size w w1) := hb; clear hb)
    | (go_at_call 35; refine (zag_any 0 w1 (by omega) (by omega)).mono ?_; rintro r w2 ⟨rfl, rfl⟩))
  go_ret
  exact ⟨rfl, HB.out⟩
set_option maxRecDepth 20000 in
theorem rtext_nil (t : Int) (w : World) :
    Calls Try.prog 21 #[.pointer none, .int .i64 t] w fun r w' => r = .returned (.slice none 0 0) ∧ Below w.heap.size w w' := by
  have hfd := fld_three 0 false 0 (.slice none 0 0)
  go_enter Try.func21, Try.ntmps21
  go_wp2_with (go_at_call 34; refine (take_nil t true w).mono ?_; rintro r w1 ⟨rfl, hb⟩; have HB : Hid (Below w.heap.size w w1) := hb; clear hb)
  go_ret
  exact ⟨rfl, HB.out⟩
theorem rest_nil (w : World) :
    Calls Try.prog 22 #[.pointer none] w fun r w' => r = .returned (.slice none 0 0) ∧ w = w' := by
  go_enter Try.func22, Try.ntmps22
  go_wp2
  go_ret
  exact ⟨rfl, rfl⟩
theorem rerr_nil (w : World) :
    Calls Try.prog 23 #[.pointer none] w fun r w' => r = .returned (.int .i64 1) ∧ w = w' := by
  go_enter Try.func23, Try.ntmps23
  go_wp2
  go_ret
  exact ⟨rfl, rfl⟩
/-- what Find answers -/
def fdV (L : List (Fld × Value)) (t : Int) : Value := match getT L t with | some p => FP p | none => ZF
theorem getT_take_none {L : List (Fld × Value)} {t : Int} {k : Nat} {p : Fld × Value} (h : getT (L.take k) t = none) (hp : L[k]? = some p) (hne : p.1.tag ≠ t) : getT (L.take (k + 1)) t = none := by
  have hk : k < L.length := by
    by_cases hh : k < L.length
    · exact hh
    · rw [List.getElem?_eq_none (by omega)] at hp; cases hp
  rw [List.take_succ_eq_append_getElem hk, getT_snoc, h]
  rw [List.getElem?_eq_getElem hk] at hp
  cases hp
  simp [hne]
theorem getT_take_some {L : List (Fld × Value)} {t : Int} {k : Nat} {p : Fld × Value} (h : getT (L.take k) t = none) (hp : L[k]? = some p) (he : p.1.tag = t) : getT L t = some p := by
  have hk : k < L.length := by
    by_cases hh : k < L.length
    · exact hh
    · rw [List.getElem?_eq_none (by omega)] at hp; cases hp
  have h1 : L = L.take k ++ p :: L.drop (k + 1) := by
    rw [List.getElem?_eq_getElem hk] at hp
    cases hp
    rw [← List.drop_eq_getElem_cons hk, List.take_append_drop]
  have h2 := h
  unfold getT at h2 ⊢
  rw [h1, List.find?_append, h2, List.find?_cons]
  have : (p.1.tag == t) = true := by simpa using he
  rw [this]
  rfl
theorem results_fld2 {fn : Func} {p u : Tmp} (h : fn.results = #[.cell p 32, .tmp u]) (tmps : Array Value) (w : World) (b : Nat) {tag : Int} {text : Bool} {num : Nat} {bv : Value} (x : Value) (hp : tmps.getD p undef = .pointer (some ⟨b, 0, none⟩)) (hx : tmps.getD u undef = x) (hl : FldAt w b tag text num bv) :
    (results fn tmps).run Try.prog w = .ok (.tuple #[FV tag text num bv, x]) w := by
  rw [results_cell_tmp h, hp]
  simp only [asAddr, Sem.run_pure, Result.andThen_ok, hl.loadVar, hx]
set_option maxRecDepth 20000 in
set_option maxHeartbeats 1000000 in
theorem find_any (L : List (Fld × Value)) (t : Int) (a : Option Addr) (n cap : Nat) (w : World) (hn : L.length = n) (h : FsAt w a L) (hm : n ≤ maxLen) :
    Calls Try.prog 24 #[.slice a n cap, .int .i64 t] w fun r w' => r = .returned (.tuple #[fdV L t, .bool (getT L t).isSome]) ∧ Below w.heap.size w w' := by
  have HN : Hid (L.length = n) := hn
  have HF : Hid (FsAt (w.alloc (.cells #[.int .i64 0, .bool false, .int .u64 0, .slice none 0 0] 32)) a L) := h.keep ((Below.refl _ _).alloc (Nat.le_refl _) _)
  have HOne : Hid (∀ p ∈ L, p.2.oneCell' = true) := fun p hp => by obtain ⟨ad, c, h1, _⟩ := (h.fok p hp).byt; rw [h1]; rfl
  unfold maxLen at hm
  have hmI : (n : Int) ≤ 9223372036854775807 := by omega
  clear hn h
  go_enter Try.func24, Try.ntmps24
  go_wp2
  go_loop [9] (fun vi => ∃ k : Nat, k ≤ n ∧ vi = .int .i64 (k : Int) ∧ Hid (getT (L.take k) t = none)) (fun vi => n - (intOf vi).toNat)
  case atStart => exact ⟨0, Nat.zero_le _, rfl, by show _ = _; rw [List.take_zero]; rfl⟩
  case round =>
    obtain ⟨k, hk, rfl, HK⟩ := hrel
    by_cases hkl : k < n
    · obtain ⟨p, hp⟩ : ∃ p, L[k]? = some p := ⟨_, List.getElem?_eq_getElem (by rw [HN.out]; exact hkl)⟩
      obtain ⟨b, off, rfl⟩ : ∃ b off, a = some ⟨b, off, none⟩ := by
        rcases HF.out.row with h1 | ⟨b, off, h1, _⟩
        · rw [h1] at hp; simp at hp
        · exact ⟨b, off, h1⟩
      obtain ⟨c0, c1, c2, c3⟩ := HF.out.cells k p hp
      have h1 : p.2.oneCell' = true := HOne.out p (List.mem_of_getElem? hp)
      obtain ⟨⟨tag, text, num, bytes⟩, bv⟩ := p
      have HP : Hid (L[k]? = some (⟨tag, text, num, bytes⟩, bv)) := hp
      simp only at c0 c1 c2 c3 h1
      clear hp
      by_cases ht : tag = t
      · have HR : Hid (getT L t = some (⟨tag, text, num, bytes⟩, bv)) := getT_take_some HK.out HP.out ht
        subst ht
        go_wp2_with ((with_reducible refine guard_store 32 ?_); refine wpList_store_fld rfl _ _ rfl (k := w.heap.size) (tag2 := tag) (text2 := text) (num2 := num) (bv2 := bv) (FldAt.new w 0 false 0 (.slice none 0 0)) h1 rfl rfl ?_; intro w6 hf6 hos6 hk6 hs6; have HF6 : Hid (_) := hf6; have HB6 : Hid (Below w.heap.size w w6) := ⟨hos6.1, hos6.2.1, hos6.2.2, by rw [hs6]; simp, fun k hk => (hk6 k (by omega)).trans (Below.heap_alloc _ _ k hk)⟩; clear hf6 hos6 hk6 hs6)
        refine bodyPost_ret (results_fld2 rfl _ _ _ _ rfl rfl HF6.out) rfl ⟨?_, HB6.out⟩
        unfold fdV
        rw [HR.out]
        rfl
      · have htb : (tag == t) = false := by simpa using ht
        go_wp2
        go_round
        case rel => exact ⟨k + 1, by omega, by go_num, getT_take_none HK.out HP.out ht⟩
        case measure => simp [intOf]; omega
    · obtain rfl : n = k := by omega
      have HR : Hid (getT L t = none) := by have h2 := HK.out; rw [List.take_of_length_le (by rw [HN.out]; exact Nat.le_refl _)] at h2; exact h2
      go_wp2_with ((with_reducible refine guard_store 32 ?_); refine wpList_store_fld rfl _ _ rfl (k := w.heap.size) (tag2 := 0) (text2 := false) (num2 := 0) (bv2 := .slice none 0 0) (FldAt.new w 0 false 0 (.slice none 0 0)) rfl rfl rfl ?_; intro w6 hf6 hos6 hk6 hs6; have HF6 : Hid (_) := hf6; have HB6 : Hid (Below w.heap.size w w6) := ⟨hos6.1, hos6.2.1, hos6.2.2, by rw [hs6]; simp, fun k hk => (hk6 k (by omega)).trans (Below.heap_alloc _ _ k hk)⟩; clear hf6 hos6 hk6 hs6)
      refine bodyPost_ret (results_fld2 rfl _ _ _ _ rfl rfl HF6.out) rfl ⟨?_, HB6.out⟩
      unfold fdV
      rw [HR.out]
      rfl
end Go.Proofs.Ytbdgiecnhgiogaa
