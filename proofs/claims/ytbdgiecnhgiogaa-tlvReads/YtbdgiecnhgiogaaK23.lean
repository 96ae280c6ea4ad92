/- Own texts, joined: Tlwn, Tlwo. -/
import Derived.Test.YtbdgiecnhgiogaaK22
import Derived.Laws.AppendOwnNone
import Derived.LaidEqlPtr
import Derived.Test.YtbdgiecnhgiogaaK19
namespace Go.Proofs.Ytbdgiecnhgiogaa
open Go.ChangeShapes Go.WideShapes Go.ChangeAt Go.RowKit
set_option linter.unusedVariables false
/-- the row of puts is not touched where a writer's block and a row of fields are -/
theorem puts_kept {w w' : World} {base q n : Nat} {v u : Value} {L : List (Fld × Value)} {xs : List Value} (h : w.ownsRow base 29 4 u n xs) (h2 : Rws w base v L) (hq : q < base) (hk : Kept q (v.ownBlock.getD q) w w') : w'.ownsRow base 29 4 u n xs := by
  refine own_moved2 h (fun k h6 h7 h8 => hk.block k h7 (by omega) (fun hc => ?_))
  cases h9 : v.ownBlock with
  | none => rw [h9] at hc; simp at hc; omega
  | some x =>
    rw [h9] at hc
    simp at hc
    subst hc
    obtain ⟨c, m, hcm⟩ := rws_block h2 h9
    rcases h.2 with ⟨rfl, _⟩ | ⟨g', cap', cur', rfl, _, h11, _⟩
    · simp [Value.ownBlock] at h8
    · have : g' = k := by simpa [Value.ownBlock] using h8
      subst this
      rw [h11] at hcm
      cases hcm
theorem kept_grown {w w' : World} {q : Nat} {v : Value} {o : Obj} (hg : (w.alloc o).grownBy w' v.ownBlock) : Kept q (v.ownBlock.getD q) w w' := by
  have hsz : w.heap.size ≤ (w.alloc o).heap.size := by simp
  refine ⟨hg.os, hg.tape, hg.output, Nat.le_trans hsz hg.size, fun k hk h1 h2 => ?_⟩
  rw [hg.block k (by simp; omega) (fun hh => ?_)]
  · exact Below.heap_alloc w o k hk
  · rw [← hh] at h2
    exact h2 rfl
theorem WH.app {w wr w4 : World} {base q g cap g4 cap4 : Nat} {P : List (Pt × Value)} {vk bv : Value} {Lk : List (Fld × Value)} {F : Fld} (h : WH w wr base q g cap P vk Lk F) (hbv : Own wr base bv F.bytes) (hnum : F.num ≤ 18446744073709551615) (hlen : F.bytes.length ≤ maxLen)
    (hown : w4.ownsRow base 32 4 (.slice (some ⟨g4, 0, none⟩) (Lk.length + 1) cap4) (Lk.length + 1) (flat Lk ++ [.int .i64 F.tag, .bool F.text, .int .u64 (F.num : Int), bv]))
    (hgrow : (wr.alloc (.cells #[.int .i64 F.tag, .bool F.text, .int .u64 (F.num : Int), bv] 32)).grownBy w4 vk.ownBlock) (hat : vk.ownBlock = some g4 ∨ g4 = wr.heap.size + 1) :
    WI w w4 base q g cap P (.slice (some ⟨g4, 0, none⟩) (Lk.length + 1) cap4) (Lk ++ [(F, bv)]) F.tag 0 := by
  obtain ⟨v, L, hw, hm, hdj⟩ := h.wri
  have hk : Kept q (vk.ownBlock.getD q) wr w4 := kept_grown hgrow
  have hqb := hw.qlt
  have hdj2 : ∀ k, vk.ownBlock = some k → v.ownBlock ≠ some k := fun k h1 h2 => hdj k h2 h1
  have hrw : Rws w4 base v L := hw.row.kept h.kep hqb hdj2 hk
  have hal : Rws (wr.alloc (.cells #[.int .i64 F.tag, .bool F.text, .int .u64 (F.num : Int), bv] 32)) base vk Lk := h.kep.alloc _
  have hob : ∀ k, vk.ownBlock = some k → base ≤ k := fun k hk => (h.kep.own.lt k hk).1
  have hll := congrArg List.length hm
  simp only [List.length_map, List.length_append, List.length_singleton] at hll
  refine ⟨?_, h.bse, ⟨v, L, ⟨?_, hrw, hqb, Nat.le_trans hw.bsz hk.size⟩, fun _ => by rw [hm]; simp, by simp; omega, ?_⟩, ⟨?_, ?_⟩, puts_kept h.row h.kep hqb hk, ⟨by simp; have := h.len; omega, h.len.2⟩, ?_⟩
  · have hb1 : Below w.heap.size w (wr.alloc (.cells #[.int .i64 F.tag, .bool F.text, .int .u64 (F.num : Int), bv] 32)) := h.bel.alloc h.bel.size _
    exact hb1.grown hgrow hb1.size (fun k hk => by have := hob k hk; have := h.bse; omega)
  · have hqs := lt_of_heap hw.blk
    refine (hgrow.block q (by simp; omega) (fun hh => ?_)).trans ((Below.heap_alloc wr _ q hqs).trans hw.blk)
    have := hob q hh.symm
    omega
  · intro k h1 h2
    have h3 : g4 = k := by simpa [Value.ownBlock] using h2
    subst h3
    rcases hat with h4 | h4
    · exact hdj g4 h1 h4
    · have := (rws_lt hw.row).1 g4 h1
      omega
  · rw [flat_append, List.length_append]
    exact hown
  · intro p hp
    rcases List.mem_append.1 hp with h5 | h5
    · exact own_grown hal.own hgrow (hal.byt p h5)
    · obtain rfl := List.mem_singleton.1 h5
      exact own_grown hal.own hgrow (own_app hbv ((Below.refl _ _).alloc (Nat.le_refl _) _))
  · intro p hp
    rcases List.mem_append.1 hp with h5 | h5
    · exact h.oks p h5
    · obtain rfl := List.mem_singleton.1 h5
      exact ⟨hnum, hlen⟩
end Go.Proofs.Ytbdgiecnhgiogaa
namespace Go.Proofs.Ytbdgiecnhgiogaa
open Go.ChangeShapes Go.WideShapes Go.ChangeAt Go.RowKit
set_option linter.unusedVariables false
theorem Try.infoPt : (Try.prog.info? 29).map (fun i => (i.zero, i.size, i.bytes)) = some (some (.agg #[.int .i64 0, .int .i64 0, .int .i64 0, .slice none 0 0]), 4, 48) := by kernel_rfl
theorem flatP_length : ∀ (L : List (Pt × Value)), (flatP L).length = L.length * 4
  | [] => rfl
  | p :: r => by simp only [flatP, List.length_cons, flatP_length r]; omega
theorem flatP_append : ∀ (L M : List (Pt × Value)), flatP (L ++ M) = flatP L ++ flatP M
  | [], M => rfl
  | p :: r, M => by simp only [List.cons_append, flatP, flatP_append r M]
theorem flatP_one : ∀ (L : List (Pt × Value)), (∀ p ∈ L, p.2.oneCell' = true) → ∀ u ∈ flatP L, u.oneCell' = true
  | [], _, u, hu => by cases hu
  | p :: r, h, u, hu => by
    simp only [flatP, List.mem_cons] at hu
    rcases hu with rfl | rfl | rfl | rfl | hu
    · rfl
    · rfl
    · rfl
    · exact h p (by simp)
    · exact flatP_one r (fun q hq => h q (by simp [hq])) u hu
theorem grown_self (w : World) (row : Option Nat) : w.grownBy w row := ⟨rfl, rfl, rfl, Nat.le_refl _, fun _ _ _ => rfl⟩
/-- the script behind an empty row of one's own -/
theorem wpList_append_puts {w : World} {ops : Array Oper} {rest : List Oper} {o : Oper} {a : Act} {Q : Exit → Act → World → Prop} (hgd : o.guard = none) (s x : Operand)
    (ho : o.op = .call { callee := .builtin .append, args := #[s, x], argTypes := #[22, 22] }) (base : Nat) (v : Value) (hs : a.eval s = v) (hown : w.ownsRow base 29 4 v 0 [])
    (P : List (Pt × Value)) (ad : Option Addr) (n cap : Nat) (hx : a.eval x = .slice ad n cap) (hn : P.length = n) (hps : PsAt w ad P) (hnil : ad = none → n = 0 ∧ cap = 0) (hb : n * 48 ≤ 140737488351232) (hbase : base ≤ w.heap.size)
    (h : ∀ v' w', w'.ownsRow base 29 4 v' n (flatP P) → w.grownBy w' v.ownBlock → wpList Try.prog ops Q rest (a.put o.dst v') w') : wpList Try.prog ops Q (o :: rest) a w := by
  obtain ⟨i0, hi, hz0, hz1, hz2⟩ := info_parts Try.infoPt
  cases ad with
  | none =>
    obtain ⟨rfl, rfl⟩ := hnil rfl
    obtain rfl := List.length_eq_zero_iff.1 hn
    exact wpList_append_own_none (P := Try.prog) hgd s x 22 ho base 29 i0 4 Try.underlying22 hi v 0 [] hs hown hx (h v w hown (grown_self _ _))
  | some ad =>
    refine wpList_append_own _ hgd s x 22 ho base 29 i0 _ 4 48 Try.underlying22 hi hz0 hz1 hz2 rfl (by decide) v 0 [] hs hown ad n cap (flatP P) hx (by rw [flatP_length, hn]) ?_ (flatP_one P (fun p hp => ?_)) (by unfold maxLen; omega) (by omega) hbase ?_
    · intro j u hj
      rcases hps.row with rfl | ⟨b, off, hab, _, hc⟩
      · simp [flatP] at hj
      · cases hab
        have hjl : j < (flatP P).length := by
          by_cases hh : j < (flatP P).length
          · exact hh
          · rw [List.getElem?_eq_none (by omega)] at hj; cases hj
        rw [flatP_length] at hjl
        have := hc j hjl
        rw [hj] at this
        have hadd : (⟨b, off, none⟩ : Addr).add j = ⟨b, off + j, none⟩ := by simp [Addr.add]
        rw [hadd]
        exact this
    · obtain ⟨x1, x2, h5, _, _⟩ := (hps.fok p hp).byt
      rw [h5]; rfl
    · intro v' w' h1 h2 _
      exact h v' w' (by simpa using h1) h2
/-- ahead of the loop: the writer, the law's own empty list, an empty row of puts -/
structure Pre (w w2 W : World) : Prop where
  bel : Below w.heap.size w W
  wri : WrAt W (w.heap.size + 1) w.heap.size (.slice none 0 0) [] 0 0
  kep : Rws W (w.heap.size + 1) (.slice (some ⟨w2.heap.size, 0, none⟩) 0 0) []
  row : W.ownsRow (w2.heap.size + 1) 29 4 (.slice (some ⟨w2.heap.size + 1, 0, none⟩) 0 0) 0 []
  siz : W.heap.size = w2.heap.size + 2
  gt : w.heap.size < w2.heap.size
theorem pre_of {w w2 : World} (h : WrAt w2 (w.heap.size + 1) w.heap.size (.slice none 0 0) [] 0 0) (hb : Below w.heap.size w w2) : ∃ W, (w2.alloc (.cells #[] 32)).alloc (.cells #[] 29) = W ∧ Pre w w2 W := by
  have hgt : w.heap.size < w2.heap.size := lt_of_heap h.blk
  have hb2 : Below w2.heap.size w2 ((w2.alloc (.cells #[] 32)).alloc (.cells #[] 29)) := ((Below.refl _ _).alloc (Nat.le_refl _) _).alloc (by simp) _
  refine ⟨_, rfl, hb.trans (hb2.mono hb.size), h.keep hb2, ⟨⟨by simp [flat], .inr ⟨w2.heap.size, 0, #[], rfl, by omega, ?_, by simp, by simp, by simp, by simp [flat]⟩⟩, fun p hp => by cases hp⟩, ⟨by simp, .inr ⟨w2.heap.size + 1, 0, #[], rfl, Nat.le_refl _, ?_, by simp, by simp, by simp, by simp⟩⟩, by simp, hgt⟩
  · simp only [World.alloc, Array.getElem?_push, Array.size_push]
    rw [if_neg (by omega), if_pos trivial]
  · simp only [World.alloc, Array.getElem?_push, Array.size_push]
    rw [if_pos trivial]
theorem newsP (w : World) : ∀ j u, [Value.int .i64 3, .int .i64 0, .int .i64 0, .slice none 0 0][j]? = some u → (w.alloc (.cells #[.int .i64 3, .int .i64 0, .int .i64 0, .slice none 0 0] 29)).cell? ((⟨w.heap.size, 0, none⟩ : Addr).add j) = some u := by
  intro j u hj
  have hr : (w.alloc (.cells #[.int .i64 3, .int .i64 0, .int .i64 0, .slice none 0 0] 29)).heap[w.heap.size]? = some (.cells #[.int .i64 3, .int .i64 0, .int .i64 0, .slice none 0 0] 29) := by simp only [World.alloc, Array.getElem?_push]; rw [if_pos trivial]
  rw [show (⟨w.heap.size, 0, none⟩ : Addr).add j = ⟨w.heap.size, j, none⟩ from by simp [Addr.add]; exact fun h => h.symm, cell_of_row _ _ j _ _ _ hr]
  simpa using hj
theorem onesP : ∀ u ∈ [Value.int .i64 3, .int .i64 0, .int .i64 0, .slice none 0 0], u.oneCell' = true := by decide
theorem wi_start {w w2 W w3 w4 : World} {P : List (Pt × Value)} {v3 : Value} {n g cap4 : Nat} (h : Pre w w2 W) (ho3 : w3.ownsRow (w2.heap.size + 1) 29 4 v3 n (flatP P)) (hb3 : Below (w2.heap.size + 1) W w3) (hn : P.length = n)
    (ho4 : w4.ownsRow (w2.heap.size + 1) 29 4 (.slice (some ⟨g, 0, none⟩) (n + 1) cap4) (n + 1) (flatP P ++ [.int .i64 3, .int .i64 0, .int .i64 0, .slice none 0 0]))
    (hg4 : (w3.alloc (.cells #[.int .i64 3, .int .i64 0, .int .i64 0, .slice none 0 0] 29)).grownBy w4 v3.ownBlock) :
    WI w w4 (w.heap.size + 1) w.heap.size g cap4 (P ++ [(⟨3, 0, 0, []⟩, .slice none 0 0)]) (.slice (some ⟨w2.heap.size, 0, none⟩) 0 0) [] 0 0 := by
  have hgt := h.gt
  have hs := h.siz
  have hs3 : w2.heap.size + 2 ≤ w3.heap.size := by have := hb3.size; omega
  have hB : Below (w2.heap.size + 1) W w4 := (hb3.alloc (by omega) _).grown hg4 (by simp; omega) (fun k hk => (ho3.lt k hk).1)
  have hwb : Below (w2.heap.size + 1) W w4 := hB
  have hws := h.bel.size
  refine ⟨h.bel.trans (hB.mono (by omega)), Nat.le_refl _, ⟨.slice none 0 0, [], ⟨(hB.block _ (by omega)).trans h.wri.blk, Rws.nil _ _, Nat.lt_succ_self _, by have := hB.size; omega⟩, fun _ => rfl, by simp, fun k hk => by simp [Value.ownBlock] at hk⟩, ⟨own_moved2 h.kep.own (fun k h1 h2 h3 => hB.block k (by rw [← (show w2.heap.size = k from by simpa [Value.ownBlock] using h3)]; omega)), fun p hp => by cases hp⟩, ?_, ⟨by simp, by omega⟩, fun p hp => by cases hp⟩
  rw [flatP_append, List.length_append, hn]
  exact World.ownsRow.mono ho4 (by omega)
theorem copy_at (l : List Nat) (a : Option Addr) (n cap : Nat) (w : World) (hn : l.length = n) (hb : Bytes w a l) (hl : n ≤ 281474976710656) :
    Calls Try.prog 8 #[.slice a n cap] w fun e w' => ∃ v, e = .returned v ∧ Own w' w.heap.size v l ∧ Below w.heap.size w w' := by
  subst hn
  exact copy_any l a cap w hb hl
theorem Try.infoWr : ∃ j, Try.prog.info? 68 = some j := by
  have h : (Try.prog.info? 68).isSome = true := by kernel_rfl
  exact Option.isSome_iff_exists.1 h
theorem ptr_neq (a : Addr) (w : World) : (binOp .neq 23 (.pointer (some a)) (.pointer (some a))).run Try.prog w = .ok (.bool false) w := by
  obtain ⟨j, hj⟩ := Try.infoWr
  have h : ∀ d : Nat, (Op.equalIn (d + 1) 23 (.pointer (some a)) (.pointer (some a))).run Try.prog w = .ok true w := fun d => by
    simp [Op.equalIn, run_underlying Try.underlying23, sizeOf, typeInfo, hj, run_sameAddr_same]
  simp only [binOp]
  simp [Op.equal, Op.maxDepth, h 9999]
theorem wh_size {w wr : World} {base q g cap : Nat} {P : List (Pt × Value)} {vk : Value} {Lk : List (Fld × Value)} {F : Fld} {o : Obj} (h : WH w wr base q g cap P vk Lk F) : base ≤ (wr.alloc o).heap.size := by
  obtain ⟨v, L, h1, _, _⟩ := h.wri
  have := h1.bsz
  simp
  omega
/-- a variable of the round is not touched by the law's append -/
theorem box_far {wr w8 w9 : World} {base : Nat} {vk : Value} {Lk : List (Fld × Value)} {tag : Int} {text : Bool} {num : Nat} {bv : Value} {o : Obj} (h : Rws wr base vk Lk) (hf : FldAt w8 (wr.heap.size + 1) tag text num bv) (hg : (w8.alloc o).grownBy w9 vk.ownBlock) : FldAt w9 (wr.heap.size + 1) tag text num bv := by
  have h1 := lt_of_heap hf
  refine (hg.block (wr.heap.size + 1) (by simp; omega) (fun hh => ?_)).trans ((Below.heap_alloc w8 o _ h1).trans hf)
  have := (rws_lt h).1 _ hh.symm
  omega
/-- a round's two variables: the put, the field -/
theorem box2 (wr : World) (kk tag vv : Int) (pv : Value) (u : Nat) : ∃ W5, (wr.alloc (.cells #[.int .i64 kk, .int .i64 tag, .int .i64 vv, pv] 29)).alloc (.cells #[.int .i64 tag, .bool false, .int .u64 (u : Int), .slice none 0 0] 32) = W5 ∧ Below wr.heap.size wr W5 ∧ W5.heap[wr.heap.size]? = some (.cells #[.int .i64 kk, .int .i64 tag, .int .i64 vv, pv] 29) ∧ FldAt W5 (wr.heap.size + 1) tag false u (.slice none 0 0) ∧ W5.heap.size = wr.heap.size + 2 := by
  refine ⟨_, rfl, ((Below.refl _ _).alloc (Nat.le_refl _) _).alloc (by simp) _, ?_, ?_, by simp⟩
  · simp only [World.alloc, Array.getElem?_push, Array.size_push]
    rw [if_neg (by omega), if_pos trivial]
  · have h := FldAt.new (wr.alloc (.cells #[.int .i64 kk, .int .i64 tag, .int .i64 vv, pv] 29)) tag false u (.slice none 0 0)
    simpa using h
end Go.Proofs.Ytbdgiecnhgiogaa
