/- frame: a frame in memory, whole loads and stores; Decode. -/
import Derived.Test.YtpjikkhcimghaaaDoorFr3
import Derived.Laws.ResultCell
import Derived.Laws.CopyOwn
namespace Go.Proofs.YtpjikkhcimghaaaDoor
open Go.ChangeShapes Go.WideShapes Go.ChangeAt Go.RowKit
set_option linter.unusedVariables false
theorem Tryd.infoFr : (Tryd.prog.info? 32).map (·.size) = some 3 := by kernel_rfl
theorem Tryd.info5s : (Tryd.prog.info? 5).map (·.size) = some 1 := by kernel_rfl
theorem FrmAt.loadVar {w : World} {k : Nat} {kind seq : Int} {bv : Value} (h : FrmAt w k kind seq bv) : (Go.loadVar 32 ⟨k, 0, none⟩).run Tryd.prog w = .ok (FrV kind seq bv) w :=
  run_loadVar_row _ _ _ _ _ _ _ h Tryd.underlying32 rfl Tryd.infoFr
theorem FrmAt.load {w : World} {k : Nat} {kind seq : Int} {bv : Value} (h : FrmAt w k kind seq bv) : (Instr.loadAt 32 (.pointer (some ⟨k, 0, none⟩))).run Tryd.prog w = .ok (FrV kind seq bv) w := by
  simp only [Instr.loadAt, Instr.sureAddr, Sem.run_bind, Sem.run_pure, Result.andThen_ok, h.loadVar]
theorem frm_one (kind seq : Int) (bv : Value) (hv : bv.oneCell' = true) : (#[.int .i64 kind, .int .i64 seq, bv] : Array Value).all (·.oneCell') = true := by
  simp [hv]; exact ⟨rfl, rfl⟩
theorem FrmAt.store {w : World} {k : Nat} {kind seq : Int} {bv : Value} (h : FrmAt w k kind seq bv) (kind2 seq2 : Int) (bv2 : Value) (hv : bv2.oneCell' = true) : ∃ w2, (Instr.storeAt 32 (.pointer (some ⟨k, 0, none⟩)) (FrV kind2 seq2 bv2)).run Tryd.prog w = .ok () w2 ∧ FrmAt w2 k kind2 seq2 bv2 ∧ (w2.os = w.os ∧ w2.tape = w.tape ∧ w2.output = w.output) ∧ (∀ j, j ≠ k → w2.heap[j]? = w.heap[j]?) ∧ w2.heap.size = w.heap.size := by
  refine ⟨w.setRow k #[.int .i64 kind2, .int .i64 seq2, bv2], ?_, ?_, ⟨rfl, rfl, rfl⟩, fun j hj => ?_, ?_⟩
  · simp only [Instr.storeAt, Instr.sureAddr, Sem.run_bind, Sem.run_pure, Result.andThen_ok, run_storeVar_row w k 32 32 #[.int .i64 kind, .int .i64 seq, bv] #[.int .i64 kind2, .int .i64 seq2, bv2] h Tryd.infoFr rfl (frm_one kind2 seq2 bv2 hv)]
  · unfold FrmAt at h ⊢
    simp [World.setRow, Array.getElem?_modify, h]
  · simp only [World.setRow, Array.getElem?_modify]
    rw [if_neg (Ne.symm hj)]
  · simp [World.setRow]
theorem frm_load {ops : Array Oper} {rest : List Oper} {a : Act} {w : World} {Q : Exit → Act → World → Prop} {dst : Option Tmp} {ty : TypeId} {pos : String} {after : Array Edge} {x : Operand} (t : TypeId)
    (h : wpList Tryd.prog ops Q (⟨dst, .load t x, ty, pos, after, none⟩ :: rest) a w) : wpList Tryd.prog ops Q (⟨dst, .load t x, ty, pos, after, none⟩ :: rest) a w := h
theorem frm_store {ops : Array Oper} {rest : List Oper} {a : Act} {w : World} {Q : Exit → Act → World → Prop} {dst : Option Tmp} {ty : TypeId} {pos : String} {after : Array Edge} {x y : Operand} (t : TypeId)
    (h : wpList Tryd.prog ops Q (⟨dst, .store t x y, ty, pos, after, none⟩ :: rest) a w) : wpList Tryd.prog ops Q (⟨dst, .store t x y, ty, pos, after, none⟩ :: rest) a w := h
theorem wpList_load_frm {ops : Array Oper} {rest : List Oper} {o : Oper} {a : Act} {w : World} {Q : Exit → Act → World → Prop} (hgd : o.guard = none) (x : Operand) (ho : o.op = .load 32 x)
    {k : Nat} {kind seq : Int} {bv : Value} (hL : FrmAt w k kind seq bv) (hx : a.eval x = .pointer (some ⟨k, 0, none⟩)) (h : wpList Tryd.prog ops Q rest (a.put o.dst (FrV kind seq bv)) w) : wpList Tryd.prog ops Q (o :: rest) a w :=
  wpList_plain hgd fun _ hK => by
    unfold Oper.wp execOp
    simp only [ho, hx, Sem.run_bind, Sem.run_pure, Result.andThen_ok, hL.load]
    exact hK _ _ h
theorem at_copy {ops : Array Oper} {rest : List Oper} {a : Act} {w : World} {Q : Exit → Act → World → Prop} {dst : Option Tmp} {ty : TypeId} {pos : String} {after : Array Edge} {args : Array Operand} {ts : Array TypeId}
    (h : wpList Tryd.prog ops Q (⟨dst, .call { callee := .builtin .copy, args := args, argTypes := ts }, ty, pos, after, none⟩ :: rest) a w) : wpList Tryd.prog ops Q (⟨dst, .call { callee := .builtin .copy, args := args, argTypes := ts }, ty, pos, after, none⟩ :: rest) a w := h
/-- one block, at or above base, is written anew -/
theorem below_one {base k : Nat} {w w1 w2 : World} (hb : Below base w w1) (ho : w2.os = w1.os ∧ w2.tape = w1.tape ∧ w2.output = w1.output) (hh : ∀ j, j ≠ k → w2.heap[j]? = w1.heap[j]?) (hs : w2.heap.size = w1.heap.size) (hk : base ≤ k) : Below base w w2 :=
  ⟨ho.1.trans hb.os, ho.2.1.trans hb.tape, ho.2.2.trans hb.output, by rw [hs]; exact hb.size, fun j hj => (hh j (by omega)).trans (hb.block j hj)⟩
theorem wpList_store_frm {ops : Array Oper} {rest : List Oper} {o : Oper} {a : Act} {w : World} {Q : Exit → Act → World → Prop} (hgd : o.guard = none) (x y : Operand) (ho : o.op = .store 32 x y) (hd : o.dst = none)
    {k : Nat} {kind seq kind2 seq2 : Int} {bv bv2 : Value} (hL : FrmAt w k kind seq bv) (hv : bv2.oneCell' = true) (hx : a.eval x = .pointer (some ⟨k, 0, none⟩)) (hy : a.eval y = FrV kind2 seq2 bv2)
    (h : ∀ w2, FrmAt w2 k kind2 seq2 bv2 → (w2.os = w.os ∧ w2.tape = w.tape ∧ w2.output = w.output) → (∀ j, j ≠ k → w2.heap[j]? = w.heap[j]?) → w2.heap.size = w.heap.size → wpList Tryd.prog ops Q rest a w2) : wpList Tryd.prog ops Q (o :: rest) a w :=
  wpList_plain hgd fun _ hK => by
    obtain ⟨w2, h1, h2, h3, h4, h5⟩ := hL.store kind2 seq2 bv2 hv
    unfold Oper.wp execOp
    simp only [ho, hx, hy, Sem.run_bind, Sem.run_pure, Result.andThen_ok, h1]
    have hp : a.put o.dst undef = a := by rw [hd]; rfl
    exact hK _ _ (by rw [hp]; exact h w2 h2 h3 h4 h5)
theorem results_frm3 {fn : Func} {p t u : Tmp} (h : fn.results = #[.cell p 32, .tmp t, .tmp u]) (tmps : Array Value) (w : World) (k : Nat) {kind seq : Int} {bv : Value} (hp : tmps.getD p undef = .pointer (some ⟨k, 0, none⟩)) (hl : FrmAt w k kind seq bv) :
    (results fn tmps).run Tryd.prog w = .ok (.tuple #[FrV kind seq bv, tmps.getD t undef, tmps.getD u undef]) w := by
  simp only [Array.getD_eq_getD_getElem?] at hp
  simp [results, h, hp, asAddr, hl.loadVar]
theorem results_frm2 {fn : Func} {p t : Tmp} (h : fn.results = #[.cell p 32, .tmp t]) (tmps : Array Value) (w : World) (k : Nat) {kind seq : Int} {bv : Value} (hp : tmps.getD p undef = .pointer (some ⟨k, 0, none⟩)) (hl : FrmAt w k kind seq bv) :
    (results fn tmps).run Tryd.prog w = .ok (.tuple #[FrV kind seq bv, tmps.getD t undef]) w := by
  simp only [Array.getD_eq_getD_getElem?] at hp
  simp [results, h, hp, asAddr, hl.loadVar]
/-- the answer of Decode -/
abbrev DV (l : List Nat) (v : Value) : Value := .tuple #[FrV (decK l : Nat) (decS l : Nat) v, .int .i64 (decN l : Nat), .int .i64 (decE l : Nat)]
theorem dv_bad (l : List Nat) (e : Nat) (h : decE l = e) (he : e ≠ 0) : DV l (.slice none 0 0) = .tuple #[FrV 0 0 (.slice none 0 0), .int .i64 0, .int .i64 (e : Int)] ∧ decB l = [] := by
  have h1 : decE l ≠ 0 := by rw [h]; exact he
  refine ⟨?_, if_neg h1⟩
  show Value.tuple #[FrV (decK l : Nat) (decS l : Nat) _, .int .i64 (decN l : Nat), .int .i64 (decE l : Nat)] = _
  rw [show decK l = 0 from if_neg h1, show decS l = 0 from if_neg h1, show decN l = 0 from if_neg h1, h]
  rfl
theorem dv_none (l : List Nat) (v : Value) (e : Nat) (h : decE l = e) (he : e ≠ 0) : DV l v = .tuple #[FrV 0 0 v, .int .i64 0, .int .i64 (e : Int)] ∧ decB l = [] := by
  have h1 : decE l ≠ 0 := by rw [h]; exact he
  refine ⟨?_, if_neg h1⟩
  show Value.tuple #[FrV (decK l : Nat) (decS l : Nat) _, .int .i64 (decN l : Nat), .int .i64 (decE l : Nat)] = _
  rw [show decK l = 0 from if_neg h1, show decS l = 0 from if_neg h1, show decN l = 0 from if_neg h1, h]
  rfl
theorem dv_good (l : List Nat) (v : Value) (h : decE l = 0) : DV l v = .tuple #[FrV (pk l : Int) (ps l : Int) v, .int .i64 ((pn l : Int) + 20), .int .i64 0] ∧ decB l = (l.drop 16).take (pn l) := by
  refine ⟨?_, if_pos h⟩
  show Value.tuple #[FrV (decK l : Nat) (decS l : Nat) _, .int .i64 (decN l : Nat), .int .i64 (decE l : Nat)] = _
  rw [show decK l = pk l from if_pos h, show decS l = ps l from if_pos h, show decN l = pn l + 20 from if_pos h, h]
  rfl
theorem own_none (w : World) (base : Nat) : Own w base (.slice none 0 0) [] := ⟨by simp, rfl, .inl ⟨rfl, rfl⟩⟩
theorem own_heap {w : World} {base g m : Nat} {xs : List Value} (h : w.ownsRow base 5 1 (.slice (some ⟨g, 0, none⟩) m m) m xs) : w.heap[g]? = some (.cells xs.toArray 5 (0, 0)) := by
  rcases h.2 with ⟨h2, _⟩ | ⟨g', cap, cur, h3, h4, h5, h6, h7, h8, h9⟩
  · cases h2
  · cases h3
    have e1 : cur.toList = xs := by
      rw [← h9, List.take_of_length_le (by simp; omega)]
    rw [h5, ← e1]
theorem own_of_heap {w : World} {base g m : Nat} {xs : List Value} (hb : base ≤ g) (hm : m ≤ maxLen) (hl : xs.length = m) (h : w.heap[g]? = some (.cells xs.toArray 5 (0, 0))) : w.ownsRow base 5 1 (.slice (some ⟨g, 0, none⟩) m m) m xs :=
  ⟨by omega, .inr ⟨g, m, xs.toArray, rfl, hb, h, Nat.le_refl _, hm, by simp; omega, by rw [List.take_of_length_le (by simp; omega)]⟩⟩
theorem splice_whole {α : Type} (L cs : List α) (h : cs.length = L.length) : splice L 0 cs = cs := by
  unfold splice
  rw [Nat.zero_add, h, List.drop_of_length_le (Nat.le_refl _), List.take_zero, List.nil_append, List.append_nil]
theorem own_but {w w' : World} {base j g n m cap : Nat} {v : Value} {xs : List Value} (h : w.ownsRow base 5 1 v n xs) (hv : v = .slice (some ⟨g, 0, none⟩) m cap) (hh : ∀ k, k ≠ j → w'.heap[k]? = w.heap[k]?) (hj : j < g) : w'.ownsRow base 5 1 v n xs := by
  refine ⟨h.1, ?_⟩
  rcases h.2 with h2 | ⟨g', cap', cur, h3, h4, h5, h6⟩
  · exact .inl h2
  · have hg : g' = g := by rw [hv] at h3; cases h3; rfl
    subst hg
    exact .inr ⟨g', cap', cur, h3, h4, (hh g' (by omega)).trans h5, h6⟩
set_option maxRecDepth 20000 in
set_option maxHeartbeats 1000000 in
theorem fdec_any (l : List Nat) (n : Nat) (a : Option Addr) (cap : Nat) (w : World) (hn : l.length = n) (hb : Bytes w a l) (hl : l.length ≤ 281474976710656) (hcap : l.length ≤ cap) (ht : Tab w) :
    Calls Tryd.prog 14 #[.slice a n cap] w fun r w' => ∃ v, r = .returned (DV l v) ∧ Own w' w.heap.size v (decB l) ∧ Below w.heap.size w w' := by
  have HF0 : Hid (FrmAt (w.alloc (.cells #[.int .i64 0, .int .i64 0, .slice none 0 0] 32)) w.heap.size 0 0 (.slice none 0 0)) := FrmAt.new w 0 0 (.slice none 0 0)
  have HB0 : Hid (Below w.heap.size w (w.alloc (.cells #[.int .i64 0, .int .i64 0, .slice none 0 0] 32))) := (Below.refl _ _).alloc (Nat.le_refl _) _
  have HPK : Hid (∀ w1, Below w.heap.size w w1 → Calls Tryd.prog 21 #[.slice a n cap] w1 fun e w' => e = .returned (PV l) ∧ Below w1.heap.size w1 w') := fun w1 hb1 => peek_any l n a cap w1 hn (hb.keep hb1) hl hcap (ht.keep hb1)
  by_cases hp : peekE l = 0
  · obtain ⟨h16, h1, h2, h3, h4, h5, h6⟩ := peekE_zero hp
    have hne : l ≠ [] := by intro h; subst h; simp at h16
    obtain ⟨b, off, rfl, hlt, _⟩ := hb.nonempty hne
    have HPV : Hid (PV l = _) := pv_good l hp
    have HB : Hid (Bytes w (some ⟨b, off, none⟩) l) := hb
    have HT : Hid (Tab w) := ht
    obtain ⟨p, hpp⟩ : ∃ p, pn l = p := ⟨_, rfl⟩
    obtain ⟨s, hss⟩ : ∃ s, ps l = s := ⟨_, rfl⟩
    obtain ⟨k, hkk⟩ : ∃ k, pk l = k := ⟨_, rfl⟩
    rw [hpp, hss, hkk] at HPV
    rw [hpp] at h3
    by_cases hsz : l.length < pn l + 20
    · have HD : Hid (_ ∧ _) := dv_bad l 60 (by unfold decE; rw [if_neg (by omega), if_pos hsz]) (by decide)
      rw [hpp] at hsz
      rw [hn] at hsz
      have hszI : (n : Int) < (p : Int) + 20 := by omega
      clear hb ht hcap hl hn h1 h2 h4 h5 h6 hne hp hsz hpp hss hkk h16
      go_enter Tryd.func14, Tryd.ntmps14
      go_wp2_with (first
        | (go_at_call 21; refine (HPK.out _ HB0.out).mono ?_; rw [HPV.out]; rintro r w1 ⟨rfl, hb1⟩; have HF1 : Hid (FrmAt w1 w.heap.size 0 0 (.slice none 0 0)) := HF0.out.keep hb1; have HB1 : Hid (Below w.heap.size w w1) := HB0.out.trans (hb1.mono (by simp)); clear hb1)
        | ((with_reducible refine frm_store 32 ?_); refine wpList_store_frm rfl _ _ rfl rfl HF1.out rfl rfl rfl ?_; intro w2 hf2 ho2 hh2 hs2; have HF2 : Hid (FrmAt w2 w.heap.size 0 0 (.slice none 0 0)) := hf2; have HB2 : Hid (Below w.heap.size w w2) := below_one HB1.out ho2 hh2 hs2 (Nat.le_refl _); clear hf2 ho2 hh2 hs2))
      refine bodyPost_ret (results_frm3 rfl _ _ w.heap.size rfl HF2.out) rfl ⟨.slice none 0 0, by rw [HD.out.1]; rfl, by rw [HD.out.2]; exact own_none _ _, HB2.out⟩
    · obtain ⟨q, hq⟩ : ∃ q, p + 20 = q := ⟨_, rfl⟩
      have hlq : q ≤ n := by rw [← hn]; omega
      have HL4 : Hid (((l.take (pn l + 20)).drop 16).length = p + 4) := by show _ = _; rw [List.length_drop, List.length_take]; omega
      have HLM : Hid (((l.take (pn l + 20)).drop 16).length ≤ maxLen) := by show _ ≤ _; rw [HL4.out]; unfold maxLen; omega
      have HLC : Hid (((l.take (pn l + 20)).drop 16).length ≤ cap - 16) := by show _ ≤ _; rw [HL4.out]; omega
      have HBc : Hid (∀ w1, Below w.heap.size w w1 → Bytes w1 (some ⟨b, off + 16, none⟩) ((l.take (pn l + 20)).drop 16)) := fun w1 hb1 => ((hb.keep hb1).take (pn l + 20)).drop 16
      rw [show (p : Int) + 20 = (q : Int) from by omega] at HPV
      have hqI : ¬ (n : Int) < (q : Int) := by omega
      have hq16 : q - 16 = p + 4 := by omega
      have hqc : (q : Int) ≤ (cap : Int) := by omega
      have hq1 : (16 : Int) ≤ (q : Int) := by omega
      have hqn : ¬ cap = 16 := by omega
      have hqp : (q : Int) - 16 - 4 = (p : Int) := by omega
      have hnI : (n : Int) ≤ 281474976710656 := by omega
      have hnc : n ≤ cap := by omega
      have h16n : 16 ≤ n := by omega
      by_cases hcl : closedB ((l.take (pn l + 20)).drop 16) = false
      · have HD : Hid (_ ∧ _) := dv_bad l 62 (by unfold decE; rw [if_neg (by omega), if_neg hsz, if_pos hcl]) (by decide)
        have HCL : Hid (_ = false) := hcl
        clear hb ht hcap hl hn h1 h2 h4 h5 h6 hne hp hsz hpp hss hkk h16 hcl
        go_enter Tryd.func14, Tryd.ntmps14
        go_wp2_with (first
          | (go_at_call 21; refine (HPK.out _ HB0.out).mono ?_; rw [HPV.out]; rintro r w1 ⟨rfl, hb1⟩; have HF1 : Hid (FrmAt w1 w.heap.size 0 0 (.slice none 0 0)) := HF0.out.keep hb1; have HB1 : Hid (Below w.heap.size w w1) := HB0.out.trans (hb1.mono (by simp)); clear hb1)
          | (go_at_call 22; refine (closed_any ((l.take (pn l + 20)).drop 16) _ _ _ _ HL4.out (HBc.out _ HB1.out) HLM.out HLC.out (HT.out.keep HB1.out)).mono ?_; rw [HCL.out]; rintro r w3 ⟨rfl, hb3⟩; have HF3 : Hid (FrmAt w3 w.heap.size 0 0 (.slice none 0 0)) := HF1.out.keep hb3; have HB3 : Hid (Below w.heap.size w w3) := below_next HB1.out hb3; clear hb3)
          | ((with_reducible refine frm_store 32 ?_); refine wpList_store_frm rfl _ _ rfl rfl HF3.out rfl rfl rfl ?_; intro w2 hf2 ho2 hh2 hs2; have HF2 : Hid (FrmAt w2 w.heap.size _ _ _) := hf2; have HB2 : Hid (Below w.heap.size w w2) := below_one HB3.out ho2 hh2 hs2 (Nat.le_refl _); clear hf2 ho2 hh2 hs2))
        refine bodyPost_ret (results_frm3 rfl _ _ w.heap.size rfl HF2.out) rfl ⟨.slice none 0 0, by rw [HD.out.1]; rfl, by rw [HD.out.2]; exact own_none _ _, HB2.out⟩
      · obtain ⟨i0, hi, hz0, hz1, hz2⟩ := info_parts Tryd.info5f
        have HD : Hid (∀ v, _ ∧ _) := fun v => dv_good l v (by unfold decE; rw [if_neg (by omega), if_neg hsz, if_neg hcl])
        have HCL : Hid (closedB ((l.take (pn l + 20)).drop 16) = true) := by show _ = _; simpa using hcl
        rw [hpp, hss, hkk] at HD
        have HBD : Hid (((l.drop 16).take p).length = p) := by show _ = _; rw [List.length_take, List.length_drop]; omega
        have HBB : Hid (∀ w1, Below w.heap.size w w1 → Bytes w1 (some ⟨b, off + 16, none⟩) ((l.drop 16).take p)) := fun w1 hb1 => ((hb.keep hb1).drop 16).take p
        have HBY : Hid (∀ i, ((l.drop 16).take p).getD i 0 < 256) := fun i => (HBB.out w (Below.refl _ _)).1 i
        have hpm : p ≤ maxLen := by unfold maxLen; omega
        have hqz : (p : Int) + 20 = (q : Int) := by omega
        have HQZ : Hid ((p : Int) + 20 = (q : Int)) := hqz
        clear hb ht hcap hl hn h1 h2 h4 h5 h6 hne hp hsz hpp hss hkk h16 hcl hqz
        go_enter Tryd.func14, Tryd.ntmps14
        go_wp2_with (first
          | (go_at_call 21; refine (HPK.out _ HB0.out).mono ?_; rw [HPV.out]; rintro r w1 ⟨rfl, hb1⟩; have HF1 : Hid (FrmAt w1 w.heap.size 0 0 (.slice none 0 0)) := HF0.out.keep hb1; have HB1 : Hid (Below w.heap.size w w1) := HB0.out.trans (hb1.mono (by simp)); clear hb1)
          | (go_at_call 22; refine (closed_any ((l.take (pn l + 20)).drop 16) _ _ _ _ HL4.out (HBc.out _ HB1.out) HLM.out HLC.out (HT.out.keep HB1.out)).mono ?_; rw [HCL.out]; rintro r w3 ⟨rfl, hb3⟩; have HF3 : Hid (FrmAt w3 w.heap.size 0 0 (.slice none 0 0)) := HF1.out.keep hb3; have HB3 : Hid (Below w.heap.size w w3) := below_next HB1.out hb3; clear hb3)
          | (at_make; refine wpList_make_full _ rfl _ _ 22 rfl w3.heap.size 5 i0 (.int .u8 0) 1 Tryd.underlying22 hi hz0 hz1 _ _ _ _ p rfl rfl (by omega) (by omega) (by rw [hz2]; omega) hpm (Nat.le_refl _) ?_; intro w4 ho4 hg4; rw [show (p * 1) = p from Nat.mul_one p, show (Value.int IntKind.u8 0).cells = #[.int .u8 0] from rfl, toList_madeCells_one] at ho4; have hb4 : Below w3.heap.size w3 w4 := (Below.refl _ _).grown hg4 (Nat.le_refl _) (fun k hk => by cases hk); have HF4 : Hid (FrmAt w4 w.heap.size 0 0 (.slice none 0 0)) := HF3.out.keep hb4; have HB4 : Hid (Below w.heap.size w w4) := below_next HB3.out hb4; have HO4 : Hid (_) := own_heap ho4; have HS3 : Hid (w.heap.size < w3.heap.size) := lt_of_heap HF3.out; clear ho4 hg4 hb4)
          | ((with_reducible refine at_copy ?_); refine wpList_copy_splice rfl _ _ _ _ rfl 5 Tryd.underlying22 Tryd.info5s _ _ _ _ _ _ rfl rfl w3.heap.size 0 _ 5 HO4.out (B8 ((l.drop 16).take p)) (by rw [B8_length, HBD.out]; simp only [Nat.mul_one]; exact (Nat.min_eq_right (by omega)).symm) (fun _ => ⟨rfl, _, rfl, bytes_cells (HBB.out w4 HB4.out)⟩) (by rw [B8_length, HBD.out]; simp) (B8_one _) w3.heap.size w4 (Below.refl _ _) (Nat.le_refl _) ?_; intro w5 hg5 hb5; have HO5 : Hid (Own w5 w.heap.size (.slice (some ⟨w3.heap.size, 0, none⟩) p p) ((l.drop 16).take p)) := ⟨HBY.out, by rw [HBD.out]; refine own_of_heap (Nat.le_of_lt HS3.out) hpm (by rw [B8_length, HBD.out]; simp) ?_; rw [hg5.out, splice_whole _ _ (by rw [List.length_replicate, B8_length, HBD.out, Nat.mul_one])]⟩; have HB5 : Hid (Below w.heap.size w w5) := HB4.out.trans (hb5.mono (Nat.le_of_lt HS3.out)); have HF5 : Hid (FrmAt w5 w.heap.size 0 0 (.slice none 0 0)) := (hb5.block w.heap.size HS3.out).trans HF4.out; clear hg5 hb5 HO4)
          | ((with_reducible refine frm_store 32 ?_); refine wpList_store_frm rfl _ _ rfl rfl HF5.out rfl rfl rfl ?_; intro w2 hf2 ho2 hh2 hs2; have HF2 : Hid (FrmAt w2 w.heap.size _ _ _) := hf2; have HB2 : Hid (Below w.heap.size w w2) := below_one HB5.out ho2 hh2 hs2 (Nat.le_refl _); have HO2 : Hid (Own w2 w.heap.size (.slice (some ⟨w3.heap.size, 0, none⟩) p p) ((l.drop 16).take p)) := ⟨HO5.out.1, own_but HO5.out.2 rfl hh2 HS3.out⟩; clear hf2 ho2 hh2 hs2))
        refine bodyPost_ret (results_frm3 rfl _ _ w.heap.size rfl HF2.out) rfl ⟨.slice (some ⟨w3.heap.size, 0, none⟩) p p, by rw [(HD.out _).1, HQZ.out]; rfl, by rw [(HD.out (.slice none 0 0)).2]; exact HO2.out, HB2.out⟩
  · obtain ⟨e, he⟩ : ∃ e, peekE l = e := ⟨_, rfl⟩
    have HPV : Hid (PV l = _) := pv_bad l e he (by omega)
    have HD : Hid (_ ∧ _) := dv_bad l e (by unfold decE; rw [if_pos hp, he]) (by omega)
    have heI : ((e : Int) != 0) = true := by simp; omega
    clear hb ht hcap hl hn hp he
    go_enter Tryd.func14, Tryd.ntmps14
    go_wp2_with (first
      | (go_at_call 21; refine (HPK.out _ HB0.out).mono ?_; rw [HPV.out]; rintro r w1 ⟨rfl, hb1⟩; have HF1 : Hid (FrmAt w1 w.heap.size 0 0 (.slice none 0 0)) := HF0.out.keep hb1; have HB1 : Hid (Below w.heap.size w w1) := HB0.out.trans (hb1.mono (by simp)); clear hb1)
      | ((with_reducible refine frm_store 32 ?_); refine wpList_store_frm rfl _ _ rfl rfl HF1.out rfl rfl rfl ?_; intro w2 hf2 ho2 hh2 hs2; have HF2 : Hid (FrmAt w2 w.heap.size _ _ _) := hf2; have HB2 : Hid (Below w.heap.size w w2) := below_one HB1.out ho2 hh2 hs2 (Nat.le_refl _); clear hf2 ho2 hh2 hs2))
    refine bodyPost_ret (results_frm3 rfl _ _ w.heap.size rfl HF2.out) rfl ⟨.slice none 0 0, by rw [HD.out.1]; rfl, by rw [HD.out.2]; exact own_none _ _, HB2.out⟩
end Go.Proofs.YtpjikkhcimghaaaDoor
