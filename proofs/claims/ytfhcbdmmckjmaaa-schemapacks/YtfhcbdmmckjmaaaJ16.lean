/- Own texts, joined: Apn, Apb, Sd9, Adde. -/
import Derived.Test.YtfhcbdmmckjmaaaJ01
import Derived.Deep.AppendLies
import Derived.Laws.AppendOwnNone
import Derived.Test.YtfhcbdmmckjmaaaJ12
import Derived.Test.YtfhcbdmmckjmaaaJ15
import Derived.Test.YtfhcbdmmckjmaaaJ11
namespace Go.Proofs.Ytfhcbdmmckjmaaa
open Go.ChangeShapes Go.WideShapes Go.ChangeAt Go.RowKit
set_option linter.unusedVariables false
theorem grownBy_refl (w : World) (r : Option Nat) : w.grownBy w r := ⟨rfl, rfl, rfl, Nat.le_refl _, fun _ _ _ => rfl⟩
theorem run_append_any {P : Program} (w : World) (t ty : TypeId) (base : Nat) (i : TypeInfo) (ht : P.underlying t = some (.slice 5)) (hi : P.info? 5 = some i) (hz : i.zero = some (.int .u8 0)) (hsize : i.size = 1) (hby : i.bytes = 1)
    (v : Value) (n : Nat) (xs : List Value) (hown : w.ownsRow base 5 1 v n xs) (hn : 0 < n) (xa : Option Addr) (m c : Nat) (l : List Nat) (hl : l.length = m) (hb : Bytes w xa l) (hc : xa = none → c = 0)
    (h63 : n + m ≤ 140737488355328) (hbase : base ≤ w.heap.size) :
    ∃ g cap w', (Builtin.append_ #[t, t] ty #[v, .slice xa m c]).run P w = .ok (.slice (some ⟨g, 0, none⟩) (n + m) cap) w' ∧
      w'.ownsRow base 5 1 (.slice (some ⟨g, 0, none⟩) (n + m) cap) (n + m) (xs ++ B8 l) ∧ w.grownBy w' v.ownBlock := by
  subst hl
  cases xa with
  | none =>
    obtain rfl := hc rfl
    have hl0 : l = [] := by
      rcases hb.2 with h | ⟨b, off, h, _⟩
      · exact h
      · cases h
    subst hl0
    obtain ⟨g, cap, rfl, _⟩ := hown.form hn
    exact ⟨g, cap, w, run_append_owned_none (P := P) (w := w) base t ty 5 i 1 ht hi _ n xs hown, by simpa [B8] using hown, grownBy_refl _ _⟩
  | some ad =>
    obtain ⟨v', w', hr, h2, h3, _, h5⟩ := run_append_own_at (P := P) w base t ty 5 i (.int .u8 0) 1 1 ht hi hz hsize hby rfl (by decide) v n xs hown ad l.length c (B8 l) (B8_length l) (bytes_cells hb) (B8_one l) (by unfold maxLen; omega) (by omega) hbase
    obtain ⟨g, cap, rfl, _⟩ := h2.form (by omega)
    exact ⟨g, cap, w', hr, h2, h3⟩
theorem wp_append_any {P : Program} (w : World) {o : Oper} {a : Act} {K : Act → World → Prop} {Q : Exit → Act → World → Prop} (s x : Operand) (t : TypeId)
    (ho : o.op = .call { callee := .builtin .append, args := #[s, x], argTypes := #[t, t] })
    (base : Nat) (i : TypeInfo) (ht : P.underlying t = some (.slice 5)) (hi : P.info? 5 = some i) (hz : i.zero = some (.int .u8 0)) (hsize : i.size = 1) (hby : i.bytes = 1)
    (v : Value) (n : Nat) (xs : List Value) (hs : a.eval s = v) (hown : w.ownsRow base 5 1 v n xs) (hn : 0 < n) (xa : Option Addr) (m c : Nat) (l : List Nat) (hx : a.eval x = .slice xa m c) (hl : l.length = m) (hb : Bytes w xa l) (hc : xa = none → c = 0)
    (h63 : n + m ≤ 140737488355328) (hbase : base ≤ w.heap.size)
    (h : ∀ g cap w', w'.ownsRow base 5 1 (.slice (some ⟨g, 0, none⟩) (n + m) cap) (n + m) (xs ++ B8 l) → w.grownBy w' v.ownBlock → K (a.put o.dst (.slice (some ⟨g, 0, none⟩) (n + m) cap)) w') : Oper.wp P o a w K Q := by
  obtain ⟨g, cap, w', hr, h2, h3⟩ := run_append_any (P := P) w t o.type base i ht hi hz hsize hby v n xs hown hn xa m c l hl hb hc h63 hbase
  unfold Oper.wp
  simp [execOp, ho, resolve, invoke, builtin, hs, hx, hr, Result.andThen]
  exact h g cap w' h2 h3
theorem wpList_append_any {P : Program} (w : World) {ops : Array Oper} {rest : List Oper} {o : Oper} {a : Act} {Q : Exit → Act → World → Prop} (hgd : o.guard = none) (s x : Operand) (t : TypeId)
    (ho : o.op = .call { callee := .builtin .append, args := #[s, x], argTypes := #[t, t] })
    (base : Nat) (i : TypeInfo) (ht : P.underlying t = some (.slice 5)) (hi : P.info? 5 = some i) (hz : i.zero = some (.int .u8 0)) (hsize : i.size = 1) (hby : i.bytes = 1)
    (v : Value) (n : Nat) (xs : List Value) (hs : a.eval s = v) (hown : w.ownsRow base 5 1 v n xs) (hn : 0 < n) (xa : Option Addr) (m c : Nat) (l : List Nat) (hx : a.eval x = .slice xa m c) (hl : l.length = m) (hb : Bytes w xa l) (hc : xa = none → c = 0)
    (h63 : n + m ≤ 140737488355328) (hbase : base ≤ w.heap.size)
    (h : ∀ g cap w', w'.ownsRow base 5 1 (.slice (some ⟨g, 0, none⟩) (n + m) cap) (n + m) (xs ++ B8 l) → w.grownBy w' v.ownBlock → wpList P ops Q rest (a.put o.dst (.slice (some ⟨g, 0, none⟩) (n + m) cap)) w') : wpList P ops Q (o :: rest) a w :=
  wpList_plain hgd fun K hK => wp_append_any w s x t ho base i ht hi hz hsize hby v n xs hs hown hn xa m c l hx hl hb hc h63 hbase (fun g cap w' h1 h2 => hK _ _ (h g cap w' h1 h2))
theorem step_append_any {P : Program} (w : World) {ops : Array Oper} {o : Oper} {a : Act} {K : Act → World → Prop} {Q : Exit → Act → World → Prop} {E : Prop} (hgd : o.guard = none) (s x : Operand) (t : TypeId)
    (ho : o.op = .call { callee := .builtin .append, args := #[s, x], argTypes := #[t, t] })
    (base : Nat) (i : TypeInfo) (ht : P.underlying t = some (.slice 5)) (hi : P.info? 5 = some i) (hz : i.zero = some (.int .u8 0)) (hsize : i.size = 1) (hby : i.bytes = 1)
    (v : Value) (n : Nat) (xs : List Value) (hs : a.eval s = v) (hown : w.ownsRow base 5 1 v n xs) (hn : 0 < n) (xa : Option Addr) (m c : Nat) (l : List Nat) (hx : a.eval x = .slice xa m c) (hl : l.length = m) (hb : Bytes w xa l) (hc : xa = none → c = 0)
    (h63 : n + m ≤ 140737488355328) (hbase : base ≤ w.heap.size)
    (h : ∀ g cap w', w'.ownsRow base 5 1 (.slice (some ⟨g, 0, none⟩) (n + m) cap) (n + m) (xs ++ B8 l) → w.grownBy w' v.ownBlock → K (a.put o.dst (.slice (some ⟨g, 0, none⟩) (n + m) cap)) w') :
    if Region.wanted o (yielded ops a.tmps) = true then Oper.wp P o a w K Q else E := by
  have hw : Region.wanted o (yielded ops a.tmps) = true := by simp [Region.wanted, hgd]
  rw [if_pos hw]
  exact wp_append_any w s x t ho base i ht hi hz hsize hby v n xs hs hown hn xa m c l hx hl hb hc h63 hbase h
end Go.Proofs.Ytfhcbdmmckjmaaa
namespace Go.Proofs.Ytfhcbdmmckjmaaa
open Go.ChangeShapes Go.WideShapes Go.ChangeAt Go.RowKit
set_option linter.unusedVariables false
theorem wpList_append_b {P : Program} {w : World} {ops : Array Oper} {rest : List Oper} {o : Oper} {a : Act} {Q : Exit → Act → World → Prop} (hgd : o.guard = none) (s x : Operand) (t : TypeId)
    (ho : o.op = .call { callee := .builtin .append, args := #[s, x], argTypes := #[t, t] })
    (base : Nat) (i : TypeInfo) (ht : P.underlying t = some (.slice 5)) (hi : P.info? 5 = some i) (hz : i.zero = some (.int .u8 0)) (hsize : i.size = 1) (hby : i.bytes = 1)
    (v : Value) (n : Nat) (xs : List Value) (hs : a.eval s = v) (hown : w.ownsRow base 5 1 v n xs) (xa : Option Addr) (m c : Nat) (l : List Nat) (hx : a.eval x = .slice xa m c) (hl : l.length = m) (hb : Bytes w xa l) (hc : xa = none → c = 0)
    (h63 : n + m ≤ 140737488355328) (hbase : base ≤ w.heap.size)
    (h : ∀ v' w', w'.ownsRow base 5 1 v' (n + m) (xs ++ B8 l) → w.grownBy w' v.ownBlock → wpList P ops Q rest (a.put o.dst v') w') : wpList P ops Q (o :: rest) a w := by
  cases xa with
  | none =>
    have hl0 : l = [] := by
      rcases hb.2 with h | ⟨b, off, h, _⟩
      · exact h
      · cases h
    subst hl0
    have hm0 : m = 0 := by simpa using hl.symm
    subst hm0
    have hc0 := hc rfl
    subst hc0
    exact wpList_append_own_none hgd s x t ho base 5 i 1 ht hi v n xs hs hown hx (h v w (by simpa [B8] using hown) ⟨rfl, rfl, rfl, Nat.le_refl _, fun _ _ _ => rfl⟩)
  | some ad =>
    rcases hb.2 with hl0 | ⟨b, off, he, hlt, hcell⟩
    · subst hl0
      have hm0 : m = 0 := by simpa using hl.symm
      subst hm0
      exact wpList_append_own w hgd s x t ho base 5 i (.int .u8 0) 1 1 ht hi hz hsize hby rfl (by decide) v n xs hs hown ad 0 c [] hx rfl (fun j u hj => by simp at hj) (fun u hu => by cases hu) (by unfold maxLen; omega) (by omega) hbase (fun v' w' h1 h2 _ => h v' w' (by simpa [B8] using h1) h2)
    · cases he
      exact wpList_append_own w hgd s x t ho base 5 i (.int .u8 0) 1 1 ht hi hz hsize hby rfl (by decide) v n xs hs hown ⟨b, off, none⟩ m c (B8 l) hx (by rw [B8_length, hl, Nat.mul_one]) (bytes_cells hb) (B8_one _) (by unfold maxLen; omega) (by omega) hbase (fun v' w' h1 h2 _ => h v' w' h1 h2)
end Go.Proofs.Ytfhcbdmmckjmaaa
namespace Go.Proofs.Ytfhcbdmmckjmaaa
open Go.ChangeShapes Go.WideShapes Go.ChangeAt Go.RowKit
set_option linter.unusedVariables false
theorem lt_all {l : List Nat} (h : ∀ i, l.getD i 0 < 256) : ∀ x ∈ l, x < 256 := by
  intro x hx
  obtain ⟨i, hi, rfl⟩ := List.mem_iff_getElem.1 hx
  have := h i
  simpa [List.getD_eq_getElem?_getD, hi] using this
theorem lt_getD {l : List Nat} (h : ∀ x ∈ l, x < 256) : ∀ i, l.getD i 0 < 256 := by
  intro i
  rw [List.getD_eq_getElem?_getD]
  rcases hx : l[i]? with _ | x
  · decide
  · exact h x (List.mem_of_getElem? hx)
/-- what schema.Pack answers -/
def spk (v : Int) (E : Ev) : List Nat × Int := if chk v E ≠ 0 then ([], chk v E) else (enc v.toNat ++ ones (efs v E), 0)
def SpkPost (w : World) (v : Int) (E : Ev) (r : Ending) (w' : World) : Prop := ∃ v', r = .returned (.tuple #[v', .int .i64 (spk v E).2]) ∧ Own w' w.heap.size v' (spk v E).1 ∧ Below w.heap.size w w'
set_option maxRecDepth 20000 in
set_option maxHeartbeats 1000000 in
theorem spack_no (v : Int) (E : Ev) (w : World) (hc : chk v E ≠ 0) : Calls Try.prog 19 #[.int .i64 v, .agg (evA E)] w fun r w' => r = .returned (.tuple #[.slice none 0 0, .int .i64 (chk v E)]) ∧ Below w.heap.size w w' := by
  have e1 : senc v E = ([], chk v E) := if_pos hc
  obtain ⟨c, hC⟩ : ∃ c, chk v E = c := ⟨_, rfl⟩
  rw [hC] at hc e1 ⊢
  have HC : Hid (_) := e1
  have hcb : (c != 0) = true := by simpa using hc
  clear hC e1
  have HA : Hid (EvAt (w.alloc (.cells (evA E) 24)) w.heap.size E) := evAt_new w E
  have HAB : Hid (Below w.heap.size w (w.alloc (.cells (evA E) 24))) := (Below.refl _ _).alloc (Nat.le_refl _) _
  go_enter Try.func19, Try.ntmps19
  go_wp2_with (first
    | ((with_reducible refine guard_load 24 ?_); refine wpList_load_ev rfl _ rfl HA.out rfl ?_)
    | (go_at_call 13; refine (sencode_any v E _).mono ?_; unfold SencPost; rw [HC.out]; rintro _ w1 ⟨v1, rfl, ho1, hb1⟩; have HB1 : Hid (Below w.heap.size w w1) := below_next HAB.out hb1; clear hb1 ho1))
  go_ret2
  exact ⟨rfl, HB1.out⟩
set_option maxRecDepth 20000 in
set_option maxHeartbeats 1000000 in
theorem spack_yes (V : Nat) (E : Ev) (w : World) (hc : chk V E = 0) (hv : V ≤ 5) : Calls Try.prog 19 #[.int .i64 (V : Int), .agg (evA E)] w fun r w' => ∃ v', r = .returned (.tuple #[v', .int .i64 0]) ∧ Own w' w.heap.size v' (enc V ++ ones (efs V E)) ∧ Below w.heap.size w w' := by
  obtain ⟨i0, hi, hz0, hz1, hz2⟩ := info_parts Try.info5
  have hw := wrapN (k := V) (by omega)
  have e1 : senc V E = (ones (efs V E), 0) := if_neg (by simp [hc])
  have HC : Hid (_) := e1
  have HEL : Hid ((ones (efs V E)).length ≤ 1024) := by
    have h1 := encs_pre _ _ _ _ (efs_encs (right_of hc))
    exact h1.2
  have HV : Hid (V ≤ 18446744073709551615) := by show _ ≤ _; omega
  have HLV : Hid ((enc V).length ≤ 10) := (enc_length_le V (by omega)).2
  clear hc hv e1
  have HA : Hid (EvAt (w.alloc (.cells (evA E) 24)) w.heap.size E) := evAt_new w E
  have HAB : Hid (Below w.heap.size w (w.alloc (.cells (evA E) 24))) := (Below.refl _ _).alloc (Nat.le_refl _) _
  go_enter Try.func19, Try.ntmps19
  go_wp2_with (first
    | ((with_reducible refine guard_load 24 ?_); refine wpList_load_ev rfl _ rfl HA.out rfl ?_)
    | (go_at_call 13; refine (sencode_any V E _).mono ?_; unfold SencPost; rw [HC.out]; rintro _ w1 ⟨v1, rfl, ho1, hb1⟩; have hB1 : Below w.heap.size w w1 := below_next HAB.out hb1; have HO1 : Hid (Own w1 w.heap.size v1 (ones (efs V E))) := ⟨ho1.1, ho1.2.mono HAB.out.size⟩; have HB1 : Hid (Below w.heap.size w w1) := hB1; clear hb1 ho1 hB1)
    | (go_at_call 40; refine (encode_any V _ HV.out).mono ?_; rintro _ w2 ⟨v2, rfl, ho2, hb2⟩; have HO2 : Hid (Own w2 w.heap.size v2 (enc V)) := ⟨ho2.1, ho2.2.mono HB1.out.size⟩; have HP2 : Hid (Own w2 w.heap.size v1 (ones (efs V E))) := own_app HO1.out hb2; have HB2 : Hid (Below w.heap.size w w2) := below_next HB1.out hb2; clear hb2 ho2; obtain ⟨xa, xc, hv1, _, _, hxb, hxs⟩ := HP2.out.shape; subst hv1; have HXB : Hid (_) := hxb; have HXC : Hid (xa = none → xc = 0) := (fun h => by rcases hxs with ⟨_, _, h3⟩ | ⟨g, h3, _⟩; exact h3; rw [h] at h3; cases h3); clear hxb hxs)
    | (at_builtin; refine wpList_append_b rfl _ _ 30 rfl w.heap.size i0 Try.underlying30 hi hz0 hz1 hz2 v2 _ _ rfl HO2.out.2 xa _ xc (ones (efs V E)) rfl rfl HXB.out HXC.out (by have := HEL.out; have := HLV.out; omega) HB2.out.size ?_; intro v3 w3 ho3 hg3; have HO3 : Hid (_) := ho3; have HB3 : Hid (Below w.heap.size w w3) := grown_row HB2.out HO2.out.2 HB2.out.size hg3; clear ho3 hg3))
  go_ret2
  refine ⟨_, rfl, ⟨lt_getD (fun x hx => ?_), ?_⟩, HB3.out⟩
  · rcases List.mem_append.1 hx with h | h
    · exact lt_all HO2.out.1 x h
    · exact lt_all HP2.out.1 x h
  · have h3 := HO3.out
    rw [← B8_append, ← List.length_append] at h3
    exact h3
theorem spack_any (v : Int) (E : Ev) (w : World) : Calls Try.prog 19 #[.int .i64 v, .agg (evA E)] w fun r w' => SpkPost w v E r w' := by
  by_cases hc : chk v E = 0
  · have hr := right_of hc
    obtain ⟨V, rfl⟩ := Int.eq_ofNat_of_zero_le (by have := hr.v1; omega : 0 ≤ v)
    have e1 : spk V E = (enc V ++ ones (efs V E), 0) := if_neg (by simp [hc])
    refine (spack_yes V E w hc (by have := hr.v5; omega)).mono ?_
    rintro r w' ⟨v', h1, h2, h3⟩
    exact ⟨v', by rw [e1]; exact h1, by rw [e1]; exact h2, h3⟩
  · have e1 : spk v E = ([], chk v E) := if_pos hc
    refine (spack_no v E w hc).mono ?_
    rintro r w' ⟨h1, h3⟩
    exact ⟨_, by rw [e1]; exact h1, by rw [e1]; exact ⟨by simp, World.ownsRow_nil _ _ _ 1⟩, h3⟩
theorem step_load_ev {ops : Array Oper} {o : Oper} {a : Act} {w : World} {K : Act → World → Prop} {Q : Exit → Act → World → Prop} {X : Prop} (hg : o.guard = none) (x : Operand) (ho : o.op = .load 24 x)
    {b : Nat} {e : Ev} (hL : EvAt w b e) (hx : a.eval x = .pointer (some ⟨b, 0, none⟩)) (hK : K (a.put o.dst (.agg (evA e))) w) :
    if Region.wanted o (yielded ops a.tmps) = true then Oper.wp Try.prog o a w K Q else X := by
  have hw : Region.wanted o (yielded ops a.tmps) = true := by simp [Region.wanted, hg]
  rw [if_pos hw]
  unfold Oper.wp execOp
  simp only [ho, hx, Sem.run_bind, Sem.run_pure, Result.andThen_ok, hL.load]
  exact hK
theorem step_store_ev {ops : Array Oper} {o : Oper} {a : Act} {w : World} {K : Act → World → Prop} {Q : Exit → Act → World → Prop} {X : Prop} (hg : o.guard = none) (x y : Operand) (ho : o.op = .store 24 x y)
    {b : Nat} {e e2 : Ev} (hL : EvAt w b e) (hx : a.eval x = .pointer (some ⟨b, 0, none⟩)) (hy : a.eval y = .agg (evA e2))
    (hK : ∀ w2, EvAt w2 b e2 → (∀ B a, Below B a w → B ≤ b → Below B a w2) → K (a.put o.dst undef) w2) :
    if Region.wanted o (yielded ops a.tmps) = true then Oper.wp Try.prog o a w K Q else X := by
  have hw : Region.wanted o (yielded ops a.tmps) = true := by simp [Region.wanted, hg]
  rw [if_pos hw]
  obtain ⟨w2, h1, h2, h3, _, _⟩ := hL.store e2
  unfold Oper.wp execOp
  simp only [ho, hx, hy, Sem.run_bind, Sem.run_pure, Result.andThen_ok, h1]
  exact hK w2 h2 h3
/-- what schema.Unpack answers -/
def sunp (l : List Nat) : Int × Ev × Int :=
  if (dec 0 0 l).2.2 ≠ 0 then (0, zeroE, (dec 0 0 l).2.2)
  else if (sdec (capN (dec 0 0 l).1) (l.drop (dec 0 0 l).2.1)).2 ≠ 0 then (0, zeroE, (sdec (capN (dec 0 0 l).1) (l.drop (dec 0 0 l).2.1)).2)
  else (capN (dec 0 0 l).1, (sdec (capN (dec 0 0 l).1) (l.drop (dec 0 0 l).2.1)).1, 0)
theorem results_ev3 {fn : Func} {p t u : Tmp} (h : fn.results = #[.tmp t, .cell p 24, .tmp u]) (tmps : Array Value) (w : World) (b : Nat) (e : Ev) (x y : Value) (ht : tmps.getD t undef = x) (hp : tmps.getD p undef = .pointer (some ⟨b, 0, none⟩)) (hx : tmps.getD u undef = y) (hl : EvAt w b e) :
    (results fn tmps).run Try.prog w = .ok (.tuple #[x, .agg (evA e), y]) w := by
  simp only [Array.getD_eq_getD_getElem?] at hp ht hx
  simp [results, h, hp, ht, hx, asAddr, hl.loadVar]
theorem dec_nn (l : List Nat) (a : Option Addr) (n cap : Nat) (w : World) (hn : l.length = n) (hb : Bytes w a l) (hl : n ≤ maxLen) :
    Calls Try.prog 42 #[.slice a n cap] w fun e w' => e = .returned (.tuple #[.int .u64 ((dec 0 0 l).1 : Int), .int .i64 ((dec 0 0 l).2.1 : Int), .int .i64 ((dec 0 0 l).2.2 : Int)]) ∧ w = w' := by
  subst hn
  exact dec_any l a cap w hb hl
set_option maxRecDepth 20000 in
set_option maxHeartbeats 1000000 in
theorem sunp_any (l : List Nat) (a : Option Addr) (n cap : Nat) (w : World) (hn : l.length = n) (hb : Bytes w a l) (hcap : n ≤ cap) (hm : n ≤ maxLen) :
    Calls Try.prog 21 #[.slice a n cap] w fun r w' => r = .returned (.tuple #[.int .i64 (sunp l).1, .agg (evA (sunp l).2.1), .int .i64 (sunp l).2.2]) ∧ Below w.heap.size w w' := by
  have hl := lt_all hb.1
  have HN : Hid (_) := hn
  have HA : Hid (EvAt (w.alloc (.cells (evA zeroE) 24)) w.heap.size zeroE) := evAt_new w zeroE
  have hAB : Below w.heap.size w (w.alloc (.cells (evA zeroE) 24)) := (Below.refl _ _).alloc (Nat.le_refl _) _
  have HAB : Hid (Below w.heap.size w (w.alloc (.cells (evA zeroE) 24))) := hAB
  have HBY : Hid (Bytes (w.alloc (.cells (evA zeroE) 24)) a l) := hb.keep hAB
  have HLT : Hid (w.heap.size < (w.alloc (.cells (evA zeroE) 24)).heap.size) := by show _ < _; simp
  rcases hd : dec 0 0 l with ⟨u, sz, e⟩
  have HD : Hid (_) := hd
  by_cases he : e = 0
  · subst he
    have hf := vdec_form l hl (by rw [hd])
    rw [hd] at hf
    obtain ⟨_, hsz, _, _, _⟩ := hf
    simp only at hsz
    have hszn : sz ≤ n := by omega
    obtain ⟨E, c, hEc⟩ : ∃ E c, sdec (capN u) (l.drop sz) = (E, c) := ⟨_, _, rfl⟩
    have HE : Hid (_) := hEc
    have HSU : Hid (sunp l = if c ≠ 0 then (0, zeroE, c) else (capN u, E, 0)) := by
      show _ = _
      unfold sunp
      rw [hd]
      simp only [ne_eq, not_true_eq_false, if_false]
      rw [hEc]
    have HDL : Hid ((l.drop sz).length = n - sz) := by show _ = _; rw [List.length_drop]; omega
    have hcap2 : n - sz ≤ cap - sz := by omega
    have hm2 : n - sz ≤ maxLen := by omega
    clear hn hb hAB hd hl hEc
    have T1 : Hid True := trivial
    by_cases hc : c = 0
    · subst hc
      have HR : Hid (sunp l = (capN u, E, 0)) := by show _ = _; rw [HSU.out]; rfl
      clear HSU
      go_enter Try.func21, Try.ntmps21
      go_wp2_with (first
        | (go_at_call 42; refine (dec_nn l a n cap _ HN.out HBY.out hm).mono ?_; rw [HD.out]; rintro _ w1 ⟨rfl, rfl⟩)
        | (go_at_call 43; refine (capped_any u _).mono ?_; rintro _ w2 ⟨rfl, rfl⟩)
        | (refine wpList_slice_l rfl _ _ rfl (l := l) rfl rfl hszn hcap HN.out HBY.out ?_; intro xa hxa; have HXA : Hid (_) := hxa; clear hxa)
        | (go_at_call 17; refine (sdecode_any (capN u) (l.drop sz) xa (n - sz) (cap - sz) _ HDL.out HXA.out hcap2 hm2).mono ?_; rw [HE.out]; rintro _ w3 ⟨rfl, hb3⟩; have HB3 : Hid (Below w.heap.size w w3) := below_next HAB.out hb3; have HA3 : Hid (EvAt w3 w.heap.size zeroE) := HA.out.after hb3; clear hb3)
        | ((with_reducible refine guard_store 24 ?_); clear T1; refine wpList_store_ev (e := zeroE) (e2 := E) rfl _ _ rfl (evAt_new w3 zeroE) rfl rfl ?_; intro x2 z1 z2 z3 z4; have hlt3 := HA3.out.lt; have HA4 : Hid (EvAt x2 w.heap.size zeroE) := (z3 _ (by omega)).trans (HA3.out.after ((Below.refl _ _).alloc (Nat.le_refl _) _)); have HB4 : Hid (Below w.heap.size w x2) := z2 _ _ (below_next HB3.out ((Below.refl _ _).alloc (Nat.le_refl _) _)) (by omega); have HZ1 : Hid (EvAt x2 w3.heap.size E) := z1; clear z1 z2 z3 z4 hlt3))
      refine wp_region_any (by kernel_rfl) ?_
      change wpAny _ _ _ _ _ _ _ (World.drew _)
      refine wpAny_take (i := 0) (v := ?_) rfl (by kernel_rfl) (by kernel_rfl) (by kernel_rfl) (fun _ _ _ h => h) (Or.inl ⟨by rfl, ?_⟩) ?_
      rotate_left
      · (intro w; go_simp; try (with_reducible rfl))
      refine wpAny_take (i := 2) (v := ?_) rfl (by kernel_rfl) (by kernel_rfl) (by kernel_rfl) (fun _ _ _ h => h) (Or.inl ⟨by rfl, ?_⟩) ?_
      rotate_left
      · (intro w; go_simp; try (with_reducible rfl))
      refine wpAny_ready (rs := [1]) (by kernel_rfl) (by simp) ?_
      refine AllReady.cons rfl (fun K hK => ?_) AllReady.nil
      refine step_load_ev rfl _ rfl (show EvAt x2.drew w3.heap.size E from HZ1.out) rfl ?_
      (refine hK _ _ ?_; clear hK K)
      refine wpAny_ready (rs := [3]) (by kernel_rfl) (by simp) ?_
      refine AllReady.cons rfl (fun K hK => ?_) AllReady.nil
      refine step_store_ev (e := zeroE) (e2 := E) rfl _ _ rfl (show EvAt x2.drew w.heap.size zeroE from HA4.out) rfl rfl ?_
      intro x5 z1 z2
      (refine hK _ _ ?_; clear hK K)
      refine wpAny_ready (rs := [4]) (by kernel_rfl) (by simp) ?_
      refine AllReady.cons rfl (fun K hK => ?_) AllReady.nil
      go_simp
      (refine hK _ _ ?_; clear hK K)
      refine wpAny_done (by kernel_rfl) ?_ _
      go_wp2
      rw [HR.out]
      exact bodyPost_ret (results_ev3 rfl _ _ _ _ _ _ rfl rfl rfl z1) rfl ⟨rfl, z2 _ _ HB4.out.drew (Nat.le_refl _)⟩
    · have HR : Hid (sunp l = (0, zeroE, c)) := by show _ = _; rw [HSU.out, if_pos hc]
      have hcb : (c != 0) = true := by simpa using hc
      clear HSU
      go_enter Try.func21, Try.ntmps21
      go_wp2_with (first
        | (go_at_call 42; refine (dec_nn l a n cap _ HN.out HBY.out hm).mono ?_; rw [HD.out]; rintro _ w1 ⟨rfl, rfl⟩)
        | (go_at_call 43; refine (capped_any u _).mono ?_; rintro _ w2 ⟨rfl, rfl⟩)
        | (refine wpList_slice_l rfl _ _ rfl (l := l) rfl rfl hszn hcap HN.out HBY.out ?_; intro xa hxa; have HXA : Hid (_) := hxa; clear hxa)
        | (go_at_call 17; refine (sdecode_any (capN u) (l.drop sz) xa (n - sz) (cap - sz) _ HDL.out HXA.out hcap2 hm2).mono ?_; rw [HE.out]; rintro _ w3 ⟨rfl, hb3⟩; have HB3 : Hid (Below w.heap.size w w3) := below_next HAB.out hb3; have HA3 : Hid (EvAt w3 w.heap.size zeroE) := HA.out.after hb3; clear hb3)
        | ((with_reducible refine guard_store 24 ?_); clear T1; refine wpList_store_ev (e := zeroE) (e2 := E) rfl _ _ rfl (evAt_new w3 zeroE) rfl rfl ?_; intro x2 z1 z2 z3 z4; have hlt3 := HA3.out.lt; have HA4 : Hid (EvAt x2 w.heap.size zeroE) := (z3 _ (by omega)).trans (HA3.out.after ((Below.refl _ _).alloc (Nat.le_refl _) _)); have HB4 : Hid (Below w.heap.size w x2) := z2 _ _ (below_next HB3.out ((Below.refl _ _).alloc (Nat.le_refl _) _)) (by omega); clear z1 z2 z3 z4 hlt3)
        | ((with_reducible refine guard_store 24 ?_); refine wpList_store_ev (e := zeroE) (e2 := zeroE) rfl _ _ rfl HA4.out rfl rfl ?_; intro x5 z1 z2 z3 z4))
      rw [HR.out]
      exact bodyPost_ret (results_ev3 rfl _ _ _ _ _ _ rfl rfl rfl z1) rfl ⟨rfl, z2 _ _ HB4.out (Nat.le_refl _)⟩
  · have HR : Hid (sunp l = (0, zeroE, (e : Int))) := by show _ = _; unfold sunp; rw [hd]; exact if_pos he
    have heb : ((e : Int) != 0) = true := by simp; omega
    have heb2 : ¬ (e : Int) = 0 := by omega
    clear hn hb hAB hd hl he
    go_enter Try.func21, Try.ntmps21
    go_wp2_with (first
      | (go_at_call 42; refine (dec_nn l a n cap _ HN.out HBY.out hm).mono ?_; rw [HD.out]; rintro _ w1 ⟨rfl, rfl⟩)
      | ((with_reducible refine guard_store 24 ?_); refine wpList_store_ev (e := zeroE) (e2 := zeroE) rfl _ _ rfl HA.out rfl rfl ?_; intro x5 z1 z2 z3 z4))
    rw [HR.out]
    exact bodyPost_ret (results_ev3 rfl _ _ _ _ _ _ rfl rfl rfl z1) rfl ⟨rfl, z2 _ _ HAB.out (Nat.le_refl _)⟩
end Go.Proofs.Ytfhcbdmmckjmaaa
namespace Go.Proofs.Ytfhcbdmmckjmaaa
open Go.ChangeShapes Go.WideShapes Go.ChangeAt Go.RowKit
theorem nilB_nil : nilB ⟨#[]⟩ = true := by
  unfold nilB ByteArray.toList ByteArray.toList.loop
  rfl
def addE : Ev := ⟨2, 7, 3, -2, 5, 0, 0, ⟨#[]⟩, 0, ⟨#[]⟩⟩
theorem add_ok : chk 1 addE = 0 := chk_of ⟨by decide, by decide, by decide, by decide, by decide, by decide, by decide, by decide, by decide, by decide, by decide, by decide, by decide, by decide, by decide, by decide, by decide, by decide, by decide, by decide, by decide, .inr rfl, .inr rfl, .inr nilB_nil, .inr ⟨rfl, nilB_nil⟩⟩
end Go.Proofs.Ytfhcbdmmckjmaaa
