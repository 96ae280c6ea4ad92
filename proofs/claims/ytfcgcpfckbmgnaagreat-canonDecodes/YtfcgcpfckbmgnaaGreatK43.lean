/- Own texts, joined: Tle, Sd4, Apn, Apb, Cn1. -/
import Derived.Test.YtfcgcpfckbmgnaaGreatK41
import Derived.Test.YtfcgcpfckbmgnaaGreatK42
import Derived.Test.YtfcgcpfckbmgnaaGreatK17
import Derived.Deep.AppendLies
import Derived.Laws.AppendOwnNone
import Derived.Test.YtfcgcpfckbmgnaaGreatK26
namespace Go.Proofs.YtfcgcpfckbmgnaaGreat
open Go.ChangeShapes Go.WideShapes Go.ChangeAt Go.RowKit
theorem encs_pre : ∀ (fs : List Fld) (A : Int) (b r : List Nat), encs fs A b = (r, 0) → (∃ t, r = b ++ t) ∧ r.length ≤ 1024
  | [], A, b, r, h => by
    have h' : (if 1024 < b.length then (([] : List Nat), 24) else (b, 0)) = (r, 0) := h
    by_cases hb : 1024 < b.length
    · rw [if_pos hb] at h'; simp at h'
    · rw [if_neg hb] at h'
      have := (Prod.mk.inj h').1
      subst this
      exact ⟨⟨[], by simp⟩, by omega⟩
  | f :: fs, A, b, r, h => by
    have h' : (if flt f A ≠ 0 then (([] : List Nat), flt f A) else encs fs f.tag (b ++ one f)) = (r, 0) := h
    by_cases hz : flt f A = 0
    · rw [hz, if_neg (by simp)] at h'
      obtain ⟨⟨t, ht⟩, hl⟩ := encs_pre fs f.tag (b ++ one f) r h'
      exact ⟨⟨one f ++ t, by rw [ht]; simp⟩, hl⟩
    · rw [if_pos hz] at h'
      exact absurd (Prod.mk.inj h').2 hz
theorem norm_tag (f : Fld) : (norm f).tag = f.tag ∧ (norm f).text = f.text := by
  unfold norm; split <;> exact ⟨rfl, rfl⟩
theorem norm_norm (f : Fld) : norm (norm f) = norm f := by
  unfold norm
  by_cases h : f.text = true
  · rw [if_pos h]; rw [if_pos h]
  · rw [if_neg h]; rw [if_neg h]
theorem encs_back : ∀ (fs : List Fld) (A : Int) (b r : List Nat), (∀ f ∈ fs, f.num ≤ 18446744073709551615) → encs fs A b = (r, 0) → ∀ (fuel : Nat) (acc : List Fld), r.length - b.length < fuel → decs fuel r A b.length acc = (acc ++ fs.map norm, 0, 0)
  | [], A, b, r, _, h, fuel, acc, hf => by
    have h' : (if 1024 < b.length then (([] : List Nat), 24) else (b, 0)) = (r, 0) := h
    by_cases hb : 1024 < b.length
    · rw [if_pos hb] at h'; simp at h'
    · rw [if_neg hb] at h'
      have := (Prod.mk.inj h').1
      subst this
      obtain ⟨f', rfl⟩ : ∃ f', fuel = f' + 1 := ⟨fuel - 1, by omega⟩
      show (if b.length ≤ b.length then (acc, 0, 0) else _) = _
      rw [if_pos (Nat.le_refl _)]; simp
  | f :: fs, A, b, r, hn, h, fuel, acc, hf => by
    have h' : (if flt f A ≠ 0 then (([] : List Nat), flt f A) else encs fs f.tag (b ++ one f)) = (r, 0) := h
    by_cases hz : flt f A = 0
    · rw [hz, if_neg (by simp)] at h'
      obtain ⟨⟨t, ht⟩, hl⟩ := encs_pre fs f.tag (b ++ one f) r h'
      have hone := one_len f A (hn f (by simp)) hz
      obtain ⟨f', rfl⟩ : ∃ f', fuel = f' + 1 := ⟨fuel - 1, by omega⟩
      have hrl : r.length = b.length + (one f).length + t.length := by rw [ht, List.length_append, List.length_append]
      have hd : r.drop b.length = one f ++ t := by rw [ht, List.append_assoc, List.drop_left]
      have hs : decs (f' + 1) r A b.length acc = if r.length ≤ b.length then (acc, 0, 0) else if (next (r.drop b.length) A).2.2 ≠ 0 then ([], b.length, (next (r.drop b.length) A).2.2) else decs f' r (next (r.drop b.length) A).1.tag (b.length + (next (r.drop b.length) A).2.1) (acc ++ [(next (r.drop b.length) A).1]) := rfl
      rw [hs, if_neg (by omega), hd, next_one f A t (hn f (by simp)) hz]
      simp only [ne_eq, not_true_eq_false, if_false]
      rw [(norm_tag f).1]
      have ih := encs_back fs f.tag (b ++ one f) r (fun g hg => hn g (List.mem_cons_of_mem _ hg)) h' f' (acc ++ [norm f]) (by rw [List.length_append]; omega)
      rw [List.length_append] at ih
      rw [ih]
      simp
    · rw [if_pos hz] at h'
      exact absurd (Prod.mk.inj h').2 hz
theorem encs_err : ∀ (fs : List Fld) (A : Int) (b : List Nat), (encs fs A b).2 ≠ 0 → (encs fs A b).1 = []
  | [], A, b, h => by
    have hd : encs [] A b = if 1024 < b.length then ([], 24) else (b, 0) := rfl
    rw [hd] at h ⊢
    by_cases hb : 1024 < b.length
    · rw [if_pos hb]
    · rw [if_neg hb] at h; exact absurd rfl h
  | f :: fs, A, b, h => by
    have hd : encs (f :: fs) A b = if flt f A ≠ 0 then ([], flt f A) else encs fs f.tag (b ++ one f) := rfl
    rw [hd] at h ⊢
    by_cases hz : flt f A = 0
    · rw [hz, if_neg (by simp)] at h ⊢
      exact encs_err fs f.tag (b ++ one f) h
    · rw [if_pos hz]
theorem recs_back (fs : List Fld) (r : List Nat) (hn : ∀ f ∈ fs, f.num ≤ 18446744073709551615) (h : encs fs 0 [] = (r, 0)) : recs r = (fs.map norm, 0, 0) := by
  have hl := (encs_pre fs 0 [] r h).2
  unfold recs
  rw [if_neg (by omega)]
  have := encs_back fs 0 [] r hn h (r.length + 1) [] (by simp)
  simpa using this
end Go.Proofs.YtfcgcpfckbmgnaaGreat
namespace Go.Proofs.YtfcgcpfckbmgnaaGreat
open Go.ChangeShapes Go.WideShapes Go.ChangeAt Go.RowKit
set_option linter.unusedVariables false
/-- a field that holds something -/
def nz (F : Fld) : Bool := if F.text = true then !F.bytes.isEmpty else !(F.num == 0)
/-- fields of rising tags behind A, none too long -/
def Ris : Int → List Fld → Prop
  | _, [] => True
  | A, F :: r => A < F.tag ∧ 1 ≤ F.tag ∧ F.tag ≤ 31 ∧ (F.text = true → F.bytes.length ≤ 200) ∧ Ris F.tag r
theorem Ris.mono {A B : Int} {fs : List Fld} (h : Ris A fs) (hB : B ≤ A) : Ris B fs := by
  cases fs with
  | nil => trivial
  | cons F r => obtain ⟨h1, h2⟩ := h; exact ⟨by omega, h2⟩
theorem flt_nz {F : Fld} {A : Int} (h1 : A < F.tag) (h2 : 1 ≤ F.tag) (h3 : F.tag ≤ 31) (h4 : F.text = true → F.bytes.length ≤ 200) : flt F A = if nz F = true then 0 else 22 := by
  unfold flt nz
  rw [if_neg (by omega), if_neg (by omega)]
  by_cases ht : F.text = true
  · rw [if_pos ht, if_pos ht]
    have := h4 ht
    rcases hb : F.bytes with _ | ⟨x, r⟩
    · simp
    · rw [hb] at this
      simp only [List.isEmpty_cons, Bool.not_false, if_true]
      rw [if_neg (by simp), if_neg (by omega)]
  · rw [if_neg ht, if_neg ht]
    by_cases hn : F.num = 0
    · simp [hn]
    · simp [hn]
theorem wputs_right : ∀ (Fs : List Fld) (fs : List Fld) (A : Int), Ris A Fs → ∃ A', wputs (fs, A, 0) Fs = (fs ++ Fs.filter nz, A', 0)
  | [], fs, A, _ => ⟨A, by simp [wputs]⟩
  | F :: r, fs, A, h => by
    obtain ⟨h1, h2, h3, h4, h5⟩ := h
    have hf := flt_nz h1 h2 h3 h4
    show ∃ A', wputs (wp1 (fs, A, 0) F) r = _
    by_cases hz : nz F = true
    · rw [if_pos hz] at hf
      have e1 : wp1 (fs, A, 0) F = (fs ++ [F], F.tag, 0) := by unfold wp1 wput; rw [if_neg (by simp), if_pos hf]
      obtain ⟨A', hA⟩ := wputs_right r (fs ++ [F]) F.tag h5
      exact ⟨A', by rw [e1, hA, List.filter_cons, if_pos hz]; simp⟩
    · rw [if_neg hz] at hf
      have e1 : wp1 (fs, A, 0) F = (fs, A, 0) := by unfold wp1 wput; rw [if_neg (by simp), if_neg (by rw [hf]; decide), if_pos hf]
      obtain ⟨A', hA⟩ := wputs_right r fs A (h5.mono (by omega))
      exact ⟨A', by rw [e1, hA, List.filter_cons, if_neg hz]⟩
theorem one_le (F : Fld) (hn : F.num ≤ 18446744073709551615) (ht : F.tag ≤ 31) (hb : F.bytes.length ≤ 200) : (one F).length ≤ 20 + (if F.text = true then F.bytes.length else 0) := by
  unfold one
  by_cases h : F.text = true
  · rw [if_pos h, if_pos h]
    have h1 := (enc_length_le (2 * F.tag.toNat + 1) (by omega)).2
    have h2 := (enc_length_le F.bytes.length (by omega)).2
    simp only [List.length_append]
    omega
  · rw [if_neg h, if_neg h]
    have h1 := (enc_length_le (2 * F.tag.toNat) (by omega)).2
    have h2 := (enc_length_le F.num hn).2
    simp only [List.length_append]
    omega
/-- the bytes of fields behind one another -/
def ones (fs : List Fld) : List Nat := fs.flatMap one
theorem encs_all : ∀ (fs : List Fld) (A : Int) (b : List Nat), Ris A fs → (∀ f ∈ fs, nz f = true) → b.length + (ones fs).length ≤ 1024 → encs fs A b = (b ++ ones fs, 0)
  | [], A, b, _, _, h => by
    show (if 1024 < b.length then (([] : List Nat), 24) else (b, 0)) = _
    rw [if_neg (by omega)]
    simp [ones]
  | f :: r, A, b, h, hn, hl => by
    obtain ⟨h1, h2, h3, h4, h5⟩ := h
    have hf := flt_nz h1 h2 h3 h4
    rw [if_pos (hn f (List.mem_cons_self ..))] at hf
    have e1 : ones (f :: r) = one f ++ ones r := by simp [ones]
    rw [e1, List.length_append] at hl
    show (if flt f A ≠ 0 then (([] : List Nat), flt f A) else encs r f.tag (b ++ one f)) = _
    rw [hf, if_neg (by simp), encs_all r f.tag (b ++ one f) h5 (fun g hg => hn g (List.mem_cons_of_mem _ hg)) (by rw [List.length_append]; omega), e1, List.append_assoc]
theorem Ris.filter {A : Int} {p : Fld → Bool} : ∀ {fs : List Fld}, Ris A fs → Ris A (fs.filter p) := by
  intro fs
  induction fs generalizing A with
  | nil => intro h; exact h
  | cons F r ih =>
    intro h
    obtain ⟨h1, h2, h3, h4, h5⟩ := h
    rw [List.filter_cons]
    split
    · exact ⟨h1, h2, h3, h4, ih h5⟩
    · exact (ih h5).mono (by omega)
/-- the quantity as it is written -/
def qN (v : Int) (E : Ev) : Nat := if v ≤ 2 then (zig E.qty).toNat else E.qty.toNat
def evF (v : Int) (E : Ev) : List Fld := tenF E.kind.toNat E.order.toNat E.item.toNat (qN v E) E.price.toNat E.cur.toNat E.tax.toNat (nums8 E.who) E.stamp.toNat (nums8 E.note)
/-- the fields of an event's record -/
def efs (v : Int) (E : Ev) : List Fld := (evF v E).filter nz
theorem zig_nn (x : Int) : 0 ≤ zig x := by unfold zig; split <;> omega
theorem loQ_le (v : Int) : -10000 ≤ loQ v := by unfold loQ; split <;> omega
theorem Right.qN {v : Int} {E : Ev} (r : Right v E) : qN v E ≤ 20000 := by
  unfold Go.Proofs.YtfcgcpfckbmgnaaGreat.qN
  have h1 := r.qty0
  have h2 := r.qty1
  have h3 := loQ_le v
  split
  · unfold zig; split <;> omega
  · omega
theorem Right.ris {v : Int} {E : Ev} (r : Right v E) : Ris 0 (evF v E) := by
  have h1 := r.who
  have h2 := r.note
  simp [evF, tenF, Ris, nums8_len]
  omega
theorem ones_le : ∀ (fs : List Fld), (∀ f ∈ fs, f.num ≤ 18446744073709551615 ∧ f.tag ≤ 31 ∧ f.bytes.length ≤ 200) → (ones fs).length ≤ 20 * fs.length + (fs.map fun f => if f.text = true then f.bytes.length else 0).sum
  | [], _ => by simp [ones]
  | f :: r, h => by
    have e1 : ones (f :: r) = one f ++ ones r := by simp [ones]
    obtain ⟨a1, a2, a3⟩ := h f (List.mem_cons_self ..)
    have h1 := one_le f a1 a2 a3
    have h2 := ones_le r (fun g hg => h g (List.mem_cons_of_mem _ hg))
    rw [e1, List.length_append, List.map_cons, List.sum_cons, List.length_cons]
    omega
theorem Right.flds {v : Int} {E : Ev} (r : Right v E) : ∀ f ∈ evF v E, f.num ≤ 18446744073709551615 ∧ f.tag ≤ 31 ∧ f.bytes.length ≤ 200 := by
  have h1 := r.who
  have h2 := r.note
  have q := r.qN
  have hk : lastK v ≤ 10 := by unfold lastK; split <;> (try split) <;> (try split) <;> omega
  have hp : hiP v ≤ 100000000 := by unfold hiP; split <;> omega
  intro f hf
  simp only [evF, tenF, List.mem_cons, List.not_mem_nil, or_false] at hf
  have bkind0 := r.kind0
  have bkind1 := r.kind1
  have border0 := r.order0
  have border1 := r.order1
  have bitem0 := r.item0
  have bitem1 := r.item1
  have bprice0 := r.price0
  have bprice1 := r.price1
  have bcur0 := r.cur0
  have bcur1 := r.cur1
  have btax0 := r.tax0
  have btax1 := r.tax1
  have bstamp0 := r.stamp0
  have bstamp1 := r.stamp1
  rcases hf with rfl | rfl | rfl | rfl | rfl | rfl | rfl | rfl | rfl | rfl
  all_goals refine ⟨?_, ?_, ?_⟩
  all_goals simp only [List.length_nil, nums8_len]
  all_goals omega
theorem sum_filter (p : Fld → Bool) (g : Fld → Nat) : ∀ fs : List Fld, ((fs.filter p).map g).sum ≤ (fs.map g).sum
  | [] => by simp
  | f :: r => by
    have ih := sum_filter p g r
    rw [List.filter_cons]
    split
    · simp only [List.map_cons, List.sum_cons]; omega
    · simp only [List.map_cons, List.sum_cons]; omega
/-- the record of a right event is never too long -/
theorem efs_encs {v : Int} {E : Ev} (r : Right v E) : encs (efs v E) 0 [] = (ones (efs v E), 0) := by
  have h := encs_all (efs v E) 0 [] r.ris.filter (fun f hf => (List.mem_filter.1 hf).2) ?_
  · rw [h]; simp
  · have h1 := ones_le (efs v E) (fun f hf => r.flds f (List.mem_filter.1 hf).1)
    have h2 : (efs v E).length ≤ 10 := List.length_filter_le ..
    have h3 := sum_filter nz (fun f => if f.text = true then f.bytes.length else 0) (evF v E)
    have h4 : ((evF v E).map fun f => if f.text = true then f.bytes.length else 0).sum = E.who.size + E.note.size := by
      simp [evF, tenF, nums8_len]
    have h5 := r.who
    have h6 := r.note
    unfold efs at h1 h2 ⊢
    simp only [List.length_nil]
    omega
/-- what schema.Encode answers -/
def senc (v : Int) (E : Ev) : List Nat × Int := if chk v E ≠ 0 then ([], chk v E) else (ones (efs v E), 0)
def SencPost (w : World) (v : Int) (E : Ev) (r : Ending) (w' : World) : Prop := ∃ v', r = .returned (.tuple #[v', .int .i64 (senc v E).2]) ∧ Own w' w.heap.size v' (senc v E).1 ∧ Below w.heap.size w w'
theorem nat_of {x : Int} (h : 0 ≤ x) : ((x.toNat : Nat) : Int) = x := by omega
end Go.Proofs.YtfcgcpfckbmgnaaGreat
namespace Go.Proofs.YtfcgcpfckbmgnaaGreat
open Go.ChangeShapes Go.WideShapes Go.ChangeAt Go.RowKit
set_option linter.unusedVariables false
theorem grownBy_refl (w : World) (r : Option Nat) : w.grownBy w r := ⟨rfl, rfl, rfl, Nat.le_refl _, fun _ _ _ => rfl⟩
theorem run_append_any {P : Program} (w : World) (t ty : TypeId) (base : Nat) (i : TypeInfo) (ht : P.underlying t = some (.slice 5)) (hi : P.info? 5 = some i) (hz : i.zero = some (.int .u8 0)) (hsize : i.size = 1) (hby : i.bytes = 1)
    (v : Value) (n : Nat) (xs : List Value) (hown : w.ownsRow base 5 1 v n xs) (hn : 0 < n) (xa : Option Addr) (m c : Nat) (l : List Nat) (hl : l.length = m) (hb : Bytes w xa l) (hc : xa = none → c = 0)
    (h63 : n + m ≤ 140737488355328) (hbase : base ≤ w.heap.size) :
    ∃ g cap w', (Builtin.append_ #[t, t] ty #[v, .slice xa m c]).run P w = .ok (.slice (some ⟨g, 0, none⟩) (n + m) cap) w' ∧
      w'.ownsRow base 5 1 (.slice (some ⟨g, 0, none⟩) (n + m) cap) (n + m) (xs ++ B8 l) ∧ w.grownBy w' v.ownBlock := by
  subst hl
  cases xa with
  | none =>
    obtain rfl := hc rfl
    have hl0 : l = [] := by
      rcases hb.2 with h | ⟨b, off, h, _⟩
      · exact h
      · cases h
    subst hl0
    obtain ⟨g, cap, rfl, _⟩ := hown.form hn
    exact ⟨g, cap, w, run_append_owned_none (P := P) (w := w) base t ty 5 i 1 ht hi _ n xs hown, by simpa [B8] using hown, grownBy_refl _ _⟩
  | some ad =>
    obtain ⟨v', w', hr, h2, h3, _, h5⟩ := run_append_own_at (P := P) w base t ty 5 i (.int .u8 0) 1 1 ht hi hz hsize hby rfl (by decide) v n xs hown ad l.length c (B8 l) (B8_length l) (bytes_cells hb) (B8_one l) (by unfold maxLen; omega) (by omega) hbase
    obtain ⟨g, cap, rfl, _⟩ := h2.form (by omega)
    exact ⟨g, cap, w', hr, h2, h3⟩
theorem wp_append_any {P : Program} (w : World) {o : Oper} {a : Act} {K : Act → World → Prop} {Q : Exit → Act → World → Prop} (s x : Operand) (t : TypeId)
    (ho : o.op = .call { callee := .builtin .append, args := #[s, x], argTypes := #[t, t] })
    (base : Nat) (i : TypeInfo) (ht : P.underlying t = some (.slice 5)) (hi : P.info? 5 = some i) (hz : i.zero = some (.int .u8 0)) (hsize : i.size = 1) (hby : i.bytes = 1)
    (v : Value) (n : Nat) (xs : List Value) (hs : a.eval s = v) (hown : w.ownsRow base 5 1 v n xs) (hn : 0 < n) (xa : Option Addr) (m c : Nat) (l : List Nat) (hx : a.eval x = .slice xa m c) (hl : l.length = m) (hb : Bytes w xa l) (hc : xa = none → c = 0)
    (h63 : n + m ≤ 140737488355328) (hbase : base ≤ w.heap.size)
    (h : ∀ g cap w', w'.ownsRow base 5 1 (.slice (some ⟨g, 0, none⟩) (n + m) cap) (n + m) (xs ++ B8 l) → w.grownBy w' v.ownBlock → K (a.put o.dst (.slice (some ⟨g, 0, none⟩) (n + m) cap)) w') : Oper.wp P o a w K Q := by
  obtain ⟨g, cap, w', hr, h2, h3⟩ := run_append_any (P := P) w t o.type base i ht hi hz hsize hby v n xs hown hn xa m c l hl hb hc h63 hbase
  unfold Oper.wp
  simp [execOp, ho, resolve, invoke, builtin, hs, hx, hr, Result.andThen]
  exact h g cap w' h2 h3
theorem wpList_append_any {P : Program} (w : World) {ops : Array Oper} {rest : List Oper} {o : Oper} {a : Act} {Q : Exit → Act → World → Prop} (hgd : o.guard = none) (s x : Operand) (t : TypeId)
    (ho : o.op = .call { callee := .builtin .append, args := #[s, x], argTypes := #[t, t] })
    (base : Nat) (i : TypeInfo) (ht : P.underlying t = some (.slice 5)) (hi : P.info? 5 = some i) (hz : i.zero = some (.int .u8 0)) (hsize : i.size = 1) (hby : i.bytes = 1)
    (v : Value) (n : Nat) (xs : List Value) (hs : a.eval s = v) (hown : w.ownsRow base 5 1 v n xs) (hn : 0 < n) (xa : Option Addr) (m c : Nat) (l : List Nat) (hx : a.eval x = .slice xa m c) (hl : l.length = m) (hb : Bytes w xa l) (hc : xa = none → c = 0)
    (h63 : n + m ≤ 140737488355328) (hbase : base ≤ w.heap.size)
    (h : ∀ g cap w', w'.ownsRow base 5 1 (.slice (some ⟨g, 0, none⟩) (n + m) cap) (n + m) (xs ++ B8 l) → w.grownBy w' v.ownBlock → wpList P ops Q rest (a.put o.dst (.slice (some ⟨g, 0, none⟩) (n + m) cap)) w') : wpList P ops Q (o :: rest) a w :=
  wpList_plain hgd fun K hK => wp_append_any w s x t ho base i ht hi hz hsize hby v n xs hs hown hn xa m c l hx hl hb hc h63 hbase (fun g cap w' h1 h2 => hK _ _ (h g cap w' h1 h2))
theorem step_append_any {P : Program} (w : World) {ops : Array Oper} {o : Oper} {a : Act} {K : Act → World → Prop} {Q : Exit → Act → World → Prop} {E : Prop} (hgd : o.guard = none) (s x : Operand) (t : TypeId)
    (ho : o.op = .call { callee := .builtin .append, args := #[s, x], argTypes := #[t, t] })
    (base : Nat) (i : TypeInfo) (ht : P.underlying t = some (.slice 5)) (hi : P.info? 5 = some i) (hz : i.zero = some (.int .u8 0)) (hsize : i.size = 1) (hby : i.bytes = 1)
    (v : Value) (n : Nat) (xs : List Value) (hs : a.eval s = v) (hown : w.ownsRow base 5 1 v n xs) (hn : 0 < n) (xa : Option Addr) (m c : Nat) (l : List Nat) (hx : a.eval x = .slice xa m c) (hl : l.length = m) (hb : Bytes w xa l) (hc : xa = none → c = 0)
    (h63 : n + m ≤ 140737488355328) (hbase : base ≤ w.heap.size)
    (h : ∀ g cap w', w'.ownsRow base 5 1 (.slice (some ⟨g, 0, none⟩) (n + m) cap) (n + m) (xs ++ B8 l) → w.grownBy w' v.ownBlock → K (a.put o.dst (.slice (some ⟨g, 0, none⟩) (n + m) cap)) w') :
    if Region.wanted o (yielded ops a.tmps) = true then Oper.wp P o a w K Q else E := by
  have hw : Region.wanted o (yielded ops a.tmps) = true := by simp [Region.wanted, hgd]
  rw [if_pos hw]
  exact wp_append_any w s x t ho base i ht hi hz hsize hby v n xs hs hown hn xa m c l hx hl hb hc h63 hbase h
end Go.Proofs.YtfcgcpfckbmgnaaGreat
namespace Go.Proofs.YtfcgcpfckbmgnaaGreat
open Go.ChangeShapes Go.WideShapes Go.ChangeAt Go.RowKit
set_option linter.unusedVariables false
theorem wpList_append_b {P : Program} {w : World} {ops : Array Oper} {rest : List Oper} {o : Oper} {a : Act} {Q : Exit → Act → World → Prop} (hgd : o.guard = none) (s x : Operand) (t : TypeId)
    (ho : o.op = .call { callee := .builtin .append, args := #[s, x], argTypes := #[t, t] })
    (base : Nat) (i : TypeInfo) (ht : P.underlying t = some (.slice 5)) (hi : P.info? 5 = some i) (hz : i.zero = some (.int .u8 0)) (hsize : i.size = 1) (hby : i.bytes = 1)
    (v : Value) (n : Nat) (xs : List Value) (hs : a.eval s = v) (hown : w.ownsRow base 5 1 v n xs) (xa : Option Addr) (m c : Nat) (l : List Nat) (hx : a.eval x = .slice xa m c) (hl : l.length = m) (hb : Bytes w xa l) (hc : xa = none → c = 0)
    (h63 : n + m ≤ 140737488355328) (hbase : base ≤ w.heap.size)
    (h : ∀ v' w', w'.ownsRow base 5 1 v' (n + m) (xs ++ B8 l) → w.grownBy w' v.ownBlock → wpList P ops Q rest (a.put o.dst v') w') : wpList P ops Q (o :: rest) a w := by
  cases xa with
  | none =>
    have hl0 : l = [] := by
      rcases hb.2 with h | ⟨b, off, h, _⟩
      · exact h
      · cases h
    subst hl0
    have hm0 : m = 0 := by simpa using hl.symm
    subst hm0
    have hc0 := hc rfl
    subst hc0
    exact wpList_append_own_none hgd s x t ho base 5 i 1 ht hi v n xs hs hown hx (h v w (by simpa [B8] using hown) ⟨rfl, rfl, rfl, Nat.le_refl _, fun _ _ _ => rfl⟩)
  | some ad =>
    rcases hb.2 with hl0 | ⟨b, off, he, hlt, hcell⟩
    · subst hl0
      have hm0 : m = 0 := by simpa using hl.symm
      subst hm0
      exact wpList_append_own w hgd s x t ho base 5 i (.int .u8 0) 1 1 ht hi hz hsize hby rfl (by decide) v n xs hs hown ad 0 c [] hx rfl (fun j u hj => by simp at hj) (fun u hu => by cases hu) (by unfold maxLen; omega) (by omega) hbase (fun v' w' h1 h2 _ => h v' w' (by simpa [B8] using h1) h2)
    · cases he
      exact wpList_append_own w hgd s x t ho base 5 i (.int .u8 0) 1 1 ht hi hz hsize hby rfl (by decide) v n xs hs hown ⟨b, off, none⟩ m c (B8 l) hx (by rw [B8_length, hl, Nat.mul_one]) (bytes_cells hb) (B8_one _) (by unfold maxLen; omega) (by omega) hbase (fun v' w' h1 h2 _ => h v' w' h1 h2)
end Go.Proofs.YtfcgcpfckbmgnaaGreat
namespace Go.Proofs.YtfcgcpfckbmgnaaGreat
open Go.ChangeShapes Go.WideShapes Go.ChangeAt Go.RowKit
set_option linter.unusedVariables false
/-- the writer in block q, the state in block eb, texts in the blocks of G -/
structure Wss (w0 w' : World) (q eb : Nat) (E : St × Value) (S : List Fld × Int × Nat) (n : Nat) (G : List (Nat × List Nat)) : Prop where
  wr : ∃ v L, WrAt w' (q + 1) q v L S.2.1 S.2.2 ∧ L.map Prod.fst = S.1 ∧ (∀ x ∈ G, v.ownBlock ≠ some x.1) ∧ L.length ≤ n
  oks : ∀ f ∈ S.1, f.num ≤ 18446744073709551615 ∧ f.bytes.length ≤ maxLen
  ev : StAt w' eb E.1 E.2
  evq : eb < q
  byt : ∀ x ∈ G, Bytes w' (some ⟨x.1, 0, none⟩) x.2 ∧ x.1 ≠ q ∧ x.1 < w'.heap.size
  bel : Below w0.heap.size w0 w'
  bq : w0.heap.size ≤ eb
theorem Wss.keep {w0 w1 w2 : World} {q eb : Nat} {E : St × Value} {S : List Fld × Int × Nat} {n : Nat} {G : List (Nat × List Nat)} (h : Wss w0 w1 q eb E S n G) (hb : Below w1.heap.size w1 w2) : Wss w0 w2 q eb E S n G := by
  obtain ⟨v, L, h1, h2, h3, h4⟩ := h.wr
  exact ⟨⟨v, L, h1.keep hb, h2, h3, h4⟩, h.oks, h.ev.after hb, h.evq, fun x hx => ⟨(h.byt x hx).1.keep hb, (h.byt x hx).2.1, Nat.lt_of_lt_of_le (h.byt x hx).2.2 hb.size⟩, below_next h.bel hb, h.bq⟩
theorem Wss.drew {w0 w1 : World} {q eb : Nat} {E : St × Value} {S : List Fld × Int × Nat} {n : Nat} {G : List (Nat × List Nat)} (h : Wss w0 w1 q eb E S n G) : Wss w0 w1.drew q eb E S n G := h.keep (Below.refl _ _).drew
theorem Wss.cv {w0 w1 : World} {q eb : Nat} {E : St × Value} {S : List Fld × Int × Nat} {n : Nat} {G : List (Nat × List Nat)} (h : Wss w0 w1 q eb E S n G) (s : ByteArray) : Wss w0 (cvW w1 s) q eb E S n ((w1.heap.size, nums8 s) :: G) := by
  have hk := h.keep (cv_below s w1)
  obtain ⟨v, L, h1, h2, h3, h4⟩ := h.wr
  have hq := lt_of_heap h1.blk
  refine ⟨⟨v, L, h1.keep (cv_below s w1), h2, fun x hx => ?_, h4⟩, h.oks, hk.ev, h.evq, fun x hx => ?_, hk.bel, h.bq⟩
  · rcases List.mem_cons.1 hx with rfl | hx
    · intro hv
      have := (h1.row.own.lt _ hv).2
      simp only at this
      omega
    · exact h3 x hx
  · rcases List.mem_cons.1 hx with rfl | hx
    · exact ⟨cv_bytes s w1, by simp only; omega, by simp only; rw [cv_size]; omega⟩
    · exact hk.byt x hx
/-- behind a put -/
theorem Wss.put {w0 w1 w2 : World} {q eb : Nat} {E : St × Value} {S : List Fld × Int × Nat} {n : Nat} {G : List (Nat × List Nat)} {v : Value} {L : List (Fld × Value)} {F : Fld} {r : Ending} (h : Wss w0 w1 q eb E S n G) (hw : WrAt w1 (q + 1) q v L S.2.1 S.2.2) (hL : L.map Prod.fst = S.1) (hv : ∀ x ∈ G, v.ownBlock ≠ some x.1) (hn : L.length ≤ n) (hF : F.num ≤ 18446744073709551615 ∧ F.bytes.length ≤ maxLen) (hp : WPost w1 (q + 1) q v L S.2.1 S.2.2 F r w2) : r = .returned (.pointer (some ⟨q, 0, none⟩)) ∧ Wss w0 w2 q eb E (wp1 S F) (n + 1) G := by
  obtain ⟨h1, v', L', h2, h3, h4, h5, h6⟩ := hp
  rw [hL] at h2 h3
  show _ ∧ Wss w0 w2 q eb E (wput S.1 S.2.1 S.2.2 F) (n + 1) G
  have hrow : ∀ k, v.ownBlock = some k → q + 1 ≤ k ∧ k < w1.heap.size := fun k hk => hw.row.own.lt k hk
  have hne : ∀ k, k < w1.heap.size → k ≠ q → (∀ b, v.ownBlock = some b → k ≠ b) → w2.heap[k]? = w1.heap[k]? := by
    intro k hk hkq hkv
    refine h5.block k hk hkq ?_
    rcases hb : v.ownBlock with _ | b
    · exact hkq
    · exact hkv b hb
  have hev := h.ev.lt
  have hlen : (wput S.1 S.2.1 S.2.2 F).1.length ≤ n + 1 := by
    have : S.1.length ≤ n := by rw [← hL, List.length_map]; exact hn
    unfold wput
    split
    · simp only; omega
    · split
      · simp only [List.length_append, List.length_cons, List.length_nil]; omega
      · split
        · simp only; omega
        · simp
  refine ⟨h1, ⟨v', L', h2, h3, fun x hx hh => ?_, ?_⟩, ?_, ?_, h.evq, fun x hx => ?_, ?_, h.bq⟩
  · rcases h4 with h4 | h4
    · exact hv x hx (h4 ▸ hh)
    · have := h4 _ hh
      have := (h.byt x hx).2.2
      omega
  · have e1 : (L'.map Prod.fst).length = L'.length := List.length_map ..
    rw [h3] at e1; omega
  · intro f hf
    unfold wput at hf
    split at hf
    · exact h.oks f hf
    · split at hf
      · rcases List.mem_append.1 hf with hf | hf
        · exact h.oks f hf
        · obtain rfl := List.mem_singleton.1 hf; exact hF
      · split at hf
        · exact h.oks f hf
        · cases hf
  · exact (hne eb hev (by have := h.evq; omega) (fun b hb => by have := (hrow b hb).1; have := h.evq; omega)).trans h.ev
  · have hx3 := (h.byt x hx).2.2
    have hx2 := (h.byt x hx).2.1
    have hbl := hne x.1 hx3 hx2 (fun b hb e => hv x hx (by rw [hb, e]))
    refine ⟨?_, hx2, Nat.lt_of_lt_of_le hx3 h5.size⟩
    obtain ⟨a1, a2⟩ := (h.byt x hx).1
    refine ⟨a1, ?_⟩
    rcases a2 with a2 | ⟨b, off, a3, a4, a5⟩
    · exact .inl a2
    · cases a3
      exact .inr ⟨x.1, 0, rfl, Nat.lt_of_lt_of_le a4 h5.size, fun i hi => (World.cell?_of_block (w := w1) (a := ⟨x.1, 0 + i, none⟩) hbl).trans (a5 i hi)⟩
  · have hq := h.evq
    have hb0 := h.bq
    refine ⟨h5.os.trans h.bel.os, h5.tape.trans h.bel.tape, h5.output.trans h.bel.output, Nat.le_trans h.bel.size h5.size, fun k hk => (hne k (Nat.lt_of_lt_of_le hk h.bel.size) (by omega) (fun b hb => by have := (hrow b hb).1; omega)).trans (h.bel.block k hk)⟩
theorem num_ss (t : Int) (u : Nat) (w0 w1 : World) (q eb : Nat) (E : St × Value) (S : List Fld × Int × Nat) (n : Nat) (G : List (Nat × List Nat)) (h : Wss w0 w1 q eb E S n G) (hu : u ≤ 18446744073709551615) (hn : n ≤ 900) :
    Calls Tryz.prog 23 #[.pointer (some ⟨q, 0, none⟩), .int .i64 t, .int .u64 (u : Int)] w1 fun r w2 => r = .returned (.pointer (some ⟨q, 0, none⟩)) ∧ Wss w0 w2 q eb E (wp1 S ⟨t, false, u, []⟩) (n + 1) G := by
  obtain ⟨v, L, h1, h2, h3, h4⟩ := h.wr
  refine (wnum_any t u w1 (q + 1) q v L S.2.1 S.2.2 h1 hu (by omega)).mono ?_
  rintro r w2 hp
  exact h.put h1 h2 h3 h4 ⟨hu, by simp⟩ hp
theorem text_ss (t : Int) (l : List Nat) (g m cap : Nat) (w0 w1 : World) (q eb : Nat) (E : St × Value) (S : List Fld × Int × Nat) (n : Nat) (G : List (Nat × List Nat)) (h : Wss w0 w1 q eb E S n G) (hg : (g, l) ∈ G) (hm : l.length = m) (hm2 : m ≤ 1000) (hn : n ≤ 900) :
    Calls Tryz.prog 24 #[.pointer (some ⟨q, 0, none⟩), .int .i64 t, .slice (some ⟨g, 0, none⟩) m cap] w1 fun r w2 => r = .returned (.pointer (some ⟨q, 0, none⟩)) ∧ Wss w0 w2 q eb E (wp1 S ⟨t, true, 0, l⟩) (n + 1) G := by
  obtain ⟨v, L, h1, h2, h3, h4⟩ := h.wr
  refine (wtext_any t l (some ⟨g, 0, none⟩) m cap w1 (q + 1) q v L S.2.1 S.2.2 h1 hm (h.byt _ hg).1 (by omega) (by omega)).mono ?_
  rintro r w2 hp
  exact h.put h1 h2 h3 h4 ⟨by show 0 ≤ _; omega, by show l.length ≤ _; rw [hm]; unfold maxLen; omega⟩ hp
theorem done_ss (w0 w1 : World) (q eb : Nat) (E : St × Value) (S : List Fld × Int × Nat) (n : Nat) (G : List (Nat × List Nat)) (h : Wss w0 w1 q eb E S n G) (h0 : S.2.2 = 0) (hn : n ≤ 900) :
    Calls Tryz.prog 26 #[.pointer (some ⟨q, 0, none⟩)] w1 fun r w2 => ∃ v', r = .returned (.tuple #[v', .int .i64 ((encs S.1 0 []).2 : Int)]) ∧ Own w2 w0.heap.size v' (encs S.1 0 []).1 ∧ Below w0.heap.size w0 w2 := by
  obtain ⟨v, L, h1, h2, h3, h4⟩ := h.wr
  rw [h0] at h1
  refine (wdone_ok w1 (q + 1) q v L S.2.1 h1 (fun p hp => h.oks p.1 (by rw [← h2]; exact List.mem_map_of_mem hp)) (by omega)).mono ?_
  rw [h2]
  rintro r w2 ⟨v', hr, ho, hb⟩
  exact ⟨v', hr, ⟨ho.1, ho.2.mono h.bel.size⟩, below_next h.bel hb⟩
theorem textb_ss (t : Int) (l : List Nat) (ad : Option Addr) (m cap : Nat) (w0 w1 : World) (q eb : Nat) (E : St × Value) (S : List Fld × Int × Nat) (n : Nat) (h : Wss w0 w1 q eb E S n []) (hby : Bytes w1 ad l) (hm : l.length = m) (hm2 : m ≤ 1000) (hn : n ≤ 900) :
    Calls Tryz.prog 24 #[.pointer (some ⟨q, 0, none⟩), .int .i64 t, .slice ad m cap] w1 fun r w2 => r = .returned (.pointer (some ⟨q, 0, none⟩)) ∧ Wss w0 w2 q eb E (wp1 S ⟨t, true, 0, l⟩) (n + 1) [] := by
  obtain ⟨v, L, h1, h2, h3, h4⟩ := h.wr
  refine (wtext_any t l ad m cap w1 (q + 1) q v L S.2.1 S.2.2 h1 hm hby (by omega) (by omega)).mono ?_
  rintro r w2 hp
  exact h.put h1 h2 h3 h4 ⟨by show 0 ≤ _; omega, by show l.length ≤ _; rw [hm]; unfold maxLen; omega⟩ hp
theorem Wss.new {w w3 : World} {E : St × Value} {q : Nat} (h : WrAt w3 (q + 1) q (.slice none 0 0) [] 0 0) (he : StAt w3 w.heap.size E.1 E.2) (hb : Below w.heap.size w w3) (hq : w.heap.size < q) : Wss w w3 q w.heap.size E ([], 0, 0) 0 [] :=
  ⟨⟨_, _, h, rfl, by simp, by simp⟩, by simp, he, hq, by simp, hb, Nat.le_refl _⟩
theorem Wss.forget {w0 w1 : World} {q eb : Nat} {E : St × Value} {S : List Fld × Int × Nat} {n : Nat} {G : List (Nat × List Nat)} (h : Wss w0 w1 q eb E S n G) : Wss w0 w1 q eb E S n [] := by
  obtain ⟨v, L, h1, h2, h3, h4⟩ := h.wr
  exact ⟨⟨v, L, h1, h2, by simp, h4⟩, h.oks, h.ev, h.evq, by simp, h.bel, h.bq⟩
theorem guard_index {ops : Array Oper} {rest : List Oper} {a : Act} {w : World} {Q : Exit → Act → World → Prop} {dst : Option Tmp} {ty : TypeId} {pos : String} {after : Array Edge} {x y : Operand} (t : TypeId)
    (h : wpList Tryz.prog ops Q (⟨dst, .index t x y, ty, pos, after, none⟩ :: rest) a w) : wpList Tryz.prog ops Q (⟨dst, .index t x y, ty, pos, after, none⟩ :: rest) a w := h
theorem wpList_index {ops : Array Oper} {rest : List Oper} {o : Oper} {a : Act} {w : World} {Q : Exit → Act → World → Prop} (hgd : o.guard = none) (x y : Operand) {t : TypeId} (ho : o.op = .index t x y) {u v r : Value} (hx : a.eval x = u) (hy : a.eval y = v)
    (hr : ∀ w, (Instr.index t u v).run Tryz.prog w = .ok r w) (h : wpList Tryz.prog ops Q rest (a.put o.dst r) w) : wpList Tryz.prog ops Q (o :: rest) a w :=
  wpList_plain hgd fun _ hK => by
    unfold Oper.wp execOp
    simp only [ho, hx, hy, Sem.run_bind, Sem.run_pure, Result.andThen_ok, hr]
    exact hK _ _ h
theorem four_at (a b c d : Int) (w : World) : (Instr.index 89 (.agg #[.int .i64 a, .int .i64 b, .int .i64 c, .int .i64 d]) (.int .i64 ((0 : Nat) : Int))).run Tryz.prog w = .ok (.int .i64 a) w ∧ (Instr.index 89 (.agg #[.int .i64 a, .int .i64 b, .int .i64 c, .int .i64 d]) (.int .i64 ((1 : Nat) : Int))).run Tryz.prog w = .ok (.int .i64 b) w ∧
    (Instr.index 89 (.agg #[.int .i64 a, .int .i64 b, .int .i64 c, .int .i64 d]) (.int .i64 ((2 : Nat) : Int))).run Tryz.prog w = .ok (.int .i64 c) w ∧ (Instr.index 89 (.agg #[.int .i64 a, .int .i64 b, .int .i64 c, .int .i64 d]) (.int .i64 ((3 : Nat) : Int))).run Tryz.prog w = .ok (.int .i64 d) w :=
  ⟨by kernel_rfl, by kernel_rfl, by kernel_rfl, by kernel_rfl⟩
theorem lt_allC {l : List Nat} (h : ∀ i, l.getD i 0 < 256) : ∀ x ∈ l, x < 256 := by
  intro x hx
  obtain ⟨i, hi, rfl⟩ := List.mem_iff_getElem.1 hx
  have := h i
  simpa [List.getD_eq_getElem?_getD, hi] using this
theorem lt_getDC {l : List Nat} (h : ∀ x ∈ l, x < 256) : ∀ i, l.getD i 0 < 256 := by
  intro i
  rw [List.getD_eq_getElem?_getD]
  rcases hx : l[i]? with _ | x
  · decide
  · exact h x (List.mem_of_getElem? hx)
theorem shape_nc {a : Option Addr} {l : List Nat} {c b s : Nat} (h : (a = none ∧ l = [] ∧ c = 0) ∨ ∃ g, a = some ⟨g, 0, none⟩ ∧ b ≤ g ∧ g < s) : a = none → c = 0 := by
  intro ha
  rcases h with h | ⟨g, h, _⟩
  · exact h.2.2
  · rw [h] at ha; cases ha
/-- the text of a line -/
def lnL (i p q s : Nat) : List Nat := enc i ++ (enc p ++ (enc q ++ enc s))
def encU : List Nat → List Nat
  | [] => []
  | u :: r => enc u ++ encU r
theorem encU_snoc : ∀ (U : List Nat) (u : Nat), encU (U ++ [u]) = encU U ++ enc u
  | [], u => by simp [encU]
  | x :: r, u => by simp only [List.cons_append, encU, encU_snoc r u, List.append_assoc]
theorem encU_four (i p q s : Nat) : encU [i, p, q, s] = lnL i p q s := by simp [encU, lnL]
theorem encU_len : ∀ (U : List Nat), (∀ u ∈ U, u ≤ 18446744073709551615) → (encU U).length ≤ 10 * U.length
  | [], _ => by simp [encU]
  | x :: r, h => by
    have h1 := (enc_length_le x (h x (List.mem_cons_self ..))).2
    have h2 := encU_len r (fun u hu => h u (List.mem_cons_of_mem _ hu))
    simp only [encU, List.length_append, List.length_cons]
    omega
set_option maxRecDepth 20000 in
set_option maxHeartbeats 4000000 in
theorem lineText_any (i p q s : Nat) (w : World) (h0 : i ≤ 18446744073709551615) (h1 : p ≤ 18446744073709551615) (h2 : q ≤ 18446744073709551615) (h3 : s ≤ 18446744073709551615) :
    Calls Tryz.prog 25 #[.agg #[.int .i64 (i : Int), .int .i64 (p : Int), .int .i64 (q : Int), .int .i64 (s : Int)]] w fun e w' => ∃ v, e = .returned v ∧ Own w' w.heap.size v (lnL i p q s) ∧ Below w.heap.size w w' := by
  obtain ⟨i0, hi, hz0, hz1, hz2⟩ := info_parts Tryz.info5
  have e0 := wrapN h0
  have e1 := wrapN h1
  have e2 := wrapN h2
  have e3 := wrapN h3
  have HU : Hid (∀ u ∈ [i, p, q, s], u ≤ 18446744073709551615) := by
    intro u hu
    simp only [List.mem_cons, List.not_mem_nil, or_false] at hu
    rcases hu with rfl | rfl | rfl | rfl <;> assumption
  clear h0 h1 h2 h3
  go_enter Tryz.func25, Tryz.ntmps25
  go_wp2
  go_loopw [3, 15] (fun vt vi wr => ∃ (v0 : Value) (k : Nat), v0 = vt ∧ k ≤ 4 ∧ vi = .int .i64 k ∧ Hid (Own wr w.heap.size v0 (encU ([i, p, q, s].take k)) ∧ Below w.heap.size w wr)) (fun _ vi _ => 4 - (intOf vi).toNat)
  case atStart => exact ⟨_, 0, rfl, by omega, rfl, ⟨by simp [encU], World.ownsRow_nil _ _ _ 1⟩, (Below.refl _ _).alloc (Nat.le_refl _) _⟩
  case round =>
    obtain ⟨v0, k, rfl, hk, rfl, HI⟩ := hrel
    by_cases hk4 : k < 4
    · have hk5 : k = 0 ∨ k = 1 ∨ k = 2 ∨ k = 3 := by omega
      rcases hk5 with rfl | rfl | rfl | rfl
      · have HX : Hid (i ≤ 18446744073709551615) := HU.out i (by simp)
        have HT : Hid ([i, p, q, s].take (0 + 1) = [i, p, q, s].take 0 ++ [i]) := rfl
        have HLN : Hid ((encU ([i, p, q, s].take 0)).length ≤ 40) := by
          show _ ≤ _
          have h1 := encU_len ([i, p, q, s].take 0) (fun u hu => HU.out u (List.mem_of_mem_take hu))
          have h2 : ([i, p, q, s].take 0).length ≤ 4 := by simp
          omega
        go_wp2_with (first
          | ((with_reducible refine guard_index 89 ?_); refine wpList_index rfl _ _ rfl rfl rfl (fun w => (four_at _ _ _ _ w).1) ?_)
          | (go_at_call 46; refine (encode_any i _ HX.out).mono ?_; rintro _ w2 ⟨v2, rfl, ho2, hb2⟩; obtain ⟨a2, c2, hv2, hc2, _, hy2, hn2⟩ := ho2.shape; subst hv2; have HY2 : Hid (Bytes w2 a2 (enc i)) := hy2; have HO2 : Hid (Own w2 w.heap.size v0 (encU ([i, p, q, s].take 0))) := ⟨HI.out.1.1, own_below HI.out.1.2 hb2⟩; have HB2 : Hid (Below w.heap.size w w2) := below_next HI.out.2 hb2; have HC2 : Hid (a2 = none → c2 = 0) := shape_nc hn2; clear ho2 hb2 hy2 hn2)
          | (at_builtin; refine wpList_append_b rfl _ _ 22 rfl w.heap.size i0 Tryz.underlying22 hi hz0 hz1 hz2 v0 _ _ rfl HO2.out.2 a2 _ c2 (enc i) rfl rfl HY2.out HC2.out (by have := HLN.out; have := (enc_length_le i HX.out).2; omega) HB2.out.size ?_; intro v3 w3 ho3 hg3; have HO3 : Hid (_) := ho3; have HB3 : Hid (Below w.heap.size w w3) := grown_row HB2.out HO2.out.2 HB2.out.size hg3; clear ho3 hg3))
        go_roundw
        case rel =>
          refine ⟨v3, 0 + 1, rfl, by omega, by go_num, ⟨?_, ?_⟩, HB3.out⟩
          · rw [HT.out, encU_snoc]
            refine lt_getDC (fun y hy => ?_)
            rcases List.mem_append.1 hy with h | h
            · exact lt_allC HO2.out.1 y h
            · exact lt_allC HY2.out.1 y h
          · rw [HT.out, encU_snoc, List.length_append, B8_append]
            exact HO3.out
        case measure => simp [intOf]
      · have HX : Hid (p ≤ 18446744073709551615) := HU.out p (by simp)
        have HT : Hid ([i, p, q, s].take (1 + 1) = [i, p, q, s].take 1 ++ [p]) := rfl
        have HLN : Hid ((encU ([i, p, q, s].take 1)).length ≤ 40) := by
          show _ ≤ _
          have h1 := encU_len ([i, p, q, s].take 1) (fun u hu => HU.out u (List.mem_of_mem_take hu))
          have h2 : ([i, p, q, s].take 1).length ≤ 4 := by simp
          omega
        go_wp2_with (first
          | ((with_reducible refine guard_index 89 ?_); refine wpList_index rfl _ _ rfl rfl rfl (fun w => (four_at _ _ _ _ w).2.1) ?_)
          | (go_at_call 46; refine (encode_any p _ HX.out).mono ?_; rintro _ w2 ⟨v2, rfl, ho2, hb2⟩; obtain ⟨a2, c2, hv2, hc2, _, hy2, hn2⟩ := ho2.shape; subst hv2; have HY2 : Hid (Bytes w2 a2 (enc p)) := hy2; have HO2 : Hid (Own w2 w.heap.size v0 (encU ([i, p, q, s].take 1))) := ⟨HI.out.1.1, own_below HI.out.1.2 hb2⟩; have HB2 : Hid (Below w.heap.size w w2) := below_next HI.out.2 hb2; have HC2 : Hid (a2 = none → c2 = 0) := shape_nc hn2; clear ho2 hb2 hy2 hn2)
          | (at_builtin; refine wpList_append_b rfl _ _ 22 rfl w.heap.size i0 Tryz.underlying22 hi hz0 hz1 hz2 v0 _ _ rfl HO2.out.2 a2 _ c2 (enc p) rfl rfl HY2.out HC2.out (by have := HLN.out; have := (enc_length_le p HX.out).2; omega) HB2.out.size ?_; intro v3 w3 ho3 hg3; have HO3 : Hid (_) := ho3; have HB3 : Hid (Below w.heap.size w w3) := grown_row HB2.out HO2.out.2 HB2.out.size hg3; clear ho3 hg3))
        go_roundw
        case rel =>
          refine ⟨v3, 1 + 1, rfl, by omega, by go_num, ⟨?_, ?_⟩, HB3.out⟩
          · rw [HT.out, encU_snoc]
            refine lt_getDC (fun y hy => ?_)
            rcases List.mem_append.1 hy with h | h
            · exact lt_allC HO2.out.1 y h
            · exact lt_allC HY2.out.1 y h
          · rw [HT.out, encU_snoc, List.length_append, B8_append]
            exact HO3.out
        case measure => simp [intOf]
      · have HX : Hid (q ≤ 18446744073709551615) := HU.out q (by simp)
        have HT : Hid ([i, p, q, s].take (2 + 1) = [i, p, q, s].take 2 ++ [q]) := rfl
        have HLN : Hid ((encU ([i, p, q, s].take 2)).length ≤ 40) := by
          show _ ≤ _
          have h1 := encU_len ([i, p, q, s].take 2) (fun u hu => HU.out u (List.mem_of_mem_take hu))
          have h2 : ([i, p, q, s].take 2).length ≤ 4 := by simp
          omega
        go_wp2_with (first
          | ((with_reducible refine guard_index 89 ?_); refine wpList_index rfl _ _ rfl rfl rfl (fun w => (four_at _ _ _ _ w).2.2.1) ?_)
          | (go_at_call 46; refine (encode_any q _ HX.out).mono ?_; rintro _ w2 ⟨v2, rfl, ho2, hb2⟩; obtain ⟨a2, c2, hv2, hc2, _, hy2, hn2⟩ := ho2.shape; subst hv2; have HY2 : Hid (Bytes w2 a2 (enc q)) := hy2; have HO2 : Hid (Own w2 w.heap.size v0 (encU ([i, p, q, s].take 2))) := ⟨HI.out.1.1, own_below HI.out.1.2 hb2⟩; have HB2 : Hid (Below w.heap.size w w2) := below_next HI.out.2 hb2; have HC2 : Hid (a2 = none → c2 = 0) := shape_nc hn2; clear ho2 hb2 hy2 hn2)
          | (at_builtin; refine wpList_append_b rfl _ _ 22 rfl w.heap.size i0 Tryz.underlying22 hi hz0 hz1 hz2 v0 _ _ rfl HO2.out.2 a2 _ c2 (enc q) rfl rfl HY2.out HC2.out (by have := HLN.out; have := (enc_length_le q HX.out).2; omega) HB2.out.size ?_; intro v3 w3 ho3 hg3; have HO3 : Hid (_) := ho3; have HB3 : Hid (Below w.heap.size w w3) := grown_row HB2.out HO2.out.2 HB2.out.size hg3; clear ho3 hg3))
        go_roundw
        case rel =>
          refine ⟨v3, 2 + 1, rfl, by omega, by go_num, ⟨?_, ?_⟩, HB3.out⟩
          · rw [HT.out, encU_snoc]
            refine lt_getDC (fun y hy => ?_)
            rcases List.mem_append.1 hy with h | h
            · exact lt_allC HO2.out.1 y h
            · exact lt_allC HY2.out.1 y h
          · rw [HT.out, encU_snoc, List.length_append, B8_append]
            exact HO3.out
        case measure => simp [intOf]
      · have HX : Hid (s ≤ 18446744073709551615) := HU.out s (by simp)
        have HT : Hid ([i, p, q, s].take (3 + 1) = [i, p, q, s].take 3 ++ [s]) := rfl
        have HLN : Hid ((encU ([i, p, q, s].take 3)).length ≤ 40) := by
          show _ ≤ _
          have h1 := encU_len ([i, p, q, s].take 3) (fun u hu => HU.out u (List.mem_of_mem_take hu))
          have h2 : ([i, p, q, s].take 3).length ≤ 4 := by simp
          omega
        go_wp2_with (first
          | ((with_reducible refine guard_index 89 ?_); refine wpList_index rfl _ _ rfl rfl rfl (fun w => (four_at _ _ _ _ w).2.2.2) ?_)
          | (go_at_call 46; refine (encode_any s _ HX.out).mono ?_; rintro _ w2 ⟨v2, rfl, ho2, hb2⟩; obtain ⟨a2, c2, hv2, hc2, _, hy2, hn2⟩ := ho2.shape; subst hv2; have HY2 : Hid (Bytes w2 a2 (enc s)) := hy2; have HO2 : Hid (Own w2 w.heap.size v0 (encU ([i, p, q, s].take 3))) := ⟨HI.out.1.1, own_below HI.out.1.2 hb2⟩; have HB2 : Hid (Below w.heap.size w w2) := below_next HI.out.2 hb2; have HC2 : Hid (a2 = none → c2 = 0) := shape_nc hn2; clear ho2 hb2 hy2 hn2)
          | (at_builtin; refine wpList_append_b rfl _ _ 22 rfl w.heap.size i0 Tryz.underlying22 hi hz0 hz1 hz2 v0 _ _ rfl HO2.out.2 a2 _ c2 (enc s) rfl rfl HY2.out HC2.out (by have := HLN.out; have := (enc_length_le s HX.out).2; omega) HB2.out.size ?_; intro v3 w3 ho3 hg3; have HO3 : Hid (_) := ho3; have HB3 : Hid (Below w.heap.size w w3) := grown_row HB2.out HO2.out.2 HB2.out.size hg3; clear ho3 hg3))
        go_roundw
        case rel =>
          refine ⟨v3, 3 + 1, rfl, by omega, by go_num, ⟨?_, ?_⟩, HB3.out⟩
          · rw [HT.out, encU_snoc]
            refine lt_getDC (fun y hy => ?_)
            rcases List.mem_append.1 hy with h | h
            · exact lt_allC HO2.out.1 y h
            · exact lt_allC HY2.out.1 y h
          · rw [HT.out, encU_snoc, List.length_append, B8_append]
            exact HO3.out
        case measure => simp [intOf]
    · obtain rfl : k = 4 := by omega
      have HL : Hid (Own wr w.heap.size v0 (lnL i p q s)) := by have h := HI.out.1; rw [show [i, p, q, s].take 4 = [i, p, q, s] from rfl, encU_four] at h; exact h
      go_wp2
      go_ret
      exact ⟨_, rfl, HL.out, HI.out.2⟩
end Go.Proofs.YtfcgcpfckbmgnaaGreat
