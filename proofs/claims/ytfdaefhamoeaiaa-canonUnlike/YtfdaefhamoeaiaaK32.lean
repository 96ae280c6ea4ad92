/- Own texts, joined: Sd3, Tle, Sd4. -/
import Derived.Test.YtfdaefhamoeaiaaK31
import Derived.Test.YtfdaefhamoeaiaaK28
namespace Go.Proofs.Ytfdaefhamoeaiaa
open Go.ChangeShapes Go.WideShapes Go.ChangeAt Go.RowKit
set_option linter.unusedVariables false
def wputs (S : List Fld × Int × Nat) (Fs : List Fld) : List Fld × Int × Nat := Fs.foldl wp1 S
/-- the ten fields of an event -/
abbrev tenF (k o i u p c t : Nat) (who : List Nat) (s : Nat) (note : List Nat) : List Fld := [⟨1, false, k, []⟩, ⟨2, false, o, []⟩, ⟨3, false, i, []⟩, ⟨4, false, u, []⟩, ⟨5, false, p, []⟩, ⟨6, false, c, []⟩, ⟨7, false, t, []⟩, ⟨8, true, 0, who⟩, ⟨9, false, s, []⟩, ⟨10, true, 0, note⟩]
theorem wrapN {k : Nat} (h : k ≤ 18446744073709551615) : IntKind.u64.wrap (k : Int) = (k : Int) := by rw [IntKind.wrap_u64]; omega
/-- what schema.Encode answers of a right event -/
def EncPost (w : World) (fs : List Fld) (r : Ending) (w' : World) : Prop := ∃ v', r = .returned (.tuple #[v', .int .i64 ((encs fs 0 []).2 : Int)]) ∧ Own w' w.heap.size v' (encs fs 0 []).1 ∧ Below w.heap.size w w'
theorem Wst.new {w w3 : World} {E : Ev} {q : Nat} (h : WrAt w3 (q + 1) q (.slice none 0 0) [] 0 0) (he : EvAt w3 w.heap.size E) (hb : Below w.heap.size w w3) (hq : w.heap.size < q) : Wst w w3 q w.heap.size E ([], 0, 0) 0 [] :=
  ⟨⟨_, _, h, rfl, by simp, by simp⟩, by simp, he, hq, by simp, hb, Nat.le_refl _⟩
theorem evc {w : World} {b : Nat} {E : Ev} {k o i p c t s : Nat} {qty : Int} {who note : ByteArray} (h : EvAt w b E) (hE : E = ⟨k, o, i, qty, p, c, t, who, s, note⟩) : w.cell? ⟨b, 0, none⟩ = some (.int .i64 (k : Int)) ∧ w.cell? ⟨b, 1, none⟩ = some (.int .i64 (o : Int)) ∧ w.cell? ⟨b, 2, none⟩ = some (.int .i64 (i : Int)) ∧ w.cell? ⟨b, 3, none⟩ = some (.int .i64 qty) ∧ w.cell? ⟨b, 4, none⟩ = some (.int .i64 (p : Int)) ∧ w.cell? ⟨b, 5, none⟩ = some (.int .i64 (c : Int)) ∧ w.cell? ⟨b, 6, none⟩ = some (.int .i64 (t : Int)) ∧ w.cell? ⟨b, 7, none⟩ = some (.string who) ∧ w.cell? ⟨b, 8, none⟩ = some (.int .i64 (s : Int)) ∧ w.cell? ⟨b, 9, none⟩ = some (.string note) := by
  subst hE; exact h.cells
end Go.Proofs.Ytfdaefhamoeaiaa
namespace Go.Proofs.Ytfdaefhamoeaiaa
open Go.ChangeShapes Go.WideShapes Go.ChangeAt Go.RowKit
theorem encs_pre : ∀ (fs : List Fld) (A : Int) (b r : List Nat), encs fs A b = (r, 0) → (∃ t, r = b ++ t) ∧ r.length ≤ 1024
  | [], A, b, r, h => by
    have h' : (if 1024 < b.length then (([] : List Nat), 24) else (b, 0)) = (r, 0) := h
    by_cases hb : 1024 < b.length
    · rw [if_pos hb] at h'; simp at h'
    · rw [if_neg hb] at h'
      have := (Prod.mk.inj h').1
      subst this
      exact ⟨⟨[], by simp⟩, by omega⟩
  | f :: fs, A, b, r, h => by
    have h' : (if flt f A ≠ 0 then (([] : List Nat), flt f A) else encs fs f.tag (b ++ one f)) = (r, 0) := h
    by_cases hz : flt f A = 0
    · rw [hz, if_neg (by simp)] at h'
      obtain ⟨⟨t, ht⟩, hl⟩ := encs_pre fs f.tag (b ++ one f) r h'
      exact ⟨⟨one f ++ t, by rw [ht]; simp⟩, hl⟩
    · rw [if_pos hz] at h'
      exact absurd (Prod.mk.inj h').2 hz
theorem norm_tag (f : Fld) : (norm f).tag = f.tag ∧ (norm f).text = f.text := by
  unfold norm; split <;> exact ⟨rfl, rfl⟩
theorem norm_norm (f : Fld) : norm (norm f) = norm f := by
  unfold norm
  by_cases h : f.text = true
  · rw [if_pos h]; rw [if_pos h]
  · rw [if_neg h]; rw [if_neg h]
theorem encs_back : ∀ (fs : List Fld) (A : Int) (b r : List Nat), (∀ f ∈ fs, f.num ≤ 18446744073709551615) → encs fs A b = (r, 0) → ∀ (fuel : Nat) (acc : List Fld), r.length - b.length < fuel → decs fuel r A b.length acc = (acc ++ fs.map norm, 0, 0)
  | [], A, b, r, _, h, fuel, acc, hf => by
    have h' : (if 1024 < b.length then (([] : List Nat), 24) else (b, 0)) = (r, 0) := h
    by_cases hb : 1024 < b.length
    · rw [if_pos hb] at h'; simp at h'
    · rw [if_neg hb] at h'
      have := (Prod.mk.inj h').1
      subst this
      obtain ⟨f', rfl⟩ : ∃ f', fuel = f' + 1 := ⟨fuel - 1, by omega⟩
      show (if b.length ≤ b.length then (acc, 0, 0) else _) = _
      rw [if_pos (Nat.le_refl _)]; simp
  | f :: fs, A, b, r, hn, h, fuel, acc, hf => by
    have h' : (if flt f A ≠ 0 then (([] : List Nat), flt f A) else encs fs f.tag (b ++ one f)) = (r, 0) := h
    by_cases hz : flt f A = 0
    · rw [hz, if_neg (by simp)] at h'
      obtain ⟨⟨t, ht⟩, hl⟩ := encs_pre fs f.tag (b ++ one f) r h'
      have hone := one_len f A (hn f (by simp)) hz
      obtain ⟨f', rfl⟩ : ∃ f', fuel = f' + 1 := ⟨fuel - 1, by omega⟩
      have hrl : r.length = b.length + (one f).length + t.length := by rw [ht, List.length_append, List.length_append]
      have hd : r.drop b.length = one f ++ t := by rw [ht, List.append_assoc, List.drop_left]
      have hs : decs (f' + 1) r A b.length acc = if r.length ≤ b.length then (acc, 0, 0) else if (next (r.drop b.length) A).2.2 ≠ 0 then ([], b.length, (next (r.drop b.length) A).2.2) else decs f' r (next (r.drop b.length) A).1.tag (b.length + (next (r.drop b.length) A).2.1) (acc ++ [(next (r.drop b.length) A).1]) := rfl
      rw [hs, if_neg (by omega), hd, next_one f A t (hn f (by simp)) hz]
      simp only [ne_eq, not_true_eq_false, if_false]
      rw [(norm_tag f).1]
      have ih := encs_back fs f.tag (b ++ one f) r (fun g hg => hn g (List.mem_cons_of_mem _ hg)) h' f' (acc ++ [norm f]) (by rw [List.length_append]; omega)
      rw [List.length_append] at ih
      rw [ih]
      simp
    · rw [if_pos hz] at h'
      exact absurd (Prod.mk.inj h').2 hz
theorem encs_err : ∀ (fs : List Fld) (A : Int) (b : List Nat), (encs fs A b).2 ≠ 0 → (encs fs A b).1 = []
  | [], A, b, h => by
    have hd : encs [] A b = if 1024 < b.length then ([], 24) else (b, 0) := rfl
    rw [hd] at h ⊢
    by_cases hb : 1024 < b.length
    · rw [if_pos hb]
    · rw [if_neg hb] at h; exact absurd rfl h
  | f :: fs, A, b, h => by
    have hd : encs (f :: fs) A b = if flt f A ≠ 0 then ([], flt f A) else encs fs f.tag (b ++ one f) := rfl
    rw [hd] at h ⊢
    by_cases hz : flt f A = 0
    · rw [hz, if_neg (by simp)] at h ⊢
      exact encs_err fs f.tag (b ++ one f) h
    · rw [if_pos hz]
theorem recs_back (fs : List Fld) (r : List Nat) (hn : ∀ f ∈ fs, f.num ≤ 18446744073709551615) (h : encs fs 0 [] = (r, 0)) : recs r = (fs.map norm, 0, 0) := by
  have hl := (encs_pre fs 0 [] r h).2
  unfold recs
  rw [if_neg (by omega)]
  have := encs_back fs 0 [] r hn h (r.length + 1) [] (by simp)
  simpa using this
end Go.Proofs.Ytfdaefhamoeaiaa
namespace Go.Proofs.Ytfdaefhamoeaiaa
open Go.ChangeShapes Go.WideShapes Go.ChangeAt Go.RowKit
set_option linter.unusedVariables false
/-- a field that holds something -/
def nz (F : Fld) : Bool := if F.text = true then !F.bytes.isEmpty else !(F.num == 0)
/-- fields of rising tags behind A, none too long -/
def Ris : Int → List Fld → Prop
  | _, [] => True
  | A, F :: r => A < F.tag ∧ 1 ≤ F.tag ∧ F.tag ≤ 31 ∧ (F.text = true → F.bytes.length ≤ 200) ∧ Ris F.tag r
theorem Ris.mono {A B : Int} {fs : List Fld} (h : Ris A fs) (hB : B ≤ A) : Ris B fs := by
  cases fs with
  | nil => trivial
  | cons F r => obtain ⟨h1, h2⟩ := h; exact ⟨by omega, h2⟩
theorem flt_nz {F : Fld} {A : Int} (h1 : A < F.tag) (h2 : 1 ≤ F.tag) (h3 : F.tag ≤ 31) (h4 : F.text = true → F.bytes.length ≤ 200) : flt F A = if nz F = true then 0 else 22 := by
  unfold flt nz
  rw [if_neg (by omega), if_neg (by omega)]
  by_cases ht : F.text = true
  · rw [if_pos ht, if_pos ht]
    have := h4 ht
    rcases hb : F.bytes with _ | ⟨x, r⟩
    · simp
    · rw [hb] at this
      simp only [List.isEmpty_cons, Bool.not_false, if_true]
      rw [if_neg (by simp), if_neg (by omega)]
  · rw [if_neg ht, if_neg ht]
    by_cases hn : F.num = 0
    · simp [hn]
    · simp [hn]
theorem wputs_right : ∀ (Fs : List Fld) (fs : List Fld) (A : Int), Ris A Fs → ∃ A', wputs (fs, A, 0) Fs = (fs ++ Fs.filter nz, A', 0)
  | [], fs, A, _ => ⟨A, by simp [wputs]⟩
  | F :: r, fs, A, h => by
    obtain ⟨h1, h2, h3, h4, h5⟩ := h
    have hf := flt_nz h1 h2 h3 h4
    show ∃ A', wputs (wp1 (fs, A, 0) F) r = _
    by_cases hz : nz F = true
    · rw [if_pos hz] at hf
      have e1 : wp1 (fs, A, 0) F = (fs ++ [F], F.tag, 0) := by unfold wp1 wput; rw [if_neg (by simp), if_pos hf]
      obtain ⟨A', hA⟩ := wputs_right r (fs ++ [F]) F.tag h5
      exact ⟨A', by rw [e1, hA, List.filter_cons, if_pos hz]; simp⟩
    · rw [if_neg hz] at hf
      have e1 : wp1 (fs, A, 0) F = (fs, A, 0) := by unfold wp1 wput; rw [if_neg (by simp), if_neg (by rw [hf]; decide), if_pos hf]
      obtain ⟨A', hA⟩ := wputs_right r fs A (h5.mono (by omega))
      exact ⟨A', by rw [e1, hA, List.filter_cons, if_neg hz]⟩
theorem one_le (F : Fld) (hn : F.num ≤ 18446744073709551615) (ht : F.tag ≤ 31) (hb : F.bytes.length ≤ 200) : (one F).length ≤ 20 + (if F.text = true then F.bytes.length else 0) := by
  unfold one
  by_cases h : F.text = true
  · rw [if_pos h, if_pos h]
    have h1 := (enc_length_le (2 * F.tag.toNat + 1) (by omega)).2
    have h2 := (enc_length_le F.bytes.length (by omega)).2
    simp only [List.length_append]
    omega
  · rw [if_neg h, if_neg h]
    have h1 := (enc_length_le (2 * F.tag.toNat) (by omega)).2
    have h2 := (enc_length_le F.num hn).2
    simp only [List.length_append]
    omega
/-- the bytes of fields behind one another -/
def ones (fs : List Fld) : List Nat := fs.flatMap one
theorem encs_all : ∀ (fs : List Fld) (A : Int) (b : List Nat), Ris A fs → (∀ f ∈ fs, nz f = true) → b.length + (ones fs).length ≤ 1024 → encs fs A b = (b ++ ones fs, 0)
  | [], A, b, _, _, h => by
    show (if 1024 < b.length then (([] : List Nat), 24) else (b, 0)) = _
    rw [if_neg (by omega)]
    simp [ones]
  | f :: r, A, b, h, hn, hl => by
    obtain ⟨h1, h2, h3, h4, h5⟩ := h
    have hf := flt_nz h1 h2 h3 h4
    rw [if_pos (hn f (List.mem_cons_self ..))] at hf
    have e1 : ones (f :: r) = one f ++ ones r := by simp [ones]
    rw [e1, List.length_append] at hl
    show (if flt f A ≠ 0 then (([] : List Nat), flt f A) else encs r f.tag (b ++ one f)) = _
    rw [hf, if_neg (by simp), encs_all r f.tag (b ++ one f) h5 (fun g hg => hn g (List.mem_cons_of_mem _ hg)) (by rw [List.length_append]; omega), e1, List.append_assoc]
theorem Ris.filter {A : Int} {p : Fld → Bool} : ∀ {fs : List Fld}, Ris A fs → Ris A (fs.filter p) := by
  intro fs
  induction fs generalizing A with
  | nil => intro h; exact h
  | cons F r ih =>
    intro h
    obtain ⟨h1, h2, h3, h4, h5⟩ := h
    rw [List.filter_cons]
    split
    · exact ⟨h1, h2, h3, h4, ih h5⟩
    · exact (ih h5).mono (by omega)
/-- the quantity as it is written -/
def qN (v : Int) (E : Ev) : Nat := if v ≤ 2 then (zig E.qty).toNat else E.qty.toNat
def evF (v : Int) (E : Ev) : List Fld := tenF E.kind.toNat E.order.toNat E.item.toNat (qN v E) E.price.toNat E.cur.toNat E.tax.toNat (nums8 E.who) E.stamp.toNat (nums8 E.note)
/-- the fields of an event's record -/
def efs (v : Int) (E : Ev) : List Fld := (evF v E).filter nz
theorem zig_nn (x : Int) : 0 ≤ zig x := by unfold zig; split <;> omega
theorem loQ_le (v : Int) : -10000 ≤ loQ v := by unfold loQ; split <;> omega
theorem Right.qN {v : Int} {E : Ev} (r : Right v E) : qN v E ≤ 20000 := by
  unfold Go.Proofs.Ytfdaefhamoeaiaa.qN
  have h1 := r.qty0
  have h2 := r.qty1
  have h3 := loQ_le v
  split
  · unfold zig; split <;> omega
  · omega
theorem Right.ris {v : Int} {E : Ev} (r : Right v E) : Ris 0 (evF v E) := by
  have h1 := r.who
  have h2 := r.note
  simp [evF, tenF, Ris, nums8_len]
  omega
theorem ones_le : ∀ (fs : List Fld), (∀ f ∈ fs, f.num ≤ 18446744073709551615 ∧ f.tag ≤ 31 ∧ f.bytes.length ≤ 200) → (ones fs).length ≤ 20 * fs.length + (fs.map fun f => if f.text = true then f.bytes.length else 0).sum
  | [], _ => by simp [ones]
  | f :: r, h => by
    have e1 : ones (f :: r) = one f ++ ones r := by simp [ones]
    obtain ⟨a1, a2, a3⟩ := h f (List.mem_cons_self ..)
    have h1 := one_le f a1 a2 a3
    have h2 := ones_le r (fun g hg => h g (List.mem_cons_of_mem _ hg))
    rw [e1, List.length_append, List.map_cons, List.sum_cons, List.length_cons]
    omega
theorem Right.flds {v : Int} {E : Ev} (r : Right v E) : ∀ f ∈ evF v E, f.num ≤ 18446744073709551615 ∧ f.tag ≤ 31 ∧ f.bytes.length ≤ 200 := by
  have h1 := r.who
  have h2 := r.note
  have q := r.qN
  have hk : lastK v ≤ 10 := by unfold lastK; split <;> (try split) <;> (try split) <;> omega
  have hp : hiP v ≤ 100000000 := by unfold hiP; split <;> omega
  intro f hf
  simp only [evF, tenF, List.mem_cons, List.not_mem_nil, or_false] at hf
  have bkind0 := r.kind0
  have bkind1 := r.kind1
  have border0 := r.order0
  have border1 := r.order1
  have bitem0 := r.item0
  have bitem1 := r.item1
  have bprice0 := r.price0
  have bprice1 := r.price1
  have bcur0 := r.cur0
  have bcur1 := r.cur1
  have btax0 := r.tax0
  have btax1 := r.tax1
  have bstamp0 := r.stamp0
  have bstamp1 := r.stamp1
  rcases hf with rfl | rfl | rfl | rfl | rfl | rfl | rfl | rfl | rfl | rfl
  all_goals refine ⟨?_, ?_, ?_⟩
  all_goals simp only [List.length_nil, nums8_len]
  all_goals omega
theorem sum_filter (p : Fld → Bool) (g : Fld → Nat) : ∀ fs : List Fld, ((fs.filter p).map g).sum ≤ (fs.map g).sum
  | [] => by simp
  | f :: r => by
    have ih := sum_filter p g r
    rw [List.filter_cons]
    split
    · simp only [List.map_cons, List.sum_cons]; omega
    · simp only [List.map_cons, List.sum_cons]; omega
/-- the record of a right event is never too long -/
theorem efs_encs {v : Int} {E : Ev} (r : Right v E) : encs (efs v E) 0 [] = (ones (efs v E), 0) := by
  have h := encs_all (efs v E) 0 [] r.ris.filter (fun f hf => (List.mem_filter.1 hf).2) ?_
  · rw [h]; simp
  · have h1 := ones_le (efs v E) (fun f hf => r.flds f (List.mem_filter.1 hf).1)
    have h2 : (efs v E).length ≤ 10 := List.length_filter_le ..
    have h3 := sum_filter nz (fun f => if f.text = true then f.bytes.length else 0) (evF v E)
    have h4 : ((evF v E).map fun f => if f.text = true then f.bytes.length else 0).sum = E.who.size + E.note.size := by
      simp [evF, tenF, nums8_len]
    have h5 := r.who
    have h6 := r.note
    unfold efs at h1 h2 ⊢
    simp only [List.length_nil]
    omega
/-- what schema.Encode answers -/
def senc (v : Int) (E : Ev) : List Nat × Int := if chk v E ≠ 0 then ([], chk v E) else (ones (efs v E), 0)
def SencPost (w : World) (v : Int) (E : Ev) (r : Ending) (w' : World) : Prop := ∃ v', r = .returned (.tuple #[v', .int .i64 (senc v E).2]) ∧ Own w' w.heap.size v' (senc v E).1 ∧ Below w.heap.size w w'
theorem nat_of {x : Int} (h : 0 ≤ x) : ((x.toNat : Nat) : Int) = x := by omega
end Go.Proofs.Ytfdaefhamoeaiaa
