/- Own texts, joined: Fsr. -/
import Derived.Test.YtnfkdgjgglnniaaDoorK52
import Derived.Test.YtnfkdgjgglnniaaDoorK44
namespace Go.Proofs.YtnfkdgjgglnniaaDoor
open Go.ChangeShapes Go.WideShapes Go.ChangeAt Go.RowKit Go.Maps Go.Sort
set_option linter.unusedVariables false
set_option linter.unusedSimpArgs false
theorem lose_snoc : ∀ (X : List Fa) (g : Fa) (ks : List Int), loseA (X ++ [g]) ks = loseA X ks ++ [lostA g (ks.getD X.length 0)]
  | [], g, [] => rfl
  | [], g, k :: ks => by simp [loseA]
  | f :: X, g, [] => by
    have := lose_snoc X g []
    simp only [List.cons_append, loseA, this, List.getD_nil]
  | f :: X, g, k :: ks => by
    have := lose_snoc X g ks
    simp only [List.cons_append, loseA, this, List.length_cons, List.getD_cons_succ]
theorem lose_names : ∀ (X : List Fa) (ks : List Int), (loseA X ks).map (·.name) = X.map (·.name)
  | [], _ => by cases ‹List Int› <;> rfl
  | f :: X, [] => by simp only [loseA, List.map_cons, lose_names X []]; rfl
  | f :: X, k :: ks => by simp only [loseA, List.map_cons, lose_names X ks]; rfl
theorem lose_len (X : List Fa) (ks : List Int) : (loseA X ks).length = X.length := by
  have := congrArg List.length (lose_names X ks)
  simpa using this
theorem get_mid : ∀ {X : List Fa} {g : Fa} {R : List Fa}, SortA (X ++ g :: R) → getA (X ++ g :: R) g.name = some g
  | [], g, R, _ => by rw [List.nil_append, getA_cons, if_pos rfl]
  | f :: X, g, R, h => by
    obtain ⟨h1, h2⟩ := List.pairwise_cons.1 h
    rw [List.cons_append, getA_cons, if_neg, get_mid h2]
    intro e
    have := h1 g (by simp)
    rw [e] at this
    exact lt_irr _ this
theorem ins_mid : ∀ {X : List Fa} {g g' : Fa} {R : List Fa}, SortA (X ++ g :: R) → g'.name = g.name → insA g' (X ++ g :: R) = X ++ g' :: R
  | [], g, g', R, _, e => by
    rw [List.nil_append]
    unfold insA
    rw [e, if_neg (lt_irr _), if_pos rfl]
    rfl
  | f :: X, g, g', R, h, e => by
    obtain ⟨h1, h2⟩ := List.pairwise_cons.1 h
    have hlt : f.name < g'.name := by rw [e]; exact h1 g (by simp)
    rw [List.cons_append]
    unfold insA
    rw [if_neg (fun h3 => lt_irr _ (lt_tr h3 hlt)), if_neg (fun h3 => by rw [h3] at hlt; exact lt_irr _ hlt), ins_mid h2 e]
    rfl
/-- what is lost of the first k files -/
abbrev lostTo (A : Ak) (ks : List Int) (k : Nat) : List Fa := loseA (A.fs.take k) ks ++ A.fs.drop k
theorem lost_zero (A : Ak) (ks : List Int) : lostTo A ks 0 = A.fs := by cases ks <;> rfl
theorem lost_all (A : Ak) (ks : List Int) (k : Nat) (h : A.fs.length ≤ k) : lostTo A ks k = loseA A.fs ks := by
  unfold lostTo
  rw [List.take_of_length_le h, List.drop_of_length_le h, List.append_nil]
theorem lost_mid (A : Ak) (ks : List Int) (k : Nat) (h : k < A.fs.length) : lostTo A ks k = loseA (A.fs.take k) ks ++ A.fs[k] :: A.fs.drop (k + 1) := by
  unfold lostTo
  rw [List.drop_eq_getElem_cons h]
theorem lost_next (A : Ak) (ks : List Int) (k : Nat) (h : k < A.fs.length) : lostTo A ks (k + 1) = loseA (A.fs.take k) ks ++ lostA A.fs[k] (ks.getD k 0) :: A.fs.drop (k + 1) := by
  unfold lostTo
  rw [List.take_succ_eq_append_getElem h, lose_snoc, List.append_assoc, List.length_take, Nat.min_eq_left (by omega)]
  rfl
theorem lookS1 {w : World} {b n : Nat} {M : DataW Value} {L : List Fi} {nm : List UInt8} (hm : w.ownsMap Tryd.prog 9 hvS b n M) (hr : RepN M L) (hl : nm.length ≤ 281474976710656) {f : Fi} (hg : getN L nm = some f) :
    (Instr.lookup 46 (.map (some b)) (.string (bs nm)) false).run Tryd.prog w = .ok (FiV f) w := by
  obtain ⟨v, ps, hrun, hR⟩ := hm.lookup fs_keyed Tryd.underlying46 (zero_fi w) (zd := .held (fiV (.slice none 0 0) 0)) (zp := []) rfl (fs_key hl)
  rw [hr.look, hg] at hR
  have h1 := hvS_inv hR
  simp only [DataW.held.injEq] at h1
  rw [hrun, ← h1]
theorem wpList_lookS1 {ops : Array Oper} {rest : List Oper} {o : Oper} {a : Act} {w : World} {Q : Exit → Act → World → Prop} (hg : o.guard = none) (m x : Operand) (hop : o.op = Op.lookup 46 m x false) {b : Nat} {nm : List UInt8} {v : Value} (hm : a.eval m = .map (some b)) (hx : a.eval x = .string (bs nm))
    (hrun : (Instr.lookup 46 (.map (some b)) (.string (bs nm)) false).run Tryd.prog w = .ok v w) (hK : wpList Tryd.prog ops Q rest (a.put o.dst v) w) : wpList Tryd.prog ops Q (o :: rest) a w := by
  refine wpList_plain hg fun K' hK' => ?_
  unfold Oper.wp
  simp [execOp, hop, hm, hx, hrun, Result.andThen]
  exact hK' _ _ hK
/-- what holds in a loop over the files of a disk that is lost: k of them are -/
structure ReR (w wr : World) (base q b : Nat) (D : Dk) (ks : List Int) (k : Nat) (v : Value) (D' : Dk) : Prop where
  dk : DkAt wr base q b D'
  ab : D'.ab = D.ab.put (lostTo D.ab ks k)
  chg : Chg q b D.fs D'.fs w wr
  row : OwnT wr w.heap.size v (namesN D.fs)
/-- what the k-th name finds -/
theorem rer_get {w wr : World} {base q b : Nat} {D D' : Dk} {ks : List Int} {k : Nat} {v : Value} (h : ReR w wr base q b D ks k v D') (hk : k < D.fs.length) :
    ∃ f, getN D'.fs (D.fs[k]).name = some f ∧ f.ab = (D.fs[k]).ab ∧ SortA (loseA (D.ab.fs.take k) ks ++ (D.fs[k]).ab :: D.ab.fs.drop (k + 1)) ∧ D'.ab.fs = loseA (D.ab.fs.take k) ks ++ (D.fs[k]).ab :: D.ab.fs.drop (k + 1) := by
  have hka : k < D.ab.fs.length := by show k < (D.fs.map Fi.ab).length; rw [List.length_map]; exact hk
  have hs : SortA D'.ab.fs := (sort_ab D'.fs).2 h.dk.srt
  have e1 : D'.ab.fs = loseA (D.ab.fs.take k) ks ++ (D.fs[k]).ab :: D.ab.fs.drop (k + 1) := by
    rw [h.ab]
    show lostTo D.ab ks k = _
    rw [lost_mid _ _ _ hka]
    have : D.ab.fs[k] = (D.fs[k]).ab := List.getElem_map ..
    rw [this]
  rw [e1] at hs
  have e2 := get_mid hs
  rw [← e1] at e2
  have e3 : getA (D'.fs.map Fi.ab) (D.fs[k]).name = some (D.fs[k]).ab := e2
  rw [get_ab] at e3
  cases hg : getN D'.fs (D.fs[k]).name with
  | none => rw [hg] at e3; cases e3
  | some f =>
    rw [hg] at e3
    simp only [Option.map_some, Option.some.injEq] at e3
    exact ⟨f, rfl, e3, hs, e1⟩
theorem ownT_at {w : World} {base g cp : Nat} {L : List (List UInt8)} {n : Nat} (h : OwnT w base (.slice (some ⟨g, 0, none⟩) n cp) L) (hn : L.length = n) (k : Nat) (hk : k < L.length) : w.cell? ⟨g, k, none⟩ = some (.string (bs L[k])) := by
  rcases h.2 with ⟨h0, _⟩ | ⟨g', cap, cur, h1, h2, h3, h4, h5, h6, h7⟩
  · cases h0
  · cases h1
    rw [cell_of_row _ _ k _ _ _ h3]
    have h8 := congrArg (fun y => y[k]?) h7
    simp only [List.getElem?_take, Nat.mul_one, if_pos hk, List.getElem?_map, List.getElem?_eq_getElem hk, Option.map_some] at h8
    rw [← Array.getElem?_toList]
    exact h8
theorem ownT_slice {w : World} {base : Nat} {v : Value} {L : List (List UInt8)} (h : OwnT w base v L) : (v = .slice none 0 0 ∧ L = []) ∨ ∃ g cp, v = .slice (some ⟨g, 0, none⟩) L.length cp ∧ base ≤ g ∧ L.length ≤ cp := by
  rcases h.2 with ⟨h0, h1⟩ | ⟨g', cap, cur, h1, h2, h3, h4, _⟩
  · exact .inl ⟨h0, List.length_eq_zero_iff.1 h1⟩
  · exact .inr ⟨g', cap, h1, h2, h4⟩
/-- behind the put of what is left -/
theorem rer_step {w wr x y : World} {base q b : Nat} {D D' : Dk} {ks : List Int} {k : Nat} {v : Value} {f : Fi} {a : Option Addr} {m c N : Nat} {nm : List UInt8} (h : ReR w wr base q b D ks k v D') (hw : base ≤ w.heap.size) (hq : q < w.heap.size ∧ b < w.heap.size) (hk : k < D.fs.length) (hb : Below wr.heap.size wr x)
    (hf : getN D'.fs nm = some f) (hfa : f.ab = (D.fs[k]).ab) (hsr : SortA (loseA (D.ab.fs.take k) ks ++ (D.fs[k]).ab :: D.ab.fs.drop (k + 1))) (he : D'.ab.fs = loseA (D.ab.fs.take k) ks ++ (D.fs[k]).ab :: D.ab.fs.drop (k + 1)) (hv : f.v = .slice a m c) (hN : N = keepN (D.fs[k]).ab (ks.getD k 0))
    (hd : DkAt y base q b (putD D' ⟨nm, .slice a N N, f.l.take N, N⟩)) (hkp : Kept b b x y) : ReR w y base q b D ks (k + 1) v (putD D' ⟨nm, .slice a N N, f.l.take N, N⟩) := by
  have hka : k < D.ab.fs.length := by show k < (D.fs.map Fi.ab).length; rw [List.length_map]; exact hk
  obtain ⟨hfm, hfn⟩ := getN_mem hf
  have hnm : nm = (D.fs[k]).name := by rw [← hfn]; exact congrArg Fa.name hfa
  have e0 : D.ab.fs[k] = (D.fs[k]).ab := List.getElem_map ..
  have e1 : (⟨nm, f.l.take N, N⟩ : Fa) = lostA (D.fs[k]).ab (ks.getD k 0) := by
    unfold lostA
    rw [← hN]
    have : f.l = (D.fs[k]).ab.l := congrArg Fa.l hfa
    rw [this, hnm]
    rfl
  refine ⟨hd, ?_, ?_, ?_⟩
  · have e2 : (putD D' ⟨nm, .slice a N N, f.l.take N, N⟩).ab = D'.ab.put (insA ⟨nm, f.l.take N, N⟩ D'.ab.fs) := by
      show Ak.mk _ _ _ _ _ ((insN _ D'.fs).map Fi.ab) = _
      rw [ins_ab]; rfl
    rw [e2, he, e1, ins_mid hsr (show (lostA (D.fs[k]).ab (ks.getD k 0)).name = (D.fs[k]).ab.name from rfl), h.ab, lost_next _ _ _ hka, e0]
  · refine (h.chg.below hb).put _ hkp (fun j hj => ?_)
    have hj2 : f.v.ownBlock = some j := by rw [hv, ← own_cut a m c N]; exact hj
    exact h.chg.own j (.inr (.inr ⟨f, hfm, hj2⟩))
  · refine ⟨h.row.1, ?_⟩
    rcases h.row.2 with h1 | ⟨g, cap, cur, h1, h2, h3, h4⟩
    · exact .inl h1
    · have hgl := lt_of_heap h3
      exact .inr ⟨g, cap, cur, h1, h2, (hkp.block g (Nat.lt_of_lt_of_le hgl hb.size) (by omega) (by omega)).trans ((hb.block g hgl).trans h3), h4⟩
theorem chg_ints {w wr : World} {q b : Nat} {L L' : List Fi} {A : Option Addr} {ks : List Int} (h : Chg q b L L' w wr) (hi : Ints w A ks) (ho : ∀ g off, A = some ⟨g, off, none⟩ → ks ≠ [] → ¬ Ob q b L g) : Ints wr A ks := by
  refine ⟨hi.1, ?_⟩
  rcases hi.2 with h1 | ⟨g, off, rfl, hlt, hc⟩
  · exact .inl h1
  · by_cases hz : ks = []
    · exact .inl hz
    · refine .inr ⟨g, off, rfl, Nat.lt_of_lt_of_le hlt h.size, fun i hi => ?_⟩
      rw [cell_heapS (h.block g hlt (ho g off rfl hz)) (off + i)]
      exact hc i hi
set_option maxRecDepth 100000 in
set_option maxHeartbeats 4000000 in
theorem restart_any (w : World) (base q b : Nat) (D : Dk) (h : DkAt w base q b D) (ho : DkOk D) (A : Option Addr) (nk C : Nat) (ks : List Int) (hkn : ks.length = nk) (hks : Ints w A ks) (hkb : ∀ g off, A = some ⟨g, off, none⟩ → ks ≠ [] → ¬ Ob q b D.fs g) (hkl : (nk : Int) ≤ 281474976710656) :
    Calls Tryd.prog 11 #[.pointer (some ⟨q, 0, none⟩), .slice A nk C] w fun r w' => r = .returned (.tuple #[]) ∧ To base q b D.fs (restartA D.ab ks) w w' := by
  have HC : Hid (Calls Tryd.prog 27 #[.pointer (some ⟨q, 0, none⟩)] w fun r w' => ∃ v, r = .returned v ∧ OwnT w' w.heap.size v (namesN D.fs) ∧ Below w.heap.size w w') := sorted_any w base q b D h ho.few
  obtain ⟨n, hn⟩ : ∃ n, D.fs.length = n := ⟨_, rfl⟩
  have HN : Hid (D.fs.length = n ∧ n ≤ 700) := ⟨hn, by rw [← hn]; exact ho.few⟩
  have HNL : Hid ((namesN D.fs).length = n) := by show _ = _; unfold namesN; rw [List.length_map, hn]
  have hn0 : (0 : Int) ≤ (n : Int) := by omega
  have hn7 : (n : Int) ≤ 700 := by have := HN.out.2; omega
  have hnk0 : (0 : Int) ≤ (nk : Int) := by omega
  have HD : Hid (DkAt w base q b D) := h
  have HO : Hid (DkOk D) := ho
  have HQ : Hid (base ≤ w.heap.size ∧ q < w.heap.size ∧ b < w.heap.size) := ⟨Nat.le_trans h.lo.1 (Nat.le_of_lt h.lt.1), h.lt⟩
  have HK : Hid (ks.length = nk) := hkn
  have HKS : Hid (Ints w A ks) := hks
  have HKB : Hid (∀ g off, A = some ⟨g, off, none⟩ → ks ≠ [] → ¬ Ob q b D.fs g) := hkb
  clear h ho hn hkn hks hkb
  go_enter Tryd.func11, Tryd.ntmps11
  go_wp2_with (go_at_call 27; refine HC.out.mono ?_; rintro _ x1 ⟨v, rfl, ho1, hb1⟩; obtain ⟨g1, c1, hv⟩ : ∃ g1 c1, v = .slice g1 n c1 := (by rcases ownT_slice ho1 with ⟨e1, e2⟩ | ⟨g, cp, e1, _⟩; have h0 := HNL.out; rw [e2] at h0; exact ⟨none, 0, by rw [e1, ← h0]; rfl⟩; exact ⟨some ⟨g, 0, none⟩, cp, by rw [e1, HNL.out]⟩); subst hv; have HR1 : Hid (ReR w x1 base q b D ks 0 (.slice g1 n c1) D) := ⟨HD.out.keep hb1, by rw [lost_zero], .of_below hb1, ho1⟩; clear ho1 hb1)
  go_loopw [12] (fun v12 wr => ∃ (k : Nat) (D' : Dk), v12 = .int .i64 (k : Int) ∧ k ≤ n ∧ Hid (ReR w wr base q b D ks k (.slice g1 n c1) D')) (fun v12 _ => n - (intOf v12).toNat)
  case atStart => exact ⟨0, D, rfl, Nat.zero_le _, HR1.out⟩
  case round =>
    obtain ⟨k, D', rfl, hk, HRR⟩ := hrel
    have HRK : Hid (k ≤ n) := hk
    by_cases hkn : k < n
    · have HKN : Hid (k < D.fs.length) := by show k < _; rw [HN.out.1]; exact hkn
      obtain ⟨g, rfl⟩ : ∃ g, g1 = some ⟨g, 0, none⟩ := by
        rcases ownT_slice HRR.out.row with ⟨e1, e2⟩ | ⟨g, cp, e1, _⟩
        · have h0 := HNL.out; rw [e2] at h0; simp at h0; omega
        · injection e1 with e2; exact ⟨g, e2⟩
      obtain ⟨f, hf, hfa, hsr, he⟩ := rer_get HRR.out HKN.out
      obtain ⟨nm, hnm⟩ : ∃ nm, (D.fs[k]'HKN.out).name = nm := ⟨_, rfl⟩
      rw [hnm] at hf
      have hcell := ownT_at HRR.out.row HNL.out k (by rw [HNL.out]; exact hkn)
      have hcell2 : wr.cell? ⟨g, k, none⟩ = some (.string (bs nm)) := by
        rw [hcell]
        unfold namesN
        rw [List.getElem_map, hnm]
      clear hcell
      have hlen : nm.length ≤ 281474976710656 := by have := HO.out.name _ (List.getElem_mem HKN.out); rw [hnm] at this; omega
      have HNM : Hid (nm.length ≤ 281474976710656) := hlen
      have cq1 := HRR.out.dk.cells.2.1
      obtain ⟨M, hm, hr⟩ := HRR.out.dk.map
      have hlk := lookS1 hm hr hlen hf
      obtain ⟨hfm, hfn⟩ := getN_mem hf
      obtain ⟨a, c, hv, hc1, hc2, hby, hnil, hone⟩ := (HRR.out.dk.dat f hfm).bytes
      obtain ⟨m, hm2⟩ : ∃ m, f.l.length = m := ⟨_, rfl⟩
      obtain ⟨s, hs⟩ : ∃ s, f.s = s := ⟨_, rfl⟩
      have el : f.l = (D.fs[k]'HKN.out).l := congrArg Fa.l hfa
      have es : f.s = (D.fs[k]'HKN.out).s := congrArg Fa.s hfa
      have hmI : (m : Int) ≤ 67108864 := by
        have h1 := usedN_mem (List.getElem_mem HKN.out)
        have h2 := HO.out.used
        have h3 := HO.out.room
        rw [← el, hm2] at h1
        omega
      have hsm : s ≤ m := by
        have h1 := HO.out.safe _ (List.getElem_mem HKN.out)
        rw [← el, ← es, hm2, hs] at h1
        exact h1
      rw [hm2] at hv hc1
      have HVS : Hid (FiV f = fiV (.slice a m c) (s : Int)) := by show Value.agg #[f.v, _] = _; rw [hv, hs]
      rw [HVS.out] at hlk
      obtain ⟨more, hmore⟩ : ∃ more, ks.getD k 0 = more := ⟨_, rfl⟩
      have hrange : inI more := by
        rw [← hmore, List.getD_eq_getElem?_getD]
        cases hx : ks[k]? with
        | none => simp [inI]
        | some x => exact HKS.out.1 x (List.mem_of_getElem? hx)
      have HN2 : Hid (keepI s m more = keepN (D.fs[k]'HKN.out).ab (ks.getD k 0)) := by
        show _ = _
        rw [hmore]
        show keepI s m more = (D.fs[k]'HKN.out).s + (if more < 0 then 0 else min more.toNat ((D.fs[k]'HKN.out).l.length - (D.fs[k]'HKN.out).s))
        rw [← el, ← es, hm2, hs]
        rfl
      have HSV : Hid (∀ x : World, Calls Tryd.prog 29 #[fiV (.slice a m c) (s : Int), .int .i64 more] x fun r w' => r = .returned (fiV (.slice a (keepI s m more) (keepI s m more)) (keepI s m more : Nat)) ∧ Below x.heap.size x w') := fun x => survivor_any x a m c s more hsm hc1 hmI (by have := HRR.out.dk.dat f hfm; rw [hv] at this; exact dat_addr this) hrange.1 hrange.2
      obtain ⟨N, hN⟩ : ∃ N, keepI s m more = N := ⟨_, rfl⟩
      rw [hN] at HSV HN2
      have hNm : N ≤ f.l.length := by rw [hm2, ← hN]; unfold keepI; split <;> omega
      have HPUT : Hid (∀ x5 : World, Below wr.heap.size wr x5 → Calls Tryd.prog 28 #[.pointer (some ⟨q, 0, none⟩), .string (bs nm), fiV (.slice a N N) (N : Int)] x5 fun r w' => r = .returned (.tuple #[]) ∧ ReR w w' base q b D ks (k + 1) (.slice (some ⟨g, 0, none⟩) n c1) (putD D' ⟨nm, .slice a N N, f.l.take N, N⟩)) := fun x5 hb5 => by
        have hdx := HRR.out.dk.keep hb5
        refine (fput_any x5 base q b D' hdx ?_ nm (.slice a N N) (f.l.take N) N hlen ?_ ?_).mono (fun r w' hr => ⟨hr.1, rer_step HRR.out HQ.out.1 HQ.out.2 HKN.out hb5 hf hfa hsr he hv HN2.out hr.2.1 hr.2.2⟩)
        · have h1 : D'.fs.length = D.fs.length := by
            have h2 := congrArg (fun A => A.fs.length) HRR.out.ab
            have h3 : D'.fs.length = (lostTo D.ab ks k).length := by
              have h4 : D'.ab.fs.length = D'.fs.length := List.length_map _
              rw [← h4]; exact h2
            rw [h3]
            unfold lostTo
            have h5 : D.ab.fs.length = D.fs.length := List.length_map _
            rw [List.length_append, lose_len, List.length_take, List.length_drop, h5]
            have := HKN.out
            omega
          rw [h1, HN.out.1]
          have := HN.out.2
          unfold maxLen
          omega
        · have hd := hdx.dat f hfm
          rw [hv] at hd
          exact hd.first N hNm
        · intro x hx hne j hj
          refine dist_ne hdx.dist hfm hx (by rw [hfn]; exact hne) j ?_
          rw [hv, ← own_cut a m c N]
          exact hj
      have HIN : Hid (Ints wr A ks) := chg_ints HRR.out.chg HKS.out HKB.out
      have hkI : (k : Int) < (n : Int) := by omega
      have hk0 : (0 : Int) ≤ (k : Int) := by omega
      have fz : Fence.wide.fn 43 := trivial
      clear hf hfa hsr he hnm hlen hm hr hfm hfn hv hc1 hc2 hby hnil hone hm2 hs el es hsm hrange hN hNm fz hmI
      by_cases hkk : k < nk
      · have hkkI : (k : Int) < (nk : Int) := by omega
        obtain ⟨gk, ok, rfl, hck⟩ : ∃ gk ok, A = some ⟨gk, ok, none⟩ ∧ wr.cell? ⟨gk, ok + k, none⟩ = some (.int .i64 more) := by
          rcases HIN.out.2 with h1 | ⟨gk, ok, h1, _, h2⟩
          · have := HK.out; rw [h1] at this; simp at this; omega
          · refine ⟨gk, ok, h1, ?_⟩
            rw [h2 k (by rw [HK.out]; exact hkk), hmore]
        clear hmore
        go_wp2_with (first
          | (at_lookup; refine wpList_lookS1 rfl _ _ rfl rfl rfl hlk ?_)
          | (go_at_call 29; refine (HSV.out _).mono ?_; rintro _ x5 ⟨rfl, hb5⟩; have HB5 : Hid (Below wr.heap.size wr x5) := hb5; clear hb5)
          | (go_at_call 28; refine (HPUT.out _ HB5.out).mono ?_; rintro _ x6 ⟨rfl, hr6⟩; have HR6 : Hid (ReR w x6 base q b D ks (k + 1) (.slice (some ⟨g, 0, none⟩) n c1) (putD D' ⟨nm, .slice a N N, f.l.take N, N⟩)) := hr6; clear hr6)
          | go_in)
        go_roundw
        case rel => exact ⟨k + 1, _, by go_num, by omega, HR6.out⟩
        case measure => simp [intOf]; omega
      · have hkkI : ¬ (k : Int) < (nk : Int) := by omega
        have h0 : more = 0 := by
          rw [← hmore, List.getD_eq_getElem?_getD, List.getElem?_eq_none (by rw [HK.out]; omega)]
          rfl
        subst h0
        clear hmore
        go_wp2_with (first
          | (at_lookup; refine wpList_lookS1 rfl _ _ rfl rfl rfl hlk ?_)
          | (go_at_call 29; refine (HSV.out _).mono ?_; rintro _ x5 ⟨rfl, hb5⟩; have HB5 : Hid (Below wr.heap.size wr x5) := hb5; clear hb5)
          | (go_at_call 28; refine (HPUT.out _ HB5.out).mono ?_; rintro _ x6 ⟨rfl, hr6⟩; have HR6 : Hid (ReR w x6 base q b D ks (k + 1) (.slice (some ⟨g, 0, none⟩) n c1) (putD D' ⟨nm, .slice a N N, f.l.take N, N⟩)) := hr6; clear hr6)
          | go_in)
        go_roundw
        case rel => exact ⟨k + 1, _, by go_num, by omega, HR6.out⟩
        case measure => simp [intOf]; omega
    · obtain rfl : k = n := by omega
      have HE : Hid (∀ x : World, x = (wr.setCell ⟨q, 3, none⟩ (.bool false)).setCell ⟨q, 2, none⟩ (.int .i64 0) → To base q b D.fs (restartA D.ab ks) w x) := by
        intro x hx
        subst hx
        have hd := HRR.out.dk
        refine ⟨{ D' with off := false, fuse := 0 }, hd.setTo (D2 := { D' with off := false, fuse := 0 }) rfl ?_ (fun j _ _ hne => ?_), ?_, HRR.out.chg.on (((On.refl q wr).set 3 _).set 2 _)⟩
        · rw [heap_setCell_same _ q 2 _ _ _ (heap_setCell_same wr q 3 _ _ _ hd.blk)]
          rfl
        · rw [heap_setCell_other _ ⟨q, 2, none⟩ j _ hne, heap_setCell_other wr ⟨q, 3, none⟩ j _ hne]
        · have e1 := HRR.out.ab
          rw [lost_all _ _ _ (by show (D.fs.map Fi.ab).length ≤ _; rw [List.length_map, HN.out.1]; exact Nat.le_refl _)] at e1
          show Ak.mk D'.ab.room 0 false D'.ab.steps D'.ab.read D'.ab.fs = _
          rw [e1]
          rfl
      obtain ⟨c0, cq1, c2, c3, c4, c5⟩ := HRR.out.dk.cells
      have z2 := HRR.out.dk.froz 2
      have z3 := HRR.out.dk.froz 3
      clear c0 c4 c5 hkn hk
      go_wp2
      go_end0
      exact ⟨rfl, HE.out _ rfl⟩
end Go.Proofs.YtnfkdgjgglnniaaDoor
