/- Own texts, joined: Rdw. -/
import Derived.Test.YtlnhhgmdajbepaaK41
namespace Go.Proofs.Ytlnhhgmdajbepaa
open Go.ChangeShapes Go.WideShapes Go.ChangeAt Go.RowKit
set_option linter.unusedVariables false
set_option linter.unusedSimpArgs false
theorem guard_loadgd {ops : Array Oper} {rest : List Oper} {a : Act} {w : World} {Q : Exit → Act → World → Prop} {dst : Option Tmp} {ty : TypeId} {pos : String} {after : Array Edge} {x : Operand} {g : Nat × Bool} (t : TypeId)
    (h : wpList Try.prog ops Q (⟨dst, .load t x, ty, pos, after, some g⟩ :: rest) a w) : wpList Try.prog ops Q (⟨dst, .load t x, ty, pos, after, some g⟩ :: rest) a w := h
theorem wpList_wantR {ops : Array Oper} {rest : List Oper} {o : Oper} {a : Act} {w : World} {Q : Exit → Act → World → Prop} (hw : Region.wanted o (yielded ops a.tmps) = true)
    (h : ∀ K : Act → World → Prop, (∀ a w, wpList Try.prog ops Q rest a w → K a w) → o.wp Try.prog a w K Q) : wpList Try.prog ops Q (o :: rest) a w :=
  wpList_step fun K hK => by rw [if_pos hw]; exact h K hK
theorem wpList_load_rdg {ops : Array Oper} {rest : List Oper} {o : Oper} {a : Act} {w : World} {Q : Exit → Act → World → Prop} (hw : Region.wanted o (yielded ops a.tmps) = true) (x : Operand) (ho : o.op = .load 28 x)
    {k : Nat} {v : Value} {q : Rn} (hL : RdAt w k v q) (hx : a.eval x = .pointer (some ⟨k, 0, none⟩)) (h : wpList Try.prog ops Q rest (a.put o.dst (rdV v q)) w) : wpList Try.prog ops Q (o :: rest) a w :=
  wpList_wantR hw fun _ hK => by
    unfold Oper.wp execOp
    simp only [ho, hx, Sem.run_bind, Sem.run_pure, Result.andThen_ok, hL.load]
    exact hK _ _ h
/-- the program's disk A, and beside it in box kd the reference's disk B, whose files lie in blocks of G -/
structure RX (x : World) (base q b kd : Nat) (A B : Ak) (G : Nat → Prop) (X : List (Fa × Value)) (a : Option Addr) (n c : Nat) : Prop where
  df : DF x base q b A (fun k => G k ∨ k = kd)
  rf : FlsF G x a X
  ng : ¬ G kd
  gl : ∀ k, G k → k < x.heap.size
  len : X.length = n
  ab : X.map Prod.fst = B.fs
  rd : RdAt x kd (.slice a n c) B.rn
theorem RX.keep {x y : World} {base q b kd : Nat} {A B : Ak} {G : Nat → Prop} {X : List (Fa × Value)} {a : Option Addr} {n c : Nat} (h : RX x base q b kd A B G X a n c) (hb : Below x.heap.size x y) : RX y base q b kd A B G X a n c :=
  ⟨h.df.keep hb, h.rf.keep hb, h.ng, fun k hk => Nat.lt_of_lt_of_le (h.gl k hk) hb.size, h.len, h.ab, h.rd.keep hb⟩
theorem RX.refD {x : World} {base q b kd : Nat} {A B : Ak} {G : Nat → Prop} {X : List (Fa × Value)} {a : Option Addr} {n c : Nat} (h : RX x base q b kd A B G X a n c) : RefD x B X a n := ⟨h.len, h.rf.fls, h.ab⟩
theorem RX.start {x3 x4 : World} {base q b : Nat} {A B : Ak} {c : Nat} (h : DA x3 base q b A) (hb : Below x3.heap.size x3 x4) (hr : RdAt x4 x3.heap.size (.slice none 0 c) B.rn) (hB : B.fs = []) : RX x4 base q b x3.heap.size A B (fun _ => False) [] none 0 c :=
  ⟨(h.df.more hb).sub (fun k hk => .inr (by rcases hk with h1 | h1; exact h1.elim; subst h1; exact ⟨Nat.le_refl _, lt_of_heap hr⟩)), ⟨⟨.inl rfl, fun p hp => by cases hp⟩, .inl rfl, fun p hp => by cases hp⟩, fun h => h, fun k hk => hk.elim, rfl, hB.symm, hr⟩
/-- behind Do and the store of its answer -/
theorem RX.swap {x y z u : World} {base q b kd : Nat} {A B B2 : Ak} {G : Nat → Prop} {X Y : List (Fa × Value)} {a a' : Option Addr} {n c n' c' : Nat} (h : RX x base q b kd A B G X a n c) (hb : Below x.heap.size x y) (hC : FlsC X a x y a' Y) (hz : Below y.heap.size y z) (hu : RdAt u kd (.slice a' n' c') B2.rn) (hh : ∀ j, j ≠ kd → u.heap[j]? = z.heap[j]?) (hs : u.heap.size = z.heap.size) (hl : Y.length = n') (hab : Y.map Prod.fst = B2.fs) :
    RX u base q b kd A B2 (fun k => G k ∨ (x.heap.size ≤ k ∧ k < y.heap.size)) Y a' n' c' := by
  have hkd : kd < x.heap.size := h.rd.lt
  have hxy := hb.size
  have hyz := hz.size
  have hng : ¬ (G kd ∨ (x.heap.size ≤ kd ∧ kd < y.heap.size)) := fun hg => by
    rcases hg with h1 | h1
    · exact h.ng h1
    · omega
  have hrf := (hC.to h.rf hb).keep hz
  refine ⟨?_, hrf.turn (by omega) (fun k hk => hh k (fun e => hng (e ▸ hk))), hng, fun k hk => ?_, hl, hab, hu⟩
  · have h1 := ((h.df.more hb).keep hz)
    have h2 : DF z base q b A (fun k => (G k ∨ (x.heap.size ≤ k ∧ k < y.heap.size)) ∨ k = kd) := h1.sub (fun k hk => by
      rcases hk with (h3 | h3) | h3
      · exact .inl (.inl h3)
      · exact .inr h3
      · exact .inl (.inr h3))
    exact h2.turn (by omega) (fun k _ hk => hh k (fun e => hk (.inr e)))
  · rcases hk with h1 | h1
    · have := h.gl k h1; omega
    · omega
/-- behind a call of the program's disk -/
theorem RX.called {x y : World} {base q b kd : Nat} {A A2 B : Ak} {G : Nat → Prop} {X : List (Fa × Value)} {a : Option Addr} {n c : Nat} (h : RX x base q b kd A B G X a n c) (hd : DF y base q b A2 (fun k => G k ∨ k = kd)) (hk : ∀ k, (G k ∨ k = kd) → y.heap[k]? = x.heap[k]?) (hs : x.heap.size ≤ y.heap.size) : RX y base q b kd A2 B G X a n c :=
  ⟨hd, h.rf.turn hs (fun k hg => hk k (.inl hg)), h.ng, fun k hg => Nat.lt_of_lt_of_le (h.gl k hg) hs, h.len, h.ab, (hk kd (.inr rfl)).trans h.rd⟩
/-- bytes of one's own in a world that has kept the blocks between -/
theorem Own.between {x y : World} {lo hi : Nat} {v : Value} {l : List Nat} (h : Own x lo v l) (hi2 : x.heap.size ≤ hi) (hs : ∀ k, lo ≤ k → k < hi → y.heap[k]? = x.heap[k]?) : Own y lo v l := by
  refine ⟨h.1, h.2.1, ?_⟩
  rcases h.2.2 with h1 | ⟨g, cap, cur, h1, h2, h3, h4⟩
  · exact .inl h1
  · exact .inr ⟨g, cap, cur, h1, h2, (hs g h2 (Nat.lt_of_lt_of_le (lt_of_heap h3) hi2)).trans h3, h4⟩
theorem own_bytes {w : World} {b : Nat} {a : Option Addr} {m c : Nat} {l : List Nat} (h : Own w b (.slice a m c) l) : Bytes w a l ∧ m = l.length := by
  obtain ⟨A, C, e, h1, _⟩ := h.ready
  injection e with e1 e2 _
  subst e1
  exact ⟨h1, e2⟩
theorem doA_len {A : Ak} (ok : AkOk A) (o : Oa) : (doA A o).2.1.length ≤ 67108864 := by
  unfold doA
  split
  · exact Nat.zero_le _
  · split
    · exact Nat.zero_le _
    · split
      · exact Nat.zero_le _
      · split
        · exact Nat.zero_le _
        · split
          · exact Nat.zero_le _
          · split
            · exact Nat.zero_le _
            · split
              · show (readA A o.nm o.n o.m).2.1.length ≤ _
                unfold readA foundA
                cases hg : getA A.fs o.nm with
                | none => exact Nat.zero_le _
                | some f =>
                  have h1 := fileA_le ok hg
                  simp only
                  split
                  · exact Nat.zero_le _
                  · split
                    · exact Nat.zero_le _
                    · simp only [List.length_take, List.length_drop]; omega
              · split
                · exact Nat.zero_le _
                · split
                  · exact Nat.zero_le _
                  · split <;> exact Nat.zero_le _
end Go.Proofs.Ytlnhhgmdajbepaa
