/- append of any slice of bytes, nil or not, to one's own, empty or not. -/
import Derived.Test.YtlnhhgmdajbepaaApn
import Derived.Laws.AppendOwnNone
namespace Go.Proofs.Ytlnhhgmdajbepaa
open Go.ChangeShapes Go.WideShapes Go.ChangeAt Go.RowKit
set_option linter.unusedVariables false
theorem wpList_append_b {P : Program} {w : World} {ops : Array Oper} {rest : List Oper} {o : Oper} {a : Act} {Q : Exit → Act → World → Prop} (hgd : o.guard = none) (s x : Operand) (t : TypeId)
    (ho : o.op = .call { callee := .builtin .append, args := #[s, x], argTypes := #[t, t] })
    (base : Nat) (i : TypeInfo) (ht : P.underlying t = some (.slice 5)) (hi : P.info? 5 = some i) (hz : i.zero = some (.int .u8 0)) (hsize : i.size = 1) (hby : i.bytes = 1)
    (v : Value) (n : Nat) (xs : List Value) (hs : a.eval s = v) (hown : w.ownsRow base 5 1 v n xs) (xa : Option Addr) (m c : Nat) (l : List Nat) (hx : a.eval x = .slice xa m c) (hl : l.length = m) (hb : Bytes w xa l) (hc : xa = none → c = 0)
    (h63 : n + m ≤ 140737488355328) (hbase : base ≤ w.heap.size)
    (h : ∀ v' w', w'.ownsRow base 5 1 v' (n + m) (xs ++ B8 l) → w.grownBy w' v.ownBlock → wpList P ops Q rest (a.put o.dst v') w') : wpList P ops Q (o :: rest) a w := by
  cases xa with
  | none =>
    have hl0 : l = [] := by
      rcases hb.2 with h | ⟨b, off, h, _⟩
      · exact h
      · cases h
    subst hl0
    have hm0 : m = 0 := by simpa using hl.symm
    subst hm0
    have hc0 := hc rfl
    subst hc0
    exact wpList_append_own_none hgd s x t ho base 5 i 1 ht hi v n xs hs hown hx (h v w (by simpa [B8] using hown) ⟨rfl, rfl, rfl, Nat.le_refl _, fun _ _ _ => rfl⟩)
  | some ad =>
    rcases hb.2 with hl0 | ⟨b, off, he, hlt, hcell⟩
    · subst hl0
      have hm0 : m = 0 := by simpa using hl.symm
      subst hm0
      exact wpList_append_own w hgd s x t ho base 5 i (.int .u8 0) 1 1 ht hi hz hsize hby rfl (by decide) v n xs hs hown ad 0 c [] hx rfl (fun j u hj => by simp at hj) (fun u hu => by cases hu) (by unfold maxLen; omega) (by omega) hbase (fun v' w' h1 h2 _ => h v' w' (by simpa [B8] using h1) h2)
    · cases he
      exact wpList_append_own w hgd s x t ho base 5 i (.int .u8 0) 1 1 ht hi hz hsize hby rfl (by decide) v n xs hs hown ⟨b, off, none⟩ m c (B8 l) hx (by rw [B8_length, hl, Nat.mul_one]) (bytes_cells hb) (B8_one _) (by unfold maxLen; omega) (by omega) hbase (fun v' w' h1 h2 _ => h v' w' h1 h2)
end Go.Proofs.Ytlnhhgmdajbepaa
