/- The sentinels of package fault, as the row's list lays them. -/
import Derived.Test.YtdjldbhglaohkaaDoorRows
import Derived.Test.YtdjldbhglaohkaaDoorAid
import Derived.LaidLaws
import Derived.Stop.LaidErr
import Derived.BigQuiet
import Derived.Deep.QuietTactic
namespace Go.Proofs.YtdjldbhglaohkaaDoor
open Go.ChangeShapes Go.WideShapes Go.ChangeAt Go.RowKit
/-- a variable's name and number, and its text -/
def sents : List (String × Nat × List UInt8) := [("daybook/fault.errArg", 0, [97, 114, 103, 117, 109, 101, 110, 116]), ("daybook/fault.errClosed", 1, [99, 108, 111, 115, 101, 100]), ("daybook/fault.errDown", 2, [112, 111, 119, 101, 114, 32, 111, 102, 102]), ("daybook/fault.errCorrupt", 3, [99, 111, 114, 114, 117, 112, 116]), ("daybook/fault.errShort", 4, [101, 110, 100, 115, 32, 101, 97, 114, 108, 121]), ("daybook/fault.errLong", 5, [111, 118, 101, 114, 108, 111, 110, 103]), ("daybook/fault.errWide", 6, [116, 111, 111, 32, 119, 105, 100, 101]), ("daybook/fault.errTag", 7, [116, 97, 103]), ("daybook/fault.errOrder", 8, [111, 114, 100, 101, 114, 32, 111, 102, 32, 116, 97, 103, 115]), ("daybook/fault.errZero", 9, [101, 109, 112, 116, 121, 32, 102, 105, 101, 108, 100]), ("daybook/fault.errText", 10, [108, 111, 110, 103, 32, 116, 101, 120, 116]), ("daybook/fault.errBig", 11, [116, 111, 111, 32, 98, 105, 103]), ("daybook/fault.errVersion", 12, [118, 101, 114, 115, 105, 111, 110]), ("daybook/fault.errKind", 13, [107, 105, 110, 100]), ("daybook/fault.errField", 14, [102, 105, 101, 108, 100]), ("daybook/fault.errForm", 15, [102, 111, 114, 109]), ("daybook/fault.errState", 16, [115, 116, 97, 116, 101]), ("daybook/fault.errName", 17, [110, 97, 109, 101]), ("daybook/fault.errNoFile", 18, [110, 111, 32, 102, 105, 108, 101]), ("daybook/fault.errExists", 19, [101, 120, 105, 115, 116, 115]), ("daybook/fault.errFiles", 20, [102, 105, 108, 101, 115]), ("daybook/fault.errFull", 21, [100, 105, 115, 107, 32, 102, 117, 108, 108]), ("daybook/fault.errTorn", 22, [116, 111, 114, 110]), ("daybook/fault.errMark", 23, [109, 97, 114, 107]), ("daybook/fault.errSum", 24, [115, 117, 109]), ("daybook/fault.errRange", 25, [114, 97, 110, 103, 101]), ("daybook/fault.errIndex", 26, [105, 110, 100, 101, 120]), ("daybook/fault.errHeader", 27, [104, 101, 97, 100, 101, 114]), ("daybook/fault.errSealed", 28, [115, 101, 97, 108, 101, 100]), ("daybook/fault.errMissing", 29, [109, 105, 115, 115, 105, 110, 103]), ("daybook/fault.errManifest", 30, [109, 97, 110, 105, 102, 101, 115, 116]), ("daybook/fault.errBook", 31, [98, 111, 111, 107]), ("daybook/fault.errSegs", 32, [115, 101, 103, 109, 101, 110, 116, 115]), ("daybook/fault.errNums", 33, [110, 117, 109, 98, 101, 114, 115]), ("daybook/fault.errSeq", 34, [115, 101, 113, 117, 101, 110, 99, 101]), ("daybook/fault.errEmpty", 35, [101, 109, 112, 116, 121]), ("daybook/fault.errNoSnap", 36, [110, 111, 32, 115, 110, 97, 112, 115, 104, 111, 116]), ("daybook/fault.errCompacted", 37, [99, 111, 109, 112, 97, 99, 116, 101, 100]), ("daybook/fault.errLine", 38, [108, 105, 110, 101]), ("daybook/fault.errWord", 39, [119, 111, 114, 100]), ("daybook/fault.errLines", 40, [108, 105, 110, 101, 115]), ("daybook/fault.errOut", 41, [111, 117, 116, 112, 117, 116])]
def laidOf (l : List (String × Nat × List UInt8)) : List (String × DataW Unit) := l.map fun x => (x.1, .iface "*errors.errorString" (.ptr (.agg [.lit (.string x.2.2)])))
theorem Tryd.star : "*" ++ "errors.errorString" = "*errors.errorString" := by decide
theorem Tryd.nameErr (u : TypeId) (h : Tryd.prog.typeName? 3 u = some "*errors.errorString") : u = 59 :=
  typeName_ptr_named (nm := "errors.errorString") (by rw [Tryd.star]; kernel_rfl) (by kernel_rfl) (by decide) u (by rw [Tryd.star]; exact h)
theorem Tryd.sentsNamed : (sents.all fun x => decide (Tryd.prog.globalNamed x.1 = some x.2.1) && decide ((Tryd.prog.globals[x.2.1]?).map (·.type) = some 35)) = true := by kernel_rfl
/-- a sentinel in memory -/
structure SenAt (W : World) (x : String × Nat × List UInt8) (a : Addr) : Prop where
  var : W.cell? ⟨x.2.1, 0, none⟩ = some (.iface 59 (.pointer (some a)))
  txt : ∃ s : ByteArray, W.cell? a = some (.string s) ∧ s.data.toList = x.2.2
  blk : ∃ c t, W.heap[a.block]? = some (.cells c t (0, 0))
set_option maxRecDepth 100000 in
theorem sens_of : ∀ (l : List (String × Nat × List UInt8)) (_ : ∀ x ∈ l, Tryd.prog.globalNamed x.1 = some x.2.1 ∧ (Tryd.prog.globals[x.2.1]?).map (·.type) = some 35) (W : World) (ps : List MemPlace)
    (_ : DataW.LaidVars Tryd.prog W (laidOf l) ps) (_ : ps.Nodup) (_ : ∀ b off, MemPlace.cell b off ∈ ps → (∃ c t, W.heap[b]? = some (.cells c t (0, 0))) ∧ ∀ u v, W.cell? ⟨b, off, none⟩ = some (.iface u v) → Value.okWide Tryd.prog W .any 0 u v),
    ∃ adr : List Addr, adr.length = l.length ∧ (∀ (i : Nat) (x : String × Nat × List UInt8) (a : Addr), l[i]? = some x → adr[i]? = some a → SenAt W x a) ∧ (∀ a ∈ adr, MemPlace.cell a.block a.off ∈ ps) ∧ (adr.map fun a => MemPlace.cell a.block a.off).Nodup := by
  intro l
  induction l with
  | nil => intro _ W ps _ _ _; exact ⟨[], rfl, by simp, by simp, by simp⟩
  | cons x r ih =>
    intro hl W ps hv hnd hrows
    obtain ⟨g0, t0, cs0, f0, p0, q0, hg0, ht0, hv0, hd0, hq, rfl⟩ := hv
    obtain ⟨hg, ht⟩ := hl x (by simp)
    obtain rfl := Option.some.inj (hg.symm.trans hg0)
    obtain rfl := Option.some.inj (ht.symm.trans ht0)
    obtain ⟨l0⟩ := cs0
    have ok0 : ∀ u v, l0 = [.iface u v] → Value.okWide Tryd.prog W .any 0 u v := fun u v e => by
      subst e
      exact (hrows x.2.1 0 (by simp [MemPlace.row])).2 u v (by simpa using World.var?_cell hg0 hv0 0)
    obtain ⟨a0, s0, rfl, hc0, hs0, hz0, rfl⟩ := errorString_of_trod Tryd.underlying35 Tryd.nameErr Tryd.underlying59 Tryd.underlying75 rfl rfl Tryd.underlying9 (by kernel_rfl) (by kernel_rfl) hd0 ok0
    obtain ⟨adr, h1, h2, h3, h4⟩ := ih (fun y hy => hl y (by simp [hy])) W q0 hq (List.Nodup.sublist (List.sublist_append_right _ _) hnd) (fun b off hm => hrows b off (List.mem_append_right _ hm))
    refine ⟨a0 :: adr, by simp [h1], ?_, ?_, ?_⟩
    · intro i y a hi ha
      cases i with
      | zero =>
        simp at hi ha
        subst hi ha
        exact ⟨by simpa using World.var?_cell hg0 hv0 0, ⟨s0, hc0, hs0⟩, (hrows a0.block a0.off (by simp [MemPlace.row])).1⟩
      | succ i => exact h2 i y a (by simpa using hi) (by simpa using ha)
    · intro a ha
      rcases List.mem_cons.1 ha with rfl | ha
      · simp [MemPlace.row]
      · exact List.mem_append_right _ (h3 a ha)
    · simp only [List.map_cons, List.nodup_cons]
      refine ⟨?_, h4⟩
      intro hm
      obtain ⟨b, hb, he⟩ := List.mem_map.1 hm
      have hbq := h3 b hb
      rw [he] at hbq
      have hd := (List.nodup_append.1 hnd).2.2
      exact hd _ (by simp [MemPlace.row]) _ hbq rfl
def numL : List Int := [1, 2, 3, 4, 10, 11, 12, 20, 21, 22, 23, 24, 30, 31, 32, 33, 40, 50, 51, 52, 53, 54, 60, 61, 62, 63, 70, 71, 72, 73, 80, 81, 90, 91, 92, 93, 94, 95, 100, 101, 102, 103]
def txtL : List ByteArray := [⟨#[97, 114, 103, 117, 109, 101, 110, 116]⟩, ⟨#[99, 108, 111, 115, 101, 100]⟩, ⟨#[112, 111, 119, 101, 114, 32, 111, 102, 102]⟩, ⟨#[99, 111, 114, 114, 117, 112, 116]⟩, ⟨#[101, 110, 100, 115, 32, 101, 97, 114, 108, 121]⟩, ⟨#[111, 118, 101, 114, 108, 111, 110, 103]⟩, ⟨#[116, 111, 111, 32, 119, 105, 100, 101]⟩, ⟨#[116, 97, 103]⟩, ⟨#[111, 114, 100, 101, 114, 32, 111, 102, 32, 116, 97, 103, 115]⟩, ⟨#[101, 109, 112, 116, 121, 32, 102, 105, 101, 108, 100]⟩, ⟨#[108, 111, 110, 103, 32, 116, 101, 120, 116]⟩, ⟨#[116, 111, 111, 32, 98, 105, 103]⟩, ⟨#[118, 101, 114, 115, 105, 111, 110]⟩, ⟨#[107, 105, 110, 100]⟩, ⟨#[102, 105, 101, 108, 100]⟩, ⟨#[102, 111, 114, 109]⟩, ⟨#[115, 116, 97, 116, 101]⟩, ⟨#[110, 97, 109, 101]⟩, ⟨#[110, 111, 32, 102, 105, 108, 101]⟩, ⟨#[101, 120, 105, 115, 116, 115]⟩, ⟨#[102, 105, 108, 101, 115]⟩, ⟨#[100, 105, 115, 107, 32, 102, 117, 108, 108]⟩, ⟨#[116, 111, 114, 110]⟩, ⟨#[109, 97, 114, 107]⟩, ⟨#[115, 117, 109]⟩, ⟨#[114, 97, 110, 103, 101]⟩, ⟨#[105, 110, 100, 101, 120]⟩, ⟨#[104, 101, 97, 100, 101, 114]⟩, ⟨#[115, 101, 97, 108, 101, 100]⟩, ⟨#[109, 105, 115, 115, 105, 110, 103]⟩, ⟨#[109, 97, 110, 105, 102, 101, 115, 116]⟩, ⟨#[98, 111, 111, 107]⟩, ⟨#[115, 101, 103, 109, 101, 110, 116, 115]⟩, ⟨#[110, 117, 109, 98, 101, 114, 115]⟩, ⟨#[115, 101, 113, 117, 101, 110, 99, 101]⟩, ⟨#[101, 109, 112, 116, 121]⟩, ⟨#[110, 111, 32, 115, 110, 97, 112, 115, 104, 111, 116]⟩, ⟨#[99, 111, 109, 112, 97, 99, 116, 101, 100]⟩, ⟨#[108, 105, 110, 101]⟩, ⟨#[119, 111, 114, 100]⟩, ⟨#[108, 105, 110, 101, 115]⟩, ⟨#[111, 117, 116, 112, 117, 116]⟩]
def numS (k : Nat) : Int := numL.getD k 0
def txtS (k : Nat) : ByteArray := txtL.getD k ⟨#[]⟩
theorem lt42 {k : Nat} (h : k < 42) : k = 0 ∨ k = 1 ∨ k = 2 ∨ k = 3 ∨ k = 4 ∨ k = 5 ∨ k = 6 ∨ k = 7 ∨ k = 8 ∨ k = 9 ∨ k = 10 ∨ k = 11 ∨ k = 12 ∨ k = 13 ∨ k = 14 ∨ k = 15 ∨ k = 16 ∨ k = 17 ∨ k = 18 ∨ k = 19 ∨ k = 20 ∨ k = 21 ∨ k = 22 ∨ k = 23 ∨ k = 24 ∨ k = 25 ∨ k = 26 ∨ k = 27 ∨ k = 28 ∨ k = 29 ∨ k = 30 ∨ k = 31 ∨ k = 32 ∨ k = 33 ∨ k = 34 ∨ k = 35 ∨ k = 36 ∨ k = 37 ∨ k = 38 ∨ k = 39 ∨ k = 40 ∨ k = 41 := by omega
/-- the sentinels lie in w: the variables' cells, and the texts behind them, at addresses that differ -/
structure Sen (w : World) (pa : Nat → Addr) : Prop where
  var : ∀ i, i < 42 → w.cell? ⟨i, 0, none⟩ = some (.iface 59 (.pointer (some (pa i))))
  txt : ∀ i, i < 42 → w.cell? (pa i) = some (.string (txtS i))
  blk : ∀ i, i < 42 → ∃ c t, w.heap[(pa i).block]? = some (.cells c t (0, 0))
  inj : ∀ i j, i < 42 → j < 42 → pa i = pa j → i = j
  size : 42 ≤ w.heap.size
theorem sents_get (i : Nat) (h : i < 42) : ∃ x, sents[i]? = some x ∧ x.2.1 = i ∧ x.2.2 = (txtS i).data.toList := by
  rcases lt42 h with rfl | rfl | rfl | rfl | rfl | rfl | rfl | rfl | rfl | rfl | rfl | rfl | rfl | rfl | rfl | rfl | rfl | rfl | rfl | rfl | rfl | rfl | rfl | rfl | rfl | rfl | rfl | rfl | rfl | rfl | rfl | rfl | rfl | rfl | rfl | rfl | rfl | rfl | rfl | rfl | rfl | rfl <;> exact ⟨_, rfl, rfl, rfl⟩
theorem sen_of {W : World} (h : laidMet Tryd.prog (laidOf sents) W) : ∃ pa, Sen W pa := by
  obtain ⟨ps, hv, hnd, hrows⟩ := h
  have hn := Tryd.sentsNamed
  rw [List.all_eq_true] at hn
  obtain ⟨adr, h1, h2, h3, h4⟩ := sens_of sents (fun x hx => by have := hn x hx; simp only [Bool.and_eq_true, decide_eq_true_eq] at this; exact this) W ps hv hnd hrows
  have hlen : adr.length = 42 := by rw [h1]; rfl
  have hat : ∀ i, i < 42 → ∃ a, adr[i]? = some a ∧ adr.getD i ⟨0, 0, none⟩ = a := fun i hi => ⟨adr[i]'(by omega), List.getElem?_eq_getElem _, by simp [List.getD_eq_getElem?_getD, List.getElem?_eq_getElem (show i < adr.length by omega)]⟩
  have key : ∀ i, i < 42 → ∃ x, sents[i]? = some x ∧ x.2.1 = i ∧ x.2.2 = (txtS i).data.toList ∧ SenAt W x (adr.getD i ⟨0, 0, none⟩) := fun i hi => by
    obtain ⟨x, hx, e1, e2⟩ := sents_get i hi
    obtain ⟨a, ha, hg⟩ := hat i hi
    exact ⟨x, hx, e1, e2, by rw [hg]; exact h2 i x a hx ha⟩
  refine ⟨fun i => adr.getD i ⟨0, 0, none⟩, ⟨fun i hi => ?_, fun i hi => ?_, fun i hi => ?_, fun i j hi hj he => ?_, ?_⟩⟩
  · obtain ⟨x, hx, e1, e2, hs⟩ := key i hi
    have := hs.var
    rw [e1] at this
    exact this
  · obtain ⟨x, hx, e1, e2, hs⟩ := key i hi
    obtain ⟨s, hc, ht⟩ := hs.txt
    rw [e2] at ht
    have : s = txtS i := by
      cases s with
      | mk d =>
        cases hT : txtS i with
        | mk d2 => rw [hT] at ht; have h5 : d = d2 := Array.toList_inj.1 ht; rw [h5]
    rw [hc, this]
  · obtain ⟨x, hx, e1, e2, hs⟩ := key i hi
    exact hs.blk
  · obtain ⟨a, ha, hg⟩ := hat i hi
    obtain ⟨b, hb, hg2⟩ := hat j hj
    have hab : a = b := by rw [← hg, ← hg2]; exact he
    subst hab
    have h5 : (adr.map fun a => MemPlace.cell a.block a.off)[i]? = (adr.map fun a => MemPlace.cell a.block a.off)[j]? := by rw [List.getElem?_map, List.getElem?_map, ha, hb]
    exact (List.getElem?_inj (by rw [List.length_map]; omega) h4).1 h5
  · obtain ⟨x, hx, e1, e2, hs⟩ := key 41 (by omega)
    have hv := hs.var
    rw [e1] at hv
    by_cases hh : 41 < W.heap.size
    · exact hh
    · exfalso
      unfold World.cell? at hv
      rw [Array.getElem?_eq_none (by show W.heap.size ≤ 41; omega)] at hv
      simp at hv
/-- the row of sentinels() -/
def SN (pa : Nat → Addr) : Array Value := #[.int .i64 1, .iface 59 (.pointer (some (pa 0))), .int .i64 2, .iface 59 (.pointer (some (pa 1))), .int .i64 3, .iface 59 (.pointer (some (pa 2))), .int .i64 4, .iface 59 (.pointer (some (pa 3))), .int .i64 10, .iface 59 (.pointer (some (pa 4))), .int .i64 11, .iface 59 (.pointer (some (pa 5))), .int .i64 12, .iface 59 (.pointer (some (pa 6))), .int .i64 20, .iface 59 (.pointer (some (pa 7))), .int .i64 21, .iface 59 (.pointer (some (pa 8))), .int .i64 22, .iface 59 (.pointer (some (pa 9))), .int .i64 23, .iface 59 (.pointer (some (pa 10))), .int .i64 24, .iface 59 (.pointer (some (pa 11))), .int .i64 30, .iface 59 (.pointer (some (pa 12))), .int .i64 31, .iface 59 (.pointer (some (pa 13))), .int .i64 32, .iface 59 (.pointer (some (pa 14))), .int .i64 33, .iface 59 (.pointer (some (pa 15))), .int .i64 40, .iface 59 (.pointer (some (pa 16))), .int .i64 50, .iface 59 (.pointer (some (pa 17))), .int .i64 51, .iface 59 (.pointer (some (pa 18))), .int .i64 52, .iface 59 (.pointer (some (pa 19))), .int .i64 53, .iface 59 (.pointer (some (pa 20))), .int .i64 54, .iface 59 (.pointer (some (pa 21))), .int .i64 60, .iface 59 (.pointer (some (pa 22))), .int .i64 61, .iface 59 (.pointer (some (pa 23))), .int .i64 62, .iface 59 (.pointer (some (pa 24))), .int .i64 63, .iface 59 (.pointer (some (pa 25))), .int .i64 70, .iface 59 (.pointer (some (pa 26))), .int .i64 71, .iface 59 (.pointer (some (pa 27))), .int .i64 72, .iface 59 (.pointer (some (pa 28))), .int .i64 73, .iface 59 (.pointer (some (pa 29))), .int .i64 80, .iface 59 (.pointer (some (pa 30))), .int .i64 81, .iface 59 (.pointer (some (pa 31))), .int .i64 90, .iface 59 (.pointer (some (pa 32))), .int .i64 91, .iface 59 (.pointer (some (pa 33))), .int .i64 92, .iface 59 (.pointer (some (pa 34))), .int .i64 93, .iface 59 (.pointer (some (pa 35))), .int .i64 94, .iface 59 (.pointer (some (pa 36))), .int .i64 95, .iface 59 (.pointer (some (pa 37))), .int .i64 100, .iface 59 (.pointer (some (pa 38))), .int .i64 101, .iface 59 (.pointer (some (pa 39))), .int .i64 102, .iface 59 (.pointer (some (pa 40))), .int .i64 103, .iface 59 (.pointer (some (pa 41)))]
theorem SN_size (pa : Nat → Addr) : (SN pa).size = 84 := rfl
theorem SN_num (pa : Nat → Addr) (k : Nat) (h : k < 42) : (SN pa)[2 * k]? = some (.int .i64 (numS k)) := by
  rcases lt42 h with rfl | rfl | rfl | rfl | rfl | rfl | rfl | rfl | rfl | rfl | rfl | rfl | rfl | rfl | rfl | rfl | rfl | rfl | rfl | rfl | rfl | rfl | rfl | rfl | rfl | rfl | rfl | rfl | rfl | rfl | rfl | rfl | rfl | rfl | rfl | rfl | rfl | rfl | rfl | rfl | rfl | rfl <;> rfl
theorem SN_err (pa : Nat → Addr) (k : Nat) (h : k < 42) : (SN pa)[2 * k + 1]? = some (.iface 59 (.pointer (some (pa k)))) := by
  rcases lt42 h with rfl | rfl | rfl | rfl | rfl | rfl | rfl | rfl | rfl | rfl | rfl | rfl | rfl | rfl | rfl | rfl | rfl | rfl | rfl | rfl | rfl | rfl | rfl | rfl | rfl | rfl | rfl | rfl | rfl | rfl | rfl | rfl | rfl | rfl | rfl | rfl | rfl | rfl | rfl | rfl | rfl | rfl <;> rfl
end Go.Proofs.YtdjldbhglaohkaaDoor
