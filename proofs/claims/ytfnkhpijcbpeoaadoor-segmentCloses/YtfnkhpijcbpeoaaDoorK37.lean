/- Own texts, joined: Str8, Sg9. -/
import Derived.Test.YtfnkhpijcbpeoaaDoorRows
import Derived.Test.YtfnkhpijcbpeoaaDoorK00
import Derived.Laws.BytesArg
import Derived.Lib.Bytes
namespace Go.Proofs.YtfnkhpijcbpeoaaDoor
open Go.ChangeShapes Go.WideShapes Go.ChangeAt Go.RowKit
set_option linter.unusedVariables false
def str8 (l : List Nat) : ByteArray := strOfNums (l.map fun (n : Nat) => (n : Int))
theorem str8_inj {l m : List Nat} (hl : ∀ x ∈ l, x < 256) (hm : ∀ x ∈ m, x < 256) (h : (str8 l).toList = (str8 m).toList) : l = m := by
  have h1 : (str8 l).data.toList = (str8 m).data.toList := by
    unfold str8 at h ⊢
    rw [Lib.strOfNums_toList, Lib.strOfNums_toList] at h
    exact h
  unfold str8 at h1
  rw [strOfNums_data, strOfNums_data, List.map_map, List.map_map] at h1
  have key : ∀ k : List Nat, (∀ x ∈ k, x < 256) → (k.map ((fun n : Int => UInt8.ofNat n.toNat) ∘ fun n : Nat => (n : Int))).map UInt8.toNat = k := by
    intro k
    induction k with
    | nil => intro _; rfl
    | cons x r ih =>
      intro hk
      have hx := hk x (List.mem_cons_self ..)
      simp only [List.map_cons, Function.comp, Int.toNat_natCast, UInt8.toNat_ofNat']
      rw [Nat.mod_eq_of_lt (by omega)]
      congr 1
      exact ih (fun y hy => hk y (List.mem_cons_of_mem _ hy))
  rw [← key l hl, ← key m hm, h1]
theorem conv_bytes {w : World} {a : Option Addr} {l : List Nat} {n cap : Nat} (hn : l.length = n) (hne : l ≠ []) (hb : Bytes w a l) : (convert 22 9 (.slice a n cap)).run Tryd.prog w = .ok (.string (str8 l)) w := by
  obtain ⟨b, off, rfl, hlt, hc⟩ := hb.nonempty hne
  refine run_convert_bytes_arg w 22 5 Tryd.underlying22 Tryd.underlying5 b off n cap (l.map fun (n : Nat) => (n : Int)) (by rw [List.length_map]; exact hn) (fun i hi => ?_) 9 Tryd.underlying9
  rw [hc i (by omega)]
  simp [List.getD_eq_getElem?_getD, show i < l.length from by omega]
/-- the bytes of a string, as numbers -/
def nums8 (s : ByteArray) : List Nat := s.data.toList.map UInt8.toNat
theorem nums8_len (s : ByteArray) : (nums8 s).length = s.size := by unfold nums8; rw [List.length_map, Array.length_toList]; rfl
theorem nums8_lt (s : ByteArray) : ∀ x ∈ nums8 s, x < 256 := by
  intro x hx
  obtain ⟨c, _, rfl⟩ := List.mem_map.1 hx
  exact c.toNat_lt
theorem str8_data (l : List Nat) : (str8 l).data.toList = l.map UInt8.ofNat := by
  unfold str8
  rw [strOfNums_data, List.map_map]
  exact List.map_congr_left (fun x _ => by show UInt8.ofNat (Int.toNat (x : Int)) = _; rw [Int.toNat_natCast])
theorem nums8_str8 (l : List Nat) (hl : ∀ x ∈ l, x < 256) : nums8 (str8 l) = l := by
  unfold nums8
  rw [str8_data, List.map_map]
  conv => rhs; rw [← List.map_id l]
  refine List.map_congr_left (fun x hx => ?_)
  have := hl x hx
  simp only [Function.comp, UInt8.toNat_ofNat', id]
  omega
theorem str8_nums8 (s : ByteArray) : str8 (nums8 s) = s := by
  have h : (str8 (nums8 s)).data.toList = s.data.toList := by
    rw [str8_data]
    unfold nums8
    rw [List.map_map]
    conv => rhs; rw [← List.map_id s.data.toList]
    exact List.map_congr_left (fun x _ => by simp)
  cases s with
  | mk d =>
    have h2 : (str8 (nums8 ⟨d⟩)).data = d := Array.toList_inj.1 h
    cases hs : str8 (nums8 ⟨d⟩) with
    | mk d2 => rw [hs] at h2; simp only at h2; rw [h2]
theorem str8_nil : str8 [] = ⟨#[]⟩ := rfl
theorem nums8_nil : nums8 ⟨#[]⟩ = [] := rfl
theorem str8_size (l : List Nat) : (str8 l).size = l.length := by unfold str8; rw [strOfNums_size, List.length_map]
theorem nums8_inj {s t : ByteArray} (h : nums8 s = nums8 t) : s = t := by rw [← str8_nums8 s, ← str8_nums8 t, h]
theorem nums8_getD (s : ByteArray) (j : Nat) (hj : j < s.size) : (nums8 s).getD j 0 = (s.data.toList.getD j 0).toNat := by
  have h1 : j < s.data.toList.length := by rw [Array.length_toList]; exact hj
  unfold nums8
  rw [List.getD_eq_getElem?_getD, List.getD_eq_getElem?_getD, List.getElem?_map, List.getElem?_eq_getElem h1]
  rfl
/-- string(b): any bytes of one's own -/
theorem conv_own {w : World} {base : Nat} {v : Value} {l : List Nat} (h : Own w base v l) : (convert 22 9 v).run Tryd.prog w = .ok (.string (str8 l)) w := by
  obtain ⟨a, cap, rfl, _, _, hb, hx⟩ := h.shape
  rcases hx with ⟨rfl, rfl, _⟩ | ⟨g, rfl, _, _⟩
  · exact run_convert_bytes_nil w 22 5 Tryd.underlying22 Tryd.underlying5 _ cap 9 Tryd.underlying9
  · refine run_convert_bytes_arg w 22 5 Tryd.underlying22 Tryd.underlying5 g 0 l.length cap (l.map fun (n : Nat) => (n : Int)) (by rw [List.length_map]) (fun i hi => ?_) 9 Tryd.underlying9
    obtain ⟨b, off, hbb, _, hc⟩ := hb.nonempty (by intro e; subst e; simp at hi)
    cases hbb
    rw [hc i hi]
    simp [List.getD_eq_getElem?_getD, hi]
end Go.Proofs.YtfnkhpijcbpeoaaDoor
namespace Go.Proofs.YtfnkhpijcbpeoaaDoor
open Go.ChangeShapes Go.WideShapes Go.ChangeAt Go.RowKit
set_option linter.unusedVariables false
set_option maxHeartbeats 1000000 in
theorem equal_any (l m : List Nat) (n k : Nat) (a a' : Option Addr) (c c' : Nat) (w : World) (hn : l.length = n) (hk : m.length = k) (hl : l ≠ []) (hm : m ≠ []) (h1 : Bytes w a l) (h2 : Bytes w a' m) :
    Calls Tryd.prog 48 #[.slice a n c, .slice a' k c'] w fun e w' => e = .returned (.bool (decide (l = m))) ∧ w = w' := by
  have q1 := conv_bytes (cap := c) hn hl h1
  have q2 := conv_bytes (cap := c') hk hm h2
  by_cases he : l = m
  · have HD : Hid (decide (l = m) = true) := decide_eq_true he
    have hs : str8 l = str8 m := by rw [he]
    obtain ⟨S, hS⟩ : ∃ S, str8 m = S := ⟨_, rfl⟩
    rw [hs, hS] at q1
    rw [hS] at q2
    clear he hs hS hn hk hl hm h1 h2
    go_enter Tryd.func48, Tryd.ntmps48
    go_wp2
    go_ret
    exact ⟨by rw [HD.out]; simp, rfl⟩
  · have HD : Hid (decide (l = m) = false) := decide_eq_false he
    have hs : ¬ (str8 l).toList = (str8 m).toList := fun h => he (str8_inj h1.mem h2.mem h)
    obtain ⟨S, hS⟩ : ∃ S, str8 l = S := ⟨_, rfl⟩
    obtain ⟨S', hS'⟩ : ∃ S, str8 m = S := ⟨_, rfl⟩
    rw [hS] at q1 hs
    rw [hS'] at q2 hs
    have hb : (S.toList == S'.toList) = false := by simpa using hs
    clear he hS hS' hn hk hl hm h1 h2
    go_enter Tryd.func48, Tryd.ntmps48
    go_wp2
    go_ret
    exact ⟨by rw [HD.out]; simp, rfl⟩
end Go.Proofs.YtfnkhpijcbpeoaaDoor
