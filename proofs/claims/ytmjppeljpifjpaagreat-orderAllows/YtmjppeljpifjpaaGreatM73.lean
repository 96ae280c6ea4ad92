/- Own texts, joined: Kinds. -/
import Derived.Test.YtmjppeljpifjpaaGreatK10
namespace Go.Proofs.YtmjppeljpifjpaaGreat
open Go.ChangeShapes Go.WideShapes Go.ChangeAt Go.RowKit
/-- the kinds 1 to j as values -/
def KV (j : Nat) : List Value := (List.range j).map fun (i : Nat) => Value.int .i64 ((i : Int) + 1)
theorem KV_length (j : Nat) : (KV j).length = j := by simp [KV]
theorem KV_succ (j : Nat) : KV (j + 1) = KV j ++ [.int .i64 ((j : Int) + 1)] := by simp [KV, List.range_succ]
theorem KV_get (j i : Nat) (h : i < j) : (KV j)[i]? = some (.int .i64 ((i : Int) + 1)) := by simp [KV, h]
theorem Tryz.infoK : (Tryz.prog.info? 35).map (fun i => (i.zero, i.size, i.bytes)) = some (some (.int .i64 0), 1, 8) := by kernel_rfl
theorem own_keep {w w2 : World} {base : Nat} {e : TypeId} {size : Nat} {v : Value} {n : Nat} {xs : List Value} (h : w.ownsRow base e size v n xs) (hb : Below w.heap.size w w2) : w2.ownsRow base e size v n xs := by
  have hlt := h.lt
  obtain ⟨h1, h2⟩ := h
  refine ⟨h1, ?_⟩
  rcases h2 with h2 | ⟨g, cap, cur, rfl, hg, hh, r⟩
  · exact .inl h2
  · exact .inr ⟨g, cap, cur, rfl, hg, (hb.block g (hlt g rfl).2).trans hh, r⟩
def lastN (v : Int) : Nat := if v ≤ 2 then 5 else if v ≤ 3 then 7 else if v ≤ 4 then 9 else 10
theorem lastN_bd (v : Int) : 5 ≤ lastN v ∧ lastN v ≤ 10 ∧ (lastN v : Int) = lastK v := by unfold lastN lastK; split <;> (try split) <;> (try split) <;> omega
set_option maxRecDepth 20000 in
theorem last_any (v : Int) (w : World) (h1 : 1 ≤ v) (h5 : v ≤ 5) :
    Calls Tryz.prog 52 #[.int .i64 v] w fun x w' => x = .returned (.int .i64 (lastN v : Nat)) ∧ Below w.heap.size w w' := by
  have hv : v = 1 ∨ v = 2 ∨ v = 3 ∨ v = 4 ∨ v = 5 := by omega
  clear h1 h5
  rcases hv with rfl | rfl | rfl | rfl | rfl
  all_goals
    go_enter Tryz.func52, Tryz.ntmps52
    go_wp2
    go_ret
    exact ⟨rfl, (Below.refl _ _).alloc (Nat.le_refl _) _⟩
set_option maxRecDepth 20000 in
theorem kinds_no (v : Int) (w : World) (h : v < 1 ∨ 5 < v) :
    Calls Tryz.prog 50 #[.int .i64 v] w fun x w' => x = .returned (.slice none 0 0) ∧ w = w' := by
  have HV : Hid (v < 1 ∨ 5 < v) := h
  clear h
  go_enter Tryz.func50, Tryz.ntmps50
  go_wp2_with (go_at_call 91; refine (find_no v _ HV.out).mono ?_; rintro e w' ⟨rfl, rfl⟩)
  go_ret
  exact ⟨rfl, rfl⟩
set_option maxRecDepth 20000 in
set_option maxHeartbeats 2000000 in
theorem kinds1 (w : World) :
    Calls Tryz.prog 50 #[.int .i64 1] w fun x w' => ∃ r, x = .returned r ∧ w'.ownsRow w.heap.size 35 1 r 5 (KV 5) ∧ Below w.heap.size w w' := by
  obtain ⟨i0, hi, hz0, hz1, hz2⟩ := info_parts Tryz.infoK
  have hm3 := m_last1
  go_enter Tryz.func50, Tryz.ntmps50
  go_wp2_with (go_at_call 91; refine (find_yes 1 _ (by omega) (by omega)).mono ?_; rintro e w' ⟨rfl, rfl⟩; unfold verV)
  go_loopw [5, 6] (fun vs vk wr => ∃ j : Nat, j ≤ 5 ∧ vk = .int .i64 ((j : Int) + 1) ∧ Hid (wr.ownsRow w.heap.size 35 1 vs j (KV j)) ∧ Hid (Below w.heap.size w wr)) (fun _ vk _ => 6 - (intOf vk).toNat)
  case atStart => exact ⟨0, by omega, rfl, World.ownsRow_nil _ _ _ _, Below.refl _ _⟩
  case round =>
    obtain ⟨j, hj, rfl, HO, HB⟩ := hrel
    have hsz := HB.out.size
    by_cases hlt : j < 5
    · go_wp2_with (first
        | (go_at_call 159; refine (v1_last _ _).mono ?_; rintro _ w3 ⟨rfl, hb3⟩; have HB3 : Hid (Below w.heap.size w w3) := HB.out.trans (hb3.mono HB.out.size); have HO3 : Hid (w3.ownsRow w.heap.size 35 1 u5 j (KV j)) := own_keep HO.out hb3; have hs3 := HB3.out.size; clear hb3 HO HB)
        | (at_builtin; refine wpList_append_own _ rfl _ _ 50 rfl w.heap.size 35 i0 (.int .i64 0) 1 8 Tryz.underlying50 hi hz0 hz1 hz2 rfl (by decide) _ _ _ rfl (World.ownsRow.alloc HO3.out _) ⟨w3.heap.size, 0, none⟩ 1 1 [.int .i64 ((j : Int) + 1)] rfl rfl (cell_new _ _ _) (one_new _) (by unfold maxLen; omega) (by omega) (by simp; omega) ?_; intro v4 w4 ho4 hg4 _; have HB4 : Hid (Below w.heap.size w w4) := grown_row (HB3.out.alloc hs3 _) (World.ownsRow.alloc HO3.out _) (by simp; omega) hg4; clear hg4 HO3 HB3))
      go_roundw
      case rel => exact ⟨j + 1, by omega, by go_num, by rw [KV_succ]; exact ho4, HB4⟩
      case measure => simp [intOf]; omega
    · have hjn : j = 5 := by omega
      subst hjn
      go_wp2_with (go_at_call 159; refine (v1_last _ _).mono ?_; rintro _ w3 ⟨rfl, hb3⟩; have HB3 : Hid (Below w.heap.size w w3) := HB.out.trans (hb3.mono HB.out.size); have HO3 : Hid (w3.ownsRow w.heap.size 35 1 _ 5 (KV 5)) := own_keep HO.out hb3; clear hb3 HO HB)
      go_ret
      exact ⟨_, rfl, HO3.out, HB3.out⟩
set_option maxRecDepth 20000 in
set_option maxHeartbeats 2000000 in
theorem kinds2 (w : World) :
    Calls Tryz.prog 50 #[.int .i64 2] w fun x w' => ∃ r, x = .returned r ∧ w'.ownsRow w.heap.size 35 1 r 5 (KV 5) ∧ Below w.heap.size w w' := by
  obtain ⟨i0, hi, hz0, hz1, hz2⟩ := info_parts Tryz.infoK
  have hm3 := m_last2
  go_enter Tryz.func50, Tryz.ntmps50
  go_wp2_with (go_at_call 91; refine (find_yes 2 _ (by omega) (by omega)).mono ?_; rintro e w' ⟨rfl, rfl⟩; unfold verV)
  go_loopw [5, 6] (fun vs vk wr => ∃ j : Nat, j ≤ 5 ∧ vk = .int .i64 ((j : Int) + 1) ∧ Hid (wr.ownsRow w.heap.size 35 1 vs j (KV j)) ∧ Hid (Below w.heap.size w wr)) (fun _ vk _ => 6 - (intOf vk).toNat)
  case atStart => exact ⟨0, by omega, rfl, World.ownsRow_nil _ _ _ _, Below.refl _ _⟩
  case round =>
    obtain ⟨j, hj, rfl, HO, HB⟩ := hrel
    have hsz := HB.out.size
    by_cases hlt : j < 5
    · go_wp2_with (first
        | (go_at_call 159; refine (v1_last _ _).mono ?_; rintro _ w3 ⟨rfl, hb3⟩; have HB3 : Hid (Below w.heap.size w w3) := HB.out.trans (hb3.mono HB.out.size); have HO3 : Hid (w3.ownsRow w.heap.size 35 1 u5 j (KV j)) := own_keep HO.out hb3; have hs3 := HB3.out.size; clear hb3 HO HB)
        | (at_builtin; refine wpList_append_own _ rfl _ _ 50 rfl w.heap.size 35 i0 (.int .i64 0) 1 8 Tryz.underlying50 hi hz0 hz1 hz2 rfl (by decide) _ _ _ rfl (World.ownsRow.alloc HO3.out _) ⟨w3.heap.size, 0, none⟩ 1 1 [.int .i64 ((j : Int) + 1)] rfl rfl (cell_new _ _ _) (one_new _) (by unfold maxLen; omega) (by omega) (by simp; omega) ?_; intro v4 w4 ho4 hg4 _; have HB4 : Hid (Below w.heap.size w w4) := grown_row (HB3.out.alloc hs3 _) (World.ownsRow.alloc HO3.out _) (by simp; omega) hg4; clear hg4 HO3 HB3))
      go_roundw
      case rel => exact ⟨j + 1, by omega, by go_num, by rw [KV_succ]; exact ho4, HB4⟩
      case measure => simp [intOf]; omega
    · have hjn : j = 5 := by omega
      subst hjn
      go_wp2_with (go_at_call 159; refine (v1_last _ _).mono ?_; rintro _ w3 ⟨rfl, hb3⟩; have HB3 : Hid (Below w.heap.size w w3) := HB.out.trans (hb3.mono HB.out.size); have HO3 : Hid (w3.ownsRow w.heap.size 35 1 _ 5 (KV 5)) := own_keep HO.out hb3; clear hb3 HO HB)
      go_ret
      exact ⟨_, rfl, HO3.out, HB3.out⟩
set_option maxRecDepth 20000 in
set_option maxHeartbeats 2000000 in
theorem kinds3 (w : World) :
    Calls Tryz.prog 50 #[.int .i64 3] w fun x w' => ∃ r, x = .returned r ∧ w'.ownsRow w.heap.size 35 1 r 7 (KV 7) ∧ Below w.heap.size w w' := by
  obtain ⟨i0, hi, hz0, hz1, hz2⟩ := info_parts Tryz.infoK
  have hm3 := m_last3
  go_enter Tryz.func50, Tryz.ntmps50
  go_wp2_with (go_at_call 91; refine (find_yes 3 _ (by omega) (by omega)).mono ?_; rintro e w' ⟨rfl, rfl⟩; unfold verV)
  go_loopw [5, 6] (fun vs vk wr => ∃ j : Nat, j ≤ 7 ∧ vk = .int .i64 ((j : Int) + 1) ∧ Hid (wr.ownsRow w.heap.size 35 1 vs j (KV j)) ∧ Hid (Below w.heap.size w wr)) (fun _ vk _ => 8 - (intOf vk).toNat)
  case atStart => exact ⟨0, by omega, rfl, World.ownsRow_nil _ _ _ _, Below.refl _ _⟩
  case round =>
    obtain ⟨j, hj, rfl, HO, HB⟩ := hrel
    have hsz := HB.out.size
    by_cases hlt : j < 7
    · go_wp2_with (first
        | (go_at_call 167; refine (v3_last _ _).mono ?_; rintro _ w3 ⟨rfl, hb3⟩; have HB3 : Hid (Below w.heap.size w w3) := HB.out.trans (hb3.mono HB.out.size); have HO3 : Hid (w3.ownsRow w.heap.size 35 1 u5 j (KV j)) := own_keep HO.out hb3; have hs3 := HB3.out.size; clear hb3 HO HB)
        | (at_builtin; refine wpList_append_own _ rfl _ _ 50 rfl w.heap.size 35 i0 (.int .i64 0) 1 8 Tryz.underlying50 hi hz0 hz1 hz2 rfl (by decide) _ _ _ rfl (World.ownsRow.alloc HO3.out _) ⟨w3.heap.size, 0, none⟩ 1 1 [.int .i64 ((j : Int) + 1)] rfl rfl (cell_new _ _ _) (one_new _) (by unfold maxLen; omega) (by omega) (by simp; omega) ?_; intro v4 w4 ho4 hg4 _; have HB4 : Hid (Below w.heap.size w w4) := grown_row (HB3.out.alloc hs3 _) (World.ownsRow.alloc HO3.out _) (by simp; omega) hg4; clear hg4 HO3 HB3))
      go_roundw
      case rel => exact ⟨j + 1, by omega, by go_num, by rw [KV_succ]; exact ho4, HB4⟩
      case measure => simp [intOf]; omega
    · have hjn : j = 7 := by omega
      subst hjn
      go_wp2_with (go_at_call 167; refine (v3_last _ _).mono ?_; rintro _ w3 ⟨rfl, hb3⟩; have HB3 : Hid (Below w.heap.size w w3) := HB.out.trans (hb3.mono HB.out.size); have HO3 : Hid (w3.ownsRow w.heap.size 35 1 _ 7 (KV 7)) := own_keep HO.out hb3; clear hb3 HO HB)
      go_ret
      exact ⟨_, rfl, HO3.out, HB3.out⟩
set_option maxRecDepth 20000 in
set_option maxHeartbeats 2000000 in
theorem kinds4 (w : World) :
    Calls Tryz.prog 50 #[.int .i64 4] w fun x w' => ∃ r, x = .returned r ∧ w'.ownsRow w.heap.size 35 1 r 9 (KV 9) ∧ Below w.heap.size w w' := by
  obtain ⟨i0, hi, hz0, hz1, hz2⟩ := info_parts Tryz.infoK
  have hm3 := m_last4
  go_enter Tryz.func50, Tryz.ntmps50
  go_wp2_with (go_at_call 91; refine (find_yes 4 _ (by omega) (by omega)).mono ?_; rintro e w' ⟨rfl, rfl⟩; unfold verV)
  go_loopw [5, 6] (fun vs vk wr => ∃ j : Nat, j ≤ 9 ∧ vk = .int .i64 ((j : Int) + 1) ∧ Hid (wr.ownsRow w.heap.size 35 1 vs j (KV j)) ∧ Hid (Below w.heap.size w wr)) (fun _ vk _ => 10 - (intOf vk).toNat)
  case atStart => exact ⟨0, by omega, rfl, World.ownsRow_nil _ _ _ _, Below.refl _ _⟩
  case round =>
    obtain ⟨j, hj, rfl, HO, HB⟩ := hrel
    have hsz := HB.out.size
    by_cases hlt : j < 9
    · go_wp2_with (first
        | (go_at_call 172; refine (v4_last _ _).mono ?_; rintro _ w3 ⟨rfl, hb3⟩; have HB3 : Hid (Below w.heap.size w w3) := HB.out.trans (hb3.mono HB.out.size); have HO3 : Hid (w3.ownsRow w.heap.size 35 1 u5 j (KV j)) := own_keep HO.out hb3; have hs3 := HB3.out.size; clear hb3 HO HB)
        | (at_builtin; refine wpList_append_own _ rfl _ _ 50 rfl w.heap.size 35 i0 (.int .i64 0) 1 8 Tryz.underlying50 hi hz0 hz1 hz2 rfl (by decide) _ _ _ rfl (World.ownsRow.alloc HO3.out _) ⟨w3.heap.size, 0, none⟩ 1 1 [.int .i64 ((j : Int) + 1)] rfl rfl (cell_new _ _ _) (one_new _) (by unfold maxLen; omega) (by omega) (by simp; omega) ?_; intro v4 w4 ho4 hg4 _; have HB4 : Hid (Below w.heap.size w w4) := grown_row (HB3.out.alloc hs3 _) (World.ownsRow.alloc HO3.out _) (by simp; omega) hg4; clear hg4 HO3 HB3))
      go_roundw
      case rel => exact ⟨j + 1, by omega, by go_num, by rw [KV_succ]; exact ho4, HB4⟩
      case measure => simp [intOf]; omega
    · have hjn : j = 9 := by omega
      subst hjn
      go_wp2_with (go_at_call 172; refine (v4_last _ _).mono ?_; rintro _ w3 ⟨rfl, hb3⟩; have HB3 : Hid (Below w.heap.size w w3) := HB.out.trans (hb3.mono HB.out.size); have HO3 : Hid (w3.ownsRow w.heap.size 35 1 _ 9 (KV 9)) := own_keep HO.out hb3; clear hb3 HO HB)
      go_ret
      exact ⟨_, rfl, HO3.out, HB3.out⟩
set_option maxRecDepth 20000 in
set_option maxHeartbeats 2000000 in
theorem kinds5 (w : World) :
    Calls Tryz.prog 50 #[.int .i64 5] w fun x w' => ∃ r, x = .returned r ∧ w'.ownsRow w.heap.size 35 1 r 10 (KV 10) ∧ Below w.heap.size w w' := by
  obtain ⟨i0, hi, hz0, hz1, hz2⟩ := info_parts Tryz.infoK
  have hm3 := m_last5
  go_enter Tryz.func50, Tryz.ntmps50
  go_wp2_with (go_at_call 91; refine (find_yes 5 _ (by omega) (by omega)).mono ?_; rintro e w' ⟨rfl, rfl⟩; unfold verV)
  go_loopw [5, 6] (fun vs vk wr => ∃ j : Nat, j ≤ 10 ∧ vk = .int .i64 ((j : Int) + 1) ∧ Hid (wr.ownsRow w.heap.size 35 1 vs j (KV j)) ∧ Hid (Below w.heap.size w wr)) (fun _ vk _ => 11 - (intOf vk).toNat)
  case atStart => exact ⟨0, by omega, rfl, World.ownsRow_nil _ _ _ _, Below.refl _ _⟩
  case round =>
    obtain ⟨j, hj, rfl, HO, HB⟩ := hrel
    have hsz := HB.out.size
    by_cases hlt : j < 10
    · go_wp2_with (first
        | (go_at_call 174; refine (v5_last _ _).mono ?_; rintro _ w3 ⟨rfl, hb3⟩; have HB3 : Hid (Below w.heap.size w w3) := HB.out.trans (hb3.mono HB.out.size); have HO3 : Hid (w3.ownsRow w.heap.size 35 1 u5 j (KV j)) := own_keep HO.out hb3; have hs3 := HB3.out.size; clear hb3 HO HB)
        | (at_builtin; refine wpList_append_own _ rfl _ _ 50 rfl w.heap.size 35 i0 (.int .i64 0) 1 8 Tryz.underlying50 hi hz0 hz1 hz2 rfl (by decide) _ _ _ rfl (World.ownsRow.alloc HO3.out _) ⟨w3.heap.size, 0, none⟩ 1 1 [.int .i64 ((j : Int) + 1)] rfl rfl (cell_new _ _ _) (one_new _) (by unfold maxLen; omega) (by omega) (by simp; omega) ?_; intro v4 w4 ho4 hg4 _; have HB4 : Hid (Below w.heap.size w w4) := grown_row (HB3.out.alloc hs3 _) (World.ownsRow.alloc HO3.out _) (by simp; omega) hg4; clear hg4 HO3 HB3))
      go_roundw
      case rel => exact ⟨j + 1, by omega, by go_num, by rw [KV_succ]; exact ho4, HB4⟩
      case measure => simp [intOf]; omega
    · have hjn : j = 10 := by omega
      subst hjn
      go_wp2_with (go_at_call 174; refine (v5_last _ _).mono ?_; rintro _ w3 ⟨rfl, hb3⟩; have HB3 : Hid (Below w.heap.size w w3) := HB.out.trans (hb3.mono HB.out.size); have HO3 : Hid (w3.ownsRow w.heap.size 35 1 _ 10 (KV 10)) := own_keep HO.out hb3; clear hb3 HO HB)
      go_ret
      exact ⟨_, rfl, HO3.out, HB3.out⟩
theorem kinds_any (v : Int) (w : World) (h1 : 1 ≤ v) (h5 : v ≤ 5) :
    Calls Tryz.prog 50 #[.int .i64 v] w fun x w' => ∃ r, x = .returned r ∧ w'.ownsRow w.heap.size 35 1 r (lastN v) (KV (lastN v)) ∧ Below w.heap.size w w' := by
  have hv : v = 1 ∨ v = 2 ∨ v = 3 ∨ v = 4 ∨ v = 5 := by omega
  rcases hv with rfl | rfl | rfl | rfl | rfl
  · exact kinds1 w
  · exact kinds2 w
  · exact kinds3 w
  · exact kinds4 w
  · exact kinds5 w
end Go.Proofs.YtmjppeljpifjpaaGreat
