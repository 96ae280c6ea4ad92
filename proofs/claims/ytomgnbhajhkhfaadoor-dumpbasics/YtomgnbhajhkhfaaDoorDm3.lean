/- daybookref24.digit, Hex, Unhex. -/
import Derived.Test.YtomgnbhajhkhfaaDoorDm2
import Derived.Test.YtomgnbhajhkhfaaDoorNb
import Derived.OrdersHeld
import Derived.Deep.RegionHeld
namespace Go.Proofs.YtomgnbhajhkhfaaDoor
open Go.ChangeShapes Go.WideShapes Go.ChangeAt Go.RowKit
set_option linter.unusedVariables false
set_option linter.unusedSimpArgs false
theorem dig_cut : ∀ (q : Nat) (h : q < 16), ({ data := #[48, 49, 50, 51, 52, 53, 54, 55, 56, 57, 97, 98, 99, 100, 101, 102] } : ByteArray).extract q (q + 1) = bs [hx q] := by decide
set_option maxRecDepth 20000 in
theorem rdigit_any (q : Nat) (w : World) (h : q < 16) : Calls Tryd.prog 13 #[.int .i64 (q : Int)] w fun e w' => e = .returned (.string (bs [hx q])) ∧ w' = w := by
  have hI : (q : Int) < 16 := by omega
  have hI1 : (q : Int) + 1 ≤ 16 := by omega
  have HC : Hid (({ data := #[48, 49, 50, 51, 52, 53, 54, 55, 56, 57, 97, 98, 99, 100, 101, 102] } : ByteArray).extract q (q + 1) = bs [hx q]) := dig_cut q h
  go_enter Tryd.func13, Tryd.ntmps13
  go_wp2
  go_ret
  exact ⟨ret_str HC.out, rfl⟩
set_option maxRecDepth 20000 in
set_option maxHeartbeats 4000000 in
theorem rhex_any (l : List Nat) (n : Nat) (a : Option Addr) (cap : Nat) (w : World) (hn : l.length = n) (hm : Bytes w a l) (hl : n ≤ 1048576) :
    Calls Tryd.prog 6 #[.slice a n cap] w fun e w' => e = .returned (.string (bs (hexL l))) ∧ ∃ q, w' = w.drewN q := by
  have HM : Hid (Bytes w a l) := hm
  have HN : Hid (l.length = n) := hn
  have hnI : (n : Int) ≤ 1048576 := by omega
  clear hm hn
  go_enter Tryd.func6, Tryd.ntmps6
  go_wp2
  go_loopw [3, 7] (fun vs vi wr => ∃ (k : Nat) (T : List UInt8) (p : Nat), k ≤ n ∧ vi = .int .i64 k ∧ vs = .string (bs T) ∧ Hid (T = hexL (l.take k)) ∧ Hid (wr = w.drewN p)) (fun _ vi _ => n - (intOf vi).toNat)
  case atStart => exact ⟨0, [], 0, Nat.zero_le _, rfl, rfl, rfl, rfl⟩
  case round =>
    obtain ⟨k, T, p, hk, rfl, rfl, HT, HW⟩ := hrel
    have hTl : T.length ≤ 2097152 := by rw [HT.out, hexL_length, List.length_take]; omega
    by_cases hkn : k < n
    · obtain ⟨b, off, rfl, hlt, hc⟩ := HM.out.nonempty (fun h0 => by have := HN.out; rw [h0] at this; simp at this; omega)
      obtain ⟨c, hcd⟩ : ∃ c, l.getD k 0 = c := ⟨_, rfl⟩
      have q1 := hc k (by rw [HN.out]; exact hkn)
      rw [hcd] at q1
      have q0 : wr.cell? ⟨b, off + k, none⟩ = some (.int .u8 (c : Int)) := by rw [HW.out]; simpa using q1
      have hc256 : c < 256 := by rw [← hcd]; exact HM.out.1 k
      obtain ⟨r, hr⟩ : ∃ r : Nat, c % 16 = r := ⟨_, rfl⟩
      obtain ⟨q, hq⟩ : ∃ q : Nat, c / 16 = q := ⟨_, rfl⟩
      have e1 : (c : Int) / 16 = (q : Int) := by omega
      have e2 : (c : Int) % 16 = (r : Int) := by omega
      have e3 : (c : Int).tdiv 16 = (q : Int) := by rw [Int.tdiv_eq_ediv_of_nonneg (by omega)]; exact e1
      have e4 : (c : Int).tmod 16 = (r : Int) := by rw [Int.tmod_eq_emod_of_nonneg (by omega)]; exact e2
      have CQ : Hid (∀ w, Calls Tryd.prog 13 #[.int .i64 (q : Int)] w fun e w' => e = .returned (.string (bs [hx q])) ∧ w' = w) := fun w => rdigit_any q w (by omega)
      have CR : Hid (∀ w, Calls Tryd.prog 13 #[.int .i64 (r : Int)] w fun e w' => e = .returned (.string (bs [hx r])) ∧ w' = w) := fun w => rdigit_any r w (by omega)
      have HST : Hid (hexL (l.take (k + 1)) = T ++ [hx q, hx r]) := by
        show _ = _
        rw [List.take_succ_eq_append_getElem (by rw [HN.out]; exact hkn), hexL_append, ← HT.out]
        have hg : l[k]'(by rw [HN.out]; exact hkn) = c := by rw [← hcd, List.getD_eq_getElem?_getD, List.getElem?_eq_getElem (by rw [HN.out]; exact hkn)]; rfl
        rw [hg]
        show _ ++ [hx (c / 16), hx (c % 16)] = _
        rw [hq, hr]
      have hcat : ¬ 9223372036854775807 < T.length + 2 := by omega
      have hcat2 : ¬ 9223372036854775807 < T.length + (1 + 1) := by omega
      have hwc : IntKind.i64.wrap (c : Int) = (c : Int) := by rw [wrap_i64]; omega
      have hwq : IntKind.i64.wrap (q : Int) = (q : Int) := by rw [wrap_i64]; omega
      have hwr : IntKind.i64.wrap (r : Int) = (r : Int) := by rw [wrap_i64]; omega
      clear hc hcd hr hq hTl q1
      go_wp2
      go_quiet ((first | (go_at_call 13; with_reducible exact Calls.quiet_of_same (CQ.out _)) | (go_at_call 13; with_reducible exact Calls.quiet_of_same (CR.out _))))
      go_wp2
      go_roundw
      case rel => exact ⟨k + 1, T ++ [hx q, hx r], p + nq, by omega, by go_num, (by rw [bs_append, bs_append]; rfl), HST.out.symm, (by show _ = _; rw [HW.out]; exact drewN_add _ _ _)⟩
      case measure => simp [intOf]; omega
    · have HF : Hid (T = hexL l) := by show _ = _; rw [HT.out, List.take_of_length_le (by rw [HN.out]; omega)]
      clear hTl
      go_wp2
      go_ret
      exact ⟨ret_str (by rw [HF.out]), p, HW.out⟩
def RhP (w : World) (s : List UInt8) (e : Ending) (w' : World) : Prop := UhP w s e w'
set_option maxRecDepth 20000 in
set_option maxHeartbeats 8000000 in
theorem runhex_any (s : List UInt8) (w : World) (hl : s.length ≤ 4194304) :
    Calls Tryd.prog 9 #[.string (bs s)] w fun e w' => UhP w s e w' := by
  obtain ⟨n, hn⟩ : ∃ n, s.length = n := ⟨_, rfl⟩
  have hsz : (bs s).size = n := hn
  have HN : Hid (s.length = n) := hn
  have hnI : (n : Int) ≤ 4194304 := by omega
  by_cases hodd : n % 2 = 1
  · have HU : Hid (uhL s = none) := uhL_odd s (by rw [hn]; exact hodd)
    have ho : (n : Int) % 2 = 1 := by omega
    clear hn hl hodd
    go_enter Tryd.func9, Tryd.ntmps9
    go_wp2
    go_ret2
    exact uhP_none HU.out ((Below.refl _ _).alloc (Nat.le_refl _) _)
  · have ho : (n : Int) % 2 = 0 := by omega
    obtain ⟨i0, hi, hz0, hz1, hz2⟩ := info_parts Tryd.info5h
    have HO : Hid (n % 2 = 0) := by show _ = _; omega
    have HOW : Hid (Own (w.alloc (.cells #[] 5)) w.heap.size (.slice (some ⟨w.heap.size, 0, none⟩) 0 0) []) := ⟨by simp, World.ownsRow_lit w #[] 0 (Nat.le_refl _) (by simp) rfl⟩
    clear hn hl hodd
    go_enter Tryd.func9, Tryd.ntmps9
    go_wp2
    clear ho
    go_loopw [4, 5] (fun vb vi wr => ∃ (v0 : Value) (k I : Nat) (L : List Nat), v0 = vb ∧ vi = .int .i64 I ∧ Hid (I = 2 * k) ∧ I ≤ n ∧ Hid (Own wr w.heap.size v0 L) ∧ Hid (L.length = k) ∧ Hid (uhL s = (uhL (s.drop (2 * k))).map (L ++ ·)) ∧ Below w.heap.size w wr) (fun _ vi _ => n - (intOf vi).toNat)
    case atStart => exact ⟨_, 0, 0, [], rfl, rfl, rfl, Nat.zero_le _, HOW, rfl, (by show _ = _; simp), (Below.refl _ _).alloc (Nat.le_refl _) _⟩
    case round =>
      obtain ⟨v0, k, I, L, rfl, rfl, HI, hIn, HU, HL, HE, hbe⟩ := hrel
      have hkn : k ≤ 2097152 := by have := HI.out; omega
      by_cases hlt : I < n
      · have hlt1 : I + 1 < n := by have := HI.out; have := HO.out; omega
        obtain ⟨A, hA⟩ : ∃ A, (bs s)[I]'(by rw [hsz]; exact hlt) = A := ⟨_, rfl⟩
        obtain ⟨B, hB⟩ : ∃ B, (bs s)[I + 1]'(by rw [hsz]; exact hlt1) = B := ⟨_, rfl⟩
        have hst := uhL_step (l := s) (k := k) (L := L) (by have := HI.out; have := HN.out; omega) HE.out
        have eA : s.getD (2 * k) 0 = A := by
          rw [← HI.out, List.getD_eq_getElem?_getD, List.getElem?_eq_getElem (by rw [HN.out]; exact hlt)]
          exact hA
        have eB : s.getD (2 * k + 1) 0 = B := by
          rw [← HI.out, List.getD_eq_getElem?_getD, List.getElem?_eq_getElem (by rw [HN.out]; exact hlt1)]
          exact hB
        rw [eA, eB] at hst
        have hcut : (bs s).extract I (I + 2) = bs [A, B] := by
          apply ByteArray.ext
          rw [ByteArray.data_extract]
          apply Array.ext'
          have e1 : ((bs s).data.extract I (I + 2)).toList = (s.drop I).take 2 := by simp [Array.toList_extract, List.extract_eq_take_drop]
          rw [e1, List.drop_eq_getElem_cons (by rw [HN.out]; exact hlt), List.drop_eq_getElem_cons (by rw [HN.out]; exact hlt1)]
          show [s[I]'_, s[I + 1]'_] = [A, B]
          rw [← hA, ← hB]
          rfl
        have HST : Hid (_ ∧ _) := hst
        have hltI : (I : Int) < n := by omega
        have hlt2I : (I : Int) + 2 ≤ n := by omega
        clear hst eA eB hA hB
        go_wp2
        rename World => wo
        go_loopw [4, 6, 7] (fun vb vf vx wr => ∃ (v1 : Value) (X : Nat) (F : Bool), v1 = vb ∧ vf = .bool F ∧ vx = .int .i64 X ∧ X ≤ 256 ∧ Hid (if F = true then ∃ y, uh2 A B = some y ∧ Own wr w.heap.size v1 (L ++ [y]) else Own wr w.heap.size v1 L ∧ ∀ y, y < X → ¬ (hx (y / 16) = A ∧ hx (y % 16) = B)) ∧ Below w.heap.size w wr) (fun _ _ vx _ => 256 - (intOf vx).toNat)
        case atStart => exact ⟨_, 0, false, rfl, rfl, rfl, by omega, ⟨HU.out, fun y hy => absurd hy (Nat.not_lt_zero _)⟩, hbe⟩
        case round =>
          clear HU hbe
          obtain ⟨v1, X, F, rfl, rfl, rfl, hX, HF, hbe⟩ := hrel
          cases F with
          | true =>
            obtain ⟨y, hy1, hy2⟩ := HF.out
            have HS2 : Hid (uhL s = (uhL (s.drop (2 * (k + 1)))).map ((L ++ [y]) ++ ·)) := HST.out.1 y hy1
            have HO2 : Hid (Own wr w.heap.size v1 (L ++ [y])) := hy2
            clear HF hy1 hy2
            by_cases hx6 : (X : Int) < 256
            all_goals
              go_wp2
              go_roundw
              case rel => exact ⟨_, k + 1, I + 2, L ++ [y], rfl, by go_num, (by show _ = _; rw [HI.out]; omega), by omega, HO2, (by show _ = _; rw [List.length_append, HL.out]; rfl), HS2, hbe⟩
              case measure => simp [intOf]; omega
          | false =>
            have hF : Own wr w.heap.size v1 L ∧ ∀ y, y < X → ¬ (hx (y / 16) = A ∧ hx (y % 16) = B) := HF.out
            by_cases hx6 : X < 256
            · have hxI : (X : Int) < 256 := by omega
              obtain ⟨P, hP⟩ : ∃ P, hx (X / 16) = P := ⟨_, rfl⟩
              obtain ⟨Q, hQ⟩ : ∃ Q, hx (X % 16) = Q := ⟨_, rfl⟩
              have HPQ : Hid (hexL [X] = [P, Q]) := by show [hx (X / 16), hx (X % 16)] = _; rw [hP, hQ]
              have hwx : IntKind.u8.wrap (X : Int) = (X : Int) := by rw [IntKind.wrap_u8']; omega
              have hwi : IntKind.i64.wrap ((I : Int) + 2) = (I : Int) + 2 := by rw [wrap_i64]; omega
              have HU : Hid (Own wr w.heap.size v1 L) := hF.1
              have hp0 : (0 : Int) ≤ (I : Int) + 2 := by omega
              have hp1 : (I : Int) ≤ (I : Int) + 2 := by omega
              have hp2 : ((I : Int) + 2).toNat = I + 2 := by omega
              cases hcm : ([P, Q] == [A, B]) with
              | true =>
                have HM : Hid (uh2 A B = some X) := by
                  have e : [P, Q] = [A, B] := by simpa using hcm
                  cases e
                  show _ = _
                  rw [← hP, ← hQ]
                  exact uh2_hx X hx6
                clear HF hF hP hQ
                go_wp2
                refine wp_region_held (S := fun y => True) (by kernel_rfl) ?_
                change wpAnyH _ _ _ _ _ _ _ _ (World.drew _)
                obtain ⟨D, hD⟩ : ∃ D, wr.drew = D := ⟨_, rfl⟩
                have HB0 : Hid (Below wr.heap.size wr D) := by rw [← hD]; exact (Below.refl _ _).drew
                rw [hD]
                clear hD
                refine wpAnyH_take (i := 0) (oi := { dst := some 27, op := Op.move (Operand.tmp 7), type := 3, pos := "ref.go:83", after := #[], guard := none }) (v := ?_) rfl (by kernel_rfl) (by kernel_rfl) (by kernel_rfl) (fun _ _ _ h => h) (Or.inl ⟨by rfl, ?_⟩) trivial ?_
                rotate_left
                · (intro y hy; go_simp; try (with_reducible rfl))
                simp only [Act.put, List.setIfInBounds_toArray, List.set_cons_zero, List.set_cons_succ]
                refine wpAnyH_take (i := 1) (oi := { dst := some 28, op := Op.convert 3 5 (Operand.tmp 27), type := 5, pos := "ref.go:83", after := #[{ on := 0, ground := Ground.data }], guard := none }) (v := ?_) rfl (by kernel_rfl) (by kernel_rfl) (by kernel_rfl) (fun _ _ _ h => h) (Or.inl ⟨by rfl, ?_⟩) trivial ?_
                rotate_left
                · (intro y hy; go_simp; try (with_reducible rfl))
                simp only [Act.put, List.setIfInBounds_toArray, List.set_cons_zero, List.set_cons_succ]
                refine wpAnyH_take (i := 4) (oi := { dst := some 31, op := Op.move (Operand.tmp 0), type := 9, pos := "ref.go:83", after := #[], guard := none }) (v := ?_) rfl (by kernel_rfl) (by kernel_rfl) (by kernel_rfl) (fun _ _ _ h => h) (Or.inl ⟨by rfl, ?_⟩) trivial ?_
                rotate_left
                · (intro y hy; go_simp; try (with_reducible rfl))
                simp only [Act.put, List.setIfInBounds_toArray, List.set_cons_zero, List.set_cons_succ]
                refine wpAnyH_take (i := 5) (oi := { dst := some 32, op := Op.move (Operand.tmp 5), type := 3, pos := "ref.go:83", after := #[], guard := none }) (v := ?_) rfl (by kernel_rfl) (by kernel_rfl) (by kernel_rfl) (fun _ _ _ h => h) (Or.inl ⟨by rfl, ?_⟩) trivial ?_
                rotate_left
                · (intro y hy; go_simp; try (with_reducible rfl))
                simp only [Act.put, List.setIfInBounds_toArray, List.set_cons_zero, List.set_cons_succ]
                refine wpAnyH_take (i := 6) (oi := { dst := some 33, op := Op.move (Operand.tmp 5), type := 3, pos := "ref.go:83", after := #[], guard := none }) (v := ?_) rfl (by kernel_rfl) (by kernel_rfl) (by kernel_rfl) (fun _ _ _ h => h) (Or.inl ⟨by rfl, ?_⟩) trivial ?_
                rotate_left
                · (intro y hy; go_simp; try (with_reducible rfl))
                simp only [Act.put, List.setIfInBounds_toArray, List.set_cons_zero, List.set_cons_succ]
                refine wpAnyH_take (i := 7) (oi := { dst := some 34, op := Op.binOp BinOp.add 3 (Operand.tmp 33) (Operand.const (Value.int IntKind.i64 2)) 3, type := 3, pos := "ref.go:83", after := #[{ on := 6, ground := Ground.data }], guard := none }) (v := ?_) rfl (by kernel_rfl) (by kernel_rfl) (by kernel_rfl) (fun _ _ _ h => h) (Or.inl ⟨by rfl, ?_⟩) trivial ?_
                rotate_left
                · (intro y hy; go_simp; try (with_reducible rfl))
                simp only [Act.put, List.setIfInBounds_toArray, List.set_cons_zero, List.set_cons_succ]
                refine wpAnyH_take (i := 8) (oi := { dst := some 35, op := Op.slice 9 (Operand.tmp 31) (some (Operand.tmp 32)) (some (Operand.tmp 34)) none, type := 9, pos := "ref.go:83", after := #[{ on := 4, ground := Ground.data }, { on := 5, ground := Ground.data }, { on := 7, ground := Ground.data }], guard := none }) (v := ?_) rfl (by kernel_rfl) (by kernel_rfl) (by kernel_rfl) (fun _ _ _ h => h) (Or.inl ⟨by rfl, ?_⟩) trivial ?_
                rotate_left
                · (intro y hy; go_simp; try (with_reducible rfl))
                simp only [Act.put, List.setIfInBounds_toArray, List.set_cons_zero, List.set_cons_succ]
                refine wpAnyH_ready (rs := [2]) (by kernel_rfl) (by simp) ?_
                refine AllReadyH.cons (o := { dst := some 29, op := Op.buildSlice 22 1 #[(0, Operand.tmp 28)], type := 22, pos := "ref.go:83", after := #[{ on := 1, ground := Ground.data }], guard := none }) rfl (fun K hK => ?_) AllReadyH.nil
                go_simp
                obtain ⟨y1, hY⟩ : ∃ Y, D.alloc (.cells #[.int .u8 (X : Int)] 5) = Y := ⟨_, rfl⟩
                rw [hY]
                have HB2 : Hid (Below wr.heap.size wr y1) := by rw [← hY]; exact below_next HB0.out ((Below.refl _ _).alloc (Nat.le_refl _) _)
                have HBY : Hid (Bytes y1 (some ⟨D.heap.size, 0, none⟩) [X]) := by rw [← hY]; exact bytes_lit D [X] (getD_lt (by intro z hz; simp at hz; omega))
                clear hY
                (refine hK _ _ trivial ?_; clear hK K; intro _)
                try simp only [Act.put, List.setIfInBounds_toArray, List.set_cons_zero, List.set_cons_succ]
                refine wpAnyH_ready (rs := [3]) (by kernel_rfl) (by simp) ?_
                refine AllReadyH.cons (o := { dst := some 30, op := Op.call { callee := Callee.value (Operand.func 6), args := #[Operand.tmp 29], argTypes := #[22] }, type := 9, pos := "ref.go:83", after := #[{ on := 2, ground := Ground.data }], guard := none }) rfl (fun K hK => ?_) AllReadyH.nil
                go_simp
                refine (rhex_any [X] 1 _ 1 _ rfl HBY.out (by omega)).mono ?_
                rw [show hexL [X] = [P, Q] from HPQ.out]
                rintro _ y3 ⟨rfl, p1, hp1⟩
                have HB4 : Hid (Below wr.heap.size wr y3) := by rw [hp1]; exact below_next HB2.out (bel_drewN (Below.refl _ _) _)
                clear hp1
                (refine hK _ _ trivial ?_; clear hK K; intro _)
                try simp only [Act.put, List.setIfInBounds_toArray, List.set_cons_zero, List.set_cons_succ]
                refine wpAnyH_take (i := 9) (oi := { dst := some 36, op := Op.binOp BinOp.eql 9 (Operand.tmp 30) (Operand.tmp 35) 9, type := 4, pos := "ref.go:83", after := #[{ on := 3, ground := Ground.data }, { on := 8, ground := Ground.data }], guard := none }) (v := ?_) rfl (by kernel_rfl) (by kernel_rfl) (by kernel_rfl) (fun _ _ _ h => h) (Or.inl ⟨by rfl, ?_⟩) trivial ?_
                rotate_left
                · (intro y hy; go_simp; try (with_reducible rfl))
                simp only [Act.put, List.setIfInBounds_toArray, List.set_cons_zero, List.set_cons_succ]
                refine wpAnyH_done (by kernel_rfl) ?_ _
                have HBZ : Hid (Below wr.heap.size wr y3) := HB4.out
                go_wp2_with (at_builtin; refine wpList_append_lies _ rfl _ _ 22 rfl w.heap.size 5 i0 (.int .u8 0) 1 1 Tryd.underlying22 hi hz0 hz1 hz2 rfl (by decide) v1 k (B8 L) rfl (by rw [← HL.out]; exact own_below HU.out.2 (below_next HBZ.out ((Below.refl _ _).alloc (Nat.le_refl _) _))) ⟨y3.heap.size, 0, none⟩ 1 1 (B8 [X]) rfl rfl (bytes_cells (bytes_lit y3 [X] (getD_lt (by intro y hy; simp at hy; omega)))) (B8_one _) (by omega) (by unfold maxLen; omega) (by omega) (by have h5 := hbe.size; have h6 := HBZ.out.size; simp; omega) (y3.heap.size + 1) (by simp) ?_; intro g4 cap4 w4 ho4 hg4 hat4 hlt4)
                have hO6 : Own w4 w.heap.size (.slice (some ⟨g4, 0, none⟩) (k + 1) cap4) (L ++ [X]) := Own.append HU.out.1 (getD_lt (by intro y hy; simp at hy; omega)) (by rw [HL.out]; exact ho4)
                have hb6 : Below w.heap.size w w4 := (below_next hbe (below_next HBZ.out ((Below.refl _ _).alloc (Nat.le_refl _) (.cells #[.int .u8 (X : Int)] 5)))).grown hg4 (by have h5 := hbe.size; have h6 := HBZ.out.size; simp; omega) (fun j hj => (HU.out.2.lt j hj).1)
                clear ho4 hg4 hat4 hlt4
                go_wp2
                go_roundw
                case rel => exact ⟨_, X + 1, true, rfl, rfl, by go_num, by omega, ⟨X, HM.out, hO6⟩, hb6⟩
                case measure => simp [intOf]; omega
              | false =>
                have HM : Hid (∀ y, y < X + 1 → ¬ (hx (y / 16) = A ∧ hx (y % 16) = B)) := fun y hy => by
                  by_cases h : y = X
                  · subst h
                    rintro ⟨h1, h2⟩
                    rw [← hP, ← hQ, h1, h2] at hcm
                    simp at hcm
                  · exact hF.2 y (by omega)
                clear HF hF hP hQ
                go_wp2
                refine wp_region_held (S := fun y => True) (by kernel_rfl) ?_
                change wpAnyH _ _ _ _ _ _ _ _ (World.drew _)
                obtain ⟨D, hD⟩ : ∃ D, wr.drew = D := ⟨_, rfl⟩
                have HB0 : Hid (Below wr.heap.size wr D) := by rw [← hD]; exact (Below.refl _ _).drew
                rw [hD]
                clear hD
                refine wpAnyH_take (i := 0) (oi := { dst := some 27, op := Op.move (Operand.tmp 7), type := 3, pos := "ref.go:83", after := #[], guard := none }) (v := ?_) rfl (by kernel_rfl) (by kernel_rfl) (by kernel_rfl) (fun _ _ _ h => h) (Or.inl ⟨by rfl, ?_⟩) trivial ?_
                rotate_left
                · (intro y hy; go_simp; try (with_reducible rfl))
                simp only [Act.put, List.setIfInBounds_toArray, List.set_cons_zero, List.set_cons_succ]
                refine wpAnyH_take (i := 1) (oi := { dst := some 28, op := Op.convert 3 5 (Operand.tmp 27), type := 5, pos := "ref.go:83", after := #[{ on := 0, ground := Ground.data }], guard := none }) (v := ?_) rfl (by kernel_rfl) (by kernel_rfl) (by kernel_rfl) (fun _ _ _ h => h) (Or.inl ⟨by rfl, ?_⟩) trivial ?_
                rotate_left
                · (intro y hy; go_simp; try (with_reducible rfl))
                simp only [Act.put, List.setIfInBounds_toArray, List.set_cons_zero, List.set_cons_succ]
                refine wpAnyH_take (i := 4) (oi := { dst := some 31, op := Op.move (Operand.tmp 0), type := 9, pos := "ref.go:83", after := #[], guard := none }) (v := ?_) rfl (by kernel_rfl) (by kernel_rfl) (by kernel_rfl) (fun _ _ _ h => h) (Or.inl ⟨by rfl, ?_⟩) trivial ?_
                rotate_left
                · (intro y hy; go_simp; try (with_reducible rfl))
                simp only [Act.put, List.setIfInBounds_toArray, List.set_cons_zero, List.set_cons_succ]
                refine wpAnyH_take (i := 5) (oi := { dst := some 32, op := Op.move (Operand.tmp 5), type := 3, pos := "ref.go:83", after := #[], guard := none }) (v := ?_) rfl (by kernel_rfl) (by kernel_rfl) (by kernel_rfl) (fun _ _ _ h => h) (Or.inl ⟨by rfl, ?_⟩) trivial ?_
                rotate_left
                · (intro y hy; go_simp; try (with_reducible rfl))
                simp only [Act.put, List.setIfInBounds_toArray, List.set_cons_zero, List.set_cons_succ]
                refine wpAnyH_take (i := 6) (oi := { dst := some 33, op := Op.move (Operand.tmp 5), type := 3, pos := "ref.go:83", after := #[], guard := none }) (v := ?_) rfl (by kernel_rfl) (by kernel_rfl) (by kernel_rfl) (fun _ _ _ h => h) (Or.inl ⟨by rfl, ?_⟩) trivial ?_
                rotate_left
                · (intro y hy; go_simp; try (with_reducible rfl))
                simp only [Act.put, List.setIfInBounds_toArray, List.set_cons_zero, List.set_cons_succ]
                refine wpAnyH_take (i := 7) (oi := { dst := some 34, op := Op.binOp BinOp.add 3 (Operand.tmp 33) (Operand.const (Value.int IntKind.i64 2)) 3, type := 3, pos := "ref.go:83", after := #[{ on := 6, ground := Ground.data }], guard := none }) (v := ?_) rfl (by kernel_rfl) (by kernel_rfl) (by kernel_rfl) (fun _ _ _ h => h) (Or.inl ⟨by rfl, ?_⟩) trivial ?_
                rotate_left
                · (intro y hy; go_simp; try (with_reducible rfl))
                simp only [Act.put, List.setIfInBounds_toArray, List.set_cons_zero, List.set_cons_succ]
                refine wpAnyH_take (i := 8) (oi := { dst := some 35, op := Op.slice 9 (Operand.tmp 31) (some (Operand.tmp 32)) (some (Operand.tmp 34)) none, type := 9, pos := "ref.go:83", after := #[{ on := 4, ground := Ground.data }, { on := 5, ground := Ground.data }, { on := 7, ground := Ground.data }], guard := none }) (v := ?_) rfl (by kernel_rfl) (by kernel_rfl) (by kernel_rfl) (fun _ _ _ h => h) (Or.inl ⟨by rfl, ?_⟩) trivial ?_
                rotate_left
                · (intro y hy; go_simp; try (with_reducible rfl))
                simp only [Act.put, List.setIfInBounds_toArray, List.set_cons_zero, List.set_cons_succ]
                refine wpAnyH_ready (rs := [2]) (by kernel_rfl) (by simp) ?_
                refine AllReadyH.cons (o := { dst := some 29, op := Op.buildSlice 22 1 #[(0, Operand.tmp 28)], type := 22, pos := "ref.go:83", after := #[{ on := 1, ground := Ground.data }], guard := none }) rfl (fun K hK => ?_) AllReadyH.nil
                go_simp
                obtain ⟨y1, hY⟩ : ∃ Y, D.alloc (.cells #[.int .u8 (X : Int)] 5) = Y := ⟨_, rfl⟩
                rw [hY]
                have HB2 : Hid (Below wr.heap.size wr y1) := by rw [← hY]; exact below_next HB0.out ((Below.refl _ _).alloc (Nat.le_refl _) _)
                have HBY : Hid (Bytes y1 (some ⟨D.heap.size, 0, none⟩) [X]) := by rw [← hY]; exact bytes_lit D [X] (getD_lt (by intro z hz; simp at hz; omega))
                clear hY
                (refine hK _ _ trivial ?_; clear hK K; intro _)
                try simp only [Act.put, List.setIfInBounds_toArray, List.set_cons_zero, List.set_cons_succ]
                refine wpAnyH_ready (rs := [3]) (by kernel_rfl) (by simp) ?_
                refine AllReadyH.cons (o := { dst := some 30, op := Op.call { callee := Callee.value (Operand.func 6), args := #[Operand.tmp 29], argTypes := #[22] }, type := 9, pos := "ref.go:83", after := #[{ on := 2, ground := Ground.data }], guard := none }) rfl (fun K hK => ?_) AllReadyH.nil
                go_simp
                refine (rhex_any [X] 1 _ 1 _ rfl HBY.out (by omega)).mono ?_
                rw [show hexL [X] = [P, Q] from HPQ.out]
                rintro _ y3 ⟨rfl, p1, hp1⟩
                have HB4 : Hid (Below wr.heap.size wr y3) := by rw [hp1]; exact below_next HB2.out (bel_drewN (Below.refl _ _) _)
                clear hp1
                (refine hK _ _ trivial ?_; clear hK K; intro _)
                try simp only [Act.put, List.setIfInBounds_toArray, List.set_cons_zero, List.set_cons_succ]
                refine wpAnyH_take (i := 9) (oi := { dst := some 36, op := Op.binOp BinOp.eql 9 (Operand.tmp 30) (Operand.tmp 35) 9, type := 4, pos := "ref.go:83", after := #[{ on := 3, ground := Ground.data }, { on := 8, ground := Ground.data }], guard := none }) (v := ?_) rfl (by kernel_rfl) (by kernel_rfl) (by kernel_rfl) (fun _ _ _ h => h) (Or.inl ⟨by rfl, ?_⟩) trivial ?_
                rotate_left
                · (intro y hy; go_simp; try (with_reducible rfl))
                simp only [Act.put, List.setIfInBounds_toArray, List.set_cons_zero, List.set_cons_succ]
                refine wpAnyH_done (by kernel_rfl) ?_ _
                have HBZ : Hid (Below wr.heap.size wr y3) := HB4.out
                go_wp2
                go_roundw
                case rel => exact ⟨_, X + 1, false, rfl, rfl, by go_num, by omega, ⟨⟨HU.out.1, own_below HU.out.2 HBZ.out⟩, HM.out⟩, below_next hbe HBZ.out⟩
                case measure => simp [intOf]; omega
            · have hxI : ¬ (X : Int) < 256 := by omega
              have HN2 : Hid (uhL s = none) := by
                refine HST.out.2 ?_
                cases hu : uh2 A B with
                | none => rfl
                | some y =>
                  obtain ⟨f1, f2, f3, _⟩ := uh2_some hu
                  exact absurd ⟨f2, f3⟩ (hF.2 y (by omega))
              clear HF hF
              go_wp2
              go_ret2
              exact uhP_none HN2.out hbe
      · have hIe : I = n := by omega
        have HF : Hid (uhL s = some L) := by
          show _ = _
          rw [HE.out, List.drop_eq_nil_of_le (by rw [HN.out, ← HI.out, hIe]; exact Nat.le_refl _)]
          simp [uhL]
        clear hIe
        go_wp2
        go_ret2
        exact uhP_some HF.out HU.out hbe
end Go.Proofs.YtomgnbhajhkhfaaDoor
