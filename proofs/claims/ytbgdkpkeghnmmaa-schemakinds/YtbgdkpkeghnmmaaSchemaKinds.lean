/- The kinds of every version, in new memory; and Check knows just those: for every two numbers. -/
import Derived.Test.YtbgdkpkeghnmmaaKinds
import Derived.SizedLaws
import Derived.ChangeOld
namespace Go.Proofs.Ytbgdkpkeghnmmaa.schemaKinds
open Go.ChangeShapes Go.WideShapes Go.ChangeAt Go.RowKit
set_option linter.unusedVariables false
def kindE (k : Int) : Ev := ⟨k, 1, 0, 0, 0, 0, 0, ⟨#[]⟩, 0, ⟨#[]⟩⟩
theorem nilB_nil : nilB ⟨#[]⟩ = true := by
  unfold nilB ByteArray.toList ByteArray.toList.loop
  rfl
theorem chk_yes (v k : Int) (h1 : 1 ≤ v) (h5 : v ≤ 5) (hk : 1 ≤ k) (hk2 : k ≤ lastK v) : chk v (kindE k) = 0 := by
  refine chk_of ⟨h1, h5, hk, hk2, by show (ByteArray.mk #[]).size ≤ 16; decide, by show (ByteArray.mk #[]).size ≤ 120; decide, by show (1 : Int) ≤ 1; decide, by show (1 : Int) ≤ 1099511627776; decide, by show (0 : Int) ≤ 0; decide, by show (0 : Int) ≤ 65535; decide, ?_, by show (0 : Int) ≤ 10000; decide, by show (0 : Int) ≤ 0; decide, ?_, by show (0 : Int) ≤ 0; decide, by show (0 : Int) ≤ 3; decide, by show (0 : Int) ≤ 0; decide, by show (0 : Int) ≤ 5000; decide, rfl, by show (0 : Int) ≤ 0; decide, by show (0 : Int) ≤ 1099511627776; decide, .inr rfl, .inr rfl, .inr nilB_nil, .inr ⟨rfl, nilB_nil⟩⟩
  · show loQ v ≤ 0; unfold loQ; split <;> omega
  · show 0 ≤ hiP v; unfold hiP; split <;> omega
theorem chk_not (v k : Int) (h1 : 1 ≤ v) (h5 : v ≤ 5) (hk : k < 1 ∨ lastK v < k) : chk v (kindE k) = 31 := by
  unfold chk
  rw [if_neg (by omega)]
  exact if_pos hk
/-- an own row of kinds, laid open -/
theorem row_open {w : World} {base n : Nat} {r : Value} (hn : 0 < n) (h : w.ownsRow base 22 1 r n (KV n)) :
    ∃ g cap, r = .slice (some ⟨g, 0, none⟩) n cap ∧ base ≤ g ∧ g < w.heap.size ∧ n ≤ cap ∧ cap ≤ maxLen ∧ (∀ j, j < n → w.cell? ⟨g, j, none⟩ = some (.int .i64 ((j : Int) + 1))) ∧ (∀ j, w.frozen? ⟨g, j, none⟩ = false) := by
  have h0 := h
  obtain ⟨h1, h2⟩ := h
  rcases h2 with ⟨_, h2⟩ | ⟨g, cap, cur, rfl, hb, hg, hnc, hcm, hcs, htake⟩
  · omega
  · refine ⟨g, cap, rfl, hb, (h0.lt g rfl).2, hnc, hcm, fun j hj => ?_, fun j => h0.frozenAt j⟩
    rw [h0.cellAt j (by omega), KV_get n j hj]
/-- the row g: its numbers from place i on; nothing older than w has turned -/
def Left (w wr : World) (g n i : Nat) : Prop := Below w.heap.size w wr ∧ g < wr.heap.size ∧ (∀ j, i ≤ j → j < n → wr.cell? ⟨g, j, none⟩ = some (.int .i64 ((j : Int) + 1))) ∧ ∀ j, wr.frozen? ⟨g, j, none⟩ = false
theorem Left.put {w wr : World} {g n i : Nat} (h : Left w wr g n i) (hg : w.heap.size ≤ g) : Hid (Left w (wr.setCell ⟨g, i, none⟩ (.int .i64 0)) g n (i + 1)) := by
  obtain ⟨h1, h2, h3, h4⟩ := h
  refine ⟨h1.setCell hg _, by simpa [World.setCell] using h2, fun j hj hn => ?_, fun j => ?_⟩
  · rw [World.cell?_setCell_other _ _ _ _ (by intro e; simp at e; try omega)]
    exact h3 j (by omega) hn
  · rw [World.frozen?_setCell]
    exact h4 j
set_option maxRecDepth 20000 in
set_option maxHeartbeats 2000000 in
theorem walk_no (v k : Int) (w : World) (hv : v < 1 ∨ (1 ≤ v ∧ 5 < v)) :
    Calls Try.prog 4 #[.int .i64 v, .int .i64 k] w fun x w' => x = .returned (.bool true) ∧ Below w.heap.size w w' := by
  have HV : Hid (v < 1 ∨ 5 < v) := by show _ ∨ _; omega
  rcases hv with hv | ⟨hv0, hv⟩
  all_goals
    try have d1 : decide (v < 1) = false := by simp; omega
    go_enter Try.func4, Try.ntmps4
    go_wp2_with (first
      | (go_at_call_of 13 (v); refine (kinds_no v _ HV.out).mono ?_; rintro _ w2 ⟨rfl, rfl⟩)
      | (go_at_call 13; refine (kinds1 _).mono ?_; rintro _ w1 ⟨r, rfl, ho, hb⟩; have HB : Hid (Below w.heap.size w w1) := hb; obtain ⟨g, cap, rfl, g1, g2, g3, g4, g5, g6⟩ := row_open (by omega) ho; have c0 := g5 0 (by omega); clear ho hb g5 g6))
    go_ret
    exact ⟨rfl, HB.out⟩
theorem known_snoc (k : Int) (i : Nat) (b : Bool) (h : b = decide (1 ≤ k ∧ k ≤ (i : Int))) : (b || ((i : Int) + 1 == k)) = decide (1 ≤ k ∧ k ≤ ((i + 1 : Nat) : Int)) := by
  subst h
  rw [Bool.eq_iff_iff]
  simp
  omega
set_option maxRecDepth 20000 in
set_option maxHeartbeats 4000000 in
theorem walk_yes (v k : Int) (w : World) (h1 : 1 ≤ v) (h5 : v ≤ 5) :
    Calls Try.prog 4 #[.int .i64 v, .int .i64 k] w fun x w' => x = .returned (.bool true) ∧ Below w.heap.size w w' := by
  obtain ⟨n1, n2, n3⟩ := lastN_bd v
  obtain ⟨r, HR⟩ : ∃ r, Hid (chk v (kindE k) = r) := ⟨_, rfl⟩
  have HD : Hid ((1 ≤ k ∧ k ≤ (lastN v : Int) ∧ r = 0) ∨ (¬ (1 ≤ k ∧ k ≤ (lastN v : Int)) ∧ r = 31)) := by
    show _ ∨ _
    by_cases hk : 1 ≤ k ∧ k ≤ (lastN v : Int)
    · exact .inl ⟨hk.1, hk.2, HR.out.symm.trans (chk_yes v k h1 h5 hk.1 (by omega))⟩
    · exact .inr ⟨hk, HR.out.symm.trans (chk_not v k h1 h5 (by omega))⟩
  obtain ⟨n, HN⟩ : ∃ n, Hid (lastN v = n) := ⟨_, rfl⟩
  rw [HN.out] at n1 n2 HD
  clear n3
  have d1 : decide (v < 1) = false := by simp; omega
  have d2 : decide (5 < v) = false := by simp; omega
  have hnz : ((n : Int) != (n : Int)) = false := by simp
  go_enter Try.func4, Try.ntmps4
  go_wp2_with (first
    | (go_at_call_of 13 (v); refine (kinds_any v _ h1 h5).mono ?_; rw [HN.out]; rintro _ w2 ⟨r2, rfl, ho2, hb2⟩; have HB2 : Hid (Below w.heap.size w w2) := HB.out.trans (hb2.mono HB.out.size); obtain ⟨g, cap, rfl, g1, g2, g3, g4, g5, g6⟩ := row_open (by omega) ho2; have HG1 : Hid (w.heap.size ≤ g) := Nat.le_trans HB.out.size g1; have HG : Hid (Left w w2 g n 0) := ⟨HB2.out, g2, fun j _ hj => g5 j hj, g6⟩; clear ho2 hb2 g1 g2 g5 g6)
    | (go_at_call 13; refine (kinds1 _).mono ?_; rintro _ w1 ⟨r1, rfl, ho, hb⟩; have HB : Hid (Below w.heap.size w w1) := hb; obtain ⟨ga, capa, rfl, a1, a2, a3, a4, a5, a6⟩ := row_open (by omega) ho; have c0 := a5 0 (by omega); clear ho hb a5 a6)
    | (go_at_call 14; refine (last_any v _ h1 h5).mono ?_; rw [HN.out]; rintro _ w3 ⟨rfl, hb3⟩; have HL3 : Hid (Left w w3 g n 0) := ⟨HG.out.1.trans (hb3.mono HG.out.1.size), Nat.lt_of_lt_of_le HG.out.2.1 hb3.size, fun j h0 hj => (hb3.cell (p := ⟨g, j, none⟩) HG.out.2.1).trans (HG.out.2.2.1 j h0 hj), fun j => (hb3.frozen (p := ⟨g, j, none⟩) HG.out.2.1).trans (HG.out.2.2.2 j)⟩; clear hb3 HG HB HB2 c0))
  go_loopw [40] (fun vi wr => ∃ i : Nat, i ≤ n ∧ vi = .int .i64 i ∧ Hid (Left w wr g n i)) (fun vi _ => n - (intOf vi).toNat)
  case atStart => exact ⟨0, by omega, rfl, HL3⟩
  case round =>
    clear HL3
    obtain ⟨i, hi, rfl, HL⟩ := hrel
    by_cases hlt : i < n
    · have ci := HL.out.2.2.1 i (Nat.le_refl _) hlt
      have fi := HL.out.2.2.2 i
      have HL2 := HL.out.put HG1.out
      clear HL
      have hne : (((i : Int) + 1) != ((i : Int) + 1)) = false := by simp
      go_wp2
      go_roundw
      case rel => exact ⟨i + 1, by omega, by go_num, HL2⟩
      case measure => simp [intOf]; omega
    · go_wp2_with (go_at_call 13; refine (kinds_any v _ h1 h5).mono ?_; rw [HN.out]; rintro _ w5 ⟨r5, rfl, ho5, hb5⟩; have HB5 : Hid (Below w.heap.size w w5) := HL.out.1.trans (hb5.mono HL.out.1.size); obtain ⟨g', cap', rfl, b1, b2, b3, b4, b5, b6⟩ := row_open (by omega) ho5; have HC : Hid (∀ j, j < n → w5.cell? ⟨g', j, none⟩ = some (.int .i64 ((j : Int) + 1))) := b5; clear ho5 hb5 b1 b2 b5 b6 HL)
      go_loop [9, 58] (fun vb vi => ∃ i : Nat, ∃ b : Bool, i ≤ n ∧ vi = .int .i64 i ∧ vb = .bool b ∧ Hid (b = decide (1 ≤ k ∧ k ≤ (i : Int)))) (fun _ vi => n - (intOf vi).toNat)
      case atStart => exact ⟨0, false, by omega, rfl, rfl, by show false = _; symm; simp; omega⟩
      case round =>
        obtain ⟨i, b, hi2, rfl, rfl, HBB⟩ := hrel
        by_cases hlt2 : i < n
        · have ci := HC.out i hlt2
          have HS := known_snoc k i b HBB.out
          cases b with
          | true =>
            have HT : Hid (true = decide (1 ≤ k ∧ k ≤ ((i + 1 : Nat) : Int))) := by show _ = _; rw [← HS, Bool.true_or]
            clear HS HBB
            go_wp2
            go_round
            case rel => exact ⟨i + 1, true, by omega, by go_num, rfl, HT⟩
            case measure => simp [intOf]; omega
          | false =>
            obtain ⟨c, HX⟩ : ∃ c, Hid (((i : Int) + 1 == k) = c) := ⟨_, rfl⟩
            have HT : Hid (c = decide (1 ≤ k ∧ k ≤ ((i + 1 : Nat) : Int))) := by
              show _ = _
              rw [← HX.out, ← HS, Bool.false_or]
            have hx := HX.out
            clear HS HBB HX
            go_wp2
            go_round
            case rel => exact ⟨i + 1, c, by omega, by go_num, rfl, HT⟩
            case measure => simp [intOf]; omega
        · have hin : i = n := by omega
          subst hin
          rcases HD.out with ⟨k1, k2, hr⟩ | ⟨k1, hr⟩
          · have hb1 : b = true := by rw [HBB.out]; simp; omega
            subst hb1
            have HR0 : Hid (chk v (kindE k) = 0) := HR.out.trans hr
            clear HBB HD hr
            go_wp2_with (go_at_call 15; refine (check_ev v (kindE k) _).mono ?_; rw [HR0.out]; rintro _ w6 ⟨rfl, hb6⟩; have HB6 : Hid (Below w.heap.size w w6) := HB5.out.trans (hb6.mono HB5.out.size); clear hb6)
            go_ret
            exact ⟨rfl, HB6.out⟩
          · have hb1 : b = false := by rw [HBB.out]; simp; omega
            subst hb1
            have HR0 : Hid (chk v (kindE k) = 31) := HR.out.trans hr
            clear HBB HD hr
            go_wp2_with (go_at_call 15; refine (check_ev v (kindE k) _).mono ?_; rw [HR0.out]; rintro _ w6 ⟨rfl, hb6⟩; have HB6 : Hid (Below w.heap.size w w6) := HB5.out.trans (hb6.mono HB5.out.size); clear hb6)
            go_ret
            exact ⟨rfl, HB6.out⟩
theorem walk (v k : Int) (w : World) (w0 : (Lit.int .i64 v).wf = true) (w1 : (Lit.int .i64 k).wf = true) :
    Calls Try.prog 4 #[.int .i64 v, .int .i64 k] w fun x w' => x = .returned (.bool true) ∧ Below w.heap.size w w' := by
  by_cases h1 : 1 ≤ v
  · by_cases h5 : v ≤ 5
    · exact walk_yes v k w h1 h5
    · exact walk_no v k w (.inr ⟨h1, by omega⟩)
  · exact walk_no v k w (.inl (by omega))
theorem own : ownKnob Try.prog.godebug = none := by kernel_rfl
theorem laidOut : laidOutB Try.prog = true := by kernel_rfl
set_option maxRecDepth 100000 in
theorem contract (H : Type) (enc : TypeId × Value → H) (W : World) (base : Nat) (args : Array Value) (ds gs : List (DataW H)) (before : List MemPlace)
    (hval : ∀ (j : Nat) t v, Try.f4.params[j]? = some t → args[j]? = some v → Value.okWide Try.prog W .any base t v)
    (hW : DataW.Whole enc Try.prog Try.f4.params.toList Rows.schemaKindsSpec.vars false W args.toList ds gs before)
    (hsz : (DataW.weightsEach Try.prog (Try.f4.params.toList ++ Rows.schemaKindsSpec.plain.varTypes Try.prog) (ds ++ gs)).all (· ≤ reachBytes) = true) :
    Calls Try.prog 4 args W fun e W' => ∃ v, e = .returned v ∧ Rows.schemaKindsSpec.post enc Try.prog Try.f4 false true false false W args v W' := by
  have hW' := hW
  obtain ⟨p, q, hA0, hV, rfl, hfz, hnd⟩ := hW
  have hA : DataW.TrodAll enc Try.prog W 0 (fun _ => true) true Try.f4.params.toList args.toList ds p := hA0
  rw [Try.params4] at hA hval hsz
  obtain ⟨v0, vs0, d0, ds0, p0, q0, hargs, rfl, rfl, h0, r0⟩ := trodAll_cons hA
  obtain ⟨v1, vs1, d1, ds1, p1, q1, rfl, rfl, rfl, h1, r1⟩ := trodAll_cons r0
  obtain ⟨rfl, rfl, rfl⟩ := trodAll_nil r1
  obtain rfl : args = #[v0, v1] := by cases args; simp_all
  obtain ⟨rfl, rfl⟩ := trodVars_none hV
  obtain ⟨a0, rfl, rfl, rfl, w0⟩ := open_int Try.underlying3 (hval 0 3 v0 rfl rfl) h0
  obtain ⟨a1, rfl, rfl, rfl, w1⟩ := open_int Try.underlying3 (hval 1 3 v1 rfl rfl) h1
  clear hA0
  refine (walk a0 a1 W w0 w1).mono fun e W' ⟨he, bel⟩ => ?_
  subst he
  exact ⟨_, rfl, _, _, _, [], _, [], hW', trodAll_mk1 (shut_bool Try.underlying4 _), (trodAll_cons_mk (shut_int Try.underlying3 w0) (trodAll_cons_mk (shut_int Try.underlying3 w1) trodAll_mk0)), rfl, bel.frame _, fun h => by cases h⟩
set_option maxRecDepth 100000 in
theorem lifted (os : Os) (started : os.Started) (H : Type) (enc : TypeId × Value → H) :
    ReturnsInHanded {} Try.checked os 4 .any (Rows.schemaKindsSpec.pre6 enc Try.prog Try.f4 Rows.schemaKindsRow.domain false) (Rows.schemaKindsSpec.post enc Try.prog Try.f4 false true false false) := by
  refine returnsInHanded_of_change_sized (C := Try.checked) own started (by kernel_rfl) Try.func4
    (ChangeSpec.witness6 (enc := enc) (C := Try.checked) false ⟨#[], #[.int .i64 0, .int .i64 0], []⟩ 8 (by kernel_rfl) (by kernel_rfl) (by kernel_rfl) (by kernel_rfl)) ?_
  intro W base args ds gs before hval hW _ hsz _
  exact contract H enc W base args ds gs before hval hW hsz
theorem over : Rows.schemaKindsRow.holds Try.pinned (OpenSpec.ofChange Rows.schemaKindsSpec) :=
  OpenClaim.holds_of_wide 4 Try.f4 rfl rfl rfl rfl rfl rfl rfl ⟨rfl, rfl, rfl, rfl, rfl⟩ rfl rfl rfl rfl rfl (by kernel_rfl) Try.func4 (by kernel_rfl)
    (of_decide_eq_true (by kernel_rfl)) (by unfold Func.isWrapper; first | (rw [if_pos (by decide +kernel)]; kernel_rfl) | (rw [if_neg (by decide +kernel)]; exact ⟨rfl, rfl⟩))
    (fun os started H enc _ => lifted os started H enc)
theorem proved : Rows.SchemaKindsSaid := over
end Go.Proofs.Ytbgdkpkeghnmmaa.schemaKinds
