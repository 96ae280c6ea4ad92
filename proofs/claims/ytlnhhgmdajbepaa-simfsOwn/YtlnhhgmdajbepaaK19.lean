/- Own texts, joined: Fmu, Fmv, Fsu, Opf. -/
import Derived.Test.YtlnhhgmdajbepaaK18
namespace Go.Proofs.Ytlnhhgmdajbepaa
open Go.ChangeShapes Go.WideShapes Go.ChangeAt Go.RowKit
set_option linter.unusedVariables false
set_option linter.unusedSimpArgs false
theorem mntA_app : ∀ (X : List Fe) (A B : Ak) (r : List Fe), mntA A X = (0, B) → mntA A (X ++ r) = mntA B r
  | [], A, B, r, h => by
    have : A = B := (Prod.mk.inj h).2
    rw [this]; rfl
  | f :: X, A, B, r, h => by
    unfold mntA at h
    rw [List.cons_append]
    show (if mntE A f ≠ 0 then _ else _) = _
    by_cases he : mntE A f ≠ 0
    · rw [if_pos he] at h
      exact absurd (Prod.mk.inj h).1 he
    · rw [if_neg he] at h ⊢
      exact mntA_app X _ B r h
theorem mnt_ok {A : Ak} (h : AkOk A) {f : Fe} (he : mntE A f = 0) (hl : A.fs.length < 700) : AkOk (A.put (insA ⟨f.name, f.l, f.s.toNat⟩ A.fs)) ∧ 0 ≤ f.s ∧ f.s ≤ f.l.length ∧ (f.l.length : Int) ≤ A.room - (usedA A.fs : Nat) := by
  unfold mntE at he
  split at he
  · cases he
  · rename_i h1
    split at he
    · cases he
    · split at he
      · cases he
      · rename_i h3
        split at he
        · cases he
        · rename_i h4
          have hr : rightS f.name = true := by cases hh : rightS f.name with | true => rfl | false => exact absurd hh h1
          exact ⟨h.ins (f := ⟨f.name, f.l, f.s.toNat⟩) (right_len hr) (by show f.s.toNat ≤ f.l.length; omega) (by show (usedA A.fs : Int) + f.l.length ≤ _; omega) (by have := lenA_ins ⟨f.name, f.l, f.s.toNat⟩ (L := A.fs); omega), by omega, by omega, by omega⟩
/-- what Mount answers -/
def mountA (room : Int) (F : List Fe) : Nat × Ak := if 700 < F.length then (53, (newD room).ab) else mntA (newD room).ab F
/-- files as they are handed in -/
structure FeA (w : World) (a : Option Addr) (Y : List (Fe × Value)) : Prop where
  lie : Y = [] ∨ ∃ b off, a = some ⟨b, off, none⟩ ∧ b < w.heap.size ∧ ∀ k p, Y[k]? = some p → w.rangeAt b (off + k * 3) [.string (bs p.1.name), p.2, .int .i64 p.1.s]
  byt : ∀ p ∈ Y, (∃ a2 c2, p.2 = .slice a2 p.1.l.length c2 ∧ Bytes w a2 p.1.l) ∧ p.1.name.length ≤ 281474976710656 ∧ p.1.l.length ≤ 140737488351232 ∧ inI p.1.s
theorem FeA.keep {w w' : World} {a : Option Addr} {Y : List (Fe × Value)} (h : FeA w a Y) (hb : Below w.heap.size w w') : FeA w' a Y := by
  refine ⟨?_, fun p hp => ?_⟩
  · rcases h.lie with h1 | ⟨b, off, h1, h2, h3⟩
    · exact .inl h1
    · exact .inr ⟨b, off, h1, Nat.lt_of_lt_of_le h2 hb.size, fun k p hp => range_keep (h3 k p hp) h2 hb⟩
  · obtain ⟨⟨a2, c2, h1, h2⟩, h3⟩ := h.byt p hp
    exact ⟨⟨a2, c2, h1, h2.keep hb⟩, h3⟩
set_option maxRecDepth 100000 in
set_option maxHeartbeats 8000000 in
theorem mount_any (w : World) (room : Int) (hr1 : -9223372036854775808 ≤ room) (hr2 : room ≤ 9223372036854775807) (Y : List (Fe × Value)) (a : Option Addr) (n C : Nat) (hn : Y.length = n) (hY : FeA w a Y) (hnl : (n : Int) ≤ 140737488351232) :
    Calls Try.prog 22 #[.int .i64 room, .slice a n C] w fun r w' => ∃ P, r = .returned (.tuple #[P, .int .i64 ((mountA room (Y.map Prod.fst)).1 : Nat)]) ∧ Below w.heap.size w w' ∧ (((mountA room (Y.map Prod.fst)).1 ≠ 0 ∧ P = .pointer none) ∨ ((mountA room (Y.map Prod.fst)).1 = 0 ∧ ∃ q b, P = .pointer (some ⟨q, 0, none⟩) ∧ DA w' w.heap.size q b (mountA room (Y.map Prod.fst)).2 ∧ AkOk (mountA room (Y.map Prod.fst)).2)) := by
  have HN : Hid (Y.length = n) := hn
  have HY : Hid (FeA w a Y) := hY
  have hn0 : (0 : Int) ≤ (n : Int) := by omega
  by_cases hbig : 700 < n
  · have e0 : mountA room (Y.map Prod.fst) = (53, (newD room).ab) := if_pos (by rw [List.length_map, hn]; exact hbig)
    have hbI : (700 : Int) < (n : Int) := by omega
    rw [e0]
    clear e0 hbig hn hY
    go_enter Try.func22, Try.ntmps22
    go_wp2
    go_ret2
    exact ⟨_, rfl, Below.refl _ _, .inl ⟨by simp, rfl⟩⟩
  · have e0 : mountA room (Y.map Prod.fst) = mntA (newD room).ab (Y.map Prod.fst) := if_neg (by rw [List.length_map, hn]; exact hbig)
    rw [e0]
    have hbI : ¬ (700 : Int) < (n : Int) := by omega
    have HB7 : Hid (n ≤ 700) := by show _ ≤ _; omega
    have HRI : Hid (inI room) := ⟨hr1, hr2⟩
    have HRM : Hid (roomI room - ((0 : Nat) : Int) = roomI room) := by show _ = _; omega
    obtain ⟨Z, hZ⟩ : ∃ Z, roomI room = Z := ⟨_, rfl⟩
    have HZ : Hid (roomI room = Z ∧ 0 ≤ Z ∧ Z ≤ 67108864) := ⟨hZ, by rw [← hZ]; exact room_ok room⟩
    clear e0 hbig hn hY hZ
    go_enter Try.func22, Try.ntmps22
    go_wp2_with (first
      | (go_at_call 14; refine (fsnew_any room w HRI.out.1 HRI.out.2).mono ?_; rintro _ x1 ⟨q, b, rfl, hd1, hb1⟩; have c10 := hd1.cells.1; rw [show (newD room).room = Z from HZ.out.1] at c10; have HD1 : Hid (DA x1 w.heap.size q b (newD room).ab ∧ Below w.heap.size w x1) := ⟨⟨_, hd1, rfl⟩, hb1⟩; clear hd1 hb1)
      | go_in)
    go_loopw [7, 22] (fun v7 v22 wr => ∃ (k : Nat) (A : Ak) (free : Int), v22 = .int .i64 (k : Int) ∧ v7 = .int .i64 free ∧ k ≤ n ∧ Hid (DA wr w.heap.size q b A ∧ AkOk A ∧ A.fs.length ≤ k ∧ A.room = Z ∧ free = A.room - (usedA A.fs : Nat) ∧ Below w.heap.size w wr ∧ mntA (newD room).ab ((Y.map Prod.fst).take k) = (0, A))) (fun _ v22 _ => n - (intOf v22).toNat)
    case atStart =>
      refine ⟨0, (newD room).ab, Z, rfl, rfl, Nat.zero_le _, HD1.out.1, newA_ok room, Nat.le_refl _, HZ.out.1, ?_, HD1.out.2, rfl⟩
      show Z = roomI room - ((0 : Nat) : Int)
      rw [HZ.out.1]; omega
    case round =>
      obtain ⟨k, A, free, rfl, rfl, hk, HRR⟩ := hrel
      have hfr0 : 0 ≤ free ∧ free ≤ 67108864 := by
        have h1 := HRR.out.2.1.used
        have h2 := HRR.out.2.1.room
        have h3 := HRR.out.2.2.2.2.1
        omega
      obtain ⟨hfr1, hfr2⟩ := hfr0
      by_cases hkn : k < n
      · obtain ⟨⟨⟨nm, l, s⟩, v⟩, hp⟩ : ∃ p, Y[k]? = some p := ⟨_, List.getElem?_eq_getElem (by rw [HN.out]; exact hkn)⟩
        have hYr := HY.out.keep HRR.out.2.2.2.2.2.1
        obtain ⟨⟨a2, c2, hv, hby⟩, hnl2, hll, hsi⟩ := hYr.byt _ (List.mem_of_getElem? hp)
        simp only at hv hby hnl2 hll hsi
        obtain ⟨b0, off, rfl, hb0, hrg⟩ : ∃ b0 off, a = some ⟨b0, off, none⟩ ∧ b0 < wr.heap.size ∧ wr.rangeAt b0 (off + k * 3) [.string (bs nm), v, .int .i64 s] := by
          rcases hYr.lie with h1 | ⟨b0, off, h1, h2, h3⟩
          · rw [h1] at hp; simp at hp
          · exact ⟨b0, off, h1, h2, h3 k _ hp⟩
        subst hv
        have hFk : (Y.map Prod.fst)[k]? = some ⟨nm, l, s⟩ := by rw [List.getElem?_map, hp]; rfl
        obtain ⟨hFl, hFe⟩ := List.getElem?_eq_some_iff.1 hFk
        have hsplit : Y.map Prod.fst = (Y.map Prod.fst).take k ++ ⟨nm, l, s⟩ :: (Y.map Prod.fst).drop (k + 1) := by
          rw [← hFe, ← List.drop_eq_getElem_cons hFl, List.take_append_drop]
        have HF : Hid (mntA (newD room).ab (Y.map Prod.fst) = mntA A (⟨nm, l, s⟩ :: (Y.map Prod.fst).drop (k + 1)) ∧ (mntE A ⟨nm, l, s⟩ = 0 → mntA (newD room).ab ((Y.map Prod.fst).take (k + 1)) = (0, A.put (insA ⟨nm, l, s.toNat⟩ A.fs)))) := by
          refine ⟨?_, fun he => ?_⟩
          · conv => lhs; rw [hsplit]
            exact mntA_app _ _ _ _ HRR.out.2.2.2.2.2.2
          · rw [List.take_succ_eq_append_getElem hFl, hFe, mntA_app _ _ _ _ HRR.out.2.2.2.2.2.2]
            show (if mntE A ⟨nm, l, s⟩ ≠ 0 then _ else mntA _ []) = _
            rw [if_neg (by rw [he]; simp)]
            rfl
        obtain ⟨m, hlm⟩ : ∃ m, l.length = m := ⟨_, rfl⟩
        obtain ⟨D, hd, hab⟩ := HRR.out.1
        have HD : Hid (DkAt wr w.heap.size q b D ∧ D.ab = A) := ⟨hd, hab⟩
        have HLM : Hid (l.length = m) := hlm
        have hone : (Value.slice a2 m c2).oneCell' = true := slice_one _ _ _
        rw [hlm] at hrg hll
        have HRNG : Hid (wr.rangeAt b0 (off + k * 3) [.string (bs nm), .slice a2 m c2, .int .i64 s]) := hrg
        have HBYS : Hid (Bytes wr a2 l) := hby
        have HSI : Hid (inI s ∧ nm.length ≤ 281474976710656 ∧ m ≤ 140737488351232) := ⟨hsi, hnl2, hll⟩
        have HZF : Hid (FlAt (wr.alloc (.cells #[.string ⟨#[]⟩, .slice none 0 0, .int .i64 0] 49)) wr.heap.size [] (.slice none 0 0) 0) := FlAt.new wr _ _ _
        have HONE : Hid ((Value.slice a2 m c2).oneCell' = true) := hone
        obtain ⟨E, hE⟩ : ∃ E, mntE A ⟨nm, l, s⟩ = E := ⟨_, rfl⟩
        have HE : Hid (mntE A ⟨nm, l, s⟩ = E) := hE
        have HMB : Hid (∀ x4, Below wr.heap.size wr x4 → Calls Try.prog 50 #[.pointer (some ⟨q, 0, none⟩), flV nm (.slice a2 m c2) s, .int .i64 free] x4 fun r x' => r = .returned (.int .i64 (E : Nat)) ∧ Below x4.heap.size x4 x') := fun x4 hb4 => by
          have h1 := mountable_any x4 w.heap.size q b D (hd.keep hb4) ⟨nm, l, s⟩ a2 c2 free hnl2 (by rw [hlm]; exact hll) (by omega) (by omega) (by rw [hab]; exact HRR.out.2.2.2.2.1) hsi
          rw [hab, hE] at h1
          simp only [hlm] at h1
          exact h1
        have hkI : (k : Int) < (n : Int) := by omega
        have hk0 : (0 : Int) ≤ (k : Int) := by omega
        have hm0 : (0 : Int) ≤ (m : Int) := by omega
        clear hp hYr hby hnl2 hll hsi hb0 hrg hFk hFl hFe hsplit hlm hd hab hone hE
        by_cases hE0 : E = 0
        · subst hE0
          obtain ⟨hok2, hs0, hsl, hfit⟩ := mnt_ok HRR.out.2.1 HE.out (by have := HRR.out.2.2.1; have := HB7.out; omega)
          simp only at hok2 hs0 hsl hfit
          obtain ⟨S, rfl⟩ : ∃ S : Nat, s = (S : Int) := ⟨s.toNat, by omega⟩
          rw [HLM.out, ← HRR.out.2.2.2.2.1] at hfit
          have hmI : (m : Int) ≤ 67108864 := by omega
          have HOK2 : Hid (AkOk (A.put (insA ⟨nm, l, (S : Int).toNat⟩ A.fs)) ∧ (m : Int) ≤ free) := ⟨hok2, hfit⟩
          have HNX : Hid (∀ y, DA y w.heap.size q b (A.put (insA ⟨nm, l, (S : Int).toNat⟩ A.fs)) → Below w.heap.size w y → (DA y w.heap.size q b (A.put (insA ⟨nm, l, (S : Int).toNat⟩ A.fs)) ∧ AkOk (A.put (insA ⟨nm, l, (S : Int).toNat⟩ A.fs)) ∧ (A.put (insA ⟨nm, l, (S : Int).toNat⟩ A.fs)).fs.length ≤ k + 1 ∧ (A.put (insA ⟨nm, l, (S : Int).toNat⟩ A.fs)).room = Z ∧ free - (m : Int) = (A.put (insA ⟨nm, l, (S : Int).toNat⟩ A.fs)).room - (usedA (A.put (insA ⟨nm, l, (S : Int).toNat⟩ A.fs)).fs : Nat) ∧ Below w.heap.size w y ∧ mntA (newD room).ab ((Y.map Prod.fst).take (k + 1)) = (0, A.put (insA ⟨nm, l, (S : Int).toNat⟩ A.fs)))) := by
            intro y h1 h2
            refine ⟨h1, hok2, ?_, HRR.out.2.2.2.1, ?_, h2, HF.out.2 HE.out⟩
            · have := lenA_ins ⟨nm, l, (S : Int).toNat⟩ (L := A.fs)
              have := HRR.out.2.2.1
              show (insA _ A.fs).length ≤ k + 1
              omega
            · have hnone : getA A.fs nm = none := by
                have h9 := HE.out
                unfold mntE at h9
                split at h9
                · cases h9
                · split at h9
                  · cases h9
                  · rename_i h8
                    cases hg : getA A.fs nm with
                    | none => rfl
                    | some f => simp only [hg, Option.isSome_some, not_true] at h8
              have hu := usedA_ins ⟨nm, l, (S : Int).toNat⟩ HRR.out.2.1.sort
              rw [oldA_none hnone] at hu
              simp only [HLM.out] at hu
              show free - (m : Int) = A.room - (usedA (insA _ A.fs) : Nat)
              have := HRR.out.2.2.2.2.1
              omega
          have HPUT : Hid (∀ (x5 : World) (v5 : Value) (g0 : Nat), Below wr.heap.size wr x5 → Own x5 g0 v5 l → wr.heap.size ≤ g0 → Calls Try.prog 51 #[.pointer (some ⟨q, 0, none⟩), .string (bs nm), fiV v5 (S : Int)] x5 fun r x' => r = .returned (.tuple #[]) ∧ DA x' w.heap.size q b (A.put (insA ⟨nm, l, (S : Int).toNat⟩ A.fs)) ∧ Below w.heap.size w x' ∧ (FlAt x5 wr.heap.size nm (.slice a2 m c2) (S : Int) → FlAt x' wr.heap.size nm (.slice a2 m c2) (S : Int))) := fun x5 v5 g0 hb5 ho5 hg0 => by
            have hdx := HD.out.1.keep hb5
            refine (put_any x5 w.heap.size q b D hdx ?_ nm v5 l S HSI.out.2.1 ?_ ?_).mono (fun r x' hr => ⟨hr.1, ⟨_, hr.2.1, ?_⟩, ?_, fun hf => ?_⟩)
            · have h1 := HRR.out.2.2.1
              rw [← HD.out.2] at h1
              have h2 : D.ab.fs.length = D.fs.length := List.length_map _
              have := HB7.out
              unfold maxLen
              omega
            · exact (DatAt.of_own ho5).mono (Nat.le_trans HRR.out.2.2.2.2.2.1.size hg0)
            · intro g hg _ j hj hgj
              have h1 := (ho5.2.lt j hj).1
              have h2 := ((HD.out.1.dat g hg).lt hgj).2
              omega
            · rw [Int.toNat_natCast, ← HD.out.2]
              show Ak.mk _ _ _ _ _ ((insN _ D.fs).map Fi.ab) = _
              rw [ins_ab]
              rfl
            · have hbl := HD.out.1.lo.2
              exact hr.2.2.below (HRR.out.2.2.2.2.2.1.trans (hb5.mono HRR.out.2.2.2.2.2.1.size)) hbl hbl
            · have hlt := lt_of_heap hf
              have hbl := HD.out.1.lt.2
              exact (hr.2.2.block _ hlt (by omega) (by omega)).trans hf
          clear hok2 hs0 hsl hfit
          go_wp2_with (first
            | ((with_reducible refine guard_load 49 ?_); refine wpList_load_flr rfl _ rfl HRNG.out rfl ?_)
            | ((with_reducible refine guard_store 49 ?_); refine wpList_store_fl rfl _ _ rfl rfl HZF.out HONE.out rfl rfl (nm2 := nm) (v2 := .slice a2 m c2) (s2 := (S : Int)) ?_; intro x3 hf3 hb3; have HB3 : Hid (Below wr.heap.size wr x3) := hb3 _ _ ((Below.refl _ _).alloc (Nat.le_refl _) _) (Nat.le_refl _); have HF3 : Hid (FlAt x3 wr.heap.size nm (.slice a2 m c2) (S : Int)) := hf3; clear hf3 hb3)
            | ((with_reducible refine guard_load 49 ?_); refine wpList_load_flb rfl _ rfl HF3.out rfl ?_)
            | (go_at_call 50; refine (HMB.out x3 HB3.out).mono ?_; rintro _ x4 ⟨rfl, hb4⟩; have HB4 : Hid (Below wr.heap.size wr x4) := HB3.out.trans (hb4.mono HB3.out.size); have HF4 : Hid (FlAt x4 wr.heap.size nm (.slice a2 m c2) (S : Int)) := HF3.out.keep hb4; have cf4 := HF4.out.cells.2.1; clear hb4)
            | go_in)
          refine wp_region_held (S := (fun y => FlAt y wr.heap.size nm (.slice a2 m c2) (S : Int))) (by kernel_rfl) ?_
          change wpAnyH _ _ _ _ _ _ _ _ (World.drew _)
          obtain ⟨xe, hxe⟩ : ∃ xe, x4.drew = xe := ⟨_, rfl⟩
          have HBE : Hid (Below wr.heap.size wr xe) := by rw [← hxe]; exact HB4.out.trans ((Below.refl _ _).drew)
          have HPE : Hid (FlAt xe wr.heap.size nm (.slice a2 m c2) (S : Int)) := by rw [← hxe]; exact HF4.out
          rw [hxe]
          clear hxe
          refine wpAnyH_take (i := 0) (oi := { dst := some 38, op := Op.move (Operand.tmp 6), type := 24, pos := "simfs.go:60", after := #[], guard := none }) (v := ?_) rfl (by kernel_rfl) (by kernel_rfl) (by kernel_rfl) (fun _ _ _ h => h) (Or.inl ⟨by rfl, ?_⟩) HPE.out ?_
          rotate_left
          · (intro y hy; go_simp; try (with_reducible rfl))
          simp only [Act.put, List.setIfInBounds_toArray, List.set_cons_zero, List.set_cons_succ]
          refine wpAnyH_take (i := 1) (oi := { dst := some 39, op := Op.fieldAddr 49 (Operand.tmp 9) 0, type := 0, pos := "simfs.go:60", after := #[], guard := none }) (v := ?_) rfl (by kernel_rfl) (by kernel_rfl) (by kernel_rfl) (fun _ _ _ h => h) (Or.inl ⟨by rfl, ?_⟩) HPE.out ?_
          rotate_left
          · (intro y hy; go_simp; try (with_reducible rfl))
          simp only [Act.put, List.setIfInBounds_toArray, List.set_cons_zero, List.set_cons_succ]
          refine wpAnyH_take (i := 2) (oi := { dst := some 40, op := Op.load 9 (Operand.tmp 39), type := 9, pos := "simfs.go:60", after := #[{ on := 1, ground := Ground.data }], guard := none }) (v := .string (bs nm)) rfl (by kernel_rfl) (by kernel_rfl) (by kernel_rfl) (fun _ _ _ h => h) (Or.inl ⟨by rfl, ?_⟩) HPE.out ?_
          · (intro y hy; have h0 := hy.cells.1; go_simp)
          simp only [Act.put, List.setIfInBounds_toArray, List.set_cons_zero, List.set_cons_succ]
          refine wpAnyH_take (i := 3) (oi := { dst := some 41, op := Op.fieldAddr 49 (Operand.tmp 9) 1, type := 0, pos := "simfs.go:60", after := #[], guard := none }) (v := ?_) rfl (by kernel_rfl) (by kernel_rfl) (by kernel_rfl) (fun _ _ _ h => h) (Or.inl ⟨by rfl, ?_⟩) HPE.out ?_
          rotate_left
          · (intro y hy; go_simp; try (with_reducible rfl))
          simp only [Act.put, List.setIfInBounds_toArray, List.set_cons_zero, List.set_cons_succ]
          refine wpAnyH_take (i := 4) (oi := { dst := some 42, op := Op.load 31 (Operand.tmp 41), type := 31, pos := "simfs.go:60", after := #[{ on := 3, ground := Ground.data }], guard := none }) (v := .slice a2 m c2) rfl (by kernel_rfl) (by kernel_rfl) (by kernel_rfl) (fun _ _ _ h => h) (Or.inl ⟨by rfl, ?_⟩) HPE.out ?_
          · (intro y hy; have h0 := hy.cells.2.1; go_simp)
          simp only [Act.put, List.setIfInBounds_toArray, List.set_cons_zero, List.set_cons_succ]
          refine wpAnyH_take (i := 6) (oi := { dst := some 44, op := Op.fieldAddr 49 (Operand.tmp 9) 2, type := 0, pos := "simfs.go:60", after := #[], guard := none }) (v := ?_) rfl (by kernel_rfl) (by kernel_rfl) (by kernel_rfl) (fun _ _ _ h => h) (Or.inl ⟨by rfl, ?_⟩) HPE.out ?_
          rotate_left
          · (intro y hy; go_simp; try (with_reducible rfl))
          simp only [Act.put, List.setIfInBounds_toArray, List.set_cons_zero, List.set_cons_succ]
          refine wpAnyH_take (i := 7) (oi := { dst := some 45, op := Op.load 3 (Operand.tmp 44), type := 3, pos := "simfs.go:60", after := #[{ on := 6, ground := Ground.data }], guard := none }) (v := .int .i64 (S : Int)) rfl (by kernel_rfl) (by kernel_rfl) (by kernel_rfl) (fun _ _ _ h => h) (Or.inl ⟨by rfl, ?_⟩) HPE.out ?_
          · (intro y hy; have h0 := hy.cells.2.2; go_simp)
          simp only [Act.put, List.setIfInBounds_toArray, List.set_cons_zero, List.set_cons_succ]
          refine wpAnyH_ready (rs := [5]) (by kernel_rfl) (by simp) ?_
          refine AllReadyH.cons (o := { dst := some 43, op := Op.call { callee := Callee.value (Operand.func 52), args := #[Operand.tmp 42], argTypes := #[31] }, type := 31, pos := "simfs.go:60", after := #[{ on := 4, ground := Ground.data }], guard := none }) rfl (fun K hK => ?_) AllReadyH.nil
          go_simp
          refine (copied_any l m HLM.out a2 c2 _ (HBYS.out.keep HBE.out) hmI).mono ?_
          rintro _ x5 ⟨v50, rfl, ho5, hb5⟩
          obtain ⟨a5, c5, hv5⟩ : ∃ a5 c5, v50 = .slice a5 m c5 := by obtain ⟨a5, c5, e5⟩ := row_shape ho5.2; exact ⟨a5, c5, by rw [e5, HLM.out]⟩
          subst hv5
          have HO5 : Hid (Own x5 xe.heap.size (.slice a5 m c5) l) := ho5
          have HB5 : Hid (Below wr.heap.size wr x5) := HBE.out.trans (hb5.mono HBE.out.size)
          have HPC : Hid (FlAt x5 wr.heap.size nm (.slice a2 m c2) (S : Int)) := HPE.out.keep hb5
          clear ho5 hb5
          (refine hK _ _ HPC.out ?_; clear hK K; intro _)
          try simp only [Act.put, List.setIfInBounds_toArray, List.set_cons_zero, List.set_cons_succ]
          refine wpAnyH_take (i := 8) (oi := { dst := some 46, op := Op.build 85 #[(0, Operand.tmp 43), (1, Operand.tmp 45)], type := 85, pos := "simfs.go:60", after := #[{ on := 5, ground := Ground.data }, { on := 7, ground := Ground.data }], guard := none }) (v := ?_) rfl (by kernel_rfl) (by kernel_rfl) (by kernel_rfl) (fun _ _ _ h => h) (Or.inl ⟨by rfl, ?_⟩) HPC.out ?_
          rotate_left
          · (intro y hy; go_simp; try (with_reducible rfl))
          simp only [Act.put, List.setIfInBounds_toArray, List.set_cons_zero, List.set_cons_succ]
          refine wpAnyH_ready (rs := [9]) (by kernel_rfl) (by simp) ?_
          refine AllReadyH.cons (o := { dst := some 47, op := Op.call { callee := Callee.value (Operand.func 51), args := #[Operand.tmp 38, Operand.tmp 40, Operand.tmp 46], argTypes := #[24, 9, 85] }, type := 0, pos := "simfs.go:60", after := #[{ on := 0, ground := Ground.data }, { on := 2, ground := Ground.data }, { on := 8, ground := Ground.data }, { on := 5, ground := Ground.chain }], guard := none }) rfl (fun K hK => ?_) AllReadyH.nil
          go_simp
          refine (HPUT.out x5 (.slice a5 m c5) _ HB5.out HO5.out HBE.out.size).mono ?_
          rintro _ x6 ⟨rfl, hd6, hb6, hp6⟩
          have HD6 : Hid (DA x6 w.heap.size q b (A.put (insA ⟨nm, l, (S : Int).toNat⟩ A.fs)) ∧ Below w.heap.size w x6) := ⟨hd6, hb6⟩
          have HPP : Hid (FlAt x6 wr.heap.size nm (.slice a2 m c2) (S : Int)) := hp6 HPC.out
          clear hd6 hb6 hp6
          (refine hK _ _ HPP.out ?_; clear hK K; intro _)
          try simp only [Act.put, List.setIfInBounds_toArray, List.set_cons_zero, List.set_cons_succ]
          refine wpAnyH_done (by kernel_rfl) ?_ _
          go_wp2
          go_roundw
          case rel => exact ⟨k + 1, A.put (insA ⟨nm, l, (S : Int).toNat⟩ A.fs), _, by go_num, rfl, by omega, HNX.out _ HD6.out.1 HD6.out.2⟩
          case measure => simp [intOf]; omega
        · have hq : ((E : Int) != 0) = true := by simp; exact hE0
          have HEARLY : Hid (mntA (newD room).ab (Y.map Prod.fst) = (E, A)) := by
            show _ = _
            rw [HF.out.1]
            show (if mntE A ⟨nm, l, s⟩ ≠ 0 then _ else _) = _
            rw [HE.out, if_pos hE0]
          have HE0 : Hid (E ≠ 0) := hE0
          go_wp2_with (first
            | ((with_reducible refine guard_load 49 ?_); refine wpList_load_flr rfl _ rfl HRNG.out rfl ?_)
            | ((with_reducible refine guard_store 49 ?_); refine wpList_store_fl rfl _ _ rfl rfl HZF.out HONE.out rfl rfl (nm2 := nm) (v2 := .slice a2 m c2) (s2 := s) ?_; intro x3 hf3 hb3; have HB3 : Hid (Below wr.heap.size wr x3) := hb3 _ _ ((Below.refl _ _).alloc (Nat.le_refl _) _) (Nat.le_refl _); have HF3 : Hid (FlAt x3 wr.heap.size nm (.slice a2 m c2) s) := hf3; clear hf3 hb3)
            | ((with_reducible refine guard_load 49 ?_); refine wpList_load_flb rfl _ rfl HF3.out rfl ?_)
            | (go_at_call 50; refine (HMB.out x3 HB3.out).mono ?_; rintro _ x4 ⟨rfl, hb4⟩; have HB4 : Hid (Below wr.heap.size wr x4) := HB3.out.trans (hb4.mono HB3.out.size); clear hb4)
            | go_in)
          go_ret2
          rw [HEARLY.out]
          exact ⟨_, rfl, HRR.out.2.2.2.2.2.1.trans (HB4.out.mono HRR.out.2.2.2.2.2.1.size), .inl ⟨HE0.out, rfl⟩⟩
      · obtain rfl : k = n := by omega
        have HEND : Hid (mntA (newD room).ab (Y.map Prod.fst) = (0, A)) := by
          have h1 := HRR.out.2.2.2.2.2.2
          rw [List.take_of_length_le (by rw [List.length_map, HN.out]; exact Nat.le_refl _)] at h1
          exact h1
        clear hkn hk
        go_wp2
        go_ret2
        rw [HEND.out]
        exact ⟨_, rfl, HRR.out.2.2.2.2.2.1, .inr ⟨rfl, q, b, rfl, HRR.out.1, HRR.out.2.1⟩⟩
end Go.Proofs.Ytlnhhgmdajbepaa
namespace Go.Proofs.Ytlnhhgmdajbepaa
open Go.ChangeShapes Go.WideShapes Go.ChangeAt Go.RowKit
set_option linter.unusedVariables false
abbrev RtL (L : List Fa) : Prop := ∀ f ∈ L, rightS f.name = true
theorem rt_ins {L : List Fa} {f : Fa} (h : RtL L) (hf : rightS f.name = true) : RtL (insA f L) := fun g hg => by
  rcases mem_insA hg with h1 | h1
  · rw [h1]; exact hf
  · exact h g h1
theorem rt_del {L : List Fa} (h : RtL L) (t : List UInt8) : RtL (delA L t) := fun g hg => h g (delA_mem hg).1
theorem rt_step {A : Ak} (h : RtL A.fs) : RtL (stepA A).fs := by rw [stepA_fs]; exact h
theorem rt_to {A : Ak} (h : RtL A.fs) {L : List Fa} (hL : RtL L) : RtL (stepTo A L).1.fs := by
  unfold stepTo
  split
  · exact rt_step h
  · exact hL
theorem doA_right {A : Ak} (h : RtL A.fs) (o : Oa) : RtL (doA A o).1.fs := by
  have hm : ∀ {nm : List UInt8} {f : Fa}, getA A.fs nm = some f → rightS f.name = true := fun hf => h _ (getA_mem hf).1
  unfold doA
  split
  · show RtL (createA A o.nm).1.fs
    unfold createA
    by_cases h1 : barA A [o.nm] = 0
    · rw [if_neg (by omega)]
      split
      · exact h
      · split
        · exact h
        · split
          · exact rt_step h
          · exact rt_ins h ((bar_right h1).2 _ (List.mem_singleton.2 rfl))
    · rw [if_pos h1]; exact h
  · split
    · show RtL (appendA A o.nm o.lb).1.fs
      unfold appendA
      exact foundA_ok (P := fun r : Ak × Nat => RtL r.1.fs) (fun e => h) (fun f hf _ => by
        split
        · exact h
        · exact rt_ins (f := ⟨f.name, _, _⟩) h (show rightS f.name = true from hm hf))
    · split
      · exact foundA_ok (P := fun r : Ak × Nat => RtL r.1.fs) (fun e => h) (fun f hf _ => rt_to h (rt_ins (f := ⟨f.name, _, _⟩) h (show rightS f.name = true from hm hf)))
      · split
        · show RtL (renameA A o.nm o.to).1.fs
          unfold renameA
          by_cases h1 : barA A [o.nm, o.to] = 0
          · rw [if_neg (by omega)]
            exact foundA_ok (P := fun r : Ak × Nat => RtL r.1.fs) (fun e => h) (fun f hf _ => rt_to h (rt_ins (f := ⟨o.to, _, _⟩) (rt_del h _) ((bar_right h1).2 _ (by simp))))
          · rw [if_pos h1]; exact h
        · split
          · exact foundA_ok (P := fun r : Ak × Nat => RtL r.1.fs) (fun e => h) (fun f hf _ => rt_to h (rt_del h _))
          · split
            · exact foundA_ok (P := fun r : Ak × Nat => RtL r.1.fs) (fun e => h) (fun f hf _ => by
                split
                · exact h
                · exact rt_to h (rt_ins (f := ⟨f.name, _, _⟩) h (show rightS f.name = true from hm hf)))
            · split
              · exact foundA_ok (P := fun r : Ak × List Nat × Nat => RtL r.1.fs) (fun e => h) (fun f hf _ => by
                  split
                  · exact h
                  · exact h)
              · split
                · exact h
                · split
                  · intro g hg
                    obtain ⟨f, hf, k, e⟩ := lose_mem (show g ∈ loseA A.fs o.ks from hg)
                    rw [e]; exact h f hf
                  · split
                    · exact h
                    · exact h
theorem ins_last {f : Fa} : ∀ {P : List Fa}, (∀ g ∈ P, g.name < f.name) → insA f P = P ++ [f]
  | [], _ => rfl
  | g :: r, h => by
    have h1 := h g (by simp)
    unfold insA
    rw [if_neg (fun h3 => lt_irr _ (lt_tr h3 h1)), if_neg (fun h3 => by rw [h3] at h1; exact lt_irr _ h1), ins_last (fun x hx => h x (by simp [hx]))]
    rfl
def feOf (f : Fa) : Fe := ⟨f.name, f.l, (f.s : Int)⟩
theorem used_app (P R : List Fa) : usedA (P ++ R) = usedA P + usedA R := by unfold usedA; rw [List.map_append, List.sum_append]
theorem mnt_sorted : ∀ (R P : List Fa) (A : Ak), SortA (P ++ R) → RtL R → (∀ f ∈ R, f.s ≤ f.l.length) → (usedA (P ++ R) : Int) ≤ A.room → mntA (A.put P) (R.map feOf) = (0, A.put (P ++ R))
  | [], P, A, _, _, _, _ => by rw [List.append_nil]; rfl
  | f :: R, P, A, hs, hr, hsf, hu => by
    have hlt : ∀ g ∈ P, g.name < f.name := fun g hg => (List.pairwise_append.1 hs).2.2 g hg f (by simp)
    have hn : getA P f.name = none := getA_none.2 (fun g hg e => by have := hlt g hg; rw [e] at this; exact lt_irr _ this)
    have hfs := hsf f (by simp)
    have hu2 : (usedA P : Int) + f.l.length ≤ A.room := by rw [used_app, usedA_cons] at hu; omega
    have he : mntE (A.put P) (feOf f) = 0 := by
      unfold mntE
      rw [if_neg (by show ¬ rightS f.name = false; rw [hr f (by simp)]; simp), if_neg (by show ¬ (getA P f.name).isSome = true; rw [hn]; simp), if_neg (by show ¬ ((f.s : Int) < 0 ∨ (f.l.length : Int) < (f.s : Int)); omega), if_neg (by show ¬ A.room - (usedA P : Nat) < (f.l.length : Int); omega)]
    rw [List.map_cons]
    show (if mntE (A.put P) (feOf f) ≠ 0 then _ else mntA ((A.put P).put (insA ⟨f.name, f.l, ((f.s : Nat) : Int).toNat⟩ P)) (R.map feOf)) = _
    rw [if_neg (by rw [he]; simp), Int.toNat_natCast, ins_last hlt]
    have h2 := mnt_sorted R (P ++ [f]) A (by rw [List.append_assoc]; exact hs) (fun g hg => hr g (by simp [hg])) (fun g hg => hsf g (by simp [hg])) (by rw [List.append_assoc]; exact hu)
    rw [List.append_assoc] at h2
    exact h2
theorem mount_same {A : Ak} {room : Int} (h : AkOk A) (hr : RtL A.fs) (hroom : A.room = roomI room) : mountA room (A.fs.map feOf) = (0, (newD room).ab.put A.fs) := by
  unfold mountA
  rw [if_neg (by rw [List.length_map]; have := h.few; omega)]
  exact mnt_sorted A.fs [] (newD room).ab h.sort hr h.safe (by have := h.used; rw [hroom] at this; exact this)
theorem im_fe {w : World} {base : Nat} {a : Option Addr} {m c : Nat} {X : List (Fa × Value)} (h : OwnIm w base (.slice a m c) X) (hn : ∀ p ∈ X, p.1.name.length ≤ 24 ∧ p.1.l.length ≤ 140737488351232 ∧ p.1.s ≤ p.1.l.length) : FeA w a (X.map (fun p => (feOf p.1, p.2))) := by
  have hfl : FlsA w a X := by
    obtain ⟨a2, c2, e, h2, _⟩ := h.fls
    injection e with e1 e2 e3
    subst e1
    exact h2
  refine ⟨?_, fun p hp => ?_⟩
  · rcases hfl.lie with h1 | ⟨b, off, h1, h2, h3⟩
    · left; rw [h1]; rfl
    · refine .inr ⟨b, off, h1, h2, fun k p hp j v hj => ?_⟩
      rw [List.getElem?_map] at hp
      cases hx : X[k]? with
      | none => rw [hx] at hp; cases hp
      | some x =>
        rw [hx] at hp
        simp only [Option.map_some, Option.some.injEq] at hp
        subst hp
        have hk : k < X.length := (List.getElem?_eq_some_iff.1 hx).1
        obtain ⟨f0, f1, f2⟩ := imfl_get X k x hx
        match j, hj with
        | 0, hj => rw [Nat.add_zero, h3 (k * 3) (by omega), f0]; exact hj
        | 1, hj => rw [show off + k * 3 + 1 = off + (k * 3 + 1) from by omega, h3 (k * 3 + 1) (by omega), f1]; exact hj
        | 2, hj => rw [show off + k * 3 + 2 = off + (k * 3 + 2) from by omega, h3 (k * 3 + 2) (by omega), f2]; exact hj
        | j + 3, hj => simp at hj
  · obtain ⟨x, hx, rfl⟩ := List.mem_map.1 hp
    obtain ⟨a2, c2, e1, e2, _⟩ := hfl.byt x hx
    obtain ⟨n1, n2, n3⟩ := hn x hx
    exact ⟨⟨a2, c2, e1, e2⟩, by show x.1.name.length ≤ _; omega, n2, by show -9223372036854775808 ≤ (x.1.s : Int); omega, by show (x.1.s : Int) ≤ _; omega⟩
theorem down_A {x : World} {base q b : Nat} {A : Ak} (h : DA x base q b A) : Calls Try.prog 34 #[.pointer (some ⟨q, 0, none⟩)] x fun r x' => r = .returned (.bool A.off) ∧ x = x' := by
  obtain ⟨D, hd, rfl⟩ := h; exact down_any x base q b D hd
theorem steps_A {x : World} {base q b : Nat} {A : Ak} (h : DA x base q b A) : Calls Try.prog 37 #[.pointer (some ⟨q, 0, none⟩)] x fun r x' => r = .returned (.int .i64 A.steps) ∧ x = x' := by
  obtain ⟨D, hd, rfl⟩ := h; exact steps_any x base q b D hd
theorem image_n {x : World} {base q b : Nat} {A : Ak} (h : DA x base q b A) (ok : AkOk A) (m : Nat) (hm : A.fs.length = m) : Calls Try.prog 24 #[.pointer (some ⟨q, 0, none⟩)] x fun r x' => ∃ a c X, r = .returned (.slice a m c) ∧ OwnIm x' x.heap.size (.slice a m c) X ∧ X.map Prod.fst = A.fs ∧ X.length = m ∧ FlsA x' a X ∧ Below x.heap.size x x' := by
  refine (image_F h.df ok).mono (fun r x' ⟨v, X, e, hi, hx, hb⟩ => ?_)
  have hl : X.length = m := by rw [← hm, ← hx, List.length_map]
  obtain ⟨a, c, e2, h2, _⟩ := hi.fls
  rw [hl] at e2
  subst e2
  exact ⟨a, c, X, e, hi, hx, hl, h2, hb⟩
end Go.Proofs.Ytlnhhgmdajbepaa
namespace Go.Proofs.Ytlnhhgmdajbepaa
open Go.ChangeShapes Go.WideShapes Go.ChangeAt Go.RowKit
set_option linter.unusedVariables false
/-- two disks that have no block in common, and blocks F that are neither's -/
def DD (x : World) (s1 q b s2 p c : Nat) (A B : Ak) (F : Nat → Prop) : Prop := ∃ D E, DkAt x s1 q b D ∧ DkAt x s2 p c E ∧ D.ab = A ∧ E.ab = B ∧ (∀ k, Ob q b D.fs k → ¬ Ob p c E.fs k) ∧ (∀ k, F k → k < x.heap.size ∧ ¬ Ob q b D.fs k ∧ ¬ Ob p c E.fs k)
section
variable {x y : World} {s1 q b s2 p c : Nat} {A B : Ak} {F G : Nat → Prop}
theorem DD.swap (h : DD x s1 q b s2 p c A B F) : DD x s2 p c s1 q b B A F := by
  obtain ⟨D, E, h1, h2, h3, h4, h5, h6⟩ := h
  exact ⟨E, D, h2, h1, h4, h3, fun k hk ho => h5 k ho hk, fun k hk => ⟨(h6 k hk).1, (h6 k hk).2.2, (h6 k hk).2.1⟩⟩
theorem DD.one (h : DD x s1 q b s2 p c A B F) : DA x s1 q b A := by
  obtain ⟨D, E, h1, h2, h3, h4, h5, h6⟩ := h; exact ⟨D, h1, h3⟩
theorem DD.two (h : DD x s1 q b s2 p c A B F) : DA x s2 p c B := h.swap.one
theorem DD.keep (h : DD x s1 q b s2 p c A B F) (hb : Below x.heap.size x y) : DD y s1 q b s2 p c A B F := by
  obtain ⟨D, E, h1, h2, h3, h4, h5, h6⟩ := h
  exact ⟨D, E, h1.keep hb, h2.keep hb, h3, h4, h5, fun k hk => ⟨Nat.lt_of_lt_of_le (h6 k hk).1 hb.size, (h6 k hk).2⟩⟩
theorem DD.more (h : DD x s1 q b s2 p c A B F) (hb : Below x.heap.size x y) : DD y s1 q b s2 p c A B (fun k => F k ∨ (x.heap.size ≤ k ∧ k < y.heap.size)) := by
  obtain ⟨D, E, h1, h2, h3, h4, h5, h6⟩ := h
  refine ⟨D, E, h1.keep hb, h2.keep hb, h3, h4, h5, fun k hk => ?_⟩
  rcases hk with hk | ⟨k1, k2⟩
  · exact ⟨Nat.lt_of_lt_of_le (h6 k hk).1 hb.size, (h6 k hk).2⟩
  · exact ⟨k2, fun ho => by have := (h1.ob ho).2; omega, fun ho => by have := (h2.ob ho).2; omega⟩
theorem DD.sub (h : DD x s1 q b s2 p c A B F) (hg : ∀ k, G k → F k) : DD x s1 q b s2 p c A B G := by
  obtain ⟨D, E, h1, h2, h3, h4, h5, h6⟩ := h
  exact ⟨D, E, h1, h2, h3, h4, h5, fun k hk => h6 k (hg k hk)⟩
theorem DD.mk2 (h : DA x s1 q b A) (hb : Below x.heap.size x y) (h2 : DA y x.heap.size p c B) : DD y s1 q b x.heap.size p c A B (fun _ => False) := by
  obtain ⟨D, h1, h3⟩ := h
  obtain ⟨E, h4, h5⟩ := h2
  exact ⟨D, E, h1.keep hb, h4, h3, h5, fun k hk ho => by have := (h1.ob hk).2; have := (h4.ob ho).1; omega, fun k hk => hk.elim⟩
/-- a call at the first disk -/
theorem DD.df (h : DD x s1 q b s2 p c A B F) : ∃ G, DF x s1 q b A G ∧ ∀ x' A', DF x' s1 q b A' G → (∀ k, G k → x'.heap[k]? = x.heap[k]?) → DD x' s1 q b s2 p c A' B F ∧ ∀ k, F k → x'.heap[k]? = x.heap[k]? := by
  obtain ⟨D, E, h1, h2, h3, h4, h5, h6⟩ := h
  refine ⟨fun k => Ob p c E.fs k ∨ F k, ⟨D, h1, h3, fun k hk => ?_⟩, fun x' A' hd hk1 => ?_⟩
  · rcases hk with hk | hk
    · exact ⟨(h2.ob hk).2, fun ho => h5 k ho hk⟩
    · exact ⟨(h6 k hk).1, (h6 k hk).2.1⟩
  · obtain ⟨D', hd1, hd2, hd3⟩ := hd
    exact ⟨⟨D', E, hd1, h2.same (fun k hk => hk1 k (.inl hk)), hd2, h4, fun k hk ho => (hd3 k (.inl ho)).2 hk, fun k hk => ⟨(hd3 k (.inr hk)).1, (hd3 k (.inr hk)).2, (h6 k hk).2.2⟩⟩, fun k hk => hk1 k (.inr hk)⟩
theorem fuse_D (h : DD x s1 q b s2 p c A B F) (n : Int) : Calls Try.prog 36 #[.pointer (some ⟨q, 0, none⟩), .int .i64 n] x fun r x' => r = .returned (.tuple #[]) ∧ DD x' s1 q b s2 p c (fuseA A n) B F ∧ Below s1 x x' := by
  obtain ⟨G, ⟨D, hd1, rfl, hF⟩, hback⟩ := h.df
  exact (fuse_any x s1 q b D hd1 n).mono (fun r x' hr => by
    obtain ⟨a1, a2, a3⟩ := hr.2.f hd1 hF (Below.refl _ _)
    exact ⟨hr.1, (hback _ _ a1 a2).1, a3⟩)
theorem call_D1 (h : DD x s1 q b s2 p c A B F) (ok : AkOk A) (o : Oa) (ho : OpIn x o) : Calls Try.prog 18 #[.pointer (some ⟨q, 0, none⟩), opV o] x fun r x' => ∃ v, r = .returned (.tuple #[v, .int .i64 (doA A o).2.2.1, .int .i64 ((doA A o).2.2.2 : Nat)]) ∧ DD x' s1 q b s2 p c (doA A o).1 B F ∧ (∀ k, F k → x'.heap[k]? = x.heap[k]?) ∧ Below s1 x x' := by
  obtain ⟨G, hd, hback⟩ := h.df
  exact (call_F x s1 q b A G hd ok o ho).mono (fun r x' hr => by
    obtain ⟨v, e, _, a1, a2, a3⟩ := hr
    exact ⟨v, e, (hback _ _ a1 a2).1, (hback _ _ a1 a2).2, a3⟩)
theorem call_D2 (h : DD x s1 q b s2 p c A B F) (ok : AkOk B) (o : Oa) (ho : OpIn x o) : Calls Try.prog 18 #[.pointer (some ⟨p, 0, none⟩), opV o] x fun r x' => ∃ v, r = .returned (.tuple #[v, .int .i64 (doA B o).2.2.1, .int .i64 ((doA B o).2.2.2 : Nat)]) ∧ DD x' s1 q b s2 p c A (doA B o).1 F ∧ (∀ k, F k → x'.heap[k]? = x.heap[k]?) ∧ Below s2 x x' :=
  (call_D1 h.swap ok o ho).mono (fun r x' hr => by
    obtain ⟨v, e, a1, a2, a3⟩ := hr
    exact ⟨v, e, a1.swap, a2, a3⟩)
end
theorem imk {x y : World} {base : Nat} {v : Value} {X : List (Fa × Value)} (h : OwnIm x base v X) (hs : ∀ k, base ≤ k → k < x.heap.size → y.heap[k]? = x.heap[k]?) : OwnIm y base v X := by
  refine ⟨⟨h.1.1, ?_⟩, fun p hp => ?_⟩
  · rcases h.1.2 with h1 | ⟨g, cap, cur, h1, h2, h3, h4⟩
    · exact .inl h1
    · exact .inr ⟨g, cap, cur, h1, h2, (hs g h2 (lt_of_heap h3)).trans h3, h4⟩
  · have h9 := h.2 p hp
    refine ⟨h9.1, h9.2.1, ?_⟩
    rcases h9.2.2 with h1 | ⟨g, cap, cur, h1, h2, h3, h4⟩
    · exact .inl h1
    · exact .inr ⟨g, cap, cur, h1, h2, (hs g h2 (lt_of_heap h3)).trans h3, h4⟩
theorem imf {w : World} {base : Nat} {a : Option Addr} {m c : Nat} {X : List (Fa × Value)} (h : OwnIm w base (.slice a m c) X) : FlsA w a X := by
  obtain ⟨a2, c2, e, h2, _⟩ := h.fls
  injection e with e1 e2 e3
  subst e1
  exact h2
/-- A: a disk whose fuse of n is not yet gone; B: the same disk without -/
structure Rz (n : Int) (A B : Ak) : Prop where
  a : A.off = false
  b : B.off = false
  z : B.fuse = 0
  fs : A.fs = B.fs
  room : A.room = B.room
  st : A.steps = B.steps
  s0 : 0 ≤ A.steps
  sum : A.steps + A.fuse = n
  f1 : 1 ≤ A.fuse
def Oz (n : Int) (A : Ak) (k : Int) (A' : Ak) (e : Nat) (B' : Ak) (bad : Nat) : Prop := (Rz n A' B' ∧ e = bad) ∨ (A'.off = true ∧ e = 3 ∧ bad = 0 ∧ A'.steps = n - 1 ∧ (k ≠ 1 → A'.fs = A.fs) ∧ (k = 1 → A'.fs = B'.fs))
section
variable {n : Int} {A B : Ak}
theorem Rz.start (h1 : 1 ≤ n) (room : Int) : Rz n (fuseA (newD room).ab n) (newD room).ab :=
  ⟨rfl, rfl, rfl, rfl, rfl, rfl, by show (0 : Int) ≤ 0; omega, by show (0 : Int) + (if n < 0 then 0 else n) = n; rw [if_neg (by omega)]; omega, by show 1 ≤ (if n < 0 then 0 else n); rw [if_neg (by omega)]; exact h1⟩
theorem bar_z (h : Rz n A B) (Ls : List (List UInt8)) : barA B Ls = barA A Ls := by unfold barA; rw [h.a, h.b]
theorem find_z (h : Rz n A B) (nm : List UInt8) : findA B nm = findA A nm := by unfold findA; rw [bar_z h, h.fs]
theorem Rz.same (h : Rz n A B) (k : Int) (e : Nat) : Oz n A k A e B e := .inl ⟨h, rfl⟩
theorem Rz.nb (h : Rz n A B) : ¬ B.fuse = 1 := by rw [h.z]; omega
theorem step_z (h : Rz n A B) (hn : n ≤ 9223372036854775807) (hf : ¬ A.fuse = 1) (L : List Fa) : Rz n ((stepA A).put L) ((stepA B).put L) := by
  have h1 := h.s0
  have h2 := h.sum
  have h3 := h.f1
  have e1 : stepA A = { A with off := false, fuse := (if 1 ≤ A.fuse then A.fuse - 1 else 0), steps := wrap64 (A.steps + 1) } := if_neg hf
  have e2 : stepA B = { B with off := false, fuse := (if 1 ≤ B.fuse then B.fuse - 1 else 0), steps := wrap64 (B.steps + 1) } := if_neg h.nb
  have e3 : (if 1 ≤ A.fuse then A.fuse - 1 else 0) = A.fuse - 1 := if_pos h3
  have e4 : (if 1 ≤ B.fuse then B.fuse - 1 else 0) = 0 := if_neg (by rw [h.z]; omega)
  have e5 : wrap64 (A.steps + 1) = A.steps + 1 := by unfold wrap64; omega
  rw [e1, e2, e3, e4, ← h.st, e5]
  exact ⟨rfl, rfl, rfl, rfl, h.room, rfl, by show 0 ≤ A.steps + 1; omega, by show A.steps + 1 + (A.fuse - 1) = n; omega, by show 1 ≤ A.fuse - 1; omega⟩
theorem gone_z (h : Rz n A B) (hf : A.fuse = 1) : (stepA A).off = true ∧ (stepA A).steps = n - 1 ∧ (stepA A).fs = A.fs := by
  have h2 := h.sum
  have e1 : stepA A = { A with off := true, fuse := 0 } := if_pos hf
  rw [e1]
  exact ⟨rfl, by show A.steps = n - 1; omega, rfl⟩
theorem to_z (h : Rz n A B) (hn : n ≤ 9223372036854775807) (L : List Fa) {k : Int} (hk : k ≠ 1) : Oz n A k (stepTo A L).1 (stepTo A L).2 (stepTo B L).1 (stepTo B L).2 := by
  have e2 : stepTo B L = ((stepA B).put L, 0) := if_neg h.nb
  rw [e2]
  by_cases hf : A.fuse = 1
  · have e1 : stepTo A L = (stepA A, 3) := if_pos hf
    rw [e1]
    obtain ⟨g1, g2, g3⟩ := gone_z h hf
    exact .inr ⟨g1, rfl, rfl, g2, fun _ => g3, fun h9 => absurd h9 hk⟩
  · have e1 : stepTo A L = ((stepA A).put L, 0) := if_neg hf
    rw [e1]
    exact .inl ⟨step_z h hn hf L, rfl⟩
theorem found_z {R : Type} (h : Rz n A B) {P : R → R → Prop} (nm : List UInt8) {bA bB : Nat → R} {XA XB : Fa → R} (h1 : ∀ e, P (bA e) (bB e)) (h2 : ∀ f, P (XA f) (XB f)) : P (foundA A nm bA XA) (foundA B nm bB XB) := by
  unfold foundA
  rw [← h.fs, find_z h, bar_z h]
  cases getA A.fs nm with
  | none => exact h1 _
  | some f =>
    simp only
    split
    · exact h1 _
    · exact h2 _
theorem do_z (h : Rz n A B) (hn : n ≤ 9223372036854775807) (o : Oa) (h0 : 0 ≤ o.k) (h7 : o.k ≤ 7) : Oz n A o.k (doA A o).1 (doA A o).2.2.2 (doA B o).1 (doA B o).2.2.2 := by
  unfold doA
  by_cases k0 : o.k = 0
  · simp only [if_pos k0]
    have hk : o.k ≠ 1 := by omega
    unfold createA
    rw [bar_z h, ← h.fs]
    by_cases c1 : barA A [o.nm] ≠ 0
    · rw [if_pos c1, if_pos c1]; exact h.same _ _
    · rw [if_neg c1, if_neg c1]
      by_cases c2 : (getA A.fs o.nm).isSome = true
      · rw [if_pos c2, if_pos c2]; exact h.same _ _
      · rw [if_neg c2, if_neg c2]
        by_cases c3 : 700 ≤ A.fs.length
        · rw [if_pos c3, if_pos c3]; exact h.same _ _
        · rw [if_neg c3, if_neg c3]; exact to_z h hn _ hk
  · by_cases k1 : o.k = 1
    · simp only [if_neg k0, if_pos k1]
      refine found_z h (P := fun (r s : Ak × Nat) => Oz n A o.k r.1 r.2 s.1 s.2) o.nm (fun e => h.same _ _) (fun f => ?_)
      rw [← h.fs, ← h.room]
      by_cases c1 : A.room - (usedA A.fs : Nat) < (o.lb.length : Int)
      · rw [if_pos c1, if_pos c1]; exact h.same _ _
      · rw [if_neg c1, if_neg c1]
        have e2 : stepAE B = 0 := if_neg h.nb
        by_cases hf : A.fuse = 1
        · obtain ⟨g1, g2, g3⟩ := gone_z h hf
          exact .inr ⟨g1, if_pos hf, e2, g2, fun h9 => absurd k1 h9, fun _ => rfl⟩
        · exact .inl ⟨step_z h hn hf _, by show stepAE A = stepAE B; rw [e2]; exact if_neg hf⟩
    · have hk := k1
      by_cases k2 : o.k = 2
      · simp only [if_neg k0, if_neg k1, if_pos k2]
        refine found_z h (P := fun (r s : Ak × Nat) => Oz n A o.k r.1 r.2 s.1 s.2) o.nm (fun e => h.same _ _) (fun f => ?_)
        rw [← h.fs]; exact to_z h hn _ hk
      · by_cases k3 : o.k = 3
        · simp only [if_neg k0, if_neg k1, if_neg k2, if_pos k3]
          unfold renameA
          rw [bar_z h]
          by_cases c1 : barA A [o.nm, o.to] ≠ 0
          · rw [if_pos c1, if_pos c1]; exact h.same _ _
          · rw [if_neg c1, if_neg c1]
            refine found_z h (P := fun (r s : Ak × Nat) => Oz n A o.k r.1 r.2 s.1 s.2) o.nm (fun e => h.same _ _) (fun f => ?_)
            rw [← h.fs]; exact to_z h hn _ hk
        · by_cases k4 : o.k = 4
          · simp only [if_neg k0, if_neg k1, if_neg k2, if_neg k3, if_pos k4]
            refine found_z h (P := fun (r s : Ak × Nat) => Oz n A o.k r.1 r.2 s.1 s.2) o.nm (fun e => h.same _ _) (fun f => ?_)
            rw [← h.fs]; exact to_z h hn _ hk
          · by_cases k5 : o.k = 5
            · simp only [if_neg k0, if_neg k1, if_neg k2, if_neg k3, if_neg k4, if_pos k5]
              refine found_z h (P := fun (r s : Ak × Nat) => Oz n A o.k r.1 r.2 s.1 s.2) o.nm (fun e => h.same _ _) (fun f => ?_)
              by_cases c1 : o.n < 0 ∨ (f.l.length : Int) < o.n
              · rw [if_pos c1, if_pos c1]; exact h.same _ _
              · rw [if_neg c1, if_neg c1, ← h.fs]; exact to_z h hn _ hk
            · by_cases k6 : o.k = 6
              · simp only [if_neg k0, if_neg k1, if_neg k2, if_neg k3, if_neg k4, if_neg k5, if_pos k6]
                refine found_z h (P := fun (r s : Ak × List Nat × Nat) => Oz n A o.k r.1 r.2.2 s.1 s.2.2) o.nm (fun e => h.same _ _) (fun f => ?_)
                by_cases c1 : o.n < 0 ∨ o.m < 0 ∨ (f.l.length : Int) < o.n ∨ (f.l.length : Int) - o.n < o.m
                · rw [if_pos c1, if_pos c1]; exact h.same _ _
                · rw [if_neg c1, if_neg c1]; exact .inl ⟨⟨h.a, h.b, h.z, h.fs, h.room, h.st, h.s0, h.sum, h.f1⟩, rfl⟩
              · have k7 : o.k = 7 := by omega
                simp only [if_neg k0, if_neg k1, if_neg k2, if_neg k3, if_neg k4, if_neg k5, if_neg k6, if_pos k7]
                exact .inl ⟨h, found_z h (P := fun (r s : Nat × Nat) => r.2 = s.2) o.nm (fun e => rfl) (fun f => rfl)⟩
theorem bar_d (h : A.off = true) (Ls : List (List UInt8)) : barA A Ls = 3 := if_pos h
theorem found_d {R : Type} (h : A.off = true) (nm : List UInt8) (bad : Nat → R) (X : Fa → R) : foundA A nm bad X = bad 3 := by
  unfold foundA
  have h1 : findA A nm = 3 := by unfold findA; rw [bar_d h, if_pos (by decide)]
  rw [h1, bar_d h]
  cases getA A.fs nm with
  | none => rfl
  | some f => exact if_pos (by decide)
theorem do_d (h : A.off = true) (o : Oa) (h0 : 0 ≤ o.k) (h7 : o.k ≤ 7) : (doA A o).1 = A ∧ (doA A o).2.2.2 = 3 := by
  unfold doA
  by_cases k0 : o.k = 0
  · simp only [if_pos k0]; unfold createA; rw [bar_d h, if_pos (by decide)]; exact ⟨rfl, rfl⟩
  · by_cases k1 : o.k = 1
    · simp only [if_neg k0, if_pos k1]; unfold appendA; rw [found_d h]; exact ⟨rfl, rfl⟩
    · by_cases k2 : o.k = 2
      · simp only [if_neg k0, if_neg k1, if_pos k2]; unfold syncA; rw [found_d h]; exact ⟨rfl, rfl⟩
      · by_cases k3 : o.k = 3
        · simp only [if_neg k0, if_neg k1, if_neg k2, if_pos k3]; unfold renameA; rw [bar_d h, if_pos (by decide)]; exact ⟨rfl, rfl⟩
        · by_cases k4 : o.k = 4
          · simp only [if_neg k0, if_neg k1, if_neg k2, if_neg k3, if_pos k4]; unfold removeA; rw [found_d h]; exact ⟨rfl, rfl⟩
          · by_cases k5 : o.k = 5
            · simp only [if_neg k0, if_neg k1, if_neg k2, if_neg k3, if_neg k4, if_pos k5]; unfold cutA; rw [found_d h]; exact ⟨rfl, rfl⟩
            · by_cases k6 : o.k = 6
              · simp only [if_neg k0, if_neg k1, if_neg k2, if_neg k3, if_neg k4, if_neg k5, if_pos k6]; unfold readA; rw [found_d h]; exact ⟨rfl, rfl⟩
              · have k7 : o.k = 7 := by omega
                simp only [if_neg k0, if_neg k1, if_neg k2, if_neg k3, if_neg k4, if_neg k5, if_neg k6, if_pos k7]
                unfold sizeA; rw [found_d h]; exact ⟨trivial, rfl⟩
end
theorem op_k {w : World} {k : Nat} {o : Oa} (h : OpAt w k o) : w.cell? ⟨k, 0, none⟩ = some (.int .i64 o.k) := cell_of_row _ _ 0 _ _ _ h
end Go.Proofs.Ytlnhhgmdajbepaa
namespace Go.Proofs.Ytlnhhgmdajbepaa
open Go.ChangeShapes Go.WideShapes Go.ChangeAt Go.RowKit Go.Deep
set_option linter.unusedVariables false
def feL (p : Fe × Value) : List Value := [.string (bs p.1.name), p.2, .int .i64 p.1.s]
theorem feL_len (p : Fe × Value) : (feL p).length = 3 := rfl
def FeRaw (w : World) (p : Fe × Value) : Prop := (∃ a2 c2, p.2 = .slice a2 p.1.l.length c2 ∧ Bytes w a2 p.1.l ∧ p.1.l.length ≤ c2 ∧ (a2 = none → c2 = 0)) ∧ inI p.1.s
section
variable {H : Type} {enc : TypeId × Value → H} {w : World} {base : Nat} {spare : Nat → Bool} {held : Bool}
/-- what the datum of a file tells of its sizes -/
def FeD (f : Fe) (d : DataW H) : Prop := ∃ (Yb X2 : DataW H), d = .agg [.lit (.string f.name), Yb, X2] ∧ (f.l = [] ∨ ∃ e s : List (DataW H), Yb = .slice e s ∧ f.l.length ≤ e.length + s.length)
theorem open_fe {fuel : Nat} {c0 c1 c2 : Value} {x : DataW H × List MemPlace} (h : DataW.trod enc Try.prog w base (fun _ => true) held fuel 49 [c0, c1, c2] = some x) :
    ∃ p : Fe × Value, [c0, c1, c2] = feL p ∧ FeRaw w p ∧ FeD p.1 x.1 := by
  obtain ⟨xs, n, _, hxy, _, hlen, hf⟩ := DataW.trod_struct Try.underlying49 h
  match xs, hlen with
  | [y0, y1, y2], _ =>
    have k0 : Try.prog.cellsOf 9 = 1 := by kernel_rfl
    have k1 : Try.prog.cellsOf 31 = 1 := by kernel_rfl
    have k2 : Try.prog.cellsOf 3 = 1 := by kernel_rfl
    have g0 : DataW.trod enc Try.prog w base (fun _ => true) held n 9 [c0] = some y0 := by have := hf 0 _ rfl; simpa [k0] using this
    have g1 : DataW.trod enc Try.prog w base (fun _ => true) held n 31 [c1] = some y1 := by have := hf 1 _ rfl; simpa [k0, k1] using this
    have g2 : DataW.trod enc Try.prog w base (fun _ => true) held n 3 [c2] = some y2 := by have := hf 2 _ rfl; simpa [k0, k1, k2] using this
    obtain ⟨s0, e0, rfl, _⟩ := DataW.trod_string Try.underlying9 g0
    obtain ⟨t2, e2, rfl, w2⟩ := DataW.trod_int Try.underlying3 g2
    simp only [List.cons.injEq, and_true] at e0 e2
    subst e0 e2
    obtain ⟨P, C, lb, rfl, hb, hbc, hbn, hbd⟩ : ∃ (P : Option Addr) (C : Nat) (lb : List Nat), c1 = .slice P lb.length C ∧ Bytes w P lb ∧ lb.length ≤ C ∧ (P = none → C = 0) ∧ (lb = [] ∨ ∃ e s : List (DataW H), y1.1 = .slice e s ∧ lb.length ≤ e.length + s.length) := by
      rcases open_ints Try.underlying31 Try.underlying5 (by kernel_rfl) g1 with ⟨hcs, rfl⟩ | ⟨a, len, cap, zs, hcs, _, hl, hm, hz, rfl, hcell, hwz⟩
      · simp only [List.cons.injEq, and_true] at hcs
        subst hcs
        exact ⟨none, 0, [], rfl, Bytes.none _ _, Nat.le_refl _, fun _ => rfl, .inl rfl⟩
      · simp only [List.cons.injEq, and_true] at hcs
        subst hcs
        have hz2 : zs.length = cap := by simpa using hz
        obtain ⟨ll, e1, e2, e3⟩ := row_nats .u8 256 (by decide) wf_u8 w a zs len (by omega) hcell hwz
        subst e1
        refine ⟨some a, cap, ll, rfl, ⟨e2, e3⟩, hl, (fun h => by cases h), .inr ⟨_, _, rfl, ?_⟩⟩
        simp only [lits, List.length_map, List.length_take, List.length_drop]
        omega
    have b1 : bs s0.data.toList = s0 := by simp
    refine ⟨(⟨s0.data.toList, lb, t2⟩, .slice P lb.length C), by unfold feL; simp only [b1], ⟨⟨P, C, rfl, hb, hbc, hbn⟩, wf_i64 _ w2⟩, ⟨y1.1, _, by rw [hxy]; rfl, hbd⟩⟩
theorem open_files {fuel : Nat} {cs : List Value} {x : DataW H × List MemPlace} (h : DataW.trod enc Try.prog w base (fun _ => true) held fuel 26 cs = some x) :
    (cs = [.slice none 0 0] ∧ x = (.nil, [])) ∨
    ∃ (a : Addr) (len cap : Nat) (L : List (Fe × Value)) (D : Nat → DataW H), cs = [.slice (some a) len cap] ∧ len ≤ cap ∧ cap ≤ maxLen ∧ L.length = len ∧ (L = [] ∨ ∃ b off, a = ⟨b, off, none⟩ ∧ b < w.heap.size ∧ ∀ k o, L[k]? = some o → w.rangeAt b (off + k * 3) (feL o)) ∧ (∀ o ∈ L, FeRaw w o) ∧
      x.1 = .slice ((List.range len).map D) ((List.range (cap - len)).map fun j => D (len + j)) ∧ ∀ i o, L[i]? = some o → FeD o.1 (D i) := by
  rcases open_slice Try.underlying26 h with h0 | ⟨a, len, cap, m, n, D, Pl, rfl, hb, hl, hm, hmm, rfl, hx⟩
  · exact Or.inl h0
  right
  have hmc : m = cap := by simpa using hmm
  subst hmc
  have ce : Try.prog.cellsOf 49 = 3 := by kernel_rfl
  have each : ∀ i, i < m → ∃ o : Fe × Value, (∀ j v, (feL o)[j]? = some v → w.cell? (a.add (i * 3 + j)) = some v) ∧ FeRaw w o ∧ FeD o.1 (D i) := by
    intro i hi
    obtain ⟨cs', h1, h2⟩ := hx i hi
    rw [ce] at h1
    obtain ⟨_, hlen, hcell⟩ := World.cells?_some h1
    match cs', hlen with
    | [v0, v1, v2], _ =>
      obtain ⟨o, hcs, hraw, hd⟩ := open_fe h2
      refine ⟨o, fun j v hj => ?_, hraw, hd⟩
      have hj3 : j < 3 := by have := (List.getElem?_eq_some_iff.1 hj).1; rw [feL_len] at this; exact this
      have hc := hcell j hj3
      rw [add_add] at hc
      rw [hc, ← hj, ← hcs]
  haveI : Inhabited (Fe × Value) := ⟨(⟨[], [], 0⟩, .slice none 0 0)⟩
  obtain ⟨q, hq⟩ := choose_lt each
  have hL : ∀ i o, ((List.range len).map q)[i]? = some o → i < len ∧ o = q i := by
    intro i p hp
    have hi : i < len := by
      by_cases hh : i < len
      · exact hh
      · rw [List.getElem?_eq_none (by simp; omega)] at hp; cases hp
    refine ⟨hi, ?_⟩
    rw [List.getElem?_map, List.getElem?_range hi] at hp
    exact (Option.some.inj hp).symm
  refine ⟨a, len, m, (List.range len).map q, D, rfl, hl, hm, by simp, ?_, ?_, rfl, ?_⟩
  · by_cases h0 : len = 0
    · left; subst h0; rfl
    · right
      obtain ⟨b, off, spot⟩ := a
      have hc0 := (hq 0 (by omega)).1 0 _ rfl
      have hspot : spot = none := by simpa [Addr.add] using World.cell?_spot hc0
      subst hspot
      refine ⟨b, off, rfl, World.block_lt_of_cell? _ _ hc0, fun k o ho j v hj => ?_⟩
      obtain ⟨hk, rfl⟩ := hL k o ho
      have h1 := (hq k (by omega)).1 j v hj
      have hadd : ∀ z, (⟨b, off, none⟩ : Addr).add z = ⟨b, off + z, none⟩ := fun z => by simp [Addr.add]
      rw [hadd] at h1
      rw [Nat.add_assoc]
      exact h1
  · intro o ho
    obtain ⟨i, hi, rfl⟩ := List.mem_map.1 ho
    exact (hq i (by have := List.mem_range.1 hi; omega)).2.1
  · intro i o ho
    obtain ⟨hi, rfl⟩ := hL i o ho
    exact (hq i (by omega)).2.2
theorem sized_files {ts : List TypeId} {ds : List (DataW H)} (h : (DataW.weightsEach Try.prog ts ds).all (· ≤ reachBytes) = true) {j len cap : Nat} {L : List (Fe × Value)} {D : Nat → DataW H} (ht : ts[j]? = some 26)
    (hd : ds[j]? = some (.slice ((List.range len).map D) ((List.range (cap - len)).map fun j => D (len + j)))) (hl : len ≤ cap) (hLl : L.length = len)
    (hD : ∀ i o, L[i]? = some o → FeD o.1 (D i)) : cap * 48 ≤ 140737488351232 ∧ ∀ o ∈ L, o.1.name.length ≤ 281474976710656 ∧ o.1.l.length ≤ 140737488351232 := by
  constructor
  · have := sized_slice h ht hd Try.underlying26
    rw [show Try.prog.bytesOf 49 = 48 from by kernel_rfl] at this
    simp only [List.length_map, List.length_range, reachBytes] at this
    have hc : len + (cap - len) = cap := by omega
    rw [hc] at this
    exact this
  · intro o ho
    obtain ⟨i, hi⟩ := List.getElem?_of_mem ho
    have hil : i < len := by
      by_cases hh : i < L.length
      · omega
      · rw [List.getElem?_eq_none (by omega)] at hi; cases hi
    obtain ⟨Yb, X2, h1, h2⟩ := hD i o hi
    have hm : D i ∈ (List.range len).map D := List.mem_map.2 ⟨i, List.mem_range.2 hil, rfl⟩
    have lift : ∀ n, n ∈ (D i).weights Try.prog 49 → n ≤ 140737488351232 := by
      intro n hn
      have := List.all_eq_true.1 h _ (DataW.weights_mem_each ht hd _ (by
        simp only [DataW.weights, Try.underlying26, List.mem_cons, List.mem_append]
        exact .inr (.inl (weights_all_memO hm _ hn))))
      exact of_decide_eq_true this
    rw [h1] at lift
    simp only [DataW.weights, Try.underlying49, DataW.weightsEach, List.mem_append, List.mem_cons, List.map_cons, List.map_nil] at lift
    have n1 := lift o.1.name.length (by simp)
    have n3 : o.1.l.length ≤ 140737488351232 := by
      rcases h2 with h2 | ⟨e, s, rfl, h4⟩
      · rw [h2]; simp
      · have := lift ((e.length + s.length) * Try.prog.bytesOf 5) (by simp [DataW.weights, Try.underlying31])
        rw [show Try.prog.bytesOf 5 = 1 from by kernel_rfl] at this
        omega
    exact ⟨by omega, n3⟩
end
/-- files that came in: with what their bytes may hold -/
structure FilesAt (w : World) (a : Option Addr) (Y : List (Fe × Value)) : Prop where
  fe : FeA w a Y
  byt : ∀ p ∈ Y, ∃ a2 c2, p.2 = .slice a2 p.1.l.length c2 ∧ Bytes w a2 p.1.l ∧ p.1.l.length ≤ c2 ∧ (a2 = none → c2 = 0)
theorem files_mk {w : World} {a : Option Addr} {Y : List (Fe × Value)} (h1 : Y = [] ∨ ∃ b off, a = some ⟨b, off, none⟩ ∧ b < w.heap.size ∧ ∀ k o, Y[k]? = some o → w.rangeAt b (off + k * 3) (feL o)) (h2 : ∀ o ∈ Y, FeRaw w o) (h3 : ∀ o ∈ Y, o.1.name.length ≤ 281474976710656 ∧ o.1.l.length ≤ 140737488351232) : FilesAt w a Y :=
  ⟨⟨h1, fun p hp => by obtain ⟨⟨a2, c2, e1, e2, _⟩, e3⟩ := h2 p hp; exact ⟨⟨a2, c2, e1, e2⟩, (h3 p hp).1, (h3 p hp).2, e3⟩⟩, fun p hp => (h2 p hp).1⟩
theorem FilesAt.keep {w w' : World} {a : Option Addr} {Y : List (Fe × Value)} (h : FilesAt w a Y) (hb : Below w.heap.size w w') : FilesAt w' a Y :=
  ⟨h.fe.keep hb, fun p hp => by obtain ⟨a2, c2, h1, h2, h3, h4⟩ := h.byt p hp; exact ⟨a2, c2, h1, h2.keep hb, h3, h4⟩⟩
end Go.Proofs.Ytlnhhgmdajbepaa
