/- simfs: Mount. -/
import Derived.Test.YtlnhhgmdajbepaaFmt
namespace Go.Proofs.Ytlnhhgmdajbepaa
open Go.ChangeShapes Go.WideShapes Go.ChangeAt Go.RowKit
set_option linter.unusedVariables false
set_option linter.unusedSimpArgs false
theorem mntA_app : ∀ (X : List Fe) (A B : Ak) (r : List Fe), mntA A X = (0, B) → mntA A (X ++ r) = mntA B r
  | [], A, B, r, h => by
    have : A = B := (Prod.mk.inj h).2
    rw [this]; rfl
  | f :: X, A, B, r, h => by
    unfold mntA at h
    rw [List.cons_append]
    show (if mntE A f ≠ 0 then _ else _) = _
    by_cases he : mntE A f ≠ 0
    · rw [if_pos he] at h
      exact absurd (Prod.mk.inj h).1 he
    · rw [if_neg he] at h ⊢
      exact mntA_app X _ B r h
theorem mnt_ok {A : Ak} (h : AkOk A) {f : Fe} (he : mntE A f = 0) (hl : A.fs.length < 700) : AkOk (A.put (insA ⟨f.name, f.l, f.s.toNat⟩ A.fs)) ∧ 0 ≤ f.s ∧ f.s ≤ f.l.length ∧ (f.l.length : Int) ≤ A.room - (usedA A.fs : Nat) := by
  unfold mntE at he
  split at he
  · cases he
  · rename_i h1
    split at he
    · cases he
    · split at he
      · cases he
      · rename_i h3
        split at he
        · cases he
        · rename_i h4
          have hr : rightS f.name = true := by cases hh : rightS f.name with | true => rfl | false => exact absurd hh h1
          exact ⟨h.ins (f := ⟨f.name, f.l, f.s.toNat⟩) (right_len hr) (by show f.s.toNat ≤ f.l.length; omega) (by show (usedA A.fs : Int) + f.l.length ≤ _; omega) (by have := lenA_ins ⟨f.name, f.l, f.s.toNat⟩ (L := A.fs); omega), by omega, by omega, by omega⟩
/-- what Mount answers -/
def mountA (room : Int) (F : List Fe) : Nat × Ak := if 700 < F.length then (53, (newD room).ab) else mntA (newD room).ab F
/-- files as they are handed in -/
structure FeA (w : World) (a : Option Addr) (Y : List (Fe × Value)) : Prop where
  lie : Y = [] ∨ ∃ b off, a = some ⟨b, off, none⟩ ∧ b < w.heap.size ∧ ∀ k p, Y[k]? = some p → w.rangeAt b (off + k * 3) [.string (bs p.1.name), p.2, .int .i64 p.1.s]
  byt : ∀ p ∈ Y, (∃ a2 c2, p.2 = .slice a2 p.1.l.length c2 ∧ Bytes w a2 p.1.l) ∧ p.1.name.length ≤ 281474976710656 ∧ p.1.l.length ≤ 140737488351232 ∧ inI p.1.s
theorem FeA.keep {w w' : World} {a : Option Addr} {Y : List (Fe × Value)} (h : FeA w a Y) (hb : Below w.heap.size w w') : FeA w' a Y := by
  refine ⟨?_, fun p hp => ?_⟩
  · rcases h.lie with h1 | ⟨b, off, h1, h2, h3⟩
    · exact .inl h1
    · exact .inr ⟨b, off, h1, Nat.lt_of_lt_of_le h2 hb.size, fun k p hp => range_keep (h3 k p hp) h2 hb⟩
  · obtain ⟨⟨a2, c2, h1, h2⟩, h3⟩ := h.byt p hp
    exact ⟨⟨a2, c2, h1, h2.keep hb⟩, h3⟩
set_option maxRecDepth 100000 in
set_option maxHeartbeats 8000000 in
theorem mount_any (w : World) (room : Int) (hr1 : -9223372036854775808 ≤ room) (hr2 : room ≤ 9223372036854775807) (Y : List (Fe × Value)) (a : Option Addr) (n C : Nat) (hn : Y.length = n) (hY : FeA w a Y) (hnl : (n : Int) ≤ 140737488351232) :
    Calls Try.prog 22 #[.int .i64 room, .slice a n C] w fun r w' => ∃ P, r = .returned (.tuple #[P, .int .i64 ((mountA room (Y.map Prod.fst)).1 : Nat)]) ∧ Below w.heap.size w w' ∧ (((mountA room (Y.map Prod.fst)).1 ≠ 0 ∧ P = .pointer none) ∨ ((mountA room (Y.map Prod.fst)).1 = 0 ∧ ∃ q b, P = .pointer (some ⟨q, 0, none⟩) ∧ DA w' w.heap.size q b (mountA room (Y.map Prod.fst)).2 ∧ AkOk (mountA room (Y.map Prod.fst)).2)) := by
  have HN : Hid (Y.length = n) := hn
  have HY : Hid (FeA w a Y) := hY
  have hn0 : (0 : Int) ≤ (n : Int) := by omega
  by_cases hbig : 700 < n
  · have e0 : mountA room (Y.map Prod.fst) = (53, (newD room).ab) := if_pos (by rw [List.length_map, hn]; exact hbig)
    have hbI : (700 : Int) < (n : Int) := by omega
    rw [e0]
    clear e0 hbig hn hY
    go_enter Try.func22, Try.ntmps22
    go_wp2
    go_ret2
    exact ⟨_, rfl, Below.refl _ _, .inl ⟨by simp, rfl⟩⟩
  · have e0 : mountA room (Y.map Prod.fst) = mntA (newD room).ab (Y.map Prod.fst) := if_neg (by rw [List.length_map, hn]; exact hbig)
    rw [e0]
    have hbI : ¬ (700 : Int) < (n : Int) := by omega
    have HB7 : Hid (n ≤ 700) := by show _ ≤ _; omega
    have HRI : Hid (inI room) := ⟨hr1, hr2⟩
    have HRM : Hid (roomI room - ((0 : Nat) : Int) = roomI room) := by show _ = _; omega
    obtain ⟨Z, hZ⟩ : ∃ Z, roomI room = Z := ⟨_, rfl⟩
    have HZ : Hid (roomI room = Z ∧ 0 ≤ Z ∧ Z ≤ 67108864) := ⟨hZ, by rw [← hZ]; exact room_ok room⟩
    clear e0 hbig hn hY hZ
    go_enter Try.func22, Try.ntmps22
    go_wp2_with (first
      | (go_at_call 14; refine (fsnew_any room w HRI.out.1 HRI.out.2).mono ?_; rintro _ x1 ⟨q, b, rfl, hd1, hb1⟩; have c10 := hd1.cells.1; rw [show (newD room).room = Z from HZ.out.1] at c10; have HD1 : Hid (DA x1 w.heap.size q b (newD room).ab ∧ Below w.heap.size w x1) := ⟨⟨_, hd1, rfl⟩, hb1⟩; clear hd1 hb1)
      | go_in)
    go_loopw [7, 22] (fun v7 v22 wr => ∃ (k : Nat) (A : Ak) (free : Int), v22 = .int .i64 (k : Int) ∧ v7 = .int .i64 free ∧ k ≤ n ∧ Hid (DA wr w.heap.size q b A ∧ AkOk A ∧ A.fs.length ≤ k ∧ A.room = Z ∧ free = A.room - (usedA A.fs : Nat) ∧ Below w.heap.size w wr ∧ mntA (newD room).ab ((Y.map Prod.fst).take k) = (0, A))) (fun _ v22 _ => n - (intOf v22).toNat)
    case atStart =>
      refine ⟨0, (newD room).ab, Z, rfl, rfl, Nat.zero_le _, HD1.out.1, newA_ok room, Nat.le_refl _, HZ.out.1, ?_, HD1.out.2, rfl⟩
      show Z = roomI room - ((0 : Nat) : Int)
      rw [HZ.out.1]; omega
    case round =>
      obtain ⟨k, A, free, rfl, rfl, hk, HRR⟩ := hrel
      have hfr0 : 0 ≤ free ∧ free ≤ 67108864 := by
        have h1 := HRR.out.2.1.used
        have h2 := HRR.out.2.1.room
        have h3 := HRR.out.2.2.2.2.1
        omega
      obtain ⟨hfr1, hfr2⟩ := hfr0
      by_cases hkn : k < n
      · obtain ⟨⟨⟨nm, l, s⟩, v⟩, hp⟩ : ∃ p, Y[k]? = some p := ⟨_, List.getElem?_eq_getElem (by rw [HN.out]; exact hkn)⟩
        have hYr := HY.out.keep HRR.out.2.2.2.2.2.1
        obtain ⟨⟨a2, c2, hv, hby⟩, hnl2, hll, hsi⟩ := hYr.byt _ (List.mem_of_getElem? hp)
        simp only at hv hby hnl2 hll hsi
        obtain ⟨b0, off, rfl, hb0, hrg⟩ : ∃ b0 off, a = some ⟨b0, off, none⟩ ∧ b0 < wr.heap.size ∧ wr.rangeAt b0 (off + k * 3) [.string (bs nm), v, .int .i64 s] := by
          rcases hYr.lie with h1 | ⟨b0, off, h1, h2, h3⟩
          · rw [h1] at hp; simp at hp
          · exact ⟨b0, off, h1, h2, h3 k _ hp⟩
        subst hv
        have hFk : (Y.map Prod.fst)[k]? = some ⟨nm, l, s⟩ := by rw [List.getElem?_map, hp]; rfl
        obtain ⟨hFl, hFe⟩ := List.getElem?_eq_some_iff.1 hFk
        have hsplit : Y.map Prod.fst = (Y.map Prod.fst).take k ++ ⟨nm, l, s⟩ :: (Y.map Prod.fst).drop (k + 1) := by
          rw [← hFe, ← List.drop_eq_getElem_cons hFl, List.take_append_drop]
        have HF : Hid (mntA (newD room).ab (Y.map Prod.fst) = mntA A (⟨nm, l, s⟩ :: (Y.map Prod.fst).drop (k + 1)) ∧ (mntE A ⟨nm, l, s⟩ = 0 → mntA (newD room).ab ((Y.map Prod.fst).take (k + 1)) = (0, A.put (insA ⟨nm, l, s.toNat⟩ A.fs)))) := by
          refine ⟨?_, fun he => ?_⟩
          · conv => lhs; rw [hsplit]
            exact mntA_app _ _ _ _ HRR.out.2.2.2.2.2.2
          · rw [List.take_succ_eq_append_getElem hFl, hFe, mntA_app _ _ _ _ HRR.out.2.2.2.2.2.2]
            show (if mntE A ⟨nm, l, s⟩ ≠ 0 then _ else mntA _ []) = _
            rw [if_neg (by rw [he]; simp)]
            rfl
        obtain ⟨m, hlm⟩ : ∃ m, l.length = m := ⟨_, rfl⟩
        obtain ⟨D, hd, hab⟩ := HRR.out.1
        have HD : Hid (DkAt wr w.heap.size q b D ∧ D.ab = A) := ⟨hd, hab⟩
        have HLM : Hid (l.length = m) := hlm
        have hone : (Value.slice a2 m c2).oneCell' = true := slice_one _ _ _
        rw [hlm] at hrg hll
        have HRNG : Hid (wr.rangeAt b0 (off + k * 3) [.string (bs nm), .slice a2 m c2, .int .i64 s]) := hrg
        have HBYS : Hid (Bytes wr a2 l) := hby
        have HSI : Hid (inI s ∧ nm.length ≤ 281474976710656 ∧ m ≤ 140737488351232) := ⟨hsi, hnl2, hll⟩
        have HZF : Hid (FlAt (wr.alloc (.cells #[.string ⟨#[]⟩, .slice none 0 0, .int .i64 0] 49)) wr.heap.size [] (.slice none 0 0) 0) := FlAt.new wr _ _ _
        have HONE : Hid ((Value.slice a2 m c2).oneCell' = true) := hone
        obtain ⟨E, hE⟩ : ∃ E, mntE A ⟨nm, l, s⟩ = E := ⟨_, rfl⟩
        have HE : Hid (mntE A ⟨nm, l, s⟩ = E) := hE
        have HMB : Hid (∀ x4, Below wr.heap.size wr x4 → Calls Try.prog 50 #[.pointer (some ⟨q, 0, none⟩), flV nm (.slice a2 m c2) s, .int .i64 free] x4 fun r x' => r = .returned (.int .i64 (E : Nat)) ∧ Below x4.heap.size x4 x') := fun x4 hb4 => by
          have h1 := mountable_any x4 w.heap.size q b D (hd.keep hb4) ⟨nm, l, s⟩ a2 c2 free hnl2 (by rw [hlm]; exact hll) (by omega) (by omega) (by rw [hab]; exact HRR.out.2.2.2.2.1) hsi
          rw [hab, hE] at h1
          simp only [hlm] at h1
          exact h1
        have hkI : (k : Int) < (n : Int) := by omega
        have hk0 : (0 : Int) ≤ (k : Int) := by omega
        have hm0 : (0 : Int) ≤ (m : Int) := by omega
        clear hp hYr hby hnl2 hll hsi hb0 hrg hFk hFl hFe hsplit hlm hd hab hone hE
        by_cases hE0 : E = 0
        · subst hE0
          obtain ⟨hok2, hs0, hsl, hfit⟩ := mnt_ok HRR.out.2.1 HE.out (by have := HRR.out.2.2.1; have := HB7.out; omega)
          simp only at hok2 hs0 hsl hfit
          obtain ⟨S, rfl⟩ : ∃ S : Nat, s = (S : Int) := ⟨s.toNat, by omega⟩
          rw [HLM.out, ← HRR.out.2.2.2.2.1] at hfit
          have hmI : (m : Int) ≤ 67108864 := by omega
          have HOK2 : Hid (AkOk (A.put (insA ⟨nm, l, (S : Int).toNat⟩ A.fs)) ∧ (m : Int) ≤ free) := ⟨hok2, hfit⟩
          have HNX : Hid (∀ y, DA y w.heap.size q b (A.put (insA ⟨nm, l, (S : Int).toNat⟩ A.fs)) → Below w.heap.size w y → (DA y w.heap.size q b (A.put (insA ⟨nm, l, (S : Int).toNat⟩ A.fs)) ∧ AkOk (A.put (insA ⟨nm, l, (S : Int).toNat⟩ A.fs)) ∧ (A.put (insA ⟨nm, l, (S : Int).toNat⟩ A.fs)).fs.length ≤ k + 1 ∧ (A.put (insA ⟨nm, l, (S : Int).toNat⟩ A.fs)).room = Z ∧ free - (m : Int) = (A.put (insA ⟨nm, l, (S : Int).toNat⟩ A.fs)).room - (usedA (A.put (insA ⟨nm, l, (S : Int).toNat⟩ A.fs)).fs : Nat) ∧ Below w.heap.size w y ∧ mntA (newD room).ab ((Y.map Prod.fst).take (k + 1)) = (0, A.put (insA ⟨nm, l, (S : Int).toNat⟩ A.fs)))) := by
            intro y h1 h2
            refine ⟨h1, hok2, ?_, HRR.out.2.2.2.1, ?_, h2, HF.out.2 HE.out⟩
            · have := lenA_ins ⟨nm, l, (S : Int).toNat⟩ (L := A.fs)
              have := HRR.out.2.2.1
              show (insA _ A.fs).length ≤ k + 1
              omega
            · have hnone : getA A.fs nm = none := by
                have h9 := HE.out
                unfold mntE at h9
                split at h9
                · cases h9
                · split at h9
                  · cases h9
                  · rename_i h8
                    cases hg : getA A.fs nm with
                    | none => rfl
                    | some f => simp only [hg, Option.isSome_some, not_true] at h8
              have hu := usedA_ins ⟨nm, l, (S : Int).toNat⟩ HRR.out.2.1.sort
              rw [oldA_none hnone] at hu
              simp only [HLM.out] at hu
              show free - (m : Int) = A.room - (usedA (insA _ A.fs) : Nat)
              have := HRR.out.2.2.2.2.1
              omega
          have HPUT : Hid (∀ (x5 : World) (v5 : Value) (g0 : Nat), Below wr.heap.size wr x5 → Own x5 g0 v5 l → wr.heap.size ≤ g0 → Calls Try.prog 51 #[.pointer (some ⟨q, 0, none⟩), .string (bs nm), fiV v5 (S : Int)] x5 fun r x' => r = .returned (.tuple #[]) ∧ DA x' w.heap.size q b (A.put (insA ⟨nm, l, (S : Int).toNat⟩ A.fs)) ∧ Below w.heap.size w x' ∧ (FlAt x5 wr.heap.size nm (.slice a2 m c2) (S : Int) → FlAt x' wr.heap.size nm (.slice a2 m c2) (S : Int))) := fun x5 v5 g0 hb5 ho5 hg0 => by
            have hdx := HD.out.1.keep hb5
            refine (put_any x5 w.heap.size q b D hdx ?_ nm v5 l S HSI.out.2.1 ?_ ?_).mono (fun r x' hr => ⟨hr.1, ⟨_, hr.2.1, ?_⟩, ?_, fun hf => ?_⟩)
            · have h1 := HRR.out.2.2.1
              rw [← HD.out.2] at h1
              have h2 : D.ab.fs.length = D.fs.length := List.length_map _
              have := HB7.out
              unfold maxLen
              omega
            · exact (DatAt.of_own ho5).mono (Nat.le_trans HRR.out.2.2.2.2.2.1.size hg0)
            · intro g hg _ j hj hgj
              have h1 := (ho5.2.lt j hj).1
              have h2 := ((HD.out.1.dat g hg).lt hgj).2
              omega
            · rw [Int.toNat_natCast, ← HD.out.2]
              show Ak.mk _ _ _ _ _ ((insN _ D.fs).map Fi.ab) = _
              rw [ins_ab]
              rfl
            · have hbl := HD.out.1.lo.2
              exact hr.2.2.below (HRR.out.2.2.2.2.2.1.trans (hb5.mono HRR.out.2.2.2.2.2.1.size)) hbl hbl
            · have hlt := lt_of_heap hf
              have hbl := HD.out.1.lt.2
              exact (hr.2.2.block _ hlt (by omega) (by omega)).trans hf
          clear hok2 hs0 hsl hfit
          go_wp2_with (first
            | ((with_reducible refine guard_load 49 ?_); refine wpList_load_flr rfl _ rfl HRNG.out rfl ?_)
            | ((with_reducible refine guard_store 49 ?_); refine wpList_store_fl rfl _ _ rfl rfl HZF.out HONE.out rfl rfl (nm2 := nm) (v2 := .slice a2 m c2) (s2 := (S : Int)) ?_; intro x3 hf3 hb3; have HB3 : Hid (Below wr.heap.size wr x3) := hb3 _ _ ((Below.refl _ _).alloc (Nat.le_refl _) _) (Nat.le_refl _); have HF3 : Hid (FlAt x3 wr.heap.size nm (.slice a2 m c2) (S : Int)) := hf3; clear hf3 hb3)
            | ((with_reducible refine guard_load 49 ?_); refine wpList_load_flb rfl _ rfl HF3.out rfl ?_)
            | (go_at_call 50; refine (HMB.out x3 HB3.out).mono ?_; rintro _ x4 ⟨rfl, hb4⟩; have HB4 : Hid (Below wr.heap.size wr x4) := HB3.out.trans (hb4.mono HB3.out.size); have HF4 : Hid (FlAt x4 wr.heap.size nm (.slice a2 m c2) (S : Int)) := HF3.out.keep hb4; have cf4 := HF4.out.cells.2.1; clear hb4)
            | go_in)
          refine wp_region_held (S := (fun y => FlAt y wr.heap.size nm (.slice a2 m c2) (S : Int))) (by kernel_rfl) ?_
          change wpAnyH _ _ _ _ _ _ _ _ (World.drew _)
          obtain ⟨xe, hxe⟩ : ∃ xe, x4.drew = xe := ⟨_, rfl⟩
          have HBE : Hid (Below wr.heap.size wr xe) := by rw [← hxe]; exact HB4.out.trans ((Below.refl _ _).drew)
          have HPE : Hid (FlAt xe wr.heap.size nm (.slice a2 m c2) (S : Int)) := by rw [← hxe]; exact HF4.out
          rw [hxe]
          clear hxe
          refine wpAnyH_take (i := 0) (oi := { dst := some 38, op := Op.move (Operand.tmp 6), type := 24, pos := "simfs.go:60", after := #[], guard := none }) (v := ?_) rfl (by kernel_rfl) (by kernel_rfl) (by kernel_rfl) (fun _ _ _ h => h) (Or.inl ⟨by rfl, ?_⟩) HPE.out ?_
          rotate_left
          · (intro y hy; go_simp; try (with_reducible rfl))
          simp only [Act.put, List.setIfInBounds_toArray, List.set_cons_zero, List.set_cons_succ]
          refine wpAnyH_take (i := 1) (oi := { dst := some 39, op := Op.fieldAddr 49 (Operand.tmp 9) 0, type := 0, pos := "simfs.go:60", after := #[], guard := none }) (v := ?_) rfl (by kernel_rfl) (by kernel_rfl) (by kernel_rfl) (fun _ _ _ h => h) (Or.inl ⟨by rfl, ?_⟩) HPE.out ?_
          rotate_left
          · (intro y hy; go_simp; try (with_reducible rfl))
          simp only [Act.put, List.setIfInBounds_toArray, List.set_cons_zero, List.set_cons_succ]
          refine wpAnyH_take (i := 2) (oi := { dst := some 40, op := Op.load 9 (Operand.tmp 39), type := 9, pos := "simfs.go:60", after := #[{ on := 1, ground := Ground.data }], guard := none }) (v := .string (bs nm)) rfl (by kernel_rfl) (by kernel_rfl) (by kernel_rfl) (fun _ _ _ h => h) (Or.inl ⟨by rfl, ?_⟩) HPE.out ?_
          · (intro y hy; have h0 := hy.cells.1; go_simp)
          simp only [Act.put, List.setIfInBounds_toArray, List.set_cons_zero, List.set_cons_succ]
          refine wpAnyH_take (i := 3) (oi := { dst := some 41, op := Op.fieldAddr 49 (Operand.tmp 9) 1, type := 0, pos := "simfs.go:60", after := #[], guard := none }) (v := ?_) rfl (by kernel_rfl) (by kernel_rfl) (by kernel_rfl) (fun _ _ _ h => h) (Or.inl ⟨by rfl, ?_⟩) HPE.out ?_
          rotate_left
          · (intro y hy; go_simp; try (with_reducible rfl))
          simp only [Act.put, List.setIfInBounds_toArray, List.set_cons_zero, List.set_cons_succ]
          refine wpAnyH_take (i := 4) (oi := { dst := some 42, op := Op.load 31 (Operand.tmp 41), type := 31, pos := "simfs.go:60", after := #[{ on := 3, ground := Ground.data }], guard := none }) (v := .slice a2 m c2) rfl (by kernel_rfl) (by kernel_rfl) (by kernel_rfl) (fun _ _ _ h => h) (Or.inl ⟨by rfl, ?_⟩) HPE.out ?_
          · (intro y hy; have h0 := hy.cells.2.1; go_simp)
          simp only [Act.put, List.setIfInBounds_toArray, List.set_cons_zero, List.set_cons_succ]
          refine wpAnyH_take (i := 6) (oi := { dst := some 44, op := Op.fieldAddr 49 (Operand.tmp 9) 2, type := 0, pos := "simfs.go:60", after := #[], guard := none }) (v := ?_) rfl (by kernel_rfl) (by kernel_rfl) (by kernel_rfl) (fun _ _ _ h => h) (Or.inl ⟨by rfl, ?_⟩) HPE.out ?_
          rotate_left
          · (intro y hy; go_simp; try (with_reducible rfl))
          simp only [Act.put, List.setIfInBounds_toArray, List.set_cons_zero, List.set_cons_succ]
          refine wpAnyH_take (i := 7) (oi := { dst := some 45, op := Op.load 3 (Operand.tmp 44), type := 3, pos := "simfs.go:60", after := #[{ on := 6, ground := Ground.data }], guard := none }) (v := .int .i64 (S : Int)) rfl (by kernel_rfl) (by kernel_rfl) (by kernel_rfl) (fun _ _ _ h => h) (Or.inl ⟨by rfl, ?_⟩) HPE.out ?_
          · (intro y hy; have h0 := hy.cells.2.2; go_simp)
          simp only [Act.put, List.setIfInBounds_toArray, List.set_cons_zero, List.set_cons_succ]
          refine wpAnyH_ready (rs := [5]) (by kernel_rfl) (by simp) ?_
          refine AllReadyH.cons (o := { dst := some 43, op := Op.call { callee := Callee.value (Operand.func 52), args := #[Operand.tmp 42], argTypes := #[31] }, type := 31, pos := "simfs.go:60", after := #[{ on := 4, ground := Ground.data }], guard := none }) rfl (fun K hK => ?_) AllReadyH.nil
          go_simp
          refine (copied_any l m HLM.out a2 c2 _ (HBYS.out.keep HBE.out) hmI).mono ?_
          rintro _ x5 ⟨v50, rfl, ho5, hb5⟩
          obtain ⟨a5, c5, hv5⟩ : ∃ a5 c5, v50 = .slice a5 m c5 := by obtain ⟨a5, c5, e5⟩ := row_shape ho5.2; exact ⟨a5, c5, by rw [e5, HLM.out]⟩
          subst hv5
          have HO5 : Hid (Own x5 xe.heap.size (.slice a5 m c5) l) := ho5
          have HB5 : Hid (Below wr.heap.size wr x5) := HBE.out.trans (hb5.mono HBE.out.size)
          have HPC : Hid (FlAt x5 wr.heap.size nm (.slice a2 m c2) (S : Int)) := HPE.out.keep hb5
          clear ho5 hb5
          (refine hK _ _ HPC.out ?_; clear hK K; intro _)
          try simp only [Act.put, List.setIfInBounds_toArray, List.set_cons_zero, List.set_cons_succ]
          refine wpAnyH_take (i := 8) (oi := { dst := some 46, op := Op.build 85 #[(0, Operand.tmp 43), (1, Operand.tmp 45)], type := 85, pos := "simfs.go:60", after := #[{ on := 5, ground := Ground.data }, { on := 7, ground := Ground.data }], guard := none }) (v := ?_) rfl (by kernel_rfl) (by kernel_rfl) (by kernel_rfl) (fun _ _ _ h => h) (Or.inl ⟨by rfl, ?_⟩) HPC.out ?_
          rotate_left
          · (intro y hy; go_simp; try (with_reducible rfl))
          simp only [Act.put, List.setIfInBounds_toArray, List.set_cons_zero, List.set_cons_succ]
          refine wpAnyH_ready (rs := [9]) (by kernel_rfl) (by simp) ?_
          refine AllReadyH.cons (o := { dst := some 47, op := Op.call { callee := Callee.value (Operand.func 51), args := #[Operand.tmp 38, Operand.tmp 40, Operand.tmp 46], argTypes := #[24, 9, 85] }, type := 0, pos := "simfs.go:60", after := #[{ on := 0, ground := Ground.data }, { on := 2, ground := Ground.data }, { on := 8, ground := Ground.data }, { on := 5, ground := Ground.chain }], guard := none }) rfl (fun K hK => ?_) AllReadyH.nil
          go_simp
          refine (HPUT.out x5 (.slice a5 m c5) _ HB5.out HO5.out HBE.out.size).mono ?_
          rintro _ x6 ⟨rfl, hd6, hb6, hp6⟩
          have HD6 : Hid (DA x6 w.heap.size q b (A.put (insA ⟨nm, l, (S : Int).toNat⟩ A.fs)) ∧ Below w.heap.size w x6) := ⟨hd6, hb6⟩
          have HPP : Hid (FlAt x6 wr.heap.size nm (.slice a2 m c2) (S : Int)) := hp6 HPC.out
          clear hd6 hb6 hp6
          (refine hK _ _ HPP.out ?_; clear hK K; intro _)
          try simp only [Act.put, List.setIfInBounds_toArray, List.set_cons_zero, List.set_cons_succ]
          refine wpAnyH_done (by kernel_rfl) ?_ _
          go_wp2
          go_roundw
          case rel => exact ⟨k + 1, A.put (insA ⟨nm, l, (S : Int).toNat⟩ A.fs), _, by go_num, rfl, by omega, HNX.out _ HD6.out.1 HD6.out.2⟩
          case measure => simp [intOf]; omega
        · have hq : ((E : Int) != 0) = true := by simp; exact hE0
          have HEARLY : Hid (mntA (newD room).ab (Y.map Prod.fst) = (E, A)) := by
            show _ = _
            rw [HF.out.1]
            show (if mntE A ⟨nm, l, s⟩ ≠ 0 then _ else _) = _
            rw [HE.out, if_pos hE0]
          have HE0 : Hid (E ≠ 0) := hE0
          go_wp2_with (first
            | ((with_reducible refine guard_load 49 ?_); refine wpList_load_flr rfl _ rfl HRNG.out rfl ?_)
            | ((with_reducible refine guard_store 49 ?_); refine wpList_store_fl rfl _ _ rfl rfl HZF.out HONE.out rfl rfl (nm2 := nm) (v2 := .slice a2 m c2) (s2 := s) ?_; intro x3 hf3 hb3; have HB3 : Hid (Below wr.heap.size wr x3) := hb3 _ _ ((Below.refl _ _).alloc (Nat.le_refl _) _) (Nat.le_refl _); have HF3 : Hid (FlAt x3 wr.heap.size nm (.slice a2 m c2) s) := hf3; clear hf3 hb3)
            | ((with_reducible refine guard_load 49 ?_); refine wpList_load_flb rfl _ rfl HF3.out rfl ?_)
            | (go_at_call 50; refine (HMB.out x3 HB3.out).mono ?_; rintro _ x4 ⟨rfl, hb4⟩; have HB4 : Hid (Below wr.heap.size wr x4) := HB3.out.trans (hb4.mono HB3.out.size); clear hb4)
            | go_in)
          go_ret2
          rw [HEARLY.out]
          exact ⟨_, rfl, HRR.out.2.2.2.2.2.1.trans (HB4.out.mono HRR.out.2.2.2.2.2.1.size), .inl ⟨HE0.out, rfl⟩⟩
      · obtain rfl : k = n := by omega
        have HEND : Hid (mntA (newD room).ab (Y.map Prod.fst) = (0, A)) := by
          have h1 := HRR.out.2.2.2.2.2.2
          rw [List.take_of_length_le (by rw [List.length_map, HN.out]; exact Nat.le_refl _)] at h1
          exact h1
        clear hkn hk
        go_wp2
        go_ret2
        rw [HEND.out]
        exact ⟨_, rfl, HRR.out.2.2.2.2.2.1, .inr ⟨rfl, q, b, rfl, HRR.out.1, HRR.out.2.1⟩⟩
end Go.Proofs.Ytlnhhgmdajbepaa
