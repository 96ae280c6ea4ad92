/- Own texts, joined: Tls. -/
import Derived.Test.YtbdgiecnhgiogaaK29
import Derived.Test.YtbdgiecnhgiogaaK14
import Derived.Test.YtbdgiecnhgiogaaK12
namespace Go.Proofs.Ytbdgiecnhgiogaa
open Go.ChangeShapes Go.WideShapes Go.ChangeAt Go.RowKit
set_option linter.unusedVariables false
theorem rnext_any (l : List Nat) (b off n cap : Nat) (last : Int) (w : World) (hn : l.length = n) (hb : Bytes w (some ⟨b, off, none⟩) l) (hcap : n ≤ cap) (hl : n ≤ 1024) :
    Calls Try.prog 33 #[.slice (some ⟨b, off, none⟩) n cap, .int .i64 last] w fun r w' =>
      ((∃ F sz bv, next l last = (F, sz, 0) ∧ r = .returned (.tuple #[FV F.tag F.text F.num bv, .int .i64 (sz : Int), .int .i64 0]) ∧ Own w' w.heap.size bv F.bytes) ∨ (∃ e : Nat, e ≠ 0 ∧ (next l last).2.2 = e ∧ r = .returned (.tuple #[FV 0 false 0 (.slice none 0 0), .int .i64 0, .int .i64 (e : Int)]))) ∧ Below w.heap.size w w' := by
  have hmem : ∀ j, ∀ x ∈ l.drop j, x < 256 := fun j x hx => hb.mem x (List.mem_of_mem_drop hx)
  rcases hd : dec 0 0 l with ⟨k, n1, e1⟩
  by_cases he1 : e1 = 0
  · subst he1
    have d1 := vdec_form l hb.mem (by rw [hd])
    rw [hd] at d1
    simp only [hn] at d1
    obtain ⟨a1, a2, a3, a4, a5⟩ := d1
    rcases hd2 : dec 0 0 (l.drop n1) with ⟨u, m, e2⟩
    have hx := next_two l last k n1 u m e2 hd hd2
    unfold nextR at hx
    by_cases c1 : k < 2 ∨ 63 < k
    · rw [if_pos c1] at hx
      have he : (next l last).2.2 = 20 := by rw [hx]; rfl
      rcases c1 with c1 | c1
      · exact (rnext_tagA l b off n cap k n1 last w hn hb hcap hl hd c1).mono fun _ _ ⟨h1, h2⟩ => ⟨.inr ⟨20, by omega, he, h1⟩, h2⟩
      · exact (rnext_tagB l b off n cap k n1 last w hn hb hcap hl hd c1 a4).mono fun _ _ ⟨h1, h2⟩ => ⟨.inr ⟨20, by omega, he, h1⟩, h2⟩
    rw [if_neg c1] at hx
    obtain ⟨T, hT⟩ : ∃ T, k / 2 = T := ⟨_, rfl⟩
    have hTk : (k : Int) / 2 = (T : Int) := by omega
    rw [hT] at hx
    by_cases c2 : (T : Int) ≤ last
    · rw [if_pos c2] at hx
      have he : (next l last).2.2 = 21 := by rw [hx]; rfl
      exact (rnext_ord l b off n cap k n1 T last w hn hb hcap hl hd (by omega) (by omega) hTk c2).mono fun _ _ ⟨h1, h2⟩ => ⟨.inr ⟨21, by omega, he, h1⟩, h2⟩
    rw [if_neg c2] at hx
    by_cases c3 : e2 = 0
    · subst c3
      rw [if_neg (by simp)] at hx
      have d2 := vdec_form (l.drop n1) (hmem _) (by rw [hd2])
      rw [hd2] at d2
      simp only [List.length_drop, hn] at d2
      obtain ⟨b1, b2, b3, b4, b5⟩ := d2
      by_cases c4 : u = 0
      · subst c4
        rw [if_pos rfl] at hx
        have he : (next l last).2.2 = 22 := by rw [hx]; rfl
        exact (rnext_zero l b off n cap k n1 T m last w hn hb hcap hl hd (by omega) (by omega) hTk c2 (by omega) hd2).mono fun _ _ ⟨h1, h2⟩ => ⟨.inr ⟨22, by omega, he, h1⟩, h2⟩
      rw [if_neg c4] at hx
      by_cases c5 : k % 2 = 0
      · rw [if_pos c5] at hx
        refine (rnext_num l b off n cap k n1 T u m last w hn hb hcap hl hd (by omega) (by omega) hTk c2 (by omega) hd2 c4 b4 (by omega) (by simp; omega)).mono ?_
        rintro r w' ⟨h1, h2⟩
        exact ⟨.inl ⟨_, _, _, hx, h1, own_nil _ _⟩, h2⟩
      rw [if_neg c5] at hx
      have hp : ((k : Int) % 2 == 0) = false := by simp; omega
      by_cases c6 : 200 < u
      · rw [if_pos c6] at hx
        have he : (next l last).2.2 = 23 := by rw [hx]; rfl
        exact (rnext_long l b off n cap k n1 T u m last w hn hb hcap hl hd (by omega) (by omega) hTk c2 (by omega) hd2 c4 b4 (by omega) hp c6).mono fun _ _ ⟨h1, h2⟩ => ⟨.inr ⟨23, by omega, he, h1⟩, h2⟩
      rw [if_neg c6] at hx
      by_cases c7 : l.length < n1 + m + u
      · rw [if_pos c7] at hx
        have he : (next l last).2.2 = 10 := by rw [hx]; rfl
        rw [hn] at c7
        exact (rnext_short l b off n cap k n1 T u m last w hn hb hcap hl hd (by omega) (by omega) hTk c2 (by omega) hd2 c4 b4 (by omega) hp c6 (by omega)).mono fun _ _ ⟨h1, h2⟩ => ⟨.inr ⟨10, by omega, he, h1⟩, h2⟩
      rw [if_neg c7] at hx
      rw [hn] at c7
      refine (rnext_text l b off n cap k n1 T u m last w hn hb hcap hl hd (by omega) (by omega) hTk c2 (by omega) hd2 c4 b4 (by omega) hp c6 (by omega)).mono ?_
      rintro r w' ⟨bv, h1, h2, h3⟩
      exact ⟨.inl ⟨_, _, bv, hx, h1, h2⟩, h3⟩
    · rw [if_pos c3] at hx
      have hz := dec_zero 0 0 (l.drop n1) (by rw [hd2]; exact c3)
      rw [hd2] at hz
      simp only at hz
      obtain ⟨rfl, rfl⟩ := hz
      have he : (next l last).2.2 = e2 := by rw [hx]; rfl
      by_cases hlt : n1 < n
      · exact (rnext_bad2 l b off n cap k n1 T e2 last w hn hb hcap hl hd (by omega) (by omega) hTk c2 hlt c3 hd2).mono fun _ _ ⟨h1, h2⟩ => ⟨.inr ⟨e2, c3, he, h1⟩, h2⟩
      · obtain rfl : n1 = n := by omega
        rw [List.drop_eq_nil_of_le (by omega)] at hd2
        have : e2 = 10 := by have h := congrArg (fun x => x.2.2) hd2; exact h.symm
        subst this
        exact (rnext_bad2e l b off n1 cap k T last w hn hb hcap hl hd (by omega) (by omega) hTk c2).mono fun _ _ ⟨h1, h2⟩ => ⟨.inr ⟨10, c3, he, h1⟩, h2⟩
  · have hz := dec_zero 0 0 l (by rw [hd]; exact he1)
    rw [hd] at hz
    simp only at hz
    obtain ⟨rfl, rfl⟩ := hz
    have he : (next l last).2.2 = e1 := by rw [next_bad _ _ _ _ _ hd he1]; rfl
    exact (rnext_bad1 l (some ⟨b, off, none⟩) n cap e1 last w hn hb hcap hl he1 hd).mono fun _ _ ⟨h1, h2⟩ => ⟨.inr ⟨e1, he1, he, h1⟩, h2⟩
set_option maxRecDepth 20000 in
set_option maxHeartbeats 1000000 in
theorem rtdec_any (l : List Nat) (b off n cap : Nat) (w : World) (hn : l.length = n) (hb : Bytes w (some ⟨b, off, none⟩) l) (hcap : n ≤ cap) (hl : n ≤ 1024) (h0 : 0 < n) :
    Calls Try.prog 18 #[.slice (some ⟨b, off, none⟩) n cap] w fun r w' => DecPost w l r w' := by
  obtain ⟨i0, hi, hz0, hz1, hz2⟩ := info_parts Try.infoFd
  have HB : Hid (∀ w', Below w.heap.size w w' → Bytes w' (some ⟨b, off, none⟩) l) := fun w' h => hb.keep h
  have HMEM : Hid (∀ j, ∀ x ∈ l.drop j, x < 256) := fun j x hx => hb.mem x (List.mem_of_mem_drop hx)
  have HN : Hid (l.length = n) := hn
  have HR0 : Hid (recs l = decs (n + 1) l 0 0 []) := by show _ = _; unfold recs; rw [if_neg (by omega), hn]
  have HE0 : Hid (Rws (w.alloc (.cells #[] 32)) w.heap.size (.slice (some ⟨w.heap.size, 0, none⟩) 0 0) []) := ⟨⟨by simp [flat], .inr ⟨w.heap.size, 0, #[], rfl, Nat.le_refl _, heap_alloc_new w _, by simp, by simp, by simp, by simp [flat]⟩⟩, fun p hp => by cases hp⟩
  clear hb hn
  go_enter Try.func18, Try.ntmps18
  go_wp2
  go_loopw [5, 6, 7] (fun vf va vi wr => ∃ (fuel i : Nat) (A : Int) (L : List (Fld × Value)), va = .int .i64 A ∧ vi = .int .i64 (i : Int) ∧ i ≤ n ∧ Hid (recs l = decs (fuel + 1) l A i (L.map Prod.fst) ∧ n - i ≤ fuel ∧ L.length ≤ i ∧ Below w.heap.size w wr ∧ Rws wr w.heap.size vf L)) (fun _ _ vi _ => n - (intOf vi).toNat)
  case atStart => exact ⟨n, 0, 0, [], rfl, rfl, Nat.zero_le _, HR0.out, by omega, by simp, (Below.refl _ _).alloc (Nat.le_refl _) _, HE0.out⟩
  case round =>
    obtain ⟨fuel, i, A, L, rfl, rfl, hin, HI⟩ := hrel
    clear HR0 HE0
    have hnI : (n : Int) ≤ 1024 := by omega
    have hiI : (i : Int) ≤ (n : Int) := by omega
    have hic : (i : Int) ≤ (cap : Int) := by omega
    have hi0 : (0 : Int) ≤ (i : Int) := by omega
    by_cases hlt : i < n
    · have hci : ¬ cap = i := by omega
      have hltI : (i : Int) < (n : Int) := by omega
      have HL2 : Hid ((l.drop i).length = n - i) := by show _ = _; rw [List.length_drop, HN.out]
      go_wp2_with (first
        | (go_at_call 33; refine (rnext_any (l.drop i) b (off + i) _ _ A wr HL2.out ((HB.out wr HI.out.2.2.2.1).drop i) (by omega) (by omega)).mono ?_; rintro r w2 ⟨hr, hb2⟩; rcases hr with ⟨F, sz, bv, hnx, rfl, hob⟩ | ⟨e, he, hnx, rfl⟩; (obtain ⟨a5, cap5, rfl, _, _, _, _⟩ := hob.shape; obtain ⟨_, _, _, hsz1, hsz2, _, _, _, _, _, _⟩ := next_right (l.drop i) (HMEM.out i) A F sz hnx; rw [List.length_drop, HN.out] at hsz1; have HB2 : Hid (Below w.heap.size w w2) := HI.out.2.2.2.1.trans (hb2.mono HI.out.2.2.2.1.size); have HR2 : Hid (Rws w2 w.heap.size u5 L) := HI.out.2.2.2.2.same (fun k _ hlt => hb2.block k hlt); have HOB : Hid (Own w2 w.heap.size (.slice a5 F.bytes.length cap5) F.bytes) := ⟨hob.1, hob.2.mono HI.out.2.2.2.1.size⟩; have HNX : Hid (next (l.drop i) A = (F, sz, 0)) := hnx; have hs2 := HB2.out.size; have hsI : (i : Int) + (sz : Int) ≤ 1024 := (by omega); clear hob hnx hb2))
        | ((with_reducible refine guard_load 32 ?_); refine wpList_load_fld rfl _ rfl (FldAt.new w2 F.tag F.text F.num _) rfl ?_)
        | (at_builtin; have hR3 : Rws ((w2.alloc (.cells #[.int .i64 F.tag, .bool F.text, .int .u64 (F.num : Int), .slice a5 F.bytes.length cap5] 32)).alloc (.cells #[.int .i64 F.tag, .bool F.text, .int .u64 (F.num : Int), .slice a5 F.bytes.length cap5] 32)) w.heap.size u5 L := (HR2.out.alloc _).alloc _; refine wpList_append_own _ rfl _ _ 26 rfl w.heap.size 32 i0 _ 4 48 Try.underlying26 hi hz0 hz1 hz2 rfl (by decide) _ _ _ rfl hR3.own ⟨w2.heap.size + 1, 0, none⟩ 1 1 [.int .i64 F.tag, .bool F.text, .int .u64 (F.num : Int), .slice a5 F.bytes.length cap5] rfl rfl (by have h := news4 (w2.alloc (.cells #[.int .i64 F.tag, .bool F.text, .int .u64 (F.num : Int), .slice a5 F.bytes.length cap5] 32)) F (.slice a5 F.bytes.length cap5) 32; simpa using h) (one4 _ _ rfl) (by have := HI.out.2.2.1; unfold maxLen; omega) (by have := HI.out.2.2.1; omega) (by simp; omega) ?_; intro v4 w4 ho4 hg4 _; have HR3 : Hid (Rws ((w2.alloc (.cells #[.int .i64 F.tag, .bool F.text, .int .u64 (F.num : Int), .slice a5 F.bytes.length cap5] 32)).alloc (.cells #[.int .i64 F.tag, .bool F.text, .int .u64 (F.num : Int), .slice a5 F.bytes.length cap5] 32)) w.heap.size u5 L) := hR3; have HG4 : Hid (((w2.alloc (.cells #[.int .i64 F.tag, .bool F.text, .int .u64 (F.num : Int), .slice a5 F.bytes.length cap5] 32)).alloc (.cells #[.int .i64 F.tag, .bool F.text, .int .u64 (F.num : Int), .slice a5 F.bytes.length cap5] 32)).grownBy w4 u5.ownBlock) := hg4; have HO4 : Hid (w4.ownsRow w.heap.size 32 4 v4 (L.length + 1) (flat L ++ [.int .i64 F.tag, .bool F.text, .int .u64 (F.num : Int), .slice a5 F.bytes.length cap5])) := ho4; have HB4 : Hid (Below w.heap.size w w4) := ((HB2.out.alloc hs2 (.cells #[.int .i64 F.tag, .bool F.text, .int .u64 (F.num : Int), .slice a5 F.bytes.length cap5] 32)).alloc (by simp; omega) (.cells #[.int .i64 F.tag, .bool F.text, .int .u64 (F.num : Int), .slice a5 F.bytes.length cap5] 32)).grown hg4 (by simp; omega) (fun k hk => (hR3.own.lt k hk).1); have htg := tag_kept HR2.out.own hg4; clear ho4 hg4 hR3))
      · go_roundw
        case rel =>
          obtain ⟨f', rfl⟩ : ∃ f', fuel = f' + 1 := ⟨fuel - 1, by have := HI.out.2.1; omega⟩
          refine ⟨f', i + sz, F.tag, L ++ [(F, .slice a5 F.bytes.length cap5)], rfl, by go_num, by omega, ?_, by have := HI.out.2.1; omega, by have := HI.out.2.2.1; simp; omega, HB4.out, ?_, ?_⟩
          · rw [HI.out.1, decs_succ, if_neg (by rw [HN.out]; omega), (next_parts HNX.out).1, (next_parts HNX.out).2.1, (next_parts HNX.out).2.2, if_neg (by simp), List.map_append]; rfl
          · rw [List.length_append, flat_append]
            exact HO4.out
          · intro p hp
            rcases List.mem_append.1 hp with hp | hp
            · exact own_grown HR3.out.own HG4.out (HR3.out.byt p hp)
            · obtain rfl := List.mem_singleton.1 hp
              exact own_grown HR3.out.own HG4.out ⟨HOB.out.1, (HOB.out.2.alloc _).alloc _⟩
        case measure => simp [intOf]; omega
      · have hre : recs l = ([], i, e) := by rw [HI.out.1, decs_succ, if_neg (by rw [HN.out]; omega), hnx, if_pos he]
        have hbb := HI.out.2.2.2.1.trans (hb2.mono HI.out.2.2.2.1.size)
        go_ret3
        exact ⟨_, [], by rw [hre]; rfl, by rw [hre]; rfl, Rws.nil _ _, hbb.alloc hbb.size _⟩
    · obtain rfl : i = n := by omega
      have hre : recs l = (L.map Prod.fst, 0, 0) := by rw [HI.out.1, decs_succ, if_pos (by rw [HN.out]; exact Nat.le_refl _)]
      have HRE : Hid (recs l = (L.map Prod.fst, 0, 0)) := hre
      clear hre
      go_wp2
      go_ret3
      exact ⟨_, L, by rw [HRE.out]; rfl, by rw [HRE.out], HI.out.2.2.2.2, HI.out.2.2.2.1⟩
set_option maxRecDepth 20000 in
set_option maxHeartbeats 400000 in
theorem rtdec_nil (a : Option Addr) (cap : Nat) (w : World) :
    Calls Try.prog 18 #[.slice a 0 cap] w fun r w' => DecPost w [] r w' := by
  have hre : recs [] = ([], 0, 0) := by rfl
  have HE0 : Hid (Rws (w.alloc (.cells #[] 32)) w.heap.size (.slice (some ⟨w.heap.size, 0, none⟩) 0 0) []) := ⟨⟨by simp [flat], .inr ⟨w.heap.size, 0, #[], rfl, Nat.le_refl _, heap_alloc_new w _, by simp, by simp, by simp, by simp [flat]⟩⟩, fun p hp => by cases hp⟩
  go_enter Try.func18, Try.ntmps18
  go_wp2
  refine wp_loop_rounds 1 ?_
  rw [rounds_succ]
  go_wp2
  go_ret3
  exact ⟨_, [], by rw [hre]; rfl, by rw [hre]; rfl, HE0.out, (Below.refl _ _).alloc (Nat.le_refl _) _⟩
set_option maxRecDepth 20000 in
set_option maxHeartbeats 400000 in
theorem rtdec_big (l : List Nat) (a : Option Addr) (n cap : Nat) (w : World) (hn : l.length = n) (hl : ¬ n ≤ 1024) (hm : n ≤ maxLen) :
    Calls Try.prog 18 #[.slice a n cap] w fun r w' => DecPost w l r w' := by
  have hlI : (1024 : Int) < (n : Int) := by omega
  have HR : Hid (recs l = ([], 0, 24)) := by show _ = _; unfold recs; rw [if_pos (by omega)]
  clear hn
  go_enter Try.func18, Try.ntmps18
  go_wp2
  go_ret3
  exact ⟨_, [], by rw [HR.out]; rfl, by rw [HR.out]; rfl, Rws.nil _ _, Below.refl _ _⟩
theorem rtdec (l : List Nat) (a : Option Addr) (n cap : Nat) (w : World) (hn : l.length = n) (hb : Bytes w a l) (hcap : n ≤ cap) (hm : n ≤ maxLen) :
    Calls Try.prog 18 #[.slice a n cap] w fun r w' => DecPost w l r w' := by
  by_cases hl : n ≤ 1024
  · by_cases h0 : 0 < n
    · obtain ⟨b, off, rfl, _, _⟩ := hb.nonempty (by intro h; subst h; simp at hn; omega)
      exact rtdec_any l b off n cap w hn hb hcap hl h0
    · obtain rfl : n = 0 := by omega
      obtain rfl : l = [] := List.length_eq_zero_iff.1 hn
      exact rtdec_nil a cap w
  · exact rtdec_big l a n cap w hn hl hm
end Go.Proofs.Ytbdgiecnhgiogaa
