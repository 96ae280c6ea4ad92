/- Own texts, joined: Tlz, Tle. -/
import Derived.Test.YtbdgiecnhgiogaaK12
import Derived.Test.YtbdgiecnhgiogaaK16
import Derived.Test.YtbdgiecnhgiogaaK19
import Derived.Test.YtbdgiecnhgiogaaK14
namespace Go.Proofs.Ytbdgiecnhgiogaa
open Go.ChangeShapes Go.WideShapes Go.ChangeAt Go.RowKit
set_option linter.unusedVariables false
set_option maxRecDepth 20000 in
set_option maxHeartbeats 1000000 in
theorem rcopy_any (L : List (Fld × Value)) (b off n cap : Nat) (w : World) (hn : L.length = n) (hfs : FsAt w (some ⟨b, off, none⟩) L) (hm : n * 48 ≤ 140737488351232) (hbl : ∀ p ∈ L, p.1.bytes.length ≤ 281474976710656) :
    Calls Try.prog 29 #[.slice (some ⟨b, off, none⟩) n cap] w fun r w' => ∃ v M, r = .returned v ∧ M.map Prod.fst = L.map Prod.fst ∧ Rws w' w.heap.size v M ∧ Below w.heap.size w w' := by
  obtain ⟨i0, hi, hz0, hz1, hz2⟩ := info_parts Try.infoFd
  have HF : Hid (FsAt w (some ⟨b, off, none⟩) L) := hfs
  have HN : Hid (L.length = n) := hn
  have HBL : Hid (∀ p ∈ L, p.1.bytes.length ≤ 281474976710656) := hbl
  have hmI : (n : Int) ≤ 8796093022208 := by omega
  have HE0 : Hid (Rws (w.alloc (.cells #[] 32)) w.heap.size (.slice (some ⟨w.heap.size, 0, none⟩) 0 0) []) := ⟨⟨by simp [flat], .inr ⟨w.heap.size, 0, #[], rfl, Nat.le_refl _, heap_alloc_new w _, by simp, by simp, by simp, by simp [flat]⟩⟩, fun p hp => by cases hp⟩
  clear hfs hn hbl
  go_enter Try.func29, Try.ntmps29
  go_wp2
  go_loopw [3, 9] (fun vo vi wr => ∃ (k : Nat) (M : List (Fld × Value)), k ≤ n ∧ vi = .int .i64 (k : Int) ∧ Hid (M.map Prod.fst = (L.take k).map Prod.fst ∧ M.length = k ∧ Below w.heap.size w wr ∧ Rws wr w.heap.size vo M)) (fun _ vi _ => n - (intOf vi).toNat)
  case atStart => exact ⟨0, [], Nat.zero_le _, rfl, by simp, rfl, (Below.refl _ _).alloc (Nat.le_refl _) _, HE0.out⟩
  case round =>
    obtain ⟨k, M, hk, rfl, HI⟩ := hrel
    clear HE0
    by_cases hkl : k < n
    · obtain ⟨p, hp⟩ : ∃ p, L[k]? = some p := ⟨_, List.getElem?_eq_getElem (by rw [HN.out]; exact hkl)⟩
      have hpm : p ∈ L := List.mem_of_getElem? hp
      obtain ⟨c0, c1, c2, c3⟩ := (HF.out.keep HI.out.2.2.1).cells k p hp
      obtain ⟨ad, pcap, hpv, hpc, hpb⟩ := ((HF.out.keep HI.out.2.2.1).fok p hpm).byt
      have hbl := HBL.out p hpm
      have HST : Hid ((M.map Prod.fst) ++ [p.1] = (L.take (k + 1)).map Prod.fst) := by
        show _ = _
        rw [HI.out.1, List.take_add_one, hp, List.map_append]; rfl
      rw [hpv] at c3
      obtain ⟨F, hFe⟩ : ∃ F, p.1 = F := ⟨_, rfl⟩
      rw [hFe] at c0 c1 c2 c3 hpb hbl HST
      have HPB : Hid (Bytes wr ad F.bytes) := hpb
      have HLB : Hid (F.bytes.length ≤ 281474976710656) := hbl
      have hkI : (k : Int) < (n : Int) := by omega
      have hk0 : (0 : Int) ≤ (k : Int) := by omega
      have HBA : Hid (Below wr.heap.size wr (wr.alloc (.cells #[.int .i64 F.tag, .bool F.text, .int .u64 (F.num : Int), .slice ad F.bytes.length pcap] 32))) := (Below.refl _ _).alloc (Nat.le_refl _) _
      clear hpv hFe hp hpm hpb hpc hbl
      go_wp2_with (first
        | (go_at_call 8; refine (copy_any F.bytes ad pcap _ (HPB.out.keep HBA.out) HLB.out).mono ?_; rintro r w2 ⟨v2, rfl, ho2, hb2⟩; obtain ⟨a2, cap2, rfl, _, _, _, _⟩ := ho2.shape; have hf2 := (FldAt.new wr F.tag F.text F.num (.slice ad F.bytes.length pcap)).keep hb2; have HF2 : Hid (FldAt w2 wr.heap.size F.tag F.text F.num (.slice ad F.bytes.length pcap)) := hf2; obtain ⟨_, _, _, d3⟩ := hf2.cells; have z3 : w2.frozen? ⟨wr.heap.size, 3, none⟩ = false := frozen_of_row _ _ 3 _ _ hf2; have ho2x : Own w2 (wr.heap.size + 1) (.slice a2 F.bytes.length cap2) F.bytes := (by simpa using ho2); have HO2 : Hid (Own w2 (wr.heap.size + 1) (.slice a2 F.bytes.length cap2) F.bytes) := ho2x; have HB2 : Hid (Below wr.heap.size wr w2) := HBA.out.trans (hb2.mono (by simp)); clear ho2 hb2 hf2 ho2x)
        | ((with_reducible refine guard_load 32 ?_); refine wpList_load_fld rfl _ rfl (HF2.out.setBytes _) rfl ?_)
        | (at_builtin; have hR3 : Rws ((w2.setCell ⟨wr.heap.size, 3, none⟩ (.slice a2 F.bytes.length cap2)).alloc (.cells #[.int .i64 F.tag, .bool F.text, .int .u64 (F.num : Int), .slice a2 F.bytes.length cap2] 32)) w.heap.size u3 M := (HI.out.2.2.2.same (w' := (w2.setCell ⟨wr.heap.size, 3, none⟩ (.slice a2 F.bytes.length cap2))) (fun j _ hj => (heap_setCell_other w2 ⟨wr.heap.size, 3, none⟩ j _ (by show j ≠ wr.heap.size; omega)).trans (HB2.out.block j hj))).alloc _; have hs2 : wr.heap.size < w2.heap.size := lt_of_heap (show w2.heap[wr.heap.size]? = _ from HF2.out); have hws := HI.out.2.2.1.size; refine wpList_append_own _ rfl _ _ 26 rfl w.heap.size 32 i0 _ 4 48 Try.underlying26 hi hz0 hz1 hz2 rfl (by decide) _ _ _ rfl hR3.own ⟨w2.heap.size, 0, none⟩ 1 1 [.int .i64 F.tag, .bool F.text, .int .u64 (F.num : Int), .slice a2 F.bytes.length cap2] rfl rfl (by have h := news4 (w2.setCell ⟨wr.heap.size, 3, none⟩ (.slice a2 F.bytes.length cap2)) F (.slice a2 F.bytes.length cap2) 32; simpa using h) (one4 _ _ rfl) (by have := HI.out.2.1; unfold maxLen; omega) (by have := HI.out.2.1; omega) (by simp; omega) ?_; intro v4 w4 ho4 hg4 _; have HR3 : Hid (Rws ((w2.setCell ⟨wr.heap.size, 3, none⟩ (.slice a2 F.bytes.length cap2)).alloc (.cells #[.int .i64 F.tag, .bool F.text, .int .u64 (F.num : Int), .slice a2 F.bytes.length cap2] 32)) w.heap.size u3 M) := hR3; have HG4 : Hid (((w2.setCell ⟨wr.heap.size, 3, none⟩ (.slice a2 F.bytes.length cap2)).alloc (.cells #[.int .i64 F.tag, .bool F.text, .int .u64 (F.num : Int), .slice a2 F.bytes.length cap2] 32)).grownBy w4 u3.ownBlock) := hg4; have HO4 : Hid (w4.ownsRow w.heap.size 32 4 v4 (M.length + 1) (flat M ++ [.int .i64 F.tag, .bool F.text, .int .u64 (F.num : Int), .slice a2 F.bytes.length cap2])) := ho4; have hb3 : Below w.heap.size w (w2.setCell ⟨wr.heap.size, 3, none⟩ (.slice a2 F.bytes.length cap2)) := (HI.out.2.2.1.trans (HB2.out.mono hws)).setCell (p := ⟨wr.heap.size, 3, none⟩) hws _; have HB4 : Hid (Below w.heap.size w w4) := (hb3.alloc hb3.size (.cells #[.int .i64 F.tag, .bool F.text, .int .u64 (F.num : Int), .slice a2 F.bytes.length cap2] 32)).grown hg4 (by simp; omega) (fun j hj => (hR3.own.lt j hj).1); clear ho4 hg4 hR3 hb3))
      go_roundw
      case rel =>
        refine ⟨k + 1, M ++ [(F, .slice a2 F.bytes.length cap2)], by omega, by go_num, ?_, by rw [List.length_append, HI.out.2.1]; rfl, HB4.out, ?_, ?_⟩
        · rw [List.map_append]; exact HST.out
        · rw [List.length_append, flat_append]
          exact HO4.out
        · intro q hq
          rcases List.mem_append.1 hq with hq | hq
          · exact own_grown HR3.out.own HG4.out (HR3.out.byt q hq)
          · obtain rfl := List.mem_singleton.1 hq
            have h1 : (w2.setCell ⟨wr.heap.size, 3, none⟩ (.slice a2 F.bytes.length cap2)).ownsRow (wr.heap.size + 1) 5 1 (.slice a2 F.bytes.length cap2) F.bytes.length (B8 F.bytes) := own_same HO2.out.2 (fun j (hj : wr.heap.size + 1 ≤ j) => heap_setCell_other w2 ⟨wr.heap.size, 3, none⟩ j _ (by show j ≠ wr.heap.size; omega))
            have h2 := (h1.mono (base' := w.heap.size) (by have := HI.out.2.2.1.size; omega)).alloc (.cells #[.int .i64 F.tag, .bool F.text, .int .u64 (F.num : Int), .slice a2 F.bytes.length cap2] 32)
            exact own_grown HR3.out.own HG4.out ⟨HO2.out.1, h2⟩
      case measure => simp [intOf]; omega
    · obtain rfl : k = n := by omega
      go_wp2
      go_ret
      exact ⟨_, M, rfl, by rw [HI.out.1, List.take_of_length_le (by rw [HN.out]; exact Nat.le_refl _)], HI.out.2.2.2, HI.out.2.2.1⟩
end Go.Proofs.Ytbdgiecnhgiogaa
namespace Go.Proofs.Ytbdgiecnhgiogaa
open Go.ChangeShapes Go.WideShapes Go.ChangeAt Go.RowKit
theorem encs_pre : ∀ (fs : List Fld) (A : Int) (b r : List Nat), encs fs A b = (r, 0) → (∃ t, r = b ++ t) ∧ r.length ≤ 1024
  | [], A, b, r, h => by
    have h' : (if 1024 < b.length then (([] : List Nat), 24) else (b, 0)) = (r, 0) := h
    by_cases hb : 1024 < b.length
    · rw [if_pos hb] at h'; simp at h'
    · rw [if_neg hb] at h'
      have := (Prod.mk.inj h').1
      subst this
      exact ⟨⟨[], by simp⟩, by omega⟩
  | f :: fs, A, b, r, h => by
    have h' : (if flt f A ≠ 0 then (([] : List Nat), flt f A) else encs fs f.tag (b ++ one f)) = (r, 0) := h
    by_cases hz : flt f A = 0
    · rw [hz, if_neg (by simp)] at h'
      obtain ⟨⟨t, ht⟩, hl⟩ := encs_pre fs f.tag (b ++ one f) r h'
      exact ⟨⟨one f ++ t, by rw [ht]; simp⟩, hl⟩
    · rw [if_pos hz] at h'
      exact absurd (Prod.mk.inj h').2 hz
theorem norm_tag (f : Fld) : (norm f).tag = f.tag ∧ (norm f).text = f.text := by
  unfold norm; split <;> exact ⟨rfl, rfl⟩
theorem norm_norm (f : Fld) : norm (norm f) = norm f := by
  unfold norm
  by_cases h : f.text = true
  · rw [if_pos h]; rw [if_pos h]
  · rw [if_neg h]; rw [if_neg h]
theorem encs_back : ∀ (fs : List Fld) (A : Int) (b r : List Nat), (∀ f ∈ fs, f.num ≤ 18446744073709551615) → encs fs A b = (r, 0) → ∀ (fuel : Nat) (acc : List Fld), r.length - b.length < fuel → decs fuel r A b.length acc = (acc ++ fs.map norm, 0, 0)
  | [], A, b, r, _, h, fuel, acc, hf => by
    have h' : (if 1024 < b.length then (([] : List Nat), 24) else (b, 0)) = (r, 0) := h
    by_cases hb : 1024 < b.length
    · rw [if_pos hb] at h'; simp at h'
    · rw [if_neg hb] at h'
      have := (Prod.mk.inj h').1
      subst this
      obtain ⟨f', rfl⟩ : ∃ f', fuel = f' + 1 := ⟨fuel - 1, by omega⟩
      show (if b.length ≤ b.length then (acc, 0, 0) else _) = _
      rw [if_pos (Nat.le_refl _)]; simp
  | f :: fs, A, b, r, hn, h, fuel, acc, hf => by
    have h' : (if flt f A ≠ 0 then (([] : List Nat), flt f A) else encs fs f.tag (b ++ one f)) = (r, 0) := h
    by_cases hz : flt f A = 0
    · rw [hz, if_neg (by simp)] at h'
      obtain ⟨⟨t, ht⟩, hl⟩ := encs_pre fs f.tag (b ++ one f) r h'
      have hone := one_len f A (hn f (by simp)) hz
      obtain ⟨f', rfl⟩ : ∃ f', fuel = f' + 1 := ⟨fuel - 1, by omega⟩
      have hrl : r.length = b.length + (one f).length + t.length := by rw [ht, List.length_append, List.length_append]
      have hd : r.drop b.length = one f ++ t := by rw [ht, List.append_assoc, List.drop_left]
      have hs : decs (f' + 1) r A b.length acc = if r.length ≤ b.length then (acc, 0, 0) else if (next (r.drop b.length) A).2.2 ≠ 0 then ([], b.length, (next (r.drop b.length) A).2.2) else decs f' r (next (r.drop b.length) A).1.tag (b.length + (next (r.drop b.length) A).2.1) (acc ++ [(next (r.drop b.length) A).1]) := rfl
      rw [hs, if_neg (by omega), hd, next_one f A t (hn f (by simp)) hz]
      simp only [ne_eq, not_true_eq_false, if_false]
      rw [(norm_tag f).1]
      have ih := encs_back fs f.tag (b ++ one f) r (fun g hg => hn g (List.mem_cons_of_mem _ hg)) h' f' (acc ++ [norm f]) (by rw [List.length_append]; omega)
      rw [List.length_append] at ih
      rw [ih]
      simp
    · rw [if_pos hz] at h'
      exact absurd (Prod.mk.inj h').2 hz
theorem encs_err : ∀ (fs : List Fld) (A : Int) (b : List Nat), (encs fs A b).2 ≠ 0 → (encs fs A b).1 = []
  | [], A, b, h => by
    have hd : encs [] A b = if 1024 < b.length then ([], 24) else (b, 0) := rfl
    rw [hd] at h ⊢
    by_cases hb : 1024 < b.length
    · rw [if_pos hb]
    · rw [if_neg hb] at h; exact absurd rfl h
  | f :: fs, A, b, h => by
    have hd : encs (f :: fs) A b = if flt f A ≠ 0 then ([], flt f A) else encs fs f.tag (b ++ one f) := rfl
    rw [hd] at h ⊢
    by_cases hz : flt f A = 0
    · rw [hz, if_neg (by simp)] at h ⊢
      exact encs_err fs f.tag (b ++ one f) h
    · rw [if_pos hz]
theorem recs_back (fs : List Fld) (r : List Nat) (hn : ∀ f ∈ fs, f.num ≤ 18446744073709551615) (h : encs fs 0 [] = (r, 0)) : recs r = (fs.map norm, 0, 0) := by
  have hl := (encs_pre fs 0 [] r h).2
  unfold recs
  rw [if_neg (by omega)]
  have := encs_back fs 0 [] r hn h (r.length + 1) [] (by simp)
  simpa using this
end Go.Proofs.Ytbdgiecnhgiogaa
