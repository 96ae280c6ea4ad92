/- daybookref05.Copy: new memory, throughout. -/
import Derived.Test.YtdfknehdnkmlgaaTlk
import Derived.Test.YtdfknehdnkmlgaaTln
import Derived.Test.YtdfknehdnkmlgaaCopy
namespace Go.Proofs.Ytdfknehdnkmlgaa
open Go.ChangeShapes Go.WideShapes Go.ChangeAt Go.RowKit
set_option linter.unusedVariables false
set_option maxRecDepth 20000 in
set_option maxHeartbeats 1000000 in
theorem rcopy_any (L : List (Fld × Value)) (b off n cap : Nat) (w : World) (hn : L.length = n) (hfs : FsAt w (some ⟨b, off, none⟩) L) (hm : n * 48 ≤ 140737488351232) (hbl : ∀ p ∈ L, p.1.bytes.length ≤ 281474976710656) :
    Calls Try.prog 10 #[.slice (some ⟨b, off, none⟩) n cap] w fun r w' => ∃ v M, r = .returned v ∧ M.map Prod.fst = L.map Prod.fst ∧ Rws w' w.heap.size v M ∧ Below w.heap.size w w' := by
  obtain ⟨i0, hi, hz0, hz1, hz2⟩ := info_parts Try.infoFd
  have HF : Hid (FsAt w (some ⟨b, off, none⟩) L) := hfs
  have HN : Hid (L.length = n) := hn
  have HBL : Hid (∀ p ∈ L, p.1.bytes.length ≤ 281474976710656) := hbl
  have hmI : (n : Int) ≤ 8796093022208 := by omega
  have HE0 : Hid (Rws (w.alloc (.cells #[] 36)) w.heap.size (.slice (some ⟨w.heap.size, 0, none⟩) 0 0) []) := ⟨⟨by simp [flat], .inr ⟨w.heap.size, 0, #[], rfl, Nat.le_refl _, heap_alloc_new w _, by simp, by simp, by simp, by simp [flat]⟩⟩, fun p hp => by cases hp⟩
  clear hfs hn hbl
  go_enter Try.func10, Try.ntmps10
  go_wp2
  go_loopw [3, 9] (fun vo vi wr => ∃ (k : Nat) (M : List (Fld × Value)), k ≤ n ∧ vi = .int .i64 (k : Int) ∧ Hid (M.map Prod.fst = (L.take k).map Prod.fst ∧ M.length = k ∧ Below w.heap.size w wr ∧ Rws wr w.heap.size vo M)) (fun _ vi _ => n - (intOf vi).toNat)
  case atStart => exact ⟨0, [], Nat.zero_le _, rfl, by simp, rfl, (Below.refl _ _).alloc (Nat.le_refl _) _, HE0.out⟩
  case round =>
    obtain ⟨k, M, hk, rfl, HI⟩ := hrel
    clear HE0
    by_cases hkl : k < n
    · obtain ⟨p, hp⟩ : ∃ p, L[k]? = some p := ⟨_, List.getElem?_eq_getElem (by rw [HN.out]; exact hkl)⟩
      have hpm : p ∈ L := List.mem_of_getElem? hp
      obtain ⟨c0, c1, c2, c3⟩ := (HF.out.keep HI.out.2.2.1).cells k p hp
      obtain ⟨ad, pcap, hpv, hpc, hpb⟩ := ((HF.out.keep HI.out.2.2.1).fok p hpm).byt
      have hbl := HBL.out p hpm
      have HST : Hid ((M.map Prod.fst) ++ [p.1] = (L.take (k + 1)).map Prod.fst) := by
        show _ = _
        rw [HI.out.1, List.take_add_one, hp, List.map_append]; rfl
      rw [hpv] at c3
      obtain ⟨F, hFe⟩ : ∃ F, p.1 = F := ⟨_, rfl⟩
      rw [hFe] at c0 c1 c2 c3 hpb hbl HST
      have HPB : Hid (Bytes wr ad F.bytes) := hpb
      have HLB : Hid (F.bytes.length ≤ 281474976710656) := hbl
      have hkI : (k : Int) < (n : Int) := by omega
      have hk0 : (0 : Int) ≤ (k : Int) := by omega
      have HBA : Hid (Below wr.heap.size wr (wr.alloc (.cells #[.int .i64 F.tag, .bool F.text, .int .u64 (F.num : Int), .slice ad F.bytes.length pcap] 36))) := (Below.refl _ _).alloc (Nat.le_refl _) _
      clear hpv hFe hp hpm hpb hpc hbl
      go_wp2_with (first
        | (go_at_call 16; refine (copy_any F.bytes ad pcap _ (HPB.out.keep HBA.out) HLB.out).mono ?_; rintro r w2 ⟨v2, rfl, ho2, hb2⟩; obtain ⟨a2, cap2, rfl, _, _, _, _⟩ := ho2.shape; have hf2 := (FldAt.new wr F.tag F.text F.num (.slice ad F.bytes.length pcap)).keep hb2; have HF2 : Hid (FldAt w2 wr.heap.size F.tag F.text F.num (.slice ad F.bytes.length pcap)) := hf2; obtain ⟨_, _, _, d3⟩ := hf2.cells; have z3 : w2.frozen? ⟨wr.heap.size, 3, none⟩ = false := frozen_of_row _ _ 3 _ _ hf2; have ho2x : Own w2 (wr.heap.size + 1) (.slice a2 F.bytes.length cap2) F.bytes := (by simpa using ho2); have HO2 : Hid (Own w2 (wr.heap.size + 1) (.slice a2 F.bytes.length cap2) F.bytes) := ho2x; have HB2 : Hid (Below wr.heap.size wr w2) := HBA.out.trans (hb2.mono (by simp)); clear ho2 hb2 hf2 ho2x)
        | ((with_reducible refine guard_load 36 ?_); refine wpList_load_fld rfl _ rfl (HF2.out.setBytes _) rfl ?_)
        | (at_builtin; have hR3 : Rws ((w2.setCell ⟨wr.heap.size, 3, none⟩ (.slice a2 F.bytes.length cap2)).alloc (.cells #[.int .i64 F.tag, .bool F.text, .int .u64 (F.num : Int), .slice a2 F.bytes.length cap2] 36)) w.heap.size u3 M := (HI.out.2.2.2.same (w' := (w2.setCell ⟨wr.heap.size, 3, none⟩ (.slice a2 F.bytes.length cap2))) (fun j _ hj => (heap_setCell_other w2 ⟨wr.heap.size, 3, none⟩ j _ (by show j ≠ wr.heap.size; omega)).trans (HB2.out.block j hj))).alloc _; have hs2 : wr.heap.size < w2.heap.size := lt_of_heap (show w2.heap[wr.heap.size]? = _ from HF2.out); have hws := HI.out.2.2.1.size; refine wpList_append_own _ rfl _ _ 22 rfl w.heap.size 36 i0 _ 4 48 Try.underlying22 hi hz0 hz1 hz2 rfl (by decide) _ _ _ rfl hR3.own ⟨w2.heap.size, 0, none⟩ 1 1 [.int .i64 F.tag, .bool F.text, .int .u64 (F.num : Int), .slice a2 F.bytes.length cap2] rfl rfl (by have h := news4 (w2.setCell ⟨wr.heap.size, 3, none⟩ (.slice a2 F.bytes.length cap2)) F (.slice a2 F.bytes.length cap2) 36; simpa using h) (one4 _ _ rfl) (by have := HI.out.2.1; unfold maxLen; omega) (by have := HI.out.2.1; omega) (by simp; omega) ?_; intro v4 w4 ho4 hg4 _; have HR3 : Hid (Rws ((w2.setCell ⟨wr.heap.size, 3, none⟩ (.slice a2 F.bytes.length cap2)).alloc (.cells #[.int .i64 F.tag, .bool F.text, .int .u64 (F.num : Int), .slice a2 F.bytes.length cap2] 36)) w.heap.size u3 M) := hR3; have HG4 : Hid (((w2.setCell ⟨wr.heap.size, 3, none⟩ (.slice a2 F.bytes.length cap2)).alloc (.cells #[.int .i64 F.tag, .bool F.text, .int .u64 (F.num : Int), .slice a2 F.bytes.length cap2] 36)).grownBy w4 u3.ownBlock) := hg4; have HO4 : Hid (w4.ownsRow w.heap.size 36 4 v4 (M.length + 1) (flat M ++ [.int .i64 F.tag, .bool F.text, .int .u64 (F.num : Int), .slice a2 F.bytes.length cap2])) := ho4; have hb3 : Below w.heap.size w (w2.setCell ⟨wr.heap.size, 3, none⟩ (.slice a2 F.bytes.length cap2)) := (HI.out.2.2.1.trans (HB2.out.mono hws)).setCell (p := ⟨wr.heap.size, 3, none⟩) hws _; have HB4 : Hid (Below w.heap.size w w4) := (hb3.alloc hb3.size (.cells #[.int .i64 F.tag, .bool F.text, .int .u64 (F.num : Int), .slice a2 F.bytes.length cap2] 36)).grown hg4 (by simp; omega) (fun j hj => (hR3.own.lt j hj).1); clear ho4 hg4 hR3 hb3))
      go_roundw
      case rel =>
        refine ⟨k + 1, M ++ [(F, .slice a2 F.bytes.length cap2)], by omega, by go_num, ?_, by rw [List.length_append, HI.out.2.1]; rfl, HB4.out, ?_, ?_⟩
        · rw [List.map_append]; exact HST.out
        · rw [List.length_append, flat_append]
          exact HO4.out
        · intro q hq
          rcases List.mem_append.1 hq with hq | hq
          · exact own_grown HR3.out.own HG4.out (HR3.out.byt q hq)
          · obtain rfl := List.mem_singleton.1 hq
            have h1 : (w2.setCell ⟨wr.heap.size, 3, none⟩ (.slice a2 F.bytes.length cap2)).ownsRow (wr.heap.size + 1) 5 1 (.slice a2 F.bytes.length cap2) F.bytes.length (B8 F.bytes) := own_same HO2.out.2 (fun j (hj : wr.heap.size + 1 ≤ j) => heap_setCell_other w2 ⟨wr.heap.size, 3, none⟩ j _ (by show j ≠ wr.heap.size; omega))
            have h2 := (h1.mono (base' := w.heap.size) (by have := HI.out.2.2.1.size; omega)).alloc (.cells #[.int .i64 F.tag, .bool F.text, .int .u64 (F.num : Int), .slice a2 F.bytes.length cap2] 36)
            exact own_grown HR3.out.own HG4.out ⟨HO2.out.1, h2⟩
      case measure => simp [intOf]; omega
    · obtain rfl : k = n := by omega
      go_wp2
      go_ret
      exact ⟨_, M, rfl, by rw [HI.out.1, List.take_of_length_le (by rw [HN.out]; exact Nat.le_refl _)], HI.out.2.2.2, HI.out.2.2.1⟩
end Go.Proofs.Ytdfknehdnkmlgaa
