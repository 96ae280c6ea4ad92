/- Own texts, joined: Msl. -/
import Derived.Test.YtnfkdgjgglnniaaDoorK21
import Derived.Test.YtnfkdgjgglnniaaDoorK57
namespace Go.Proofs.YtnfkdgjgglnniaaDoor
open Go.ChangeShapes Go.WideShapes Go.ChangeAt Go.RowKit
set_option linter.unusedVariables false
theorem OwnSm.kept {x y : World} {B : Nat} {v : Value} {L : List Sm} (h : OwnSm x B v L) (hs : ∀ g, B ≤ g → y.heap[g]? = x.heap[g]?) : OwnSm y B v L := by
  refine ⟨h.1, ?_⟩
  rcases h.2 with h1 | ⟨g, cap, cur, h1, h2, h3, h4⟩
  · exact .inl h1
  · exact .inr ⟨g, cap, cur, h1, h2, (hs g h2).trans h3, h4⟩
set_option maxRecDepth 20000 in
set_option maxHeartbeats 4000000 in
theorem mload_M {x : World} {base q b : Nat} {A : Ak} {F : Nat → Prop} (h : DF x base q b A F) (ok : AkOk A) (w0 : World) (hw : Below w0.heap.size w0 x) (hlb : w0.heap.size ≤ base) (ht : Tab w0) (l : List Nat) (N : Nat) (hN : l.length = N) (hNb : N ≤ 1048576) (M : Mf) (nz : Nat) (hz : M.segs.length = nz) (A2 : Ak) (hs : sizeA A nM = (N, 0)) (hr : readA A nM 0 (N : Int) = (A2, l, 0)) (hm : mdM l = M ∧ mdE l = 0) :
    Calls Tryd.prog 12 #[.pointer (some ⟨q, 0, none⟩)] x fun r x' => ∃ a c, r = .returned (.tuple #[MfV M (.slice a nz c), .bool true, .int .i64 0]) ∧ OwnSm x' x.heap.size (.slice a nz c) M.segs ∧ SvR x x' base q b A2 F := by
  have HS : Hid (sizeA A nM = (N, 0)) := hs
  have HR : Hid (readA A nM 0 (N : Int) = (A2, l, 0)) := hr
  have HM : Hid (mdM l = M ∧ mdE l = 0) := hm
  have HN : Hid (l.length = N) := hN
  have HZ : Hid (M.segs.length = nz) := hz
  have HOK : Hid (AkOk A) := ok
  have HX : Hid (base ≤ x.heap.size ∧ ∀ k : Nat, F k → k < x.heap.size) := ⟨h.low2, h.lt⟩
  have hbx : Below x.heap.size x (x.alloc (.cells (mfA zeroM (.slice none 0 0)) 24)) := (Below.refl _ _).alloc (Nat.le_refl _) _
  have HB1 : Hid (Below x.heap.size x (x.alloc (.cells (mfA zeroM (.slice none 0 0)) 24))) := hbx
  have HT : Hid (Tab w0 ∧ Below w0.heap.size w0 (x.alloc (.cells (mfA zeroM (.slice none 0 0)) 24)) ∧ w0.heap.size ≤ base) := ⟨ht, hw.trans (hbx.mono hw.size), hlb⟩
  obtain ⟨G, hG⟩ : ∃ G : Nat → Prop, (fun k => F k ∨ k = x.heap.size) = G := ⟨_, rfl⟩
  have hd1 : SvR (x.alloc (.cells (mfA zeroM (.slice none 0 0)) 24)) (x.alloc (.cells (mfA zeroM (.slice none 0 0)) 24)) base q b A G := by
    rw [← hG]
    exact SvR.start ((h.more hbx).sub (fun k hk => hk.elim .inl (fun e => .inr (by subst e; exact ⟨Nat.le_refl _, by simp⟩))))
  have HD1 : Hid (SvR (x.alloc (.cells (mfA zeroM (.slice none 0 0)) 24)) (x.alloc (.cells (mfA zeroM (.slice none 0 0)) 24)) base q b A G) := hd1
  have HG : Hid (G x.heap.size ∧ ∀ k : Nat, F k → G k) := by show _ ∧ _; rw [← hG]; exact ⟨.inr rfl, fun k hk => .inl hk⟩
  have HM1 : Hid (MfAt (x.alloc (.cells (mfA zeroM (.slice none 0 0)) 24)) x.heap.size zeroM (.slice none 0 0)) := MfAt.new x zeroM _
  have hNI : (N : Int) ≤ 1048576 := by omega
  have TS1 : Hid True := trivial
  clear h ok hw hlb ht hN hz hs hr hm hbx hd1 hG
  go_enter Tryd.func12, Tryd.ntmps12
  go_wp2_with (first
    | (go_at_call 30; refine (size_M HD1.out.d HOK.out nM (by decide)).mono ?_; rw [HS.out]; rintro _ x2 ⟨rfl, hb2⟩; have HD2 : Hid (SvR (x.alloc (.cells (mfA zeroM (.slice none 0 0)) 24)) x2 base q b A G) := HD1.out.next hb2; clear hb2)
    | (go_at_call 31; refine (read_M HD2.out.d HOK.out nM (by decide) 0 (N : Int) (by decide) (by decide) (by omega) (by omega)).mono ?_; rw [HR.out]; rintro _ x3 ⟨v3, rfl, ho3, hr3⟩; obtain ⟨P3, C3, hv3, hc3, _, hy3, _⟩ := ho3.shape; rw [HN.out] at hv3 hc3; subst hv3; have HY3 : Hid (Bytes x3 P3 l ∧ N ≤ C3) := ⟨hy3, hc3⟩; have HD3 : Hid (SvR (x.alloc (.cells (mfA zeroM (.slice none 0 0)) 24)) x3 base q b A2 G) := HD2.out.call hr3; clear ho3 hy3 hc3 hr3)
    | (go_at_call 15; refine (mdec_any l N P3 C3 _ HN.out HY3.out.1 HY3.out.2 (by omega) (HT.out.1.keep (HT.out.2.1.trans (HD3.out.b.mono HT.out.2.2)))).mono ?_; rw [HM.out.1, HM.out.2]; rintro _ x4 ⟨v4, rfl, ho4, hb4⟩; obtain ⟨a4, c4, hv4, _, _, hs4, _⟩ := ho4.shape; rw [HZ.out] at hv4; subst hv4; have HO4 : Hid (OwnSm x4 x3.heap.size (.slice a4 nz c4) M.segs) := ho4; have HD4 : Hid (SvR (x.alloc (.cells (mfA zeroM (.slice none 0 0)) 24)) x4 base q b A2 G) := HD3.out.next hb4; clear ho4 hb4 hs4)
    | ((with_reducible refine frm_store 24 ?_); clear TS1; refine wpList_store_mf rfl _ _ rfl rfl (MfAt.new x4 zeroM (.slice none 0 0)) rfl (m2 := M) (a2 := a4) (n2 := nz) (c2 := c4) rfl ?_; intro x5 hf5 ho5 hh5 hs5; have HN5 : Hid (MfAt x5 x4.heap.size M (.slice a4 nz c4)) := hf5; have hb5 : Below x4.heap.size x4 x5 := ho5 _ _ ((Below.refl _ _).alloc (Nat.le_refl _) _) (Nat.le_refl _); have HB5 : Hid (Below x4.heap.size x4 x5) := hb5; have HD5 : Hid (SvR (x.alloc (.cells (mfA zeroM (.slice none 0 0)) 24)) x5 base q b A2 G) := HD4.out.next hb5; have HM5 : Hid (MfAt x5 x.heap.size zeroM (.slice none 0 0)) := (HD5.out.k _ HG.out.1).trans HM1.out; clear hf5 ho5 hh5 hs5 hb5)
    | ((with_reducible refine frm_load 24 ?_); refine wpList_load_mf rfl _ rfl HN5.out rfl ?_)
    | ((with_reducible refine frm_store 24 ?_); refine wpList_store_mf rfl _ _ rfl rfl HM5.out rfl (m2 := M) (a2 := a4) (n2 := nz) (c2 := c4) rfl ?_; intro x6 hf6 ho6 hh6 hs6))
  (try simp only [Exit.inBlock, Exit.then])
  have hl4 : x.heap.size < x3.heap.size := Nat.lt_of_lt_of_le (by simp) HD3.out.b.size
  refine bodyPost_ret (results_mf3 rfl _ _ x.heap.size _ _ rfl rfl rfl hf6) rfl ⟨a4, c4, rfl, ?_, ?_⟩
  · exact ((HO4.out.keep HB5.out).kept (fun g hg => hh6 g (by omega))).monoM (Nat.le_of_lt hl4)
  · exact (SvR.turn HD5.out HG.out.1 (fun k hk => ⟨HG.out.2 k hk, fun e => by have := HX.out.2 k hk; omega⟩) HX.out.1 hs6 hh6 (ho6 _ _ HD5.out.b HX.out.1)).back HB1.out HX.out.2 HX.out.1
end Go.Proofs.YtnfkdgjgglnniaaDoor
