/- Own texts, joined: Msv, Mst. -/
import Derived.Test.YtnfkdgjgglnniaaDoorK14
import Derived.Test.YtnfkdgjgglnniaaDoorK57
import Derived.LoopN
import Derived.FnLit
import Derived.Test.YtnfkdgjgglnniaaDoorK58
namespace Go.Proofs.YtnfkdgjgglnniaaDoor
open Go.ChangeShapes Go.WideShapes Go.ChangeAt Go.RowKit
set_option linter.unusedVariables false
/-- what Save makes of a disk, and what it answers -/
def msaveA (A : Ak) (m : Mf) : Ak × Nat := if mvB m = true then saveA A (mfL m) else (A, 80)
theorem msaveA_ok {A : Ak} (h : AkOk A) (m : Mf) : AkOk (msaveA A m).1 := by
  unfold msaveA
  split
  · exact saveA_ok h _
  · exact h
/-- what the four steps share: the disk's address, the bytes, the steps themselves -/
structure SvZ (z : World) (q g1 g2 g3 : Nat) (P : Option Addr) (N C : Nat) (l : List Nat) : Prop where
  o1 : ∃ t, z.heap[g1]? = some (.cells #[.pointer (some ⟨q, 0, none⟩)] t)
  o2 : ∃ t, z.heap[g2]? = some (.cells #[.slice P N C] t)
  o3 : ∃ t, z.heap[g3]? = some (.cells #[.func (.func 17) #[] #[.pointer (some ⟨g1, 0, none⟩)], .func (.func 19) #[] #[.pointer (some ⟨g1, 0, none⟩), .pointer (some ⟨g2, 0, none⟩)], .func (.func 21) #[] #[.pointer (some ⟨g1, 0, none⟩)], .func (.func 23) #[] #[.pointer (some ⟨g1, 0, none⟩)]] t)
  o4 : ∃ B, Own z B (.slice P N C) l
  lo : ∀ g, P = some ⟨g, 0, none⟩ → g1 ≤ g
  lt : g1 ≤ g2 ∧ g1 ≤ g3
theorem SvZ.cells {z : World} {q g1 g2 g3 N C : Nat} {P : Option Addr} {l : List Nat} (h : SvZ z q g1 g2 g3 P N C l) :
    z.cell? ⟨g1, 0, none⟩ = some (.pointer (some ⟨q, 0, none⟩)) ∧ z.cell? ⟨g2, 0, none⟩ = some (.slice P N C) ∧ z.cell? ⟨g3, 0, none⟩ = some (.func (.func 17) #[] #[.pointer (some ⟨g1, 0, none⟩)]) ∧ z.cell? ⟨g3, 1, none⟩ = some (.func (.func 19) #[] #[.pointer (some ⟨g1, 0, none⟩), .pointer (some ⟨g2, 0, none⟩)]) ∧ z.cell? ⟨g3, 2, none⟩ = some (.func (.func 21) #[] #[.pointer (some ⟨g1, 0, none⟩)]) ∧ z.cell? ⟨g3, 3, none⟩ = some (.func (.func 23) #[] #[.pointer (some ⟨g1, 0, none⟩)]) := by
  obtain ⟨⟨t1, h1⟩, ⟨t2, h2⟩, ⟨t3, h3⟩, _⟩ := h
  refine ⟨?_, ?_, ?_, ?_, ?_, ?_⟩
  · rw [cell_of_row z g1 0 _ _ _ h1]; rfl
  · rw [cell_of_row z g2 0 _ _ _ h2]; rfl
  · rw [cell_of_row z g3 0 _ _ _ h3]; rfl
  · rw [cell_of_row z g3 1 _ _ _ h3]; rfl
  · rw [cell_of_row z g3 2 _ _ _ h3]; rfl
  · rw [cell_of_row z g3 3 _ _ _ h3]; rfl
theorem SvZ.bytes {z : World} {q g1 g2 g3 N C : Nat} {P : Option Addr} {l : List Nat} (h : SvZ z q g1 g2 g3 P N C l) (hN : l.length = N) : Bytes z P l ∧ N ≤ C ∧ (P = none → C = 0) := by
  obtain ⟨B, ho⟩ := h.o4
  obtain ⟨P2, C2, e, h1, h2, h3⟩ := ho.ready
  rw [hN] at e h2
  cases e
  exact ⟨h1, h2, h3⟩
/-- in a world that has kept all from g1 to s -/
theorem SvZ.keep {z y : World} {q g1 g2 g3 N C : Nat} {P : Option Addr} {l : List Nat} (h : SvZ z q g1 g2 g3 P N C l) (hk : ∀ k, g1 ≤ k → k < z.heap.size → y.heap[k]? = z.heap[k]?) : SvZ y q g1 g2 g3 P N C l := by
  obtain ⟨⟨t1, h1⟩, ⟨t2, h2⟩, ⟨t3, h3⟩, ⟨B, h4⟩, h5, h6⟩ := h
  refine ⟨⟨t1, (hk _ (Nat.le_refl _) (lt_of_heap h1)).trans h1⟩, ⟨t2, (hk _ h6.1 (lt_of_heap h2)).trans h2⟩, ⟨t3, (hk _ h6.2 (lt_of_heap h3)).trans h3⟩, ⟨B, own_kept h4 (fun g e => hk g (h5 g e) ?_)⟩, h5, h6⟩
  subst e
  exact h4.2.lt g rfl |>.2
set_option maxRecDepth 20000 in
set_option maxHeartbeats 4000000 in
theorem msave_bad {x : World} {base q b : Nat} {A : Ak} {F : Nat → Prop} (h : DF x base q b A F) (ok : AkOk A) (w0 : World) (hw : Below w0.heap.size w0 x) (hlb : w0.heap.size ≤ base) (ht : Tab w0) (m : Mf) (n : Nat) (a : Option Addr) (cap : Nat) (hn : m.segs.length = n) (hS : Sms x a m.segs) (hl : n ≤ maxLen) (hV : mvB m = false) :
    Calls Tryd.prog 6 #[.pointer (some ⟨q, 0, none⟩), MfV m (.slice a n cap)] x fun r x' => r = .returned (.int .i64 (80 : Nat)) ∧ SvR x x' base q b A F := by
  have HN : Hid (m.segs.length = n ∧ n ≤ maxLen) := ⟨hn, hl⟩
  have HX : Hid (base ≤ x.heap.size ∧ ∀ k : Nat, F k → k < x.heap.size) := ⟨h.low2, h.lt⟩
  have hb2 : Below x.heap.size x ((x.alloc (.cells #[.pointer (some ⟨q, 0, none⟩)] 27)).alloc (.cells (mfA m (.slice a n cap)) 24)) := ((Below.refl _ _).alloc (Nat.le_refl _) _).alloc (by simp) _
  have HB2 : Hid (Below x.heap.size x ((x.alloc (.cells #[.pointer (some ⟨q, 0, none⟩)] 27)).alloc (.cells (mfA m (.slice a n cap)) 24))) := hb2
  have HS : Hid (Sms ((x.alloc (.cells #[.pointer (some ⟨q, 0, none⟩)] 27)).alloc (.cells (mfA m (.slice a n cap)) 24)) a m.segs) := hS.keep hb2
  have HT : Hid (Tab w0 ∧ Below w0.heap.size w0 ((x.alloc (.cells #[.pointer (some ⟨q, 0, none⟩)] 27)).alloc (.cells (mfA m (.slice a n cap)) 24))) := ⟨ht, hw.trans (hb2.mono hw.size)⟩
  have HM : Hid (MfAt ((x.alloc (.cells #[.pointer (some ⟨q, 0, none⟩)] 27)).alloc (.cells (mfA m (.slice a n cap)) 24)) (x.heap.size + 1) m (.slice a n cap)) := by
    have := MfAt.new (x.alloc (.cells #[.pointer (some ⟨q, 0, none⟩)] 27)) m (.slice a n cap)
    rw [World.size_alloc] at this
    exact this
  have HD : Hid (DF x base q b A F) := h
  have HO1 : Hid (((x.alloc (.cells #[.pointer (some ⟨q, 0, none⟩)] 27)).alloc (.cells (mfA m (.slice a n cap)) 24)).heap[x.heap.size]? = some (.cells #[.pointer (some ⟨q, 0, none⟩)] 27)) := by
    show _ = _
    rw [((Below.refl (x.alloc (.cells #[.pointer (some ⟨q, 0, none⟩)] 27)).heap.size (x.alloc (.cells #[.pointer (some ⟨q, 0, none⟩)] 27))).alloc (Nat.le_refl _) _).block x.heap.size (by simp)]
    exact heap_alloc_new x _
  have HE : Hid (mfE m = 80) := by show _ = _; unfold mfE; rw [hV]; rfl
  obtain ⟨N, hNN⟩ : ∃ N, (mfL m).length = N := ⟨_, rfl⟩
  have HNL : Hid ((mfL m).length = N) := hNN
  clear h ok hw hlb ht hn hS hl hb2 hV hNN
  go_enter Tryd.func6, Tryd.ntmps6
  go_wp2_with (first
    | ((with_reducible refine frm_load 24 ?_); refine wpList_load_mf rfl _ rfl HM.out rfl ?_)
    | (go_at_call 14; refine (menc_any m n a cap _ HN.out.1 HS.out HN.out.2 (HT.out.1.keep HT.out.2)).mono ?_; rw [HE.out]; rintro _ y1 ⟨v1, rfl, ho1, hb1⟩; obtain ⟨P, C, hv1, hc1, _, hy1, hlo⟩ := ho1.shape; rw [HNL.out] at hv1 hc1; subst hv1; have HO : Hid (Own y1 ((x.alloc (.cells #[.pointer (some ⟨q, 0, none⟩)] 27)).alloc (.cells (mfA m (.slice a n cap)) 24)).heap.size (.slice P N C) (mfL m)) := ho1; have HB1 : Hid (Below ((x.alloc (.cells #[.pointer (some ⟨q, 0, none⟩)] 27)).alloc (.cells (mfA m (.slice a n cap)) 24)).heap.size ((x.alloc (.cells #[.pointer (some ⟨q, 0, none⟩)] 27)).alloc (.cells (mfA m (.slice a n cap)) 24)) y1) := hb1; clear ho1 hb1 hy1 hc1 hlo))
  go_ret
  exact ⟨rfl, ((SvR.start HD.out).next HB2.out).next (HB1.out.alloc HB1.out.size _)⟩
theorem svz_start {x y1 : World} {q N C : Nat} {P : Option Addr} {m : Mf} {X : World} (hX : X.heap.size = x.heap.size + 2) (h1 : X.heap[x.heap.size]? = some (.cells #[.pointer (some ⟨q, 0, none⟩)] 27)) (hb : Below X.heap.size X y1) (ho : Own y1 X.heap.size (.slice P N C) (mfL m)) : SvZ ((y1.alloc (.cells #[.slice P N C] 40)).alloc (.cells #[.func (.func 17) #[] #[.pointer (some ⟨x.heap.size, 0, none⟩)], .func (.func 19) #[] #[.pointer (some ⟨x.heap.size, 0, none⟩), .pointer (some ⟨y1.heap.size, 0, none⟩)], .func (.func 21) #[] #[.pointer (some ⟨x.heap.size, 0, none⟩)], .func (.func 23) #[] #[.pointer (some ⟨x.heap.size, 0, none⟩)]] 50)) q x.heap.size y1.heap.size (y1.heap.size + 1) P N C (mfL m) := by
  have hs : x.heap.size + 2 ≤ y1.heap.size := by rw [← hX]; exact hb.size
  have hz : Below y1.heap.size y1 ((y1.alloc (.cells #[.slice P N C] 40)).alloc (.cells #[.func (.func 17) #[] #[.pointer (some ⟨x.heap.size, 0, none⟩)], .func (.func 19) #[] #[.pointer (some ⟨x.heap.size, 0, none⟩), .pointer (some ⟨y1.heap.size, 0, none⟩)], .func (.func 21) #[] #[.pointer (some ⟨x.heap.size, 0, none⟩)], .func (.func 23) #[] #[.pointer (some ⟨x.heap.size, 0, none⟩)]] 50)) := ((Below.refl _ _).alloc (Nat.le_refl _) _).alloc (by simp) _
  refine ⟨⟨_, ((hz.block _ (by omega)).trans (hb.block _ (by omega))).trans h1⟩, ⟨40, ?_⟩, ⟨50, ?_⟩, ⟨_, own_kept ho (fun g e => hz.block g ?_)⟩, fun g e => ?_, by omega, by omega⟩
  · rw [((Below.refl (y1.alloc (.cells #[.slice P N C] 40)).heap.size (y1.alloc (.cells #[.slice P N C] 40))).alloc (Nat.le_refl _) (.cells #[.func (.func 17) #[] #[.pointer (some ⟨x.heap.size, 0, none⟩)], .func (.func 19) #[] #[.pointer (some ⟨x.heap.size, 0, none⟩), .pointer (some ⟨y1.heap.size, 0, none⟩)], .func (.func 21) #[] #[.pointer (some ⟨x.heap.size, 0, none⟩)], .func (.func 23) #[] #[.pointer (some ⟨x.heap.size, 0, none⟩)]] 50)).block y1.heap.size (by simp)]
    exact heap_alloc_new y1 _
  · have h := heap_alloc_new (y1.alloc (.cells #[.slice P N C] 40)) (.cells #[.func (.func 17) #[] #[.pointer (some ⟨x.heap.size, 0, none⟩)], .func (.func 19) #[] #[.pointer (some ⟨x.heap.size, 0, none⟩), .pointer (some ⟨y1.heap.size, 0, none⟩)], .func (.func 21) #[] #[.pointer (some ⟨x.heap.size, 0, none⟩)], .func (.func 23) #[] #[.pointer (some ⟨x.heap.size, 0, none⟩)]] 50)
    rw [World.size_alloc] at h
    exact h
  · subst e
    exact (ho.2.lt g rfl).2
  · subst e
    have := (ho.2.lt g rfl).1
    omega
set_option maxRecDepth 20000 in
set_option maxHeartbeats 4000000 in
theorem msave_1 {x : World} {base q b : Nat} {A : Ak} {F : Nat → Prop} (h : DF x base q b A F) (ok : AkOk A) (w0 : World) (hw : Below w0.heap.size w0 x) (hlb : w0.heap.size ≤ base) (ht : Tab w0) (m : Mf) (n : Nat) (a : Option Addr) (cap : Nat) (hn : m.segs.length = n) (hS : Sms x a m.segs) (hl : n ≤ maxLen) (hV : mvB m = true) (A1 : Ak) (e1 : Nat) (h1 : createA A nT = (A1, e1)) (ok1 : AkOk A1) (he : e1 ≠ 0) :
    Calls Tryd.prog 6 #[.pointer (some ⟨q, 0, none⟩), MfV m (.slice a n cap)] x fun r x' => r = .returned (.int .i64 (e1 : Nat)) ∧ SvR x x' base q b A1 F := by
  have HN : Hid (m.segs.length = n ∧ n ≤ maxLen) := ⟨hn, hl⟩
  have HX : Hid (base ≤ x.heap.size ∧ ∀ k : Nat, F k → k < x.heap.size) := ⟨h.low2, h.lt⟩
  have hb2 : Below x.heap.size x ((x.alloc (.cells #[.pointer (some ⟨q, 0, none⟩)] 27)).alloc (.cells (mfA m (.slice a n cap)) 24)) := ((Below.refl _ _).alloc (Nat.le_refl _) _).alloc (by simp) _
  have HB2 : Hid (Below x.heap.size x ((x.alloc (.cells #[.pointer (some ⟨q, 0, none⟩)] 27)).alloc (.cells (mfA m (.slice a n cap)) 24))) := hb2
  have HS : Hid (Sms ((x.alloc (.cells #[.pointer (some ⟨q, 0, none⟩)] 27)).alloc (.cells (mfA m (.slice a n cap)) 24)) a m.segs) := hS.keep hb2
  have HT : Hid (Tab w0 ∧ Below w0.heap.size w0 ((x.alloc (.cells #[.pointer (some ⟨q, 0, none⟩)] 27)).alloc (.cells (mfA m (.slice a n cap)) 24))) := ⟨ht, hw.trans (hb2.mono hw.size)⟩
  have HM : Hid (MfAt ((x.alloc (.cells #[.pointer (some ⟨q, 0, none⟩)] 27)).alloc (.cells (mfA m (.slice a n cap)) 24)) (x.heap.size + 1) m (.slice a n cap)) := by
    have := MfAt.new (x.alloc (.cells #[.pointer (some ⟨q, 0, none⟩)] 27)) m (.slice a n cap)
    rw [World.size_alloc] at this
    exact this
  have HD : Hid (DF x base q b A F) := h
  have HO1 : Hid (((x.alloc (.cells #[.pointer (some ⟨q, 0, none⟩)] 27)).alloc (.cells (mfA m (.slice a n cap)) 24)).heap[x.heap.size]? = some (.cells #[.pointer (some ⟨q, 0, none⟩)] 27)) := by
    show _ = _
    rw [((Below.refl (x.alloc (.cells #[.pointer (some ⟨q, 0, none⟩)] 27)).heap.size (x.alloc (.cells #[.pointer (some ⟨q, 0, none⟩)] 27))).alloc (Nat.le_refl _) _).block x.heap.size (by simp)]
    exact heap_alloc_new x _
  have HE : Hid (mfE m = 0) := by show _ = _; unfold mfE; rw [hV]; rfl
  obtain ⟨N, hNN⟩ : ∃ N, (mfL m).length = N := ⟨_, rfl⟩
  have HNL : Hid ((mfL m).length = N) := hNN
  have HNB : Hid (N ≤ 4394) := by show _ ≤ _; rw [← hNN, show mfL m = frameL 4 m.gen.toNat (encAll (mfN m)) from if_pos hV, frameL_length]; have := mf_body hV; omega
  have HO1 : Hid (((x.alloc (.cells #[.pointer (some ⟨q, 0, none⟩)] 27)).alloc (.cells (mfA m (.slice a n cap)) 24)).heap[x.heap.size]? = some (.cells #[.pointer (some ⟨q, 0, none⟩)] 27)) := HO1
  have hmf : ∀ (fn : Fn) (first cap : Array Value) (w : World), (Instr.makeFunc fn first cap).run Tryd.prog w = .ok (.func fn first cap) w := fun _ _ _ _ => rfl
  have HK : Hid (AkOk A) := ok
  have HE1 : Hid (createA A nT = (A1, e1)) := h1
  have HK1 : Hid (AkOk A1) := ok1
  have hne : ((e1 : Int) == 0) = false := by simp; exact he
  clear h ok hw hlb ht hn hS hl hb2 hV hNN h1 ok1 he
  go_enter Tryd.func6, Tryd.ntmps6
  go_wp2_with (first
    | ((with_reducible refine frm_load 24 ?_); refine wpList_load_mf rfl _ rfl HM.out rfl ?_)
    | (go_at_call 14; refine (menc_any m n a cap _ HN.out.1 HS.out HN.out.2 (HT.out.1.keep HT.out.2)).mono ?_; rw [HE.out]; rintro _ y1 ⟨v1, rfl, ho1, hb1⟩; obtain ⟨P, C, hv1, hc1, _, hy1, hlo⟩ := ho1.shape; rw [HNL.out] at hv1 hc1; subst hv1; have HO : Hid (Own y1 ((x.alloc (.cells #[.pointer (some ⟨q, 0, none⟩)] 27)).alloc (.cells (mfA m (.slice a n cap)) 24)).heap.size (.slice P N C) (mfL m)) := ho1; have HB1 : Hid (Below ((x.alloc (.cells #[.pointer (some ⟨q, 0, none⟩)] 27)).alloc (.cells (mfA m (.slice a n cap)) 24)).heap.size ((x.alloc (.cells #[.pointer (some ⟨q, 0, none⟩)] 27)).alloc (.cells (mfA m (.slice a n cap)) 24)) y1) := hb1; clear ho1 hb1 hy1 hc1 hlo))
  obtain ⟨Z, hZ⟩ : ∃ Z, ((y1.alloc (.cells #[.slice P N C] 40)).alloc (.cells #[.func (.func 17) #[] #[.pointer (some ⟨x.heap.size, 0, none⟩)], .func (.func 19) #[] #[.pointer (some ⟨x.heap.size, 0, none⟩), .pointer (some ⟨y1.heap.size, 0, none⟩)], .func (.func 21) #[] #[.pointer (some ⟨x.heap.size, 0, none⟩)], .func (.func 23) #[] #[.pointer (some ⟨x.heap.size, 0, none⟩)]] 50)) = Z := ⟨_, rfl⟩
  have hsz : SvZ Z q x.heap.size y1.heap.size (y1.heap.size + 1) P N C (mfL m) := by rw [← hZ]; exact svz_start (by simp) HO1.out HB1.out HO.out
  have hbz : Below x.heap.size x Z := by rw [← hZ]; exact below_next HB2.out ((HB1.out.alloc HB1.out.size _).alloc (Nat.le_trans HB1.out.size (by simp)) _)
  rw [hZ]
  clear hZ
  have HSZ : Hid (SvZ Z q x.heap.size y1.heap.size (y1.heap.size + 1) P N C (mfL m)) := hsz
  have HBY : Hid (Bytes Z P (mfL m) ∧ N ≤ C ∧ (P = none → C = 0)) := hsz.bytes HNL.out
  have HBZ : Hid (Below x.heap.size x Z) := hbz
  obtain ⟨G, hG⟩ : ∃ G : Nat → Prop, (fun k => F k ∨ (x.heap.size ≤ k ∧ k < Z.heap.size)) = G := ⟨_, rfl⟩
  have HD0 : Hid (SvR Z Z base q b A G) := by show SvR _ _ _ _ _ _ _; rw [← hG]; exact SvR.start (HD.out.more hbz)
  have HG : Hid ((∀ k : Nat, F k → G k) ∧ ∀ k : Nat, x.heap.size ≤ k → k < Z.heap.size → G k) := by show _ ∧ _; rw [← hG]; exact ⟨fun k hk => .inl hk, fun k h1 h2 => .inr ⟨h1, h2⟩⟩
  obtain ⟨c0, c1, f0, f1, f2, f3⟩ := hsz.cells
  clear hsz hbz hG
  refine wp_loop_rounds 5 ?_
  rw [rounds_succ]
  go_wp2_with (first
    | (go_at_call 18; refine (create_M HD0.out.d HK.out nT (by decide)).mono ?_; rw [HE1.out]; rintro _ z1 ⟨rfl, hr1⟩; have hd1 : SvR Z z1 base q b A1 G := HD0.out.call hr1; have HD1 : Hid (SvR Z z1 base q b A1 G) := hd1; have hs1 : SvZ z1 q x.heap.size y1.heap.size (y1.heap.size + 1) P N C (mfL m) := HSZ.out.keep (fun k k1 k2 => hd1.k k (HG.out.2 k k1 k2)); have HBY1 : Hid (Bytes z1 P (mfL m)) := (hs1.bytes HNL.out).1; clear c0 c1 f0 f1 f2 f3; obtain ⟨c0, c1, f0, f1, f2, f3⟩ := hs1.cells; clear hr1 hd1 hs1)
    | go_in)
  go_ret
  exact ⟨rfl, (HD1.out.sub HG.out.1).back HBZ.out HX.out.2 HX.out.1⟩
set_option maxRecDepth 20000 in
set_option maxHeartbeats 4000000 in
theorem msave_2 {x : World} {base q b : Nat} {A : Ak} {F : Nat → Prop} (h : DF x base q b A F) (ok : AkOk A) (w0 : World) (hw : Below w0.heap.size w0 x) (hlb : w0.heap.size ≤ base) (ht : Tab w0) (m : Mf) (n : Nat) (a : Option Addr) (cap : Nat) (hn : m.segs.length = n) (hS : Sms x a m.segs) (hl : n ≤ maxLen) (hV : mvB m = true) (A1 : Ak) (h1 : createA A nT = (A1, 0)) (ok1 : AkOk A1) (A2 : Ak) (e2 : Nat) (h2 : appendA A1 nT (mfL m) = (A2, e2)) (ok2 : AkOk A2) (he : e2 ≠ 0) :
    Calls Tryd.prog 6 #[.pointer (some ⟨q, 0, none⟩), MfV m (.slice a n cap)] x fun r x' => r = .returned (.int .i64 (e2 : Nat)) ∧ SvR x x' base q b A2 F := by
  have HN : Hid (m.segs.length = n ∧ n ≤ maxLen) := ⟨hn, hl⟩
  have HX : Hid (base ≤ x.heap.size ∧ ∀ k : Nat, F k → k < x.heap.size) := ⟨h.low2, h.lt⟩
  have hb2 : Below x.heap.size x ((x.alloc (.cells #[.pointer (some ⟨q, 0, none⟩)] 27)).alloc (.cells (mfA m (.slice a n cap)) 24)) := ((Below.refl _ _).alloc (Nat.le_refl _) _).alloc (by simp) _
  have HB2 : Hid (Below x.heap.size x ((x.alloc (.cells #[.pointer (some ⟨q, 0, none⟩)] 27)).alloc (.cells (mfA m (.slice a n cap)) 24))) := hb2
  have HS : Hid (Sms ((x.alloc (.cells #[.pointer (some ⟨q, 0, none⟩)] 27)).alloc (.cells (mfA m (.slice a n cap)) 24)) a m.segs) := hS.keep hb2
  have HT : Hid (Tab w0 ∧ Below w0.heap.size w0 ((x.alloc (.cells #[.pointer (some ⟨q, 0, none⟩)] 27)).alloc (.cells (mfA m (.slice a n cap)) 24))) := ⟨ht, hw.trans (hb2.mono hw.size)⟩
  have HM : Hid (MfAt ((x.alloc (.cells #[.pointer (some ⟨q, 0, none⟩)] 27)).alloc (.cells (mfA m (.slice a n cap)) 24)) (x.heap.size + 1) m (.slice a n cap)) := by
    have := MfAt.new (x.alloc (.cells #[.pointer (some ⟨q, 0, none⟩)] 27)) m (.slice a n cap)
    rw [World.size_alloc] at this
    exact this
  have HD : Hid (DF x base q b A F) := h
  have HO1 : Hid (((x.alloc (.cells #[.pointer (some ⟨q, 0, none⟩)] 27)).alloc (.cells (mfA m (.slice a n cap)) 24)).heap[x.heap.size]? = some (.cells #[.pointer (some ⟨q, 0, none⟩)] 27)) := by
    show _ = _
    rw [((Below.refl (x.alloc (.cells #[.pointer (some ⟨q, 0, none⟩)] 27)).heap.size (x.alloc (.cells #[.pointer (some ⟨q, 0, none⟩)] 27))).alloc (Nat.le_refl _) _).block x.heap.size (by simp)]
    exact heap_alloc_new x _
  have HE : Hid (mfE m = 0) := by show _ = _; unfold mfE; rw [hV]; rfl
  obtain ⟨N, hNN⟩ : ∃ N, (mfL m).length = N := ⟨_, rfl⟩
  have HNL : Hid ((mfL m).length = N) := hNN
  have HNB : Hid (N ≤ 4394) := by show _ ≤ _; rw [← hNN, show mfL m = frameL 4 m.gen.toNat (encAll (mfN m)) from if_pos hV, frameL_length]; have := mf_body hV; omega
  have HO1 : Hid (((x.alloc (.cells #[.pointer (some ⟨q, 0, none⟩)] 27)).alloc (.cells (mfA m (.slice a n cap)) 24)).heap[x.heap.size]? = some (.cells #[.pointer (some ⟨q, 0, none⟩)] 27)) := HO1
  have hmf : ∀ (fn : Fn) (first cap : Array Value) (w : World), (Instr.makeFunc fn first cap).run Tryd.prog w = .ok (.func fn first cap) w := fun _ _ _ _ => rfl
  have HK : Hid (AkOk A) := ok
  have HE1 : Hid (createA A nT = (A1, 0)) := h1
  have HK1 : Hid (AkOk A1) := ok1
  have HE2 : Hid (appendA A1 nT (mfL m) = (A2, e2)) := h2
  have HK2 : Hid (AkOk A2) := ok2
  have hne : ((e2 : Int) == 0) = false := by simp; exact he
  clear h ok hw hlb ht hn hS hl hb2 hV hNN h1 ok1 h2 ok2 he
  go_enter Tryd.func6, Tryd.ntmps6
  go_wp2_with (first
    | ((with_reducible refine frm_load 24 ?_); refine wpList_load_mf rfl _ rfl HM.out rfl ?_)
    | (go_at_call 14; refine (menc_any m n a cap _ HN.out.1 HS.out HN.out.2 (HT.out.1.keep HT.out.2)).mono ?_; rw [HE.out]; rintro _ y1 ⟨v1, rfl, ho1, hb1⟩; obtain ⟨P, C, hv1, hc1, _, hy1, hlo⟩ := ho1.shape; rw [HNL.out] at hv1 hc1; subst hv1; have HO : Hid (Own y1 ((x.alloc (.cells #[.pointer (some ⟨q, 0, none⟩)] 27)).alloc (.cells (mfA m (.slice a n cap)) 24)).heap.size (.slice P N C) (mfL m)) := ho1; have HB1 : Hid (Below ((x.alloc (.cells #[.pointer (some ⟨q, 0, none⟩)] 27)).alloc (.cells (mfA m (.slice a n cap)) 24)).heap.size ((x.alloc (.cells #[.pointer (some ⟨q, 0, none⟩)] 27)).alloc (.cells (mfA m (.slice a n cap)) 24)) y1) := hb1; clear ho1 hb1 hy1 hc1 hlo))
  obtain ⟨Z, hZ⟩ : ∃ Z, ((y1.alloc (.cells #[.slice P N C] 40)).alloc (.cells #[.func (.func 17) #[] #[.pointer (some ⟨x.heap.size, 0, none⟩)], .func (.func 19) #[] #[.pointer (some ⟨x.heap.size, 0, none⟩), .pointer (some ⟨y1.heap.size, 0, none⟩)], .func (.func 21) #[] #[.pointer (some ⟨x.heap.size, 0, none⟩)], .func (.func 23) #[] #[.pointer (some ⟨x.heap.size, 0, none⟩)]] 50)) = Z := ⟨_, rfl⟩
  have hsz : SvZ Z q x.heap.size y1.heap.size (y1.heap.size + 1) P N C (mfL m) := by rw [← hZ]; exact svz_start (by simp) HO1.out HB1.out HO.out
  have hbz : Below x.heap.size x Z := by rw [← hZ]; exact below_next HB2.out ((HB1.out.alloc HB1.out.size _).alloc (Nat.le_trans HB1.out.size (by simp)) _)
  rw [hZ]
  clear hZ
  have HSZ : Hid (SvZ Z q x.heap.size y1.heap.size (y1.heap.size + 1) P N C (mfL m)) := hsz
  have HBY : Hid (Bytes Z P (mfL m) ∧ N ≤ C ∧ (P = none → C = 0)) := hsz.bytes HNL.out
  have HBZ : Hid (Below x.heap.size x Z) := hbz
  obtain ⟨G, hG⟩ : ∃ G : Nat → Prop, (fun k => F k ∨ (x.heap.size ≤ k ∧ k < Z.heap.size)) = G := ⟨_, rfl⟩
  have HD0 : Hid (SvR Z Z base q b A G) := by show SvR _ _ _ _ _ _ _; rw [← hG]; exact SvR.start (HD.out.more hbz)
  have HG : Hid ((∀ k : Nat, F k → G k) ∧ ∀ k : Nat, x.heap.size ≤ k → k < Z.heap.size → G k) := by show _ ∧ _; rw [← hG]; exact ⟨fun k hk => .inl hk, fun k h1 h2 => .inr ⟨h1, h2⟩⟩
  obtain ⟨c0, c1, f0, f1, f2, f3⟩ := hsz.cells
  clear hsz hbz hG
  refine wp_loop_rounds 5 ?_
  rw [rounds_succ]
  go_wp2_with (first
    | (go_at_call 18; refine (create_M HD0.out.d HK.out nT (by decide)).mono ?_; rw [HE1.out]; rintro _ z1 ⟨rfl, hr1⟩; have hd1 : SvR Z z1 base q b A1 G := HD0.out.call hr1; have HD1 : Hid (SvR Z z1 base q b A1 G) := hd1; have hs1 : SvZ z1 q x.heap.size y1.heap.size (y1.heap.size + 1) P N C (mfL m) := HSZ.out.keep (fun k k1 k2 => hd1.k k (HG.out.2 k k1 k2)); have HBY1 : Hid (Bytes z1 P (mfL m)) := (hs1.bytes HNL.out).1; clear c0 c1 f0 f1 f2 f3; obtain ⟨c0, c1, f0, f1, f2, f3⟩ := hs1.cells; clear hr1 hd1 hs1)
    | go_in)
  rw [rounds_succ]
  go_wp2_with (first
    | (go_at_call 20; refine (append_M HD1.out.d HK1.out nT (by decide) P N C (mfL m) HNL.out HBY1.out HBY.out.2.1 HBY.out.2.2 (by have := HNB.out; omega)).mono ?_; rw [HE2.out]; rintro _ z2 ⟨rfl, hr2⟩; have hd2 : SvR Z z2 base q b A2 G := HD1.out.call hr2; have HD2 : Hid (SvR Z z2 base q b A2 G) := hd2; have hs2 : SvZ z2 q x.heap.size y1.heap.size (y1.heap.size + 1) P N C (mfL m) := HSZ.out.keep (fun k k1 k2 => hd2.k k (HG.out.2 k k1 k2)); clear c0 c1 f0 f1 f2 f3; obtain ⟨c0, c1, f0, f1, f2, f3⟩ := hs2.cells; clear hr2 hd2 hs2)
    | go_in)
  go_ret
  exact ⟨rfl, (HD2.out.sub HG.out.1).back HBZ.out HX.out.2 HX.out.1⟩
set_option maxRecDepth 20000 in
set_option maxHeartbeats 4000000 in
theorem msave_3 {x : World} {base q b : Nat} {A : Ak} {F : Nat → Prop} (h : DF x base q b A F) (ok : AkOk A) (w0 : World) (hw : Below w0.heap.size w0 x) (hlb : w0.heap.size ≤ base) (ht : Tab w0) (m : Mf) (n : Nat) (a : Option Addr) (cap : Nat) (hn : m.segs.length = n) (hS : Sms x a m.segs) (hl : n ≤ maxLen) (hV : mvB m = true) (A1 : Ak) (h1 : createA A nT = (A1, 0)) (ok1 : AkOk A1) (A2 : Ak) (h2 : appendA A1 nT (mfL m) = (A2, 0)) (ok2 : AkOk A2) (A3 : Ak) (e3 : Nat) (h3 : syncA A2 nT = (A3, e3)) (ok3 : AkOk A3) (he : e3 ≠ 0) :
    Calls Tryd.prog 6 #[.pointer (some ⟨q, 0, none⟩), MfV m (.slice a n cap)] x fun r x' => r = .returned (.int .i64 (e3 : Nat)) ∧ SvR x x' base q b A3 F := by
  have HN : Hid (m.segs.length = n ∧ n ≤ maxLen) := ⟨hn, hl⟩
  have HX : Hid (base ≤ x.heap.size ∧ ∀ k : Nat, F k → k < x.heap.size) := ⟨h.low2, h.lt⟩
  have hb2 : Below x.heap.size x ((x.alloc (.cells #[.pointer (some ⟨q, 0, none⟩)] 27)).alloc (.cells (mfA m (.slice a n cap)) 24)) := ((Below.refl _ _).alloc (Nat.le_refl _) _).alloc (by simp) _
  have HB2 : Hid (Below x.heap.size x ((x.alloc (.cells #[.pointer (some ⟨q, 0, none⟩)] 27)).alloc (.cells (mfA m (.slice a n cap)) 24))) := hb2
  have HS : Hid (Sms ((x.alloc (.cells #[.pointer (some ⟨q, 0, none⟩)] 27)).alloc (.cells (mfA m (.slice a n cap)) 24)) a m.segs) := hS.keep hb2
  have HT : Hid (Tab w0 ∧ Below w0.heap.size w0 ((x.alloc (.cells #[.pointer (some ⟨q, 0, none⟩)] 27)).alloc (.cells (mfA m (.slice a n cap)) 24))) := ⟨ht, hw.trans (hb2.mono hw.size)⟩
  have HM : Hid (MfAt ((x.alloc (.cells #[.pointer (some ⟨q, 0, none⟩)] 27)).alloc (.cells (mfA m (.slice a n cap)) 24)) (x.heap.size + 1) m (.slice a n cap)) := by
    have := MfAt.new (x.alloc (.cells #[.pointer (some ⟨q, 0, none⟩)] 27)) m (.slice a n cap)
    rw [World.size_alloc] at this
    exact this
  have HD : Hid (DF x base q b A F) := h
  have HO1 : Hid (((x.alloc (.cells #[.pointer (some ⟨q, 0, none⟩)] 27)).alloc (.cells (mfA m (.slice a n cap)) 24)).heap[x.heap.size]? = some (.cells #[.pointer (some ⟨q, 0, none⟩)] 27)) := by
    show _ = _
    rw [((Below.refl (x.alloc (.cells #[.pointer (some ⟨q, 0, none⟩)] 27)).heap.size (x.alloc (.cells #[.pointer (some ⟨q, 0, none⟩)] 27))).alloc (Nat.le_refl _) _).block x.heap.size (by simp)]
    exact heap_alloc_new x _
  have HE : Hid (mfE m = 0) := by show _ = _; unfold mfE; rw [hV]; rfl
  obtain ⟨N, hNN⟩ : ∃ N, (mfL m).length = N := ⟨_, rfl⟩
  have HNL : Hid ((mfL m).length = N) := hNN
  have HNB : Hid (N ≤ 4394) := by show _ ≤ _; rw [← hNN, show mfL m = frameL 4 m.gen.toNat (encAll (mfN m)) from if_pos hV, frameL_length]; have := mf_body hV; omega
  have HO1 : Hid (((x.alloc (.cells #[.pointer (some ⟨q, 0, none⟩)] 27)).alloc (.cells (mfA m (.slice a n cap)) 24)).heap[x.heap.size]? = some (.cells #[.pointer (some ⟨q, 0, none⟩)] 27)) := HO1
  have hmf : ∀ (fn : Fn) (first cap : Array Value) (w : World), (Instr.makeFunc fn first cap).run Tryd.prog w = .ok (.func fn first cap) w := fun _ _ _ _ => rfl
  have HK : Hid (AkOk A) := ok
  have HE1 : Hid (createA A nT = (A1, 0)) := h1
  have HK1 : Hid (AkOk A1) := ok1
  have HE2 : Hid (appendA A1 nT (mfL m) = (A2, 0)) := h2
  have HK2 : Hid (AkOk A2) := ok2
  have HE3 : Hid (syncA A2 nT = (A3, e3)) := h3
  have HK3 : Hid (AkOk A3) := ok3
  have hne : ((e3 : Int) == 0) = false := by simp; exact he
  clear h ok hw hlb ht hn hS hl hb2 hV hNN h1 ok1 h2 ok2 h3 ok3 he
  go_enter Tryd.func6, Tryd.ntmps6
  go_wp2_with (first
    | ((with_reducible refine frm_load 24 ?_); refine wpList_load_mf rfl _ rfl HM.out rfl ?_)
    | (go_at_call 14; refine (menc_any m n a cap _ HN.out.1 HS.out HN.out.2 (HT.out.1.keep HT.out.2)).mono ?_; rw [HE.out]; rintro _ y1 ⟨v1, rfl, ho1, hb1⟩; obtain ⟨P, C, hv1, hc1, _, hy1, hlo⟩ := ho1.shape; rw [HNL.out] at hv1 hc1; subst hv1; have HO : Hid (Own y1 ((x.alloc (.cells #[.pointer (some ⟨q, 0, none⟩)] 27)).alloc (.cells (mfA m (.slice a n cap)) 24)).heap.size (.slice P N C) (mfL m)) := ho1; have HB1 : Hid (Below ((x.alloc (.cells #[.pointer (some ⟨q, 0, none⟩)] 27)).alloc (.cells (mfA m (.slice a n cap)) 24)).heap.size ((x.alloc (.cells #[.pointer (some ⟨q, 0, none⟩)] 27)).alloc (.cells (mfA m (.slice a n cap)) 24)) y1) := hb1; clear ho1 hb1 hy1 hc1 hlo))
  obtain ⟨Z, hZ⟩ : ∃ Z, ((y1.alloc (.cells #[.slice P N C] 40)).alloc (.cells #[.func (.func 17) #[] #[.pointer (some ⟨x.heap.size, 0, none⟩)], .func (.func 19) #[] #[.pointer (some ⟨x.heap.size, 0, none⟩), .pointer (some ⟨y1.heap.size, 0, none⟩)], .func (.func 21) #[] #[.pointer (some ⟨x.heap.size, 0, none⟩)], .func (.func 23) #[] #[.pointer (some ⟨x.heap.size, 0, none⟩)]] 50)) = Z := ⟨_, rfl⟩
  have hsz : SvZ Z q x.heap.size y1.heap.size (y1.heap.size + 1) P N C (mfL m) := by rw [← hZ]; exact svz_start (by simp) HO1.out HB1.out HO.out
  have hbz : Below x.heap.size x Z := by rw [← hZ]; exact below_next HB2.out ((HB1.out.alloc HB1.out.size _).alloc (Nat.le_trans HB1.out.size (by simp)) _)
  rw [hZ]
  clear hZ
  have HSZ : Hid (SvZ Z q x.heap.size y1.heap.size (y1.heap.size + 1) P N C (mfL m)) := hsz
  have HBY : Hid (Bytes Z P (mfL m) ∧ N ≤ C ∧ (P = none → C = 0)) := hsz.bytes HNL.out
  have HBZ : Hid (Below x.heap.size x Z) := hbz
  obtain ⟨G, hG⟩ : ∃ G : Nat → Prop, (fun k => F k ∨ (x.heap.size ≤ k ∧ k < Z.heap.size)) = G := ⟨_, rfl⟩
  have HD0 : Hid (SvR Z Z base q b A G) := by show SvR _ _ _ _ _ _ _; rw [← hG]; exact SvR.start (HD.out.more hbz)
  have HG : Hid ((∀ k : Nat, F k → G k) ∧ ∀ k : Nat, x.heap.size ≤ k → k < Z.heap.size → G k) := by show _ ∧ _; rw [← hG]; exact ⟨fun k hk => .inl hk, fun k h1 h2 => .inr ⟨h1, h2⟩⟩
  obtain ⟨c0, c1, f0, f1, f2, f3⟩ := hsz.cells
  clear hsz hbz hG
  refine wp_loop_rounds 5 ?_
  rw [rounds_succ]
  go_wp2_with (first
    | (go_at_call 18; refine (create_M HD0.out.d HK.out nT (by decide)).mono ?_; rw [HE1.out]; rintro _ z1 ⟨rfl, hr1⟩; have hd1 : SvR Z z1 base q b A1 G := HD0.out.call hr1; have HD1 : Hid (SvR Z z1 base q b A1 G) := hd1; have hs1 : SvZ z1 q x.heap.size y1.heap.size (y1.heap.size + 1) P N C (mfL m) := HSZ.out.keep (fun k k1 k2 => hd1.k k (HG.out.2 k k1 k2)); have HBY1 : Hid (Bytes z1 P (mfL m)) := (hs1.bytes HNL.out).1; clear c0 c1 f0 f1 f2 f3; obtain ⟨c0, c1, f0, f1, f2, f3⟩ := hs1.cells; clear hr1 hd1 hs1)
    | go_in)
  rw [rounds_succ]
  go_wp2_with (first
    | (go_at_call 20; refine (append_M HD1.out.d HK1.out nT (by decide) P N C (mfL m) HNL.out HBY1.out HBY.out.2.1 HBY.out.2.2 (by have := HNB.out; omega)).mono ?_; rw [HE2.out]; rintro _ z2 ⟨rfl, hr2⟩; have hd2 : SvR Z z2 base q b A2 G := HD1.out.call hr2; have HD2 : Hid (SvR Z z2 base q b A2 G) := hd2; have hs2 : SvZ z2 q x.heap.size y1.heap.size (y1.heap.size + 1) P N C (mfL m) := HSZ.out.keep (fun k k1 k2 => hd2.k k (HG.out.2 k k1 k2)); clear c0 c1 f0 f1 f2 f3; obtain ⟨c0, c1, f0, f1, f2, f3⟩ := hs2.cells; clear hr2 hd2 hs2)
    | go_in)
  rw [rounds_succ]
  go_wp2_with (first
    | (go_at_call 22; refine (sync_M HD2.out.d HK2.out nT (by decide)).mono ?_; rw [HE3.out]; rintro _ z3 ⟨rfl, hr3⟩; have hd3 : SvR Z z3 base q b A3 G := HD2.out.call hr3; have HD3 : Hid (SvR Z z3 base q b A3 G) := hd3; have hs3 : SvZ z3 q x.heap.size y1.heap.size (y1.heap.size + 1) P N C (mfL m) := HSZ.out.keep (fun k k1 k2 => hd3.k k (HG.out.2 k k1 k2)); clear c0 c1 f0 f1 f2 f3; obtain ⟨c0, c1, f0, f1, f2, f3⟩ := hs3.cells; clear hr3 hd3 hs3)
    | go_in)
  go_ret
  exact ⟨rfl, (HD3.out.sub HG.out.1).back HBZ.out HX.out.2 HX.out.1⟩
set_option maxRecDepth 20000 in
set_option maxHeartbeats 4000000 in
theorem msave_4 {x : World} {base q b : Nat} {A : Ak} {F : Nat → Prop} (h : DF x base q b A F) (ok : AkOk A) (w0 : World) (hw : Below w0.heap.size w0 x) (hlb : w0.heap.size ≤ base) (ht : Tab w0) (m : Mf) (n : Nat) (a : Option Addr) (cap : Nat) (hn : m.segs.length = n) (hS : Sms x a m.segs) (hl : n ≤ maxLen) (hV : mvB m = true) (A1 : Ak) (h1 : createA A nT = (A1, 0)) (ok1 : AkOk A1) (A2 : Ak) (h2 : appendA A1 nT (mfL m) = (A2, 0)) (ok2 : AkOk A2) (A3 : Ak) (h3 : syncA A2 nT = (A3, 0)) (ok3 : AkOk A3) (A4 : Ak) (e4 : Nat) (h4 : renameA A3 nT nM = (A4, e4)) (ok4 : AkOk A4) (he : e4 ≠ 0) :
    Calls Tryd.prog 6 #[.pointer (some ⟨q, 0, none⟩), MfV m (.slice a n cap)] x fun r x' => r = .returned (.int .i64 (e4 : Nat)) ∧ SvR x x' base q b A4 F := by
  have HN : Hid (m.segs.length = n ∧ n ≤ maxLen) := ⟨hn, hl⟩
  have HX : Hid (base ≤ x.heap.size ∧ ∀ k : Nat, F k → k < x.heap.size) := ⟨h.low2, h.lt⟩
  have hb2 : Below x.heap.size x ((x.alloc (.cells #[.pointer (some ⟨q, 0, none⟩)] 27)).alloc (.cells (mfA m (.slice a n cap)) 24)) := ((Below.refl _ _).alloc (Nat.le_refl _) _).alloc (by simp) _
  have HB2 : Hid (Below x.heap.size x ((x.alloc (.cells #[.pointer (some ⟨q, 0, none⟩)] 27)).alloc (.cells (mfA m (.slice a n cap)) 24))) := hb2
  have HS : Hid (Sms ((x.alloc (.cells #[.pointer (some ⟨q, 0, none⟩)] 27)).alloc (.cells (mfA m (.slice a n cap)) 24)) a m.segs) := hS.keep hb2
  have HT : Hid (Tab w0 ∧ Below w0.heap.size w0 ((x.alloc (.cells #[.pointer (some ⟨q, 0, none⟩)] 27)).alloc (.cells (mfA m (.slice a n cap)) 24))) := ⟨ht, hw.trans (hb2.mono hw.size)⟩
  have HM : Hid (MfAt ((x.alloc (.cells #[.pointer (some ⟨q, 0, none⟩)] 27)).alloc (.cells (mfA m (.slice a n cap)) 24)) (x.heap.size + 1) m (.slice a n cap)) := by
    have := MfAt.new (x.alloc (.cells #[.pointer (some ⟨q, 0, none⟩)] 27)) m (.slice a n cap)
    rw [World.size_alloc] at this
    exact this
  have HD : Hid (DF x base q b A F) := h
  have HO1 : Hid (((x.alloc (.cells #[.pointer (some ⟨q, 0, none⟩)] 27)).alloc (.cells (mfA m (.slice a n cap)) 24)).heap[x.heap.size]? = some (.cells #[.pointer (some ⟨q, 0, none⟩)] 27)) := by
    show _ = _
    rw [((Below.refl (x.alloc (.cells #[.pointer (some ⟨q, 0, none⟩)] 27)).heap.size (x.alloc (.cells #[.pointer (some ⟨q, 0, none⟩)] 27))).alloc (Nat.le_refl _) _).block x.heap.size (by simp)]
    exact heap_alloc_new x _
  have HE : Hid (mfE m = 0) := by show _ = _; unfold mfE; rw [hV]; rfl
  obtain ⟨N, hNN⟩ : ∃ N, (mfL m).length = N := ⟨_, rfl⟩
  have HNL : Hid ((mfL m).length = N) := hNN
  have HNB : Hid (N ≤ 4394) := by show _ ≤ _; rw [← hNN, show mfL m = frameL 4 m.gen.toNat (encAll (mfN m)) from if_pos hV, frameL_length]; have := mf_body hV; omega
  have HO1 : Hid (((x.alloc (.cells #[.pointer (some ⟨q, 0, none⟩)] 27)).alloc (.cells (mfA m (.slice a n cap)) 24)).heap[x.heap.size]? = some (.cells #[.pointer (some ⟨q, 0, none⟩)] 27)) := HO1
  have hmf : ∀ (fn : Fn) (first cap : Array Value) (w : World), (Instr.makeFunc fn first cap).run Tryd.prog w = .ok (.func fn first cap) w := fun _ _ _ _ => rfl
  have HK : Hid (AkOk A) := ok
  have HE1 : Hid (createA A nT = (A1, 0)) := h1
  have HK1 : Hid (AkOk A1) := ok1
  have HE2 : Hid (appendA A1 nT (mfL m) = (A2, 0)) := h2
  have HK2 : Hid (AkOk A2) := ok2
  have HE3 : Hid (syncA A2 nT = (A3, 0)) := h3
  have HK3 : Hid (AkOk A3) := ok3
  have HE4 : Hid (renameA A3 nT nM = (A4, e4)) := h4
  have HK4 : Hid (AkOk A4) := ok4
  have hne : ((e4 : Int) == 0) = false := by simp; exact he
  clear h ok hw hlb ht hn hS hl hb2 hV hNN h1 ok1 h2 ok2 h3 ok3 h4 ok4 he
  go_enter Tryd.func6, Tryd.ntmps6
  go_wp2_with (first
    | ((with_reducible refine frm_load 24 ?_); refine wpList_load_mf rfl _ rfl HM.out rfl ?_)
    | (go_at_call 14; refine (menc_any m n a cap _ HN.out.1 HS.out HN.out.2 (HT.out.1.keep HT.out.2)).mono ?_; rw [HE.out]; rintro _ y1 ⟨v1, rfl, ho1, hb1⟩; obtain ⟨P, C, hv1, hc1, _, hy1, hlo⟩ := ho1.shape; rw [HNL.out] at hv1 hc1; subst hv1; have HO : Hid (Own y1 ((x.alloc (.cells #[.pointer (some ⟨q, 0, none⟩)] 27)).alloc (.cells (mfA m (.slice a n cap)) 24)).heap.size (.slice P N C) (mfL m)) := ho1; have HB1 : Hid (Below ((x.alloc (.cells #[.pointer (some ⟨q, 0, none⟩)] 27)).alloc (.cells (mfA m (.slice a n cap)) 24)).heap.size ((x.alloc (.cells #[.pointer (some ⟨q, 0, none⟩)] 27)).alloc (.cells (mfA m (.slice a n cap)) 24)) y1) := hb1; clear ho1 hb1 hy1 hc1 hlo))
  obtain ⟨Z, hZ⟩ : ∃ Z, ((y1.alloc (.cells #[.slice P N C] 40)).alloc (.cells #[.func (.func 17) #[] #[.pointer (some ⟨x.heap.size, 0, none⟩)], .func (.func 19) #[] #[.pointer (some ⟨x.heap.size, 0, none⟩), .pointer (some ⟨y1.heap.size, 0, none⟩)], .func (.func 21) #[] #[.pointer (some ⟨x.heap.size, 0, none⟩)], .func (.func 23) #[] #[.pointer (some ⟨x.heap.size, 0, none⟩)]] 50)) = Z := ⟨_, rfl⟩
  have hsz : SvZ Z q x.heap.size y1.heap.size (y1.heap.size + 1) P N C (mfL m) := by rw [← hZ]; exact svz_start (by simp) HO1.out HB1.out HO.out
  have hbz : Below x.heap.size x Z := by rw [← hZ]; exact below_next HB2.out ((HB1.out.alloc HB1.out.size _).alloc (Nat.le_trans HB1.out.size (by simp)) _)
  rw [hZ]
  clear hZ
  have HSZ : Hid (SvZ Z q x.heap.size y1.heap.size (y1.heap.size + 1) P N C (mfL m)) := hsz
  have HBY : Hid (Bytes Z P (mfL m) ∧ N ≤ C ∧ (P = none → C = 0)) := hsz.bytes HNL.out
  have HBZ : Hid (Below x.heap.size x Z) := hbz
  obtain ⟨G, hG⟩ : ∃ G : Nat → Prop, (fun k => F k ∨ (x.heap.size ≤ k ∧ k < Z.heap.size)) = G := ⟨_, rfl⟩
  have HD0 : Hid (SvR Z Z base q b A G) := by show SvR _ _ _ _ _ _ _; rw [← hG]; exact SvR.start (HD.out.more hbz)
  have HG : Hid ((∀ k : Nat, F k → G k) ∧ ∀ k : Nat, x.heap.size ≤ k → k < Z.heap.size → G k) := by show _ ∧ _; rw [← hG]; exact ⟨fun k hk => .inl hk, fun k h1 h2 => .inr ⟨h1, h2⟩⟩
  obtain ⟨c0, c1, f0, f1, f2, f3⟩ := hsz.cells
  clear hsz hbz hG
  refine wp_loop_rounds 5 ?_
  rw [rounds_succ]
  go_wp2_with (first
    | (go_at_call 18; refine (create_M HD0.out.d HK.out nT (by decide)).mono ?_; rw [HE1.out]; rintro _ z1 ⟨rfl, hr1⟩; have hd1 : SvR Z z1 base q b A1 G := HD0.out.call hr1; have HD1 : Hid (SvR Z z1 base q b A1 G) := hd1; have hs1 : SvZ z1 q x.heap.size y1.heap.size (y1.heap.size + 1) P N C (mfL m) := HSZ.out.keep (fun k k1 k2 => hd1.k k (HG.out.2 k k1 k2)); have HBY1 : Hid (Bytes z1 P (mfL m)) := (hs1.bytes HNL.out).1; clear c0 c1 f0 f1 f2 f3; obtain ⟨c0, c1, f0, f1, f2, f3⟩ := hs1.cells; clear hr1 hd1 hs1)
    | go_in)
  rw [rounds_succ]
  go_wp2_with (first
    | (go_at_call 20; refine (append_M HD1.out.d HK1.out nT (by decide) P N C (mfL m) HNL.out HBY1.out HBY.out.2.1 HBY.out.2.2 (by have := HNB.out; omega)).mono ?_; rw [HE2.out]; rintro _ z2 ⟨rfl, hr2⟩; have hd2 : SvR Z z2 base q b A2 G := HD1.out.call hr2; have HD2 : Hid (SvR Z z2 base q b A2 G) := hd2; have hs2 : SvZ z2 q x.heap.size y1.heap.size (y1.heap.size + 1) P N C (mfL m) := HSZ.out.keep (fun k k1 k2 => hd2.k k (HG.out.2 k k1 k2)); clear c0 c1 f0 f1 f2 f3; obtain ⟨c0, c1, f0, f1, f2, f3⟩ := hs2.cells; clear hr2 hd2 hs2)
    | go_in)
  rw [rounds_succ]
  go_wp2_with (first
    | (go_at_call 22; refine (sync_M HD2.out.d HK2.out nT (by decide)).mono ?_; rw [HE3.out]; rintro _ z3 ⟨rfl, hr3⟩; have hd3 : SvR Z z3 base q b A3 G := HD2.out.call hr3; have HD3 : Hid (SvR Z z3 base q b A3 G) := hd3; have hs3 : SvZ z3 q x.heap.size y1.heap.size (y1.heap.size + 1) P N C (mfL m) := HSZ.out.keep (fun k k1 k2 => hd3.k k (HG.out.2 k k1 k2)); clear c0 c1 f0 f1 f2 f3; obtain ⟨c0, c1, f0, f1, f2, f3⟩ := hs3.cells; clear hr3 hd3 hs3)
    | go_in)
  rw [rounds_succ]
  go_wp2_with (first
    | (go_at_call 24; refine (rename_M HD3.out.d HK3.out nT nM (by decide) (by decide)).mono ?_; rw [HE4.out]; rintro _ z4 ⟨rfl, hr4⟩; have hd4 : SvR Z z4 base q b A4 G := HD3.out.call hr4; have HD4 : Hid (SvR Z z4 base q b A4 G) := hd4; have hs4 : SvZ z4 q x.heap.size y1.heap.size (y1.heap.size + 1) P N C (mfL m) := HSZ.out.keep (fun k k1 k2 => hd4.k k (HG.out.2 k k1 k2)); clear c0 c1 f0 f1 f2 f3; obtain ⟨c0, c1, f0, f1, f2, f3⟩ := hs4.cells; clear hr4 hd4 hs4)
    | go_in)
  go_ret
  exact ⟨rfl, (HD4.out.sub HG.out.1).back HBZ.out HX.out.2 HX.out.1⟩
set_option maxRecDepth 20000 in
set_option maxHeartbeats 4000000 in
theorem msave_4w {x : World} {base q b : Nat} {A : Ak} {F : Nat → Prop} (h : DF x base q b A F) (ok : AkOk A) (w0 : World) (hw : Below w0.heap.size w0 x) (hlb : w0.heap.size ≤ base) (ht : Tab w0) (m : Mf) (n : Nat) (a : Option Addr) (cap : Nat) (hn : m.segs.length = n) (hS : Sms x a m.segs) (hl : n ≤ maxLen) (hV : mvB m = true) (A1 : Ak) (h1 : createA A nT = (A1, 0)) (ok1 : AkOk A1) (A2 : Ak) (h2 : appendA A1 nT (mfL m) = (A2, 0)) (ok2 : AkOk A2) (A3 : Ak) (h3 : syncA A2 nT = (A3, 0)) (ok3 : AkOk A3) (A4 : Ak) (h4 : renameA A3 nT nM = (A4, 0)) (ok4 : AkOk A4) :
    Calls Tryd.prog 6 #[.pointer (some ⟨q, 0, none⟩), MfV m (.slice a n cap)] x fun r x' => r = .returned (.int .i64 (0 : Nat)) ∧ SvR x x' base q b A4 F := by
  have HN : Hid (m.segs.length = n ∧ n ≤ maxLen) := ⟨hn, hl⟩
  have HX : Hid (base ≤ x.heap.size ∧ ∀ k : Nat, F k → k < x.heap.size) := ⟨h.low2, h.lt⟩
  have hb2 : Below x.heap.size x ((x.alloc (.cells #[.pointer (some ⟨q, 0, none⟩)] 27)).alloc (.cells (mfA m (.slice a n cap)) 24)) := ((Below.refl _ _).alloc (Nat.le_refl _) _).alloc (by simp) _
  have HB2 : Hid (Below x.heap.size x ((x.alloc (.cells #[.pointer (some ⟨q, 0, none⟩)] 27)).alloc (.cells (mfA m (.slice a n cap)) 24))) := hb2
  have HS : Hid (Sms ((x.alloc (.cells #[.pointer (some ⟨q, 0, none⟩)] 27)).alloc (.cells (mfA m (.slice a n cap)) 24)) a m.segs) := hS.keep hb2
  have HT : Hid (Tab w0 ∧ Below w0.heap.size w0 ((x.alloc (.cells #[.pointer (some ⟨q, 0, none⟩)] 27)).alloc (.cells (mfA m (.slice a n cap)) 24))) := ⟨ht, hw.trans (hb2.mono hw.size)⟩
  have HM : Hid (MfAt ((x.alloc (.cells #[.pointer (some ⟨q, 0, none⟩)] 27)).alloc (.cells (mfA m (.slice a n cap)) 24)) (x.heap.size + 1) m (.slice a n cap)) := by
    have := MfAt.new (x.alloc (.cells #[.pointer (some ⟨q, 0, none⟩)] 27)) m (.slice a n cap)
    rw [World.size_alloc] at this
    exact this
  have HD : Hid (DF x base q b A F) := h
  have HO1 : Hid (((x.alloc (.cells #[.pointer (some ⟨q, 0, none⟩)] 27)).alloc (.cells (mfA m (.slice a n cap)) 24)).heap[x.heap.size]? = some (.cells #[.pointer (some ⟨q, 0, none⟩)] 27)) := by
    show _ = _
    rw [((Below.refl (x.alloc (.cells #[.pointer (some ⟨q, 0, none⟩)] 27)).heap.size (x.alloc (.cells #[.pointer (some ⟨q, 0, none⟩)] 27))).alloc (Nat.le_refl _) _).block x.heap.size (by simp)]
    exact heap_alloc_new x _
  have HE : Hid (mfE m = 0) := by show _ = _; unfold mfE; rw [hV]; rfl
  obtain ⟨N, hNN⟩ : ∃ N, (mfL m).length = N := ⟨_, rfl⟩
  have HNL : Hid ((mfL m).length = N) := hNN
  have HNB : Hid (N ≤ 4394) := by show _ ≤ _; rw [← hNN, show mfL m = frameL 4 m.gen.toNat (encAll (mfN m)) from if_pos hV, frameL_length]; have := mf_body hV; omega
  have HO1 : Hid (((x.alloc (.cells #[.pointer (some ⟨q, 0, none⟩)] 27)).alloc (.cells (mfA m (.slice a n cap)) 24)).heap[x.heap.size]? = some (.cells #[.pointer (some ⟨q, 0, none⟩)] 27)) := HO1
  have hmf : ∀ (fn : Fn) (first cap : Array Value) (w : World), (Instr.makeFunc fn first cap).run Tryd.prog w = .ok (.func fn first cap) w := fun _ _ _ _ => rfl
  have HK : Hid (AkOk A) := ok
  have HE1 : Hid (createA A nT = (A1, 0)) := h1
  have HK1 : Hid (AkOk A1) := ok1
  have HE2 : Hid (appendA A1 nT (mfL m) = (A2, 0)) := h2
  have HK2 : Hid (AkOk A2) := ok2
  have HE3 : Hid (syncA A2 nT = (A3, 0)) := h3
  have HK3 : Hid (AkOk A3) := ok3
  have HE4 : Hid (renameA A3 nT nM = (A4, 0)) := h4
  have HK4 : Hid (AkOk A4) := ok4
  clear h ok hw hlb ht hn hS hl hb2 hV hNN h1 ok1 h2 ok2 h3 ok3 h4 ok4
  go_enter Tryd.func6, Tryd.ntmps6
  go_wp2_with (first
    | ((with_reducible refine frm_load 24 ?_); refine wpList_load_mf rfl _ rfl HM.out rfl ?_)
    | (go_at_call 14; refine (menc_any m n a cap _ HN.out.1 HS.out HN.out.2 (HT.out.1.keep HT.out.2)).mono ?_; rw [HE.out]; rintro _ y1 ⟨v1, rfl, ho1, hb1⟩; obtain ⟨P, C, hv1, hc1, _, hy1, hlo⟩ := ho1.shape; rw [HNL.out] at hv1 hc1; subst hv1; have HO : Hid (Own y1 ((x.alloc (.cells #[.pointer (some ⟨q, 0, none⟩)] 27)).alloc (.cells (mfA m (.slice a n cap)) 24)).heap.size (.slice P N C) (mfL m)) := ho1; have HB1 : Hid (Below ((x.alloc (.cells #[.pointer (some ⟨q, 0, none⟩)] 27)).alloc (.cells (mfA m (.slice a n cap)) 24)).heap.size ((x.alloc (.cells #[.pointer (some ⟨q, 0, none⟩)] 27)).alloc (.cells (mfA m (.slice a n cap)) 24)) y1) := hb1; clear ho1 hb1 hy1 hc1 hlo))
  obtain ⟨Z, hZ⟩ : ∃ Z, ((y1.alloc (.cells #[.slice P N C] 40)).alloc (.cells #[.func (.func 17) #[] #[.pointer (some ⟨x.heap.size, 0, none⟩)], .func (.func 19) #[] #[.pointer (some ⟨x.heap.size, 0, none⟩), .pointer (some ⟨y1.heap.size, 0, none⟩)], .func (.func 21) #[] #[.pointer (some ⟨x.heap.size, 0, none⟩)], .func (.func 23) #[] #[.pointer (some ⟨x.heap.size, 0, none⟩)]] 50)) = Z := ⟨_, rfl⟩
  have hsz : SvZ Z q x.heap.size y1.heap.size (y1.heap.size + 1) P N C (mfL m) := by rw [← hZ]; exact svz_start (by simp) HO1.out HB1.out HO.out
  have hbz : Below x.heap.size x Z := by rw [← hZ]; exact below_next HB2.out ((HB1.out.alloc HB1.out.size _).alloc (Nat.le_trans HB1.out.size (by simp)) _)
  rw [hZ]
  clear hZ
  have HSZ : Hid (SvZ Z q x.heap.size y1.heap.size (y1.heap.size + 1) P N C (mfL m)) := hsz
  have HBY : Hid (Bytes Z P (mfL m) ∧ N ≤ C ∧ (P = none → C = 0)) := hsz.bytes HNL.out
  have HBZ : Hid (Below x.heap.size x Z) := hbz
  obtain ⟨G, hG⟩ : ∃ G : Nat → Prop, (fun k => F k ∨ (x.heap.size ≤ k ∧ k < Z.heap.size)) = G := ⟨_, rfl⟩
  have HD0 : Hid (SvR Z Z base q b A G) := by show SvR _ _ _ _ _ _ _; rw [← hG]; exact SvR.start (HD.out.more hbz)
  have HG : Hid ((∀ k : Nat, F k → G k) ∧ ∀ k : Nat, x.heap.size ≤ k → k < Z.heap.size → G k) := by show _ ∧ _; rw [← hG]; exact ⟨fun k hk => .inl hk, fun k h1 h2 => .inr ⟨h1, h2⟩⟩
  obtain ⟨c0, c1, f0, f1, f2, f3⟩ := hsz.cells
  clear hsz hbz hG
  refine wp_loop_rounds 5 ?_
  rw [rounds_succ]
  go_wp2_with (first
    | (go_at_call 18; refine (create_M HD0.out.d HK.out nT (by decide)).mono ?_; rw [HE1.out]; rintro _ z1 ⟨rfl, hr1⟩; have hd1 : SvR Z z1 base q b A1 G := HD0.out.call hr1; have HD1 : Hid (SvR Z z1 base q b A1 G) := hd1; have hs1 : SvZ z1 q x.heap.size y1.heap.size (y1.heap.size + 1) P N C (mfL m) := HSZ.out.keep (fun k k1 k2 => hd1.k k (HG.out.2 k k1 k2)); have HBY1 : Hid (Bytes z1 P (mfL m)) := (hs1.bytes HNL.out).1; clear c0 c1 f0 f1 f2 f3; obtain ⟨c0, c1, f0, f1, f2, f3⟩ := hs1.cells; clear hr1 hd1 hs1)
    | go_in)
  rw [rounds_succ]
  go_wp2_with (first
    | (go_at_call 20; refine (append_M HD1.out.d HK1.out nT (by decide) P N C (mfL m) HNL.out HBY1.out HBY.out.2.1 HBY.out.2.2 (by have := HNB.out; omega)).mono ?_; rw [HE2.out]; rintro _ z2 ⟨rfl, hr2⟩; have hd2 : SvR Z z2 base q b A2 G := HD1.out.call hr2; have HD2 : Hid (SvR Z z2 base q b A2 G) := hd2; have hs2 : SvZ z2 q x.heap.size y1.heap.size (y1.heap.size + 1) P N C (mfL m) := HSZ.out.keep (fun k k1 k2 => hd2.k k (HG.out.2 k k1 k2)); clear c0 c1 f0 f1 f2 f3; obtain ⟨c0, c1, f0, f1, f2, f3⟩ := hs2.cells; clear hr2 hd2 hs2)
    | go_in)
  rw [rounds_succ]
  go_wp2_with (first
    | (go_at_call 22; refine (sync_M HD2.out.d HK2.out nT (by decide)).mono ?_; rw [HE3.out]; rintro _ z3 ⟨rfl, hr3⟩; have hd3 : SvR Z z3 base q b A3 G := HD2.out.call hr3; have HD3 : Hid (SvR Z z3 base q b A3 G) := hd3; have hs3 : SvZ z3 q x.heap.size y1.heap.size (y1.heap.size + 1) P N C (mfL m) := HSZ.out.keep (fun k k1 k2 => hd3.k k (HG.out.2 k k1 k2)); clear c0 c1 f0 f1 f2 f3; obtain ⟨c0, c1, f0, f1, f2, f3⟩ := hs3.cells; clear hr3 hd3 hs3)
    | go_in)
  rw [rounds_succ]
  go_wp2_with (first
    | (go_at_call 24; refine (rename_M HD3.out.d HK3.out nT nM (by decide) (by decide)).mono ?_; rw [HE4.out]; rintro _ z4 ⟨rfl, hr4⟩; have hd4 : SvR Z z4 base q b A4 G := HD3.out.call hr4; have HD4 : Hid (SvR Z z4 base q b A4 G) := hd4; have hs4 : SvZ z4 q x.heap.size y1.heap.size (y1.heap.size + 1) P N C (mfL m) := HSZ.out.keep (fun k k1 k2 => hd4.k k (HG.out.2 k k1 k2)); clear c0 c1 f0 f1 f2 f3; obtain ⟨c0, c1, f0, f1, f2, f3⟩ := hs4.cells; clear hr4 hd4 hs4)
    | go_in)
  rw [rounds_succ]
  go_wp2
  go_ret
  exact ⟨rfl, (HD4.out.sub HG.out.1).back HBZ.out HX.out.2 HX.out.1⟩
theorem msave_M {x : World} {base q b : Nat} {A : Ak} {F : Nat → Prop} (h : DF x base q b A F) (ok : AkOk A) (w0 : World) (hw : Below w0.heap.size w0 x) (hlb : w0.heap.size ≤ base) (ht : Tab w0) (m : Mf) (n : Nat) (a : Option Addr) (cap : Nat) (hn : m.segs.length = n) (hS : Sms x a m.segs) (hl : n ≤ maxLen) :
    Calls Tryd.prog 6 #[.pointer (some ⟨q, 0, none⟩), MfV m (.slice a n cap)] x fun r x' => r = .returned (.int .i64 ((msaveA A m).2 : Nat)) ∧ SvR x x' base q b (msaveA A m).1 F := by
  cases hV : mvB m with
  | false =>
    have e : msaveA A m = (A, 80) := by unfold msaveA; rw [hV]; rfl
    rw [e]
    exact msave_bad h ok w0 hw hlb ht m n a cap hn hS hl hV
  | true =>
    have e : msaveA A m = saveA A (mfL m) := if_pos hV
    rw [e]
    unfold saveA
    obtain ⟨⟨A1, e1⟩, h1⟩ : ∃ R, createA A nT = R := ⟨_, rfl⟩
    have ok1 : AkOk A1 := by have := createA_ok ok nT; rw [h1] at this; exact this
    rw [h1]
    by_cases he1 : e1 = 0
    · subst he1
      simp only [thenA, if_true]
      obtain ⟨⟨A2, e2⟩, h2⟩ : ∃ R, appendA A1 nT (mfL m) = R := ⟨_, rfl⟩
      have ok2 : AkOk A2 := by have := appendA_ok ok1 nT (mfL m); rw [h2] at this; exact this
      rw [h2]
      by_cases he2 : e2 = 0
      · subst he2
        simp only [if_true]
        obtain ⟨⟨A3, e3⟩, h3⟩ : ∃ R, syncA A2 nT = R := ⟨_, rfl⟩
        have ok3 : AkOk A3 := by have := syncA_ok ok2 nT; rw [h3] at this; exact this
        rw [h3]
        by_cases he3 : e3 = 0
        · subst he3
          simp only [if_true]
          obtain ⟨⟨A4, e4⟩, h4⟩ : ∃ R, renameA A3 nT nM = R := ⟨_, rfl⟩
          have ok4 : AkOk A4 := by have := renameA_ok ok3 nT nM; rw [h4] at this; exact this
          rw [h4]
          by_cases he4 : e4 = 0
          · subst he4
            exact msave_4w h ok w0 hw hlb ht m n a cap hn hS hl hV A1 h1 ok1 A2 h2 ok2 A3 h3 ok3 A4 h4 ok4
          · exact msave_4 h ok w0 hw hlb ht m n a cap hn hS hl hV A1 h1 ok1 A2 h2 ok2 A3 h3 ok3 A4 e4 h4 ok4 he4
        · simp only [if_neg he3]
          exact msave_3 h ok w0 hw hlb ht m n a cap hn hS hl hV A1 h1 ok1 A2 h2 ok2 A3 e3 h3 ok3 he3
      · simp only [if_neg he2]
        exact msave_2 h ok w0 hw hlb ht m n a cap hn hS hl hV A1 h1 ok1 A2 e2 h2 ok2 he2
    · simp only [thenA, if_neg he1]
      exact msave_1 h ok w0 hw hlb ht m n a cap hn hS hl hV A1 e1 h1 ok1 he1
end Go.Proofs.YtnfkdgjgglnniaaDoor
namespace Go.Proofs.YtnfkdgjgglnniaaDoor
open Go.ChangeShapes Go.WideShapes Go.ChangeAt Go.RowKit
set_option linter.unusedVariables false
def noF : Nat → Prop := fun _ => False
theorem SvR.comp {x y z : World} {base q b : Nat} {A A2 : Ak} {F : Nat → Prop} (h : SvR x y base q b A F) (r : SvR y z base q b A2 F) : SvR x z base q b A2 F := h.call ⟨r.d, r.k, r.b⟩
theorem SvR.low {x y w1 : World} {q b : Nat} {A : Ak} {F : Nat → Prop} (h : SvR x y w1.heap.size q b A F) (hb : Below w1.heap.size w1 x) : Below w1.heap.size w1 y := hb.trans h.b
theorem first_u (u : Mf) (hu : m1 = u) (w : World) : Calls Tryd.prog 7 #[] w fun e w' => ∃ g, e = .returned (MfV u (.slice (some ⟨g, 0, none⟩) 1 1)) ∧ Sms w' (some ⟨g, 0, none⟩) u.segs ∧ w.heap.size ≤ g ∧ g < w'.heap.size ∧ Below w.heap.size w w' := by
  subst hu
  exact first_own w
theorem new_S (w : World) : Calls Tryd.prog 5 #[.int .i64 1048576] w fun r w' => ∃ q b, r = .returned (.pointer (some ⟨q, 0, none⟩)) ∧ SvR w' w' w.heap.size q b (newD 1048576).ab noF ∧ Below w.heap.size w w' :=
  (new_A 1048576 w (by decide) (by decide)).mono (fun r w' ⟨q, b, e, hd, hb⟩ => ⟨q, b, e, SvR.start hd.df, hb⟩)
/-- 'before' is laid beside the disk -/
theorem before_start {x1 x3 x4 x5 : World} {B q b g4 : Nat} {S : Ak} {u : Mf} {v : Value} (h : SvR x1 x3 B q b S noF) (h4 : Below x3.heap.size x3 x4) (h5 : Below x4.heap.size x4 x5) (hf : MfAt x5 x4.heap.size u v) (hs : Sms x4 (some ⟨g4, 0, none⟩) u.segs) (hlo : x3.heap.size ≤ g4) (hlt : g4 < x4.heap.size) :
    ∃ F5, SvR x5 x5 B q b S F5 ∧ Below B x3 x5 ∧ B ≤ x4.heap.size ∧ (F5 g4 ∧ F5 x4.heap.size) ∧ MfAt x5 x4.heap.size u v ∧ Sms x5 (some ⟨g4, 0, none⟩) u.segs := by
  have hb := below_next h4 h5
  have h6 := h.d.low2
  have h7 := hf.lt
  have h8 := h4.size
  exact ⟨fun k => x3.heap.size ≤ k ∧ k < x5.heap.size, SvR.start ((h.d.more hb).sub (fun k hk => .inr hk)), hb.mono h6, by omega, ⟨⟨hlo, by omega⟩, ⟨h8, h7⟩⟩, hf, hs.keep h5⟩
/-- 'before' becomes another manifest -/
theorem before_turn {x5 x9 x10 : World} {B q b c : Nat} {S : Ak} {F : Nat → Prop} (h : SvR x5 x9 B q b S F) (hc : F c) (hs : x10.heap.size = x9.heap.size) (hh : ∀ k, k ≠ c → x10.heap[k]? = x9.heap[k]?) : SvR x10 x10 B q b S F :=
  SvR.start (h.d.turn (by omega) (fun k _ hk => hh k (fun e => hk (by rw [e]; exact hc))))
theorem sms_kept {x y : World} {B q b g : Nat} {S : Ak} {F : Nat → Prop} {L : List Sm} (h : SvR x y B q b S F) (hg : F g) (hs : Sms x (some ⟨g, 0, none⟩) L) : Sms y (some ⟨g, 0, none⟩) L :=
  sms_at hs (fun c off e => by cases e; exact ⟨h.k _ hg, h.d.lt _ hg⟩)
theorem mfL_len {m : Mf} (hV : mvB m = true) : (mfL m).length ≤ 4394 := by
  rw [show mfL m = frameL 4 m.gen.toNat (encAll (mfN m)) from if_pos hV, frameL_length]
  have := mf_body hV
  omega
theorem md_of {m : Mf} (hV : mvB m = true) : mdM (mfL m) = m ∧ mdE (mfL m) = 0 := by unfold mdM mdE; rw [md_back m hV]; exact ⟨rfl, rfl⟩
/-- how a Save under a fuse ends -/
theorem sw_end (fz : Int) (st : Int) (l : List Nat) (t : Mf) (ks : List Int) (hl : l.length ≤ 4394) (hs : 0 ≤ st ∧ st ≤ 90) :
    ((msaveA (fuseA (Sv st l) fz) t).2 = 0 ∧ mvB t = true ∧ (restartA (msaveA (fuseA (Sv st l) fz) t).1 ks).off = false ∧ ∃ T, (restartA (msaveA (fuseA (Sv st l) fz) t).1 ks).fs = ⟨nM, mfL t, (mfL t).length⟩ :: T) ∨ ((msaveA (fuseA (Sv st l) fz) t).2 ≠ 0 ∧ (restartA (msaveA (fuseA (Sv st l) fz) t).1 ks).off = false ∧ ∃ T, (restartA (msaveA (fuseA (Sv st l) fz) t).1 ks).fs = ⟨nM, l, l.length⟩ :: T) := by
  cases hV : mvB t with
  | false =>
    have e : msaveA (fuseA (Sv st l) fz) t = (fuseA (Sv st l) fz, 80) := by unfold msaveA; rw [hV]; rfl
    rw [e]
    have h := keep_end fz st l ks
    exact .inr ⟨by simp, h.1, h.2⟩
  | true =>
    have e : msaveA (fuseA (Sv st l) fz) t = saveA (fuseA (Sv st l) fz) (mfL t) := if_pos hV
    rw [e]
    have h2 := mfL_len hV
    rcases sv_end fz st l (mfL t) ks (by omega) hs with ⟨h3, h4, h5⟩ | ⟨h3, h4, h5⟩
    · exact .inl ⟨h3, rfl, h4, h5⟩
    · exact .inr ⟨h3, h4, h5⟩
end Go.Proofs.YtnfkdgjgglnniaaDoor
