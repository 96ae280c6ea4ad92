/- num.Share: what it answers, whatever it is given. -/
import Derived.Test.YtblfmfanfpohbaaGreatNsi
import Derived.Test.YtblfmfanfpohbaaGreatNsm2
namespace Go.Proofs.YtblfmfanfpohbaaGreat
open Go.ChangeShapes Go.WideShapes Go.ChangeAt Go.RowKit Go.Sort
/-- the weights as plain numbers -/
def wtN (l : List Int) (i : Nat) : Nat := (l.getD i 0).toNat
theorem sum_wt : ∀ (l : List Int), (∀ x ∈ l, 0 ≤ x) → (sumN l.length (wtN l) : Int) = l.sum := by
  intro l h
  have key : ∀ k, k ≤ l.length → (sumN k (wtN l) : Int) = (l.take k).sum := by
    intro k
    induction k with
    | zero => intro _; simp [sumN_zero]
    | succ k ih =>
      intro hk
      rw [sumN_succ, sum_step l k (by omega), Int.natCast_add, ih (by omega)]
      have : 0 ≤ l.getD k 0 := by
        rw [List.getD_eq_getElem?_getD, List.getElem?_eq_getElem (by omega)]
        exact h _ (List.getElem_mem _)
      unfold wtN
      omega
  have := key l.length (Nat.le_refl _)
  rwa [List.take_length] at this
/-- what a dealing is about -/
structure Deal (l : List Int) (n T W : Nat) : Prop where
  len : l.length = n
  n0 : 0 < n
  n1 : n ≤ 64
  pos : ∀ x ∈ l, 0 ≤ x
  hW : W = sumN n (wtN l)
  W0 : 0 < W
  W1 : W < 9223372036854775808
  T1 : T < 9223372036854775808
  s : l.sum = (W : Int)
theorem Deal.at {l : List Int} {n T W : Nat} (h : Deal l n T W) {i : Nat} (hi : i < n) : l.getD i 0 = (wtN l i : Int) ∧ wtN l i ≤ W := by
  constructor
  · have : 0 ≤ l.getD i 0 := by
      rw [List.getD_eq_getElem?_getD, List.getElem?_eq_getElem (by rw [h.len]; exact hi)]
      exact h.pos _ (List.getElem_mem _)
    unfold wtN
    omega
  · rw [h.hW]; exact sumN_ge _ hi
theorem deal_of (l : List Int) (n T : Nat) (hn : l.length = n) (h1 : n ≤ 64) (hT : T < 9223372036854775808) (hb : wgB l = true) : ∃ W, Deal l n T W ∧ wgV l = (W : Int) := by
  unfold wgB at hb
  rw [decide_eq_true_iff] at hb
  obtain ⟨g1, g2, g3⟩ := hb
  have hs := sum_wt l g1
  rw [hn] at hs
  unfold fitB at g2
  have g4 : inI l.sum := by simpa using g2
  have g5 := g4
  unfold inI at g5
  refine ⟨sumN n (wtN l), ⟨hn, ?_, h1, g1, rfl, by omega, by omega, hT, hs.symm⟩, ?_⟩
  · rcases Nat.eq_zero_or_pos n with c | c
    · subst c
      have : l = [] := List.length_eq_zero_iff.1 hn
      subst this
      simp at g3
    · exact c
  · unfold wgV fitV
    rw [if_pos g1, if_pos g4]
    omega
/-- what Share leaves: a new row of the parts -/
def ShareP (w : World) (l : List Int) (n T W : Nat) (v : Value) (w' : World) : Prop :=
  ∃ b, v = .slice (some ⟨b, 0, none⟩) n n ∧ w.heap.size ≤ b ∧ RowF (.int .i64) w' b n (fun i => (shp n T W (wtN l) i : Int)) ∧ (∃ f, Ord n (rst T W (wtN l)) f) ∧ Below w.heap.size w w'
set_option maxRecDepth 20000 in
set_option maxHeartbeats 8000000 in
theorem share_yes (l : List Int) (n T W : Nat) (a : Option Addr) (cap : Nat) (w : World) (hI : Ints w a l) (hb : wgB l = true) (hv : wgV l = (W : Int)) (hD : Deal l n T W) :
    Calls Tryz.prog 18 #[.int .i64 (T : Int), .slice a n cap] w fun e w' => ∃ v, e = .returned (.tuple #[v, .bool true]) ∧ ShareP w l n T W v w' := by
  have HI : Hid (Ints w a l) := hI
  have HDL : Hid (Deal l n T W) := hD
  have hn64 : n ≤ 64 := hD.n1
  have hT : T < 9223372036854775808 := hD.T1
  have hW : W < 9223372036854775808 := hD.W1
  have HW : Hid (W = sumN n (wtN l) ∧ 0 < W ∧ 0 < n) := ⟨hD.hW, hD.W0, hD.n0⟩
  have hT0 : ¬ (T : Int) < 0 := by omega
  have hnz : ¬ (64 : Int) < (n : Int) := by omega
  have hTu : IntKind.u64.wrap (T : Int) = (T : Int) := by rw [IntKind.wrap_u64]; omega
  have hWu : IntKind.u64.wrap (W : Int) = (W : Int) := by rw [IntKind.wrap_u64]; omega
  have hmk := mk_row 46 2 (.int .i64 0) Tryz.underlying46 Tryz.infoI rfl n hn64
  have hmu := mk_row 74 58 (.int .u64 0) Tryz.underlying74 Tryz.infoU rfl n hn64
  clear hI hD
  go_enter Tryz.func18, Tryz.ntmps18
  go_wp2_with (first
    | (go_at_call 42; refine (weigh_any l n a cap w HDL.out.len HI.out hn64).mono ?_; rw [hb, hv]; rintro e w1 ⟨rfl, hb1⟩; have HB1 : Hid (Below w.heap.size w w1) := hb1; clear hb1))
  obtain ⟨bp, hbp⟩ : ∃ bp, bp = w1.heap.size := ⟨_, rfl⟩
  have hrow1 : RowF (.int .i64) (w1.alloc (.cells (madeCells #[.int .i64 0] n) 2)) w1.heap.size n (fun _ => 0) := made_row _ _ _ _
  have hrow2 : RowF (.int .u64) ((w1.alloc (.cells (madeCells #[.int .i64 0] n) 2)).alloc (.cells (madeCells #[.int .u64 0] n) 58)) (w1.heap.size + 1) n (fun _ => 0) := by
    have h := made_row (.int .u64) (w1.alloc (.cells (madeCells #[.int .i64 0] n) 2)) n 58
    rw [show (w1.alloc (.cells (madeCells #[.int .i64 0] n) 2)).heap.size = w1.heap.size + 1 from by simp] at h
    exact h
  have hrow1' := hrow1.keep (bal (Below.refl (w1.alloc (.cells (madeCells #[.int .i64 0] n) 2)).heap.size _) (.cells (madeCells #[.int .u64 0] n) 58)) hrow1.lt
  have hbel : Below w1.heap.size w1 ((w1.alloc (.cells (madeCells #[.int .i64 0] n) 2)).alloc (.cells (madeCells #[.int .u64 0] n) 58)) := bal (bal (Below.refl _ _) _) _
  clear hrow1
  obtain ⟨w2, hw2⟩ : ∃ w2, w2 = ((w1.alloc (.cells (madeCells #[.int .i64 0] n) 2)).alloc (.cells (madeCells #[.int .u64 0] n) 58)) := ⟨_, rfl⟩
  rw [← hw2] at hrow1' hrow2 hbel
  rw [← hw2]
  rw [← hbp] at hrow1' hrow2
  rw [← hbp]
  obtain ⟨br, hbr⟩ : ∃ br, br = bp + 1 := ⟨_, rfl⟩
  rw [← hbr] at hrow2
  rw [← hbr]
  have HBL : Hid (w.heap.size ≤ bp ∧ br = bp + 1) := ⟨by rw [hbp]; exact HB1.out.size, hbr⟩
  have HI2 : Hid (Ints w2 a l) := HI.out.keep (bnx HB1.out hbel)
  have HR1 : Hid (RowF (.int .i64) w2 bp n (fun _ => 0)) := hrow1'
  have HR2 : Hid (RowF (.int .u64) w2 br n (fun _ => 0)) := hrow2
  have HB2 : Hid (Below w.heap.size w w2) := bnx HB1.out hbel
  clear hbp hbr hw2 hrow1' hrow2 hbel HB1 hmk hmu
  go_loopw [10, 42] (fun vl vi wr => ∃ (k r : Nat), vi = .int .i64 k ∧ k ≤ n ∧ vl = .int .i64 (r : Int) ∧ r ≤ T ∧ Hid (r = T - sumN k (quo T W (wtN l)) ∧ RowF (.int .i64) wr bp n (fun i => if i < k then (quo T W (wtN l) i : Int) else 0) ∧ RowF (.int .u64) wr br n (fun i => if i < k then (rst T W (wtN l) i : Int) else 0) ∧ Below w.heap.size w wr)) (fun _ vi _ => n - (intOf vi).toNat)
  case atStart => exact ⟨0, T, rfl, Nat.zero_le _, rfl, Nat.le_refl _, ⟨by rw [sumN_zero]; omega, HR1.out.congr fun i _ => by rw [if_neg (by omega)], HR2.out.congr fun i _ => by rw [if_neg (by omega)], HB2.out⟩⟩
  case round =>
    obtain ⟨k, r, rfl, hk, rfl, hrT, HS⟩ := hrel
    clear HR1 HR2
    by_cases hkn : k < n
    · have HIw : Hid (Ints wr a l) := HI.out.keep HS.out.2.2.2
      obtain ⟨b0, off, ha, hx⟩ : ∃ b0 off, a = some ⟨b0, off, none⟩ ∧ wr.cell? ⟨b0, off + k, none⟩ = some (.int .i64 (l.getD k 0)) := by
        rcases HIw.out.2 with h | ⟨b0, off, ha, _, hc⟩
        · have := HDL.out.len; rw [h] at this; simp at this; omega
        · exact ⟨b0, off, ha, hc k (by rw [HDL.out.len]; exact hkn)⟩
      subst ha
      obtain ⟨x, ex⟩ : ∃ x : Nat, wtN l k = x := ⟨_, rfl⟩
      rw [(HDL.out.at hkn).1, ex] at hx
      have hxW := (HDL.out.at hkn).2
      rw [ex] at hxW
      obtain ⟨h, eh⟩ : ∃ h, h = T * x / 18446744073709551616 := ⟨_, rfl⟩
      obtain ⟨lo, el⟩ : ∃ lo, lo = T * x % 18446744073709551616 := ⟨_, rfl⟩
      obtain ⟨q, eq⟩ : ∃ q, q = quo T W (wtN l) k := ⟨_, rfl⟩
      obtain ⟨s, es⟩ : ∃ s, s = rst T W (wtN l) k := ⟨_, rfl⟩
      have hqT : q ≤ T := by rw [eq]; exact quo_le HW.out.1 HW.out.2.1 hkn
      have hsum : sumN k (quo T W (wtN l)) + q ≤ T := by
        have h1 := sumN_pre (quo T W (wtN l)) (show k + 1 ≤ n from hkn)
        rw [sumN_succ, ← eq] at h1
        have h2 := (sum_quo (T := T) HW.out.1 HW.out.2.1).1
        omega
      obtain ⟨r2, er2⟩ : ∃ r2, r2 = r - q := ⟨_, rfl⟩
      have hr2z : (r : Int) - (q : Int) = (r2 : Int) := by have := HS.out.1; omega
      have HX : Hid (h = T * x / 18446744073709551616 ∧ lo = T * x % 18446744073709551616 ∧ q = quo T W (wtN l) k ∧ s = rst T W (wtN l) k ∧ wtN l k = x ∧ x ≤ W ∧ r2 = r - q ∧ sumN k (quo T W (wtN l)) + q ≤ T) := ⟨eh, el, eq, es, ex, hxW, er2, hsum⟩
      have hr2w : IntKind.i64.wrap (r2 : Int) = (r2 : Int) := by rw [IntKind.wrap_i64]; omega
      have hqw : IntKind.i64.wrap (q : Int) = (q : Int) := by rw [IntKind.wrap_i64]; omega
      have hxu : IntKind.u64.wrap (x : Int) = (x : Int) := by rw [IntKind.wrap_u64]; omega
      have hkz : (k : Int) < (n : Int) := by omega
      have cp := HS.out.2.1.cell k hkn
      have fp := HS.out.2.1.free k hkn
      have cr := HS.out.2.2.1.cell k hkn
      have fr := HS.out.2.2.1.free k hkn
      rw [if_neg (Nat.lt_irrefl k)] at cp cr
      have hbne : bp ≠ br := by have := HBL.out; omega
      have hbne' : br ≠ bp := by have := HBL.out; omega
      clear eh el eq es ex er2 hsum hxW hqT
      go_wp2_with (first
        | (go_at_call 43; refine (mul_named T x h lo (by omega) (by have := HX.out; omega) HX.out.1 HX.out.2.1 _).mono ?_; rintro e w3 ⟨rfl, rfl⟩)
        | (go_at_call 44; refine (div_named h lo W q s _ (by rw [HX.out.1]; exact wide_quo (by omega) HX.out.2.2.2.2.2.1 HW.out.2.1) (by omega) (by rw [HX.out.2.1]; omega) (by rw [HX.out.1, HX.out.2.1, hilo, HX.out.2.2.1]; unfold quo; rw [HX.out.2.2.2.2.1]) (by rw [HX.out.1, HX.out.2.1, hilo, HX.out.2.2.2.1]; unfold rst; rw [HX.out.2.2.2.2.1])).mono ?_; rintro e w3 ⟨nd, rfl, rfl⟩))
      go_roundw
      case rel =>
        obtain ⟨x1, x2, x3, x4, x5, x6, x7, x8⟩ := HX.out
        obtain ⟨s1, s2, s3, s4⟩ := HS.out
        refine ⟨k + 1, r2, by go_num, by omega, rfl, by omega, ⟨?_, ?_, ?_, ?_⟩⟩
        · rw [sumN_succ, ← x3]; omega
        · refine (((s2.drewN nd).set k (q : Int) hkn).other _ _ hbne).congr fun i hi => ?_
          unfold updI
          by_cases c : i = k
          · rw [if_pos c, if_pos (by omega), c, x3]
          · rw [if_neg c]
            show (if i < k then (quo T W (wtN l) i : Int) else 0) = _
            by_cases c2 : i < k
            · rw [if_pos c2, if_pos (by omega)]
            · rw [if_neg c2, if_neg (by omega)]
        · refine (((s3.drewN nd).other _ _ hbne').set k (s : Int) hkn).congr fun i hi => ?_
          unfold updI
          by_cases c : i = k
          · rw [if_pos c, if_pos (by omega), c, x4]
          · rw [if_neg c]
            show (if i < k then (rst T W (wtN l) i : Int) else 0) = _
            by_cases c2 : i < k
            · rw [if_pos c2, if_pos (by omega)]
            · rw [if_neg c2, if_neg (by omega)]
        · have := HBL.out
          exact ((below_drewN s4 nd).setCell (by show _ ≤ bp; omega) _).setCell (by show _ ≤ br; omega) _
      case measure => first | (simp [intOf]; done) | (simp [intOf]; omega)
    · obtain rfl : k = n := by omega
      have HRP : Hid (RowF (.int .i64) wr bp k (fun i => (quo T W (wtN l) i : Int))) := HS.out.2.1.congr fun i hi => if_pos hi
      have HRR : Hid (RowF (.int .u64) wr br k (fun i => (rst T W (wtN l) i : Int))) := HS.out.2.2.1.congr fun i hi => if_pos hi
      have HBW : Hid (Below w.heap.size w wr) := HS.out.2.2.2
      have HRB : Hid (bp < wr.heap.size) := HRP.out.lt
      have HL : Hid (r = lft k T W (wtN l) ∧ r < k) := ⟨HS.out.1, by have h1 := lft_lt (T := T) HW.out.1 HW.out.2.1 HW.out.2.2; have h2 := HS.out.1; unfold lft at h1; omega⟩
      have hrk : (r : Int) ≤ (k : Int) := by have := HL.out; omega
      have hr0 : (0 : Int) ≤ (r : Int) := by omega
      clear HS
      go_wp2_with (first
        | (go_at_call 45; refine (byRest_any (rst T W (wtN l)) k br wr hn64 HW.out.2.2 HRR.out).mono ?_; rintro e w3 ⟨b, rfl, hbb, f, hf, hrow, hb3⟩; have HF : Hid (Ord k (rst T W (wtN l)) f ∧ RowF (.int .i64) w3 b k (fun i => (f i : Int)) ∧ wr.heap.size ≤ b ∧ RowF (.int .i64) w3 bp k (fun i => (quo T W (wtN l) i : Int)) ∧ Below w.heap.size w w3) := ⟨hf, hrow, hbb, HRP.out.keep hb3 HRP.out.lt, bnx HBW.out hb3⟩; clear hf hrow hbb hb3))
      clear HRP HRR HBW HI2 HB2
      have hbne : b ≠ bp := by have h1 := HF.out.2.2.1; have h2 := HRB.out; omega
      go_loopw [84] (fun vi wx => ∃ j : Nat, j ≤ r ∧ vi = .int .i64 j ∧ Hid (RowF (.int .i64) wx bp k (fun i => (grown T W (wtN l) f j i : Int)) ∧ RowF (.int .i64) wx b k (fun i => (f i : Int)) ∧ Below w.heap.size w wx)) (fun vi _ => r - (intOf vi).toNat)
      case atStart => exact ⟨0, Nat.zero_le _, rfl, ⟨HF.out.2.2.2.1.congr fun i _ => by rw [grown_zero], HF.out.2.1, HF.out.2.2.2.2⟩⟩
      case round =>
        obtain ⟨j, hj, rfl, HS⟩ := hrel
        by_cases hjr : j < r
        · have hjk : j < k := by have := HL.out; omega
          obtain ⟨x, ex⟩ : ∃ x, f j = x := ⟨_, rfl⟩
          have hxk : x < k := by rw [← ex]; exact HF.out.1.bnd j hjk
          obtain ⟨v, ev⟩ : ∃ v, grown T W (wtN l) f j x = v := ⟨_, rfl⟩
          have hvT : v + 1 ≤ T := by
            have h1 := quo_one HF.out.1 HW.out.1 HW.out.2.1 HW.out.2.2 (j := j) (by rw [← HL.out.1]; exact hjr)
            have h2 := grown_here HF.out.1 hjk
            rw [ex] at h1 h2
            rw [← ev, h2]; exact h1
          have cx := HS.out.2.1.cell j hjk
          have cp := HS.out.1.cell x hxk
          have fp := HS.out.1.free x hxk
          rw [ex] at cx
          rw [ev] at cp
          obtain ⟨v1, ev1⟩ : ∃ v1, v1 = v + 1 := ⟨_, rfl⟩
          have hv1z : (v : Int) + 1 = (v1 : Int) := by omega
          have hv1w : IntKind.i64.wrap (v1 : Int) = (v1 : Int) := by rw [IntKind.wrap_i64]; omega
          have HX : Hid (f j = x ∧ grown T W (wtN l) f j x = v ∧ v1 = v + 1) := ⟨ex, ev, ev1⟩
          have hjz : (j : Int) < (r : Int) := by omega
          have hxz : (x : Int) < (k : Int) := by omega
          clear ex ev ev1
          go_wp2
          go_roundw
          case rel =>
            obtain ⟨x1, x2, x3⟩ := HX.out
            obtain ⟨s1, s2, s3⟩ := HS.out
            refine ⟨j + 1, by omega, by go_num, ⟨(s1.set x (v1 : Int) hxk).congr fun i hi => ?_, s2.other _ _ hbne, s3.setCell (by have := HBL.out; show _ ≤ bp; omega) _⟩⟩
            rw [grown_next HF.out.1 hjk i]
            unfold updI
            rw [x1]
            by_cases c : i = x
            · rw [if_pos c, if_pos c, x2, x3]
            · rw [if_neg c, if_neg c]
          case measure => first | (simp [intOf]; done) | (simp [intOf]; omega)
        · obtain rfl : j = r := by omega
          go_wp2
          go_ret2
          refine ⟨_, rfl, bp, rfl, HBL.out.1, HS.out.1.congr fun i hi => ?_, ⟨f, HF.out.1⟩, HS.out.2.2⟩
          rw [HL.out.1, grown_end HF.out.1 HW.out.1 HW.out.2.1 HW.out.2.2 hi]
end Go.Proofs.YtblfmfanfpohbaaGreat
