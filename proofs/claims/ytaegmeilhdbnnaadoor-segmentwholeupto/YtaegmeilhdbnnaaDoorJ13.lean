/- Own texts, joined: Slc2, Sg2, Sg3, MkE. -/
import Derived.Test.YtaegmeilhdbnnaaDoorJ04
import Derived.Test.YtaegmeilhdbnnaaDoorJ12
import Derived.Test.YtaegmeilhdbnnaaDoorJ10
import Derived.Test.YtaegmeilhdbnnaaDoorJ03
import Derived.Deep.AppendLies
import Derived.Deep.Onto
import Derived.Test.YtaegmeilhdbnnaaDoorJ11
namespace Go.Proofs.YtaegmeilhdbnnaaDoor
open Go.ChangeShapes Go.WideShapes Go.ChangeAt Go.RowKit
set_option linter.unusedVariables false
theorem wpList_slice_l2 {ops : Array Oper} {rest : List Oper} {o : Oper} {a : Act} {w : World} {Q : Exit → Act → World → Prop} (hgd : o.guard = none) (s lo : Operand) (ho : o.op = .slice 22 s (some lo) none none)
    {A : Option Addr} {n cap i : Nat} {l : List Nat} (hs : a.eval s = .slice A n cap) (hlo : a.eval lo = .int .i64 (i : Int)) (hi : i ≤ n) (hn : n ≤ cap) (hl : l.length = n)
    (h : ∀ x, (∀ w0, Bytes w0 A l → Bytes w0 x (l.drop i)) → wpList Tryd.prog ops Q rest (a.put o.dst (.slice x (n - i) (cap - i))) w) : wpList Tryd.prog ops Q (o :: rest) a w :=
  wpList_plain hgd fun _ hK => by
    have hrun := run_slice_l (P := Tryd.prog) w 22 A n cap slice_under .i64 (i : Int) (by omega) (by omega)
    unfold Oper.wp execOp
    simp only [ho, hs, hlo, Option.map_some, Option.map_none, Sem.run_bind, Sem.run_pure, Result.andThen_ok, run_sliceAt_slice (P := Tryd.prog) w 22 _ _ _ _ slice_under, hrun, slice_size, sliced, Int.toNat_natCast]
    exact hK _ _ (h _ (fun w0 hb => bytes_cut hb i cap (by omega) (by omega)))
end Go.Proofs.YtaegmeilhdbnnaaDoor
namespace Go.Proofs.YtaegmeilhdbnnaaDoor
open Go.ChangeShapes Go.WideShapes Go.ChangeAt Go.RowKit
set_option linter.unusedVariables false
theorem Tryd.infoSg : (Tryd.prog.info? 3).map (fun i => (i.zero, i.size, i.bytes)) = some (some (.int .i64 0), 1, 8) := by kernel_rfl
def I64 (l : List Nat) : List Value := l.map fun (n : Nat) => Value.int .i64 (n : Int)
theorem nrd_go (c : Nat) (l acc r : List Nat) (j u k : Nat) (hd : dec 0 0 r = (u, k, 0)) (hu : u ≤ 1099511627777) (h : nrd c l = (nrd (j + 1) r).map (fun q => (acc ++ q.1, q.2))) : nrd c l = (nrd j (r.drop k)).map (fun q => ((acc ++ [u]) ++ q.1, q.2)) := by
  rw [h, nrd_step j r u k 0 hd, if_pos ⟨rfl, hu⟩, Option.map_map]
  congr 1
  funext q
  simp
set_option maxRecDepth 20000 in
set_option maxHeartbeats 2000000 in
theorem read_any (l : List Nat) (c n : Nat) (a : Option Addr) (cap : Nat) (w : World) (hn : l.length = n) (hb : Bytes w a l) (hcap : n ≤ cap) (hl : n ≤ 281474976710656) (hc : c ≤ 16) :
    Calls Tryd.prog 37 #[.slice a n cap, .int .i64 (c : Int)] w fun e w' => ((∃ ns r va x cp, nrd c l = some (ns, r) ∧ e = .returned (.tuple #[va, .slice x r.length cp, .bool true]) ∧ w'.ownsRow w.heap.size 3 1 va c (I64 ns) ∧ Bytes w' x r ∧ r.length ≤ cp ∧ ns.length = c) ∨ (nrd c l = none ∧ e = .returned (.tuple #[.slice none 0 0, .slice none 0 0, .bool false]))) ∧ Below w.heap.size w w' := by
  obtain ⟨j0, ji, jz0, jz1, jz2⟩ := info_parts Tryd.infoSg
  have hcI : (c : Int) ≤ 16 := by omega
  have HB : Hid (Bytes w a l ∧ l.length = n ∧ ∀ x ∈ l, x < 256) := ⟨hb, hn, hb.mem⟩
  clear hb hn
  go_enter Tryd.func37, Tryd.ntmps37
  go_wp2
  go_loopw [0, 7, 12] (fun vb vn vi wr => ∃ (n0 : Value) (x : Option Addr) (m cp k : Nat) (acc r : List Nat), n0 = vn ∧ vb = .slice x m cp ∧ k ≤ c ∧ vi = .int .i64 k ∧ r.length = m ∧ m ≤ cp ∧ m ≤ 281474976710656 ∧ acc.length = k ∧ Bytes w x r ∧ wr.ownsRow w.heap.size 3 1 n0 k (I64 acc) ∧ nrd c l = (nrd (c - k) r).map (fun q => (acc ++ q.1, q.2)) ∧ Below w.heap.size w wr) (fun _ _ vi _ => c - (intOf vi).toNat)
  case atStart => exact ⟨_, a, n, cap, 0, [], l, rfl, rfl, Nat.zero_le _, rfl, HB.out.2.1, hcap, hl, rfl, HB.out.1, World.ownsRow_nil .., by simp, Below.refl _ _⟩
  case round =>
    obtain ⟨vn, x, m, cp, k, acc, r, rfl, rfl, hk, rfl, hm, hmc, hml, hacc, hy, ho, hrd, hbr⟩ := hrel
    have HR : Hid (r.length = m ∧ acc.length = k ∧ Bytes w x r ∧ wr.ownsRow w.heap.size 3 1 vn k (I64 acc) ∧ nrd c l = (nrd (c - k) r).map (fun q => (acc ++ q.1, q.2))) := ⟨hm, hacc, hy, ho, hrd⟩
    have hsz := hbr.size
    clear hm hacc hy ho hrd
    by_cases hkc : k < c
    · have hkI : (k : Int) < (c : Int) := by omega
      obtain ⟨u, hu⟩ : ∃ u, (dec 0 0 r).1 = u := ⟨_, rfl⟩
      obtain ⟨z, hz⟩ : ∃ z, (dec 0 0 r).2.1 = z := ⟨_, rfl⟩
      obtain ⟨e, he⟩ : ∃ e, (dec 0 0 r).2.2 = e := ⟨_, rfl⟩
      have hd : dec 0 0 r = (u, z, e) := by rw [← hu, ← hz, ← he]
      have HD : Hid (dec 0 0 r = (u, z, e)) := hd
      have HST := nrd_step (c - k - 1) r u z e hd
      have hck : c - k = (c - k - 1) + 1 := by omega
      by_cases he0 : e = 0
      · subst he0
        obtain ⟨_, f2, _, f4, _⟩ := vdec_form r HR.out.2.2.1.mem he
        rw [hz, HR.out.1] at f2
        rw [hu] at f4
        have hzI : (z : Int) ≤ (m : Int) := by omega
        clear hu hz he hd
        by_cases hub : u ≤ 1099511627777
        · have HN : Hid (nrd c l = (nrd (c - (k + 1)) (r.drop z)).map (fun q => ((acc ++ [u]) ++ q.1, q.2))) := by
            have h := HR.out.2.2.2.2
            rw [hck] at h
            have h2 := nrd_go c l acc r (c - k - 1) u z HD.out hub h
            rw [show c - (k + 1) = c - k - 1 from by omega]
            exact h2
          have huI : (u : Int) ≤ 1099511627777 := by omega
          have hu0 : (0 : Int) ≤ (u : Int) := by omega
          clear HST hck
          go_wp2_with (first
            | (go_at_call 67; refine (dec_at r m u z 0 x cp wr HR.out.1 HD.out (HR.out.2.2.1.keep hbr) (by rw [HR.out.1]; unfold maxLen; omega)).mono ?_; rintro e w1 ⟨rfl, rfl⟩)
            | (at_builtin; refine wpList_append_own _ rfl _ _ 61 rfl w.heap.size 3 j0 (.int .i64 0) 1 8 Tryd.underlying61 ji jz0 jz1 jz2 rfl (by decide) _ _ _ rfl (World.ownsRow.alloc HR.out.2.2.2.1 _) ⟨wr.heap.size, 0, none⟩ 1 1 [.int .i64 (u : Int)] rfl rfl (cell_new _ _ _) (one_new _) (by unfold maxLen; omega) (by omega) (by simp; omega) ?_; intro v6 w6 ho6 hg6 _; have HW6 : Hid (Below w.heap.size w w6) := grown_row (hbr.alloc hsz _) (World.ownsRow.alloc HR.out.2.2.2.1 _) (by simp; omega) hg6; have HE6 : Hid (w6.ownsRow w.heap.size 3 1 v6 (k + 1) (I64 (acc ++ [u]))) := (by show World.ownsRow _ _ _ _ _ _ _; have e : I64 (acc ++ [u]) = I64 acc ++ [.int .i64 (u : Int)] := (by simp [I64]); rw [e]; exact ho6); clear ho6 hg6)
            | ((with_reducible refine at_slice ?_); refine wpList_slice_l2 rfl _ _ rfl rfl rfl f2 hmc HR.out.1 ?_; intro y hy6; have HY7 : Hid (Bytes w y (r.drop z)) := hy6 w HR.out.2.2.1; clear hy6))
          go_roundw
          case rel => exact ⟨v6, y, m - z, cp - z, k + 1, acc ++ [u], r.drop z, rfl, rfl, by omega, by go_num, by rw [List.length_drop, HR.out.1], by omega, by omega, by rw [List.length_append, HR.out.2.1]; rfl, HY7.out, HE6.out, HN.out, HW6.out⟩
          case measure => simp [intOf]; omega
        · have HN : Hid (nrd c l = none) := by
            show _ = _
            rw [HR.out.2.2.2.2, hck, HST, if_neg (fun h => hub h.2)]
            rfl
          have huI : (1099511627777 : Int) < (u : Int) := by omega
          have hu64 : (u : Int) ≤ 18446744073709551615 := by omega
          clear HST hck
          go_wp2_with (go_at_call 67; refine (dec_at r m u z 0 x cp wr HR.out.1 HD.out (HR.out.2.2.1.keep hbr) (by rw [HR.out.1]; unfold maxLen; omega)).mono ?_; rintro e w1 ⟨rfl, rfl⟩)
          go_ret3
          exact ⟨.inr ⟨HN.out, rfl⟩, hbr⟩
      · have HN : Hid (nrd c l = none) := by
          show _ = _
          rw [HR.out.2.2.2.2, hck, HST, if_neg (fun h => he0 h.1)]
          rfl
        have heI : ((e : Int) != 0) = true := by simp; omega
        clear HST hck hu hz he hd
        go_wp2_with (go_at_call 67; refine (dec_at r m u z e x cp wr HR.out.1 HD.out (HR.out.2.2.1.keep hbr) (by rw [HR.out.1]; unfold maxLen; omega)).mono ?_; rintro e w1 ⟨rfl, rfl⟩)
        go_ret3
        exact ⟨.inr ⟨HN.out, rfl⟩, hbr⟩
    · obtain rfl : k = c := by omega
      have HN : Hid (nrd k l = some (acc, r)) := by
        show _ = _
        rw [HR.out.2.2.2.2, Nat.sub_self]
        simp [nrd]
      go_wp2
      go_ret3
      exact ⟨.inl ⟨acc, r, vn, x, cp, HN.out, by rw [HR.out.1]; rfl, HR.out.2.2.2.1, HR.out.2.2.1.keep hbr, by rw [HR.out.1]; exact hmc, HR.out.2.1⟩, hbr⟩
end Go.Proofs.YtaegmeilhdbnnaaDoor
namespace Go.Proofs.YtaegmeilhdbnnaaDoor
open Go.ChangeShapes Go.WideShapes Go.ChangeAt Go.RowKit
set_option linter.unusedVariables false
theorem results_tmp4 {fn : Func} {t u v x : Tmp} (h : fn.results = #[.tmp t, .tmp u, .tmp v, .tmp x]) (tmps : Array Value) (P : Program) (w : World) :
    (results fn tmps).run P w = .ok (.tuple #[tmps.getD t undef, tmps.getD u undef, tmps.getD v undef, tmps.getD x undef]) w := by
  simp [results, h]
theorem natI_lit (w : World) (l : List Nat) : NatI (w.alloc (.cells (I64 l).toArray 3)) (some ⟨w.heap.size, 0, none⟩) l := by
  refine ⟨w.heap.size, 0, rfl, by simp, fun i hi => ?_⟩
  rw [Nat.zero_add, cell_of_row (w.alloc (.cells (I64 l).toArray 3)) w.heap.size i (I64 l).toArray 3 (0, 0) (heap_alloc_new w _)]
  simp [I64, hi]
def hdE (x y : Int) : Nat := if sgB x y = true then 0 else 1
def hdV (x y : Int) : List Nat := if sgB x y = true then hdrL x.toNat y.toNat else []
theorem sgB_nat {x y : Int} (h : sgB x y = true) : ∃ m k : Nat, x = m ∧ y = k ∧ 1 ≤ m ∧ m ≤ 999999 ∧ 1 ≤ k ∧ k ≤ 1099511627777 := by
  obtain ⟨h1, h2, h3, h4⟩ := of_decide_eq_true h
  exact ⟨x.toNat, y.toNat, by omega, by omega, by omega, by omega, by omega, by omega⟩
theorem enc_frame (k s n : Nat) (hk1 : 1 ≤ k) (hk7 : k ≤ 7) (hs : s ≤ 1099511627776) (hn : n ≤ 16384) : encE (k : Int) (s : Int) n = 0 := by
  unfold encE
  rw [if_neg, if_neg (by omega)]
  have : inB (k : Int) (s : Int) = true := decide_eq_true ⟨by omega, by omega, by omega, by omega⟩
  rw [this]
  simp
set_option maxRecDepth 20000 in
set_option maxHeartbeats 2000000 in
theorem header_any (num first : Int) (w : World) (ht : Tab w) : Calls Tryd.prog 11 #[.int .i64 num, .int .i64 first] w fun e w' => ∃ v, e = .returned (.tuple #[v, .int .i64 (hdE num first : Nat)]) ∧ Own w' w.heap.size v (hdV num first) ∧ Below w.heap.size w w' := by
  have HT : Hid (Tab w) := ht
  clear ht
  by_cases hB : sgB num first = true
  · have HV : Hid (hdE num first = 0 ∧ hdV num first = hdrL num.toNat first.toNat) := ⟨by unfold hdE; rw [if_pos hB], by unfold hdV; rw [if_pos hB]⟩
    have HBB : Hid (sgB num first = true) := hB
    obtain ⟨x, y, rfl, rfl, hx1, hx2, hy1, hy2⟩ := sgB_nat hB
    clear hB
    have hxI : (x : Int) ≤ 999999 := by omega
    have hyI : (y : Int) ≤ 1099511627777 := by omega
    obtain ⟨q1, q2⟩ := hdr_body x y hx2 hy2
    obtain ⟨m, hm⟩ : ∃ m, (nencs [x, y]).length = m := ⟨_, rfl⟩
    have hm2 : 2 ≤ m := by rw [← hm]; exact (nencs_len [x, y] (by intro z hz; simp at hz; omega)).2
    have hm20 : m ≤ 20 := by omega
    have HM : Hid ((nencs [x, y]).length = m ∧ nencs [x, y] ≠ []) := ⟨hm, fun h => by rw [h] at hm; simp at hm; omega⟩
    have HXY : Hid (∀ z ∈ [x, y], z ≤ 1099511627777) := by intro z hz; simp at hz; omega
    have HE : Hid (encE (2 : Int) (x : Int) m = 0 ∧ encL (2 : Int) (x : Int) (nencs [x, y]) = hdrL x y) := by
      have h := enc_frame 2 x m (by omega) (by omega) (by omega) (by omega)
      refine ⟨h, ?_⟩
      unfold encL
      rw [hm]
      rw [show encE (2 : Int) (x : Int) m = 0 from h, if_pos rfl]
      rfl
    clear hm q1 q2
    go_enter Tryd.func11, Tryd.ntmps11
    go_wp2_with (first
      | (go_at_call 31; refine (sginB_any _ _ _).mono ?_; rw [HBB.out]; rintro e w1 ⟨rfl, rfl⟩)
      | (go_at_call 33; refine (write_any [x, y] 2 _ _ _ rfl (natI_lit w [x, y]) HXY.out (by omega)).mono ?_; rintro e w2 ⟨v2, rfl, ho2, hb2⟩; obtain ⟨g2, c2, hv2, hc2, hy2'⟩ := ho2.row HM.out.2; rw [HM.out.1] at hv2 hc2; subst hv2; have HY2 : Hid (Bytes w2 (some ⟨g2, 0, none⟩) (nencs [x, y])) := hy2'; have HB2 : Hid (Below w.heap.size w w2) := ((Below.refl w.heap.size w).alloc (Nat.le_refl _) _).trans (hb2.mono (by simp)); clear ho2 hb2 hy2')
      | (go_at_call 32; (refine (fenc_any 2 x (nencs [x, y]) m (some ⟨g2, 0, none⟩) c2 w2 HM.out.1 HY2.out (fun h => by cases h) (by omega) (fun z h => by cases h; exact ⟨g2, 0, rfl⟩) (HT.out.keep HB2.out)).mono ?_; rw [HE.out.1, HE.out.2]; rintro e w3 ⟨v3, rfl, ho3, hb3⟩; have HO3 : Hid (Own w3 w.heap.size v3 (hdrL x y)) := ⟨ho3.1, World.ownsRow.mono (base' := w.heap.size) ho3.2 HB2.out.size⟩; have HB3 : Hid (Below w.heap.size w w3) := below_next HB2.out hb3; clear ho3 hb3)))
    go_ret2
    exact ⟨v3, by rw [HV.out.1]; rfl, by rw [HV.out.2]; exact HO3.out, HB3.out⟩
  · have hB0 : sgB num first = false := by simpa using hB
    have HV : Hid (hdE num first = 1 ∧ hdV num first = []) := ⟨by unfold hdE; rw [if_neg hB], by unfold hdV; rw [if_neg hB]⟩
    have HBB : Hid (sgB num first = false) := hB0
    clear hB hB0
    go_enter Tryd.func11, Tryd.ntmps11
    go_wp2_with (go_at_call 31; refine (sginB_any _ _ _).mono ?_; rw [HBB.out]; rintro e w1 ⟨rfl, rfl⟩)
    go_ret2
    exact ⟨.slice none 0 0, by rw [HV.out.1]; rfl, by rw [HV.out.2]; exact ownNil _ _, Below.refl _ _⟩
/-- what HeaderOf answers -/
def hoX (l : List Nat) : Nat := ((hdr l).map Prod.fst).getD 0
def hoY (l : List Nat) : Nat := ((hdr l).map Prod.snd).getD 0
def hoN (l : List Nat) : Nat := if (hdr l).isSome then pn l + 20 else 0
def hoE (l : List Nat) : Nat := if (hdr l).isSome then 0 else 71
abbrev HoV (l : List Nat) : Value := .tuple #[.int .i64 (hoX l : Nat), .int .i64 (hoY l : Nat), .int .i64 (hoN l : Nat), .int .i64 (hoE l : Nat)]
theorem ho_none {l : List Nat} (h : hdr l = none) : HoV l = .tuple #[.int .i64 0, .int .i64 0, .int .i64 0, .int .i64 71] := by
  unfold HoV hoX hoY hoN hoE
  rw [h]
  rfl
theorem ho_some {l : List Nat} {x y : Nat} (h : hdr l = some (x, y)) : HoV l = .tuple #[.int .i64 (x : Int), .int .i64 (y : Int), .int .i64 ((pn l : Int) + 20), .int .i64 0] := by
  unfold HoV hoX hoY hoN hoE
  rw [h]
  rfl
set_option maxRecDepth 20000 in
set_option maxHeartbeats 4000000 in
theorem headerOf_any (l : List Nat) (n : Nat) (a : Option Addr) (cap : Nat) (w : World) (hn : l.length = n) (hb : Bytes w a l) (hl : n ≤ 281474976710656) (hcap : n ≤ cap) (ht : Tab w) :
    Calls Tryd.prog 14 #[.slice a n cap] w fun e w' => e = .returned (HoV l) ∧ Below w.heap.size w w' := by
  have HB : Hid (Bytes w a l ∧ l.length = n ∧ Tab w) := ⟨hb, hn, ht⟩
  have hmem := hb.mem
  clear hb hn ht
  by_cases hE : decE l = 0
  · obtain ⟨b1, b2, b3, b4, b5, b6, b7⟩ := decB_facts hmem hE
    obtain ⟨P, hP⟩ : ∃ P, pk l = P := ⟨_, rfl⟩
    obtain ⟨S, hS⟩ : ∃ S, ps l = S := ⟨_, rfl⟩
    obtain ⟨B, hB⟩ : ∃ B, pn l = B := ⟨_, rfl⟩
    have HDV : Hid (∀ v, DV l v = .tuple #[FrV (P : Int) (S : Int) v, .int .i64 ((B : Int) + 20), .int .i64 0]) := fun v => by rw [← hP, ← hS, ← hB]; exact (dv_good l v hE).1
    have HBL : Hid ((decB l).length = B ∧ decE l = 0 ∧ ∀ y ∈ decB l, y < 256) := ⟨b3.trans hB, hE, b1⟩
    have hBb : B ≤ 16384 := by omega
    by_cases hK : P = 2
    · subst hK
      have HK : Hid (pk l = 2 ∧ ps l = S ∧ pn l = B) := ⟨hP, hS, hB⟩
      have hSI : (S : Int) ≤ 1099511627776 := by omega
      clear hP hS hB b1 b2 b3 b4 b5 b6 b7 hE
      cases hr : nrd 2 (decB l) with
      | none =>
        have HN : Hid (nrd 2 (decB l) = none ∧ hdr l = none) := ⟨hr, hdr_none_rd l hr⟩
        have HARM : Hid (∀ w' a1 c1, Bytes w' a1 (decB l) → B ≤ c1 → Calls Tryd.prog 37 #[.slice a1 B c1, .int .i64 2] w' fun e w'' => e = .returned (.tuple #[.slice none 0 0, .slice none 0 0, .bool false]) ∧ Below w'.heap.size w' w'') := fun w' a1 c1 hy1 hc1 => by
          refine (read_any (decB l) 2 B a1 c1 _ HBL.out.1 hy1 hc1 (by omega) (by omega)).mono ?_
          rw [HN.out.1]
          rintro e w2 ⟨⟨_, _, _, _, _, h, _⟩ | ⟨_, h⟩, hb2⟩
          · cases h
          · exact ⟨h, hb2⟩
        clear hr
        go_enter Tryd.func14, Tryd.ntmps14
        go_wp2_with (first
          | (go_at_call 36; refine (fdec_any l n a cap w HB.out.2.1 HB.out.1 (by rw [HB.out.2.1]; omega) (by rw [HB.out.2.1]; omega) HB.out.2.2).mono ?_; rintro r w1 ⟨v1, rfl, ho1, hb1⟩; rw [HDV.out v1]; obtain ⟨a1, c1, hv1, hc1, _, hy1, _⟩ := ho1.shape; rw [HBL.out.1] at hv1 hc1; subst hv1; have HB1 : Hid (Below w.heap.size w w1 ∧ Bytes w1 a1 (decB l) ∧ B ≤ c1) := ⟨hb1, hy1, hc1⟩; clear ho1 hb1 hy1 hc1)
          | (go_at_call 37; refine (HARM.out _ _ _ (HB1.out.2.1.keep ((Below.refl _ _).alloc (Nat.le_refl _) _)) HB1.out.2.2).mono ?_; rintro r w2 ⟨rfl, hb2⟩; have HB2 : Hid (Below w.heap.size w w2) := below_next (HB1.out.1.alloc HB1.out.1.size _) hb2; clear hb2))
        (try simp only [Exit.inBlock, Exit.then])
        refine bodyPost_ret (results_tmp4 rfl _ _ _) rfl ⟨by rw [ho_none HN.out.2]; rfl, HB2.out⟩
      | some q =>
        obtain ⟨ns, r⟩ := q
        obtain ⟨x, y, rfl, hx, hy⟩ := nrd_two _ HBL.out.2.2 ns r hr
        have hof := hdr_of l HBL.out.2.1 HK.out.1 x y r hr
        rw [HK.out.2.1] at hof
        obtain ⟨R, hR⟩ : ∃ R, r.length = R := ⟨_, rfl⟩
        have HN : Hid (nrd 2 (decB l) = some ([x, y], r) ∧ r.length = R) := ⟨hr, hR⟩
        have hxI : (x : Int) ≤ 1099511627777 := by omega
        have hyI : (y : Int) ≤ 1099511627777 := by omega
        have HARM : Hid (∀ w' a1 c1, Bytes w' a1 (decB l) → B ≤ c1 → Calls Tryd.prog 37 #[.slice a1 B c1, .int .i64 2] w' fun e w'' => ∃ g c2 xa cp, e = .returned (.tuple #[.slice (some ⟨g, 0, none⟩) 2 c2, .slice xa R cp, .bool true]) ∧ g < w''.heap.size ∧ w''.cell? ⟨g, 0, none⟩ = some (.int .i64 (x : Int)) ∧ w''.cell? ⟨g, 1, none⟩ = some (.int .i64 (y : Int)) ∧ Below w'.heap.size w' w'') := fun w' a1 c1 hy1 hc1 => by
          refine (read_any (decB l) 2 B a1 c1 _ HBL.out.1 hy1 hc1 (by omega) (by omega)).mono ?_
          rw [HN.out.1]
          rintro e w2 ⟨⟨ns, r', va, xa, cp, h, rfl, ho, hy2, hcp, _⟩ | ⟨h, _⟩, hb2⟩
          · simp only [Option.some.injEq, Prod.mk.injEq] at h
            obtain ⟨rfl, rfl⟩ := h
            obtain ⟨g, c2, hv, _, hlt⟩ := World.ownsRow.form ho (by omega)
            subst hv
            exact ⟨g, c2, xa, cp, by rw [HN.out.2], hlt, World.ownsRow.cellAt ho 0 (by omega), World.ownsRow.cellAt ho 1 (by omega), hb2⟩
          · cases h
        clear hr hR
        by_cases hR0 : R = 0
        · have hr0 : r = [] := List.length_eq_zero_iff.1 (by rw [HN.out.2]; exact hR0)
          subst hR0
          by_cases hSx : S = x
          · subst hSx
            by_cases hin : sgB (S : Int) (y : Int) = true
            · obtain ⟨_, _, e1, e2, i1, i2, i3, i4⟩ := sgB_nat hin
              have HH : Hid (hdr l = some (S, y) ∧ sgB (S : Int) (y : Int) = true ∧ pn l = B) := ⟨by rw [hof, if_pos ⟨hr0, rfl, by omega, by omega, by omega⟩], hin, HK.out.2.2⟩
              clear hof hin hr0 e1 e2 i1 i2 i3 i4
              go_enter Tryd.func14, Tryd.ntmps14
              go_wp2_with (first
                | (go_at_call 36; refine (fdec_any l n a cap w HB.out.2.1 HB.out.1 (by rw [HB.out.2.1]; omega) (by rw [HB.out.2.1]; omega) HB.out.2.2).mono ?_; rintro r w1 ⟨v1, rfl, ho1, hb1⟩; rw [HDV.out v1]; obtain ⟨a1, c1, hv1, hc1, _, hy1, _⟩ := ho1.shape; rw [HBL.out.1] at hv1 hc1; subst hv1; have HB1 : Hid (Below w.heap.size w w1 ∧ Bytes w1 a1 (decB l) ∧ B ≤ c1) := ⟨hb1, hy1, hc1⟩; clear ho1 hb1 hy1 hc1)
                | (go_at_call 37; refine (HARM.out _ _ _ (HB1.out.2.1.keep ((Below.refl _ _).alloc (Nat.le_refl _) _)) HB1.out.2.2).mono ?_; rintro e w2 ⟨g, c2, xa, cp, rfl, hlt, k0, k1, hb2⟩; have HB2 : Hid (Below w.heap.size w w2) := below_next (HB1.out.1.alloc HB1.out.1.size _) hb2; obtain ⟨_, ks, _⟩ := ((FrmAt.new w1 2 (S : Int) (.slice a1 B c1)).keep hb2).cells; clear hb2)
                | (go_at_call 31; refine (sginB_any _ _ _).mono ?_; rw [HH.out.2.1]; rintro e w3 ⟨rfl, rfl⟩))
              go_region
              go_wp2_with (go_at_call 31; refine (sginB_any _ _ _).mono ?_; rw [HH.out.2.1]; rintro e w3 ⟨rfl, rfl⟩)
              (try simp only [Exit.inBlock, Exit.then])
              refine bodyPost_ret (results_tmp4 rfl _ _ _) rfl ⟨by rw [ho_some HH.out.1, HH.out.2.2]; rfl, HB2.out.drew⟩
            · have hin0 : sgB (S : Int) (y : Int) = false := by simpa using hin
              have HH : Hid (hdr l = none ∧ sgB (S : Int) (y : Int) = false) := ⟨by
                rw [hof, if_neg]
                rintro ⟨_, _, j1, j2, j3⟩
                exact hin (decide_eq_true ⟨by omega, by omega, by omega, by omega⟩), hin0⟩
              clear hof hin hin0 hr0
              go_enter Tryd.func14, Tryd.ntmps14
              go_wp2_with (first
                | (go_at_call 36; refine (fdec_any l n a cap w HB.out.2.1 HB.out.1 (by rw [HB.out.2.1]; omega) (by rw [HB.out.2.1]; omega) HB.out.2.2).mono ?_; rintro r w1 ⟨v1, rfl, ho1, hb1⟩; rw [HDV.out v1]; obtain ⟨a1, c1, hv1, hc1, _, hy1, _⟩ := ho1.shape; rw [HBL.out.1] at hv1 hc1; subst hv1; have HB1 : Hid (Below w.heap.size w w1 ∧ Bytes w1 a1 (decB l) ∧ B ≤ c1) := ⟨hb1, hy1, hc1⟩; clear ho1 hb1 hy1 hc1)
                | (go_at_call 37; refine (HARM.out _ _ _ (HB1.out.2.1.keep ((Below.refl _ _).alloc (Nat.le_refl _) _)) HB1.out.2.2).mono ?_; rintro e w2 ⟨g, c2, xa, cp, rfl, hlt, k0, k1, hb2⟩; have HB2 : Hid (Below w.heap.size w w2) := below_next (HB1.out.1.alloc HB1.out.1.size _) hb2; obtain ⟨_, ks, _⟩ := ((FrmAt.new w1 2 (S : Int) (.slice a1 B c1)).keep hb2).cells; clear hb2))
              go_region
              go_wp2_with (go_at_call 31; refine (sginB_any _ _ _).mono ?_; rw [HH.out.2]; rintro e w3 ⟨rfl, rfl⟩)
              (try simp only [Exit.inBlock, Exit.then])
              refine bodyPost_ret (results_tmp4 rfl _ _ _) rfl ⟨by rw [ho_none HH.out.1]; rfl, HB2.out.drew⟩
          · have HH : Hid (hdr l = none) := by
              show _ = _
              rw [hof, if_neg (fun h => hSx h.2.1)]
            have hSI2 : ((S : Int) != (x : Int)) = true := by simp; omega
            clear hof hr0
            go_enter Tryd.func14, Tryd.ntmps14
            go_wp2_with (first
              | (go_at_call 36; refine (fdec_any l n a cap w HB.out.2.1 HB.out.1 (by rw [HB.out.2.1]; omega) (by rw [HB.out.2.1]; omega) HB.out.2.2).mono ?_; rintro r w1 ⟨v1, rfl, ho1, hb1⟩; rw [HDV.out v1]; obtain ⟨a1, c1, hv1, hc1, _, hy1, _⟩ := ho1.shape; rw [HBL.out.1] at hv1 hc1; subst hv1; have HB1 : Hid (Below w.heap.size w w1 ∧ Bytes w1 a1 (decB l) ∧ B ≤ c1) := ⟨hb1, hy1, hc1⟩; clear ho1 hb1 hy1 hc1)
              | (go_at_call 37; refine (HARM.out _ _ _ (HB1.out.2.1.keep ((Below.refl _ _).alloc (Nat.le_refl _) _)) HB1.out.2.2).mono ?_; rintro e w2 ⟨g, c2, xa, cp, rfl, hlt, k0, k1, hb2⟩; have HB2 : Hid (Below w.heap.size w w2) := below_next (HB1.out.1.alloc HB1.out.1.size _) hb2; obtain ⟨_, ks, _⟩ := ((FrmAt.new w1 2 (S : Int) (.slice a1 B c1)).keep hb2).cells; clear hb2))
            go_region
            go_wp2
            (try simp only [Exit.inBlock, Exit.then])
            refine bodyPost_ret (results_tmp4 rfl _ _ _) rfl ⟨by rw [ho_none HH.out]; rfl, HB2.out.drew⟩
        · have HH : Hid (hdr l = none) := by
            show _ = _
            rw [hof, if_neg]
            rintro ⟨h, _⟩
            rw [h] at HN
            exact hR0 HN.out.2.symm
          have hRI : (0 : Int) < (R : Int) := by omega
          clear hof
          go_enter Tryd.func14, Tryd.ntmps14
          go_wp2_with (first
            | (go_at_call 36; refine (fdec_any l n a cap w HB.out.2.1 HB.out.1 (by rw [HB.out.2.1]; omega) (by rw [HB.out.2.1]; omega) HB.out.2.2).mono ?_; rintro r w1 ⟨v1, rfl, ho1, hb1⟩; rw [HDV.out v1]; obtain ⟨a1, c1, hv1, hc1, _, hy1, _⟩ := ho1.shape; rw [HBL.out.1] at hv1 hc1; subst hv1; have HB1 : Hid (Below w.heap.size w w1 ∧ Bytes w1 a1 (decB l) ∧ B ≤ c1) := ⟨hb1, hy1, hc1⟩; clear ho1 hb1 hy1 hc1)
            | (go_at_call 37; refine (HARM.out _ _ _ (HB1.out.2.1.keep ((Below.refl _ _).alloc (Nat.le_refl _) _)) HB1.out.2.2).mono ?_; rintro e w2 ⟨g, c2, xa, cp, rfl, hlt, k0, k1, hb2⟩; have HB2 : Hid (Below w.heap.size w w2) := below_next (HB1.out.1.alloc HB1.out.1.size _) hb2; obtain ⟨_, ks, _⟩ := ((FrmAt.new w1 2 (S : Int) (.slice a1 B c1)).keep hb2).cells; clear hb2))
          (try simp only [Exit.inBlock, Exit.then])
          refine bodyPost_ret (results_tmp4 rfl _ _ _) rfl ⟨by rw [ho_none HH.out]; rfl, HB2.out⟩
    · have HH : Hid (hdr l = none) := hdr_none_e l (.inr (by rw [hP]; exact hK))
      have hPI : ((P : Int) != 2) = true := by simp; omega
      clear hP hS hB b1 b2 b3 b4 b5 b6 b7 hE
      go_enter Tryd.func14, Tryd.ntmps14
      go_wp2_with (go_at_call 36; refine (fdec_any l n a cap w HB.out.2.1 HB.out.1 (by rw [HB.out.2.1]; omega) (by rw [HB.out.2.1]; omega) HB.out.2.2).mono ?_; rintro r w1 ⟨v1, rfl, ho1, hb1⟩; rw [HDV.out v1]; obtain ⟨a1, c1, hv1, _⟩ := ho1.shape; subst hv1; have HB1 : Hid (Below w.heap.size w w1) := hb1; clear ho1 hb1)
      (try simp only [Exit.inBlock, Exit.then])
      refine bodyPost_ret (results_tmp4 rfl _ _ _) rfl ⟨by rw [ho_none HH.out]; rfl, HB1.out.alloc HB1.out.size _⟩
  · obtain ⟨e, he⟩ : ∃ e, decE l = e := ⟨_, rfl⟩
    have HDV : Hid (∀ v, DV l v = .tuple #[FrV 0 0 v, .int .i64 0, .int .i64 (e : Int)]) := fun v => (dv_none l v e he (by omega)).1
    have HH : Hid (hdr l = none) := hdr_none_e l (.inl hE)
    have heI : ((e : Int) != 0) = true := by simp; omega
    clear hE he
    go_enter Tryd.func14, Tryd.ntmps14
    go_wp2_with (go_at_call 36; refine (fdec_any l n a cap w HB.out.2.1 HB.out.1 (by rw [HB.out.2.1]; omega) (by rw [HB.out.2.1]; omega) HB.out.2.2).mono ?_; rintro r w1 ⟨v1, rfl, ho1, hb1⟩; rw [HDV.out v1]; obtain ⟨a1, c1, hv1, _⟩ := ho1.shape; subst hv1; have HB1 : Hid (Below w.heap.size w w1) := hb1; clear ho1 hb1)
    (try simp only [Exit.inBlock, Exit.then])
    refine bodyPost_ret (results_tmp4 rfl _ _ _) rfl ⟨by rw [ho_none HH.out]; rfl, HB1.out.alloc HB1.out.size _⟩
end Go.Proofs.YtaegmeilhdbnnaaDoor
namespace Go.Proofs.YtaegmeilhdbnnaaDoor
open Go.ChangeShapes Go.WideShapes Go.ChangeAt Go.RowKit
set_option linter.unusedVariables false
set_option maxRecDepth 20000 in
set_option maxHeartbeats 4000000 in
theorem ienc_any (L : List Mk) (n : Nat) (a : Option Addr) (cap : Nat) (w : World) (hn : L.length = n) (hm : Marks w a L) (hl : n ≤ maxLen) :
    Calls Tryd.prog 73 #[.slice a n cap] w fun e w' => ∃ v, e = .returned (.tuple #[v, .int .i64 (if validB L = true then 0 else 70)]) ∧ Own w' w.heap.size v (if validB L = true then mEnc L else []) ∧ Below w.heap.size w w' := by
  have HM : Hid (Marks w a L) := hm
  have HN : Hid (L.length = n) := hn
  have HLM : Hid (n ≤ maxLen) := hl
  by_cases hV : validB L = true
  · rw [if_pos hV, if_pos hV]
    obtain ⟨i0, hi, hz0, hz1, hz2⟩ := info_parts Tryd.info64
    have hle := valid_len hV
    rw [hn] at hle
    have HVF : Hid (vfrom 0 (-1) (L.drop 0) = true) := valid_from hV
    have HME : Hid (∀ x ∈ dls 0 0 L, x ≤ 18446744073709551615) := mEnc_le L hV
    have HDL : Hid ((dls 0 0 L).length = 2 * n) := by show _ = _; rw [dls_length, hn]
    have HV : Hid (validB L = true) := hV
    have hnI : (n : Int) ≤ 512 := by omega
    clear hm hn hl hV
    go_enter Tryd.func73, Tryd.ntmps73
    go_wp2_with (first
      | (go_at_call 76; refine (valid_any L _ _ _ _ HN.out HM.out HLM.out).mono ?_; rw [HV.out]; rintro e w1 ⟨rfl, hb1⟩; have hs1 := hb1.size)
      | (at_make; refine wpList_make_own _ rfl _ _ 104 rfl w.heap.size 81 i0 (.int .u64 0) 1 Tryd.underlying104 hi hz0 hz1 _ _ _ (2 * n) rfl rfl (by omega) (by rw [hz2]; omega) (by unfold maxLen; omega) hs1 ?_))
    intro w2 ho hg
    have hb2 : Below w.heap.size w w2 := hb1.grown hg hs1 (fun k hk => by cases hk)
    have hs2 := hb2.size
    have hOW : Own64 w2 w.heap.size (.slice (some ⟨w1.heap.size, 0, none⟩) 0 (2 * n)) [] := ⟨by simp, ho⟩
    have HOW : Hid (_) := hOW
    clear ho hOW hg
    go_wp2
    go_loopw [4, 17] (fun vus vi wr => ∃ (v0 : Value) (k : Nat) (s y y' : Int) (U : List Nat), v0 = vus ∧ k ≤ n ∧ vi = .int .i64 k ∧ MkAt wr w2.heap.size s y ∧ Own64 wr w.heap.size v0 U ∧ U ++ dls s y (L.drop k) = dls 0 0 L ∧ U.length = 2 * k ∧ 0 ≤ s ∧ 0 ≤ y ∧ s ≤ 1099511627776 ∧ y ≤ 1099511627776 ∧ y ≤ y' + 1 ∧ vfrom s y' (L.drop k) = true ∧ Below w.heap.size w wr) (fun _ vi _ => n - (intOf vi).toNat)
    case atStart => exact ⟨_, 0, 0, 0, -1, [], rfl, Nat.zero_le _, rfl, heap_alloc_new w2 _, ⟨HOW.out.1, World.ownsRow.alloc HOW.out.2 _⟩, rfl, rfl, by omega, by omega, by omega, by omega, by omega, HVF.out, hb2.alloc hs2 _⟩
    case round =>
      obtain ⟨v0, k, s, y, y', U, rfl, hk, rfl, hbx, hU, hd, hUl, hs0, hy0, hs40, hy40, hyy, hv, hbe⟩ := hrel
      have HBX : Hid (MkAt wr w2.heap.size s y) := hbx
      have HU : Hid (Own64 wr w.heap.size v0 U) := hU
      have HD : Hid (U ++ dls s y (L.drop k) = dls 0 0 L) := hd
      have HUL : Hid (U.length = 2 * k) := hUl
      have hlt2 := lt_of_heap hbx
      have hbs := hbe.size
      by_cases hkn : k < n
      · obtain ⟨⟨x, z⟩, hp⟩ := get_of_lt (L := L) (k := k) (by rw [HN.out]; exact hkn)
        rcases HM.out with h0 | ⟨b, off, rfl, hlt, hc⟩
        · exfalso; have := HN.out; rw [h0] at this; simp at this; omega
        obtain ⟨c0, c1⟩ := Marks.cells hc k (x, z) hp
        rw [← hbe.cell (p := ⟨b, off + k * 2, none⟩) hlt] at c0
        rw [← hbe.cell (p := ⟨b, off + k * 2 + 1, none⟩) hlt] at c1
        simp only at c0 c1
        rw [drop_get L k _ hp] at hv hd
        obtain ⟨g1, g2, g3, g4, g5⟩ := vfrom_head hv
        simp only at g1 g2 g3 g4 g5
        obtain ⟨d1, hxs⟩ : ∃ d1 : Nat, x - s = (d1 : Int) := ⟨(x - s).toNat, by omega⟩
        obtain ⟨d2, hzy⟩ : ∃ d2 : Nat, z - y = (d2 : Int) := ⟨(z - y).toNat, by omega⟩
        have hdd : dls s y ((x, z) :: L.drop (k + 1)) = d1 :: d2 :: dls x z (L.drop (k + 1)) := by
          simp only [dls]
          rw [show (x - s).toNat = d1 from by omega, show (z - y).toNat = d2 from by omega]
        rw [hdd] at hd
        have HD2 : Hid (U ++ [d1, d2] ++ dls x z (L.drop (k + 1)) = dls 0 0 L) := by show _ = _; rw [← hd]; simp
        have HG5 : Hid (vfrom x z (L.drop (k + 1)) = true) := g5
        have hd1 : (d1 : Int) ≤ 1099511627776 := by omega
        have hd2 : (d2 : Int) ≤ 1099511627776 := by omega
        have hd1n : d1 < 18446744073709551616 := by omega
        have hd2n : d2 < 18446744073709551616 := by omega
        have HDN : Hid (d1 < 18446744073709551616 ∧ d2 < 18446744073709551616) := ⟨hd1n, hd2n⟩
        obtain ⟨q0, q1, q2, q3⟩ := mk_box hbx
        have HO : Hid (((wr.alloc (.cells #[.int .i64 x, .int .i64 z] 69)).alloc (.cells #[.int .u64 (d1 : Int), .int .u64 (d2 : Int)] 81)).ownsRow w.heap.size 81 1 v0 (2 * k) (B64 U)) := by
          have h := World.ownsRow.alloc (World.ownsRow.alloc hU.2 (.cells #[.int .i64 x, .int .i64 z] 69)) (.cells #[.int .u64 (d1 : Int), .int .u64 (d2 : Int)] 81)
          rw [hUl] at h
          exact h
        have HA : Hid (MkAt ((wr.alloc (.cells #[.int .i64 x, .int .i64 z] 69)).alloc (.cells #[.int .u64 (d1 : Int), .int .u64 (d2 : Int)] 81)) w2.heap.size s y ∧ MkAt ((wr.alloc (.cells #[.int .i64 x, .int .i64 z] 69)).alloc (.cells #[.int .u64 (d1 : Int), .int .u64 (d2 : Int)] 81)) wr.heap.size x z) := ⟨mk_alloc (mk_alloc hbx _) _, mk_alloc (heap_alloc_new wr _) _⟩
        have HB : Hid (Below w.heap.size w ((wr.alloc (.cells #[.int .i64 x, .int .i64 z] 69)).alloc (.cells #[.int .u64 (d1 : Int), .int .u64 (d2 : Int)] 81))) := (hbe.alloc hbs _).alloc (by simp; omega) _
        clear hd1n hd2n hd hdd hp hc hv hU hbx hUl g1 g2 g5 HOW HVF hb1 hb2 hyy
        go_wp2_with (at_builtin; refine wpList_append_own _ rfl _ _ 104 rfl w.heap.size 81 i0 (.int .u64 0) 1 8 Tryd.underlying104 hi hz0 hz1 hz2 rfl (by decide) _ _ _ rfl HO.out ⟨wr.heap.size + 1, 0, none⟩ 2 2 [.int .u64 (d1 : Int), .int .u64 (d2 : Int)] rfl rfl (by have h := cell_new2 (wr.alloc (.cells #[.int .i64 x, .int .i64 z] 69)) (.int .u64 (d1 : Int)) (.int .u64 (d2 : Int)) 81; simpa using h) (one_new2 _ _) (by unfold maxLen; omega) (by omega) (by simp; omega) ?_; intro v4 w4 ho4 hg4 _; have hb4 := grown_row HB.out HO.out (by simp; omega) hg4; have hA4 : MkAt w4 w2.heap.size s y := grown_box HO.out hg4 HA.out.1 (by decide); have hM4 : MkAt w4 wr.heap.size x z := grown_box HO.out hg4 HA.out.2 (by decide); have hO4 : Own64 w4 w.heap.size v4 (U ++ [d1, d2]) := Own64.snoc2 HU.out.1 HDN.out.1 HDN.out.2 (by rw [HUL.out]; exact ho4); have HA4 : Hid (MkAt w4 w2.heap.size s y ∧ Own64 w4 w.heap.size v4 (U ++ [d1, d2])) := ⟨hA4, hO4⟩; obtain ⟨r0, r1, r2, r3⟩ := mk_box hA4; obtain ⟨t0, t1, _, _⟩ := mk_box hM4; clear hg4 ho4 hA4 hM4 hO4)
        go_roundw
        case rel =>
          refine ⟨v4, k + 1, x, z, z, U ++ [d1, d2], rfl, by omega, by go_num, mk_set HA4.out.1 x z, ?_, HD2.out, by rw [List.length_append, HUL.out]; rfl, by omega, by omega, by omega, by omega, by omega, HG5.out, ?_⟩
          · exact ⟨HA4.out.2.1, own_set (own_set HA4.out.2.2 HA4.out.1 (by decide) 0 _) (heap_setCell_same w4 w2.heap.size 0 _ _ (.int .i64 x) HA4.out.1) (by decide) 1 _⟩
          · exact (hb4.setCell (p := ⟨w2.heap.size, 0, none⟩) hs2 _).setCell (p := ⟨w2.heap.size, 1, none⟩) hs2 _
        case measure => simp [intOf]; omega
      · have hkn2 : k = n := by omega
        subst hkn2
        have HUE : Hid (U = dls 0 0 L) := by
          show U = _
          have h := HD.out
          rw [List.drop_eq_nil_of_le (by rw [HN.out]; omega)] at h
          simpa [dls] using h
        obtain ⟨ag, cg, hv0, hnum⟩ := HU.out.slice
        rw [HUL.out] at hv0
        subst hv0
        have HNU : Hid (Nums wr ag U) := hnum
        clear hnum hU hbx hd hUl hv HD HVF HOW HM HU hb1 hb2 hyy
        go_wp2_with (go_at_call 89; refine (encAll_any U _ _ _ _ HUL.out HNU.out (by omega)).mono ?_; rintro e w5 ⟨v5, rfl, ho5, hb5⟩)
        go_ret2
        refine ⟨_, rfl, ?_, hbe.trans (hb5.mono hbs)⟩
        unfold mEnc
        rw [← HUE.out]
        exact ⟨ho5.1, ho5.2.mono hbs⟩
  · rw [if_neg hV, if_neg hV]
    have HV : Hid (validB L = false) := by show _ = _; simpa using hV
    clear hm hn hl hV
    go_enter Tryd.func73, Tryd.ntmps73
    go_wp2_with (go_at_call 76; refine (valid_any L _ _ _ _ HN.out HM.out HLM.out).mono ?_; rw [HV.out]; rintro e w1 ⟨rfl, hb1⟩)
    go_ret2
    exact ⟨_, rfl, own_nil _ _, hb1⟩
end Go.Proofs.YtaegmeilhdbnnaaDoor
