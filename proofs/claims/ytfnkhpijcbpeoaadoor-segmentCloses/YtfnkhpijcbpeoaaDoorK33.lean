/- Own texts, joined: Slc2, Sg2. -/
import Derived.Test.YtfnkhpijcbpeoaaDoorK13
import Derived.Test.YtfnkhpijcbpeoaaDoorK32
import Derived.Test.YtfnkhpijcbpeoaaDoorK26
namespace Go.Proofs.YtfnkhpijcbpeoaaDoor
open Go.ChangeShapes Go.WideShapes Go.ChangeAt Go.RowKit
set_option linter.unusedVariables false
theorem wpList_slice_l2 {ops : Array Oper} {rest : List Oper} {o : Oper} {a : Act} {w : World} {Q : Exit → Act → World → Prop} (hgd : o.guard = none) (s lo : Operand) (ho : o.op = .slice 22 s (some lo) none none)
    {A : Option Addr} {n cap i : Nat} {l : List Nat} (hs : a.eval s = .slice A n cap) (hlo : a.eval lo = .int .i64 (i : Int)) (hi : i ≤ n) (hn : n ≤ cap) (hl : l.length = n)
    (h : ∀ x, (∀ w0, Bytes w0 A l → Bytes w0 x (l.drop i)) → wpList Tryd.prog ops Q rest (a.put o.dst (.slice x (n - i) (cap - i))) w) : wpList Tryd.prog ops Q (o :: rest) a w :=
  wpList_plain hgd fun _ hK => by
    have hrun := run_slice_l (P := Tryd.prog) w 22 A n cap slice_under .i64 (i : Int) (by omega) (by omega)
    unfold Oper.wp execOp
    simp only [ho, hs, hlo, Option.map_some, Option.map_none, Sem.run_bind, Sem.run_pure, Result.andThen_ok, run_sliceAt_slice (P := Tryd.prog) w 22 _ _ _ _ slice_under, hrun, slice_size, sliced, Int.toNat_natCast]
    exact hK _ _ (h _ (fun w0 hb => bytes_cut hb i cap (by omega) (by omega)))
end Go.Proofs.YtfnkhpijcbpeoaaDoor
namespace Go.Proofs.YtfnkhpijcbpeoaaDoor
open Go.ChangeShapes Go.WideShapes Go.ChangeAt Go.RowKit
set_option linter.unusedVariables false
theorem Tryd.infoSg : (Tryd.prog.info? 3).map (fun i => (i.zero, i.size, i.bytes)) = some (some (.int .i64 0), 1, 8) := by kernel_rfl
def I64 (l : List Nat) : List Value := l.map fun (n : Nat) => Value.int .i64 (n : Int)
theorem nrd_go (c : Nat) (l acc r : List Nat) (j u k : Nat) (hd : dec 0 0 r = (u, k, 0)) (hu : u ≤ 1099511627777) (h : nrd c l = (nrd (j + 1) r).map (fun q => (acc ++ q.1, q.2))) : nrd c l = (nrd j (r.drop k)).map (fun q => ((acc ++ [u]) ++ q.1, q.2)) := by
  rw [h, nrd_step j r u k 0 hd, if_pos ⟨rfl, hu⟩, Option.map_map]
  congr 1
  funext q
  simp
set_option maxRecDepth 20000 in
set_option maxHeartbeats 2000000 in
theorem read_any (l : List Nat) (c n : Nat) (a : Option Addr) (cap : Nat) (w : World) (hn : l.length = n) (hb : Bytes w a l) (hcap : n ≤ cap) (hl : n ≤ 281474976710656) (hc : c ≤ 16) :
    Calls Tryd.prog 17 #[.slice a n cap, .int .i64 (c : Int)] w fun e w' => ((∃ ns r va x cp, nrd c l = some (ns, r) ∧ e = .returned (.tuple #[va, .slice x r.length cp, .bool true]) ∧ w'.ownsRow w.heap.size 3 1 va c (I64 ns) ∧ Bytes w' x r ∧ r.length ≤ cp ∧ ns.length = c) ∨ (nrd c l = none ∧ e = .returned (.tuple #[.slice none 0 0, .slice none 0 0, .bool false]))) ∧ Below w.heap.size w w' := by
  obtain ⟨j0, ji, jz0, jz1, jz2⟩ := info_parts Tryd.infoSg
  have hcI : (c : Int) ≤ 16 := by omega
  have HB : Hid (Bytes w a l ∧ l.length = n ∧ ∀ x ∈ l, x < 256) := ⟨hb, hn, hb.mem⟩
  clear hb hn
  go_enter Tryd.func17, Tryd.ntmps17
  go_wp2
  go_loopw [0, 7, 12] (fun vb vn vi wr => ∃ (n0 : Value) (x : Option Addr) (m cp k : Nat) (acc r : List Nat), n0 = vn ∧ vb = .slice x m cp ∧ k ≤ c ∧ vi = .int .i64 k ∧ r.length = m ∧ m ≤ cp ∧ m ≤ 281474976710656 ∧ acc.length = k ∧ Bytes w x r ∧ wr.ownsRow w.heap.size 3 1 n0 k (I64 acc) ∧ nrd c l = (nrd (c - k) r).map (fun q => (acc ++ q.1, q.2)) ∧ Below w.heap.size w wr) (fun _ _ vi _ => c - (intOf vi).toNat)
  case atStart => exact ⟨_, a, n, cap, 0, [], l, rfl, rfl, Nat.zero_le _, rfl, HB.out.2.1, hcap, hl, rfl, HB.out.1, World.ownsRow_nil .., by simp, Below.refl _ _⟩
  case round =>
    obtain ⟨vn, x, m, cp, k, acc, r, rfl, rfl, hk, rfl, hm, hmc, hml, hacc, hy, ho, hrd, hbr⟩ := hrel
    have HR : Hid (r.length = m ∧ acc.length = k ∧ Bytes w x r ∧ wr.ownsRow w.heap.size 3 1 vn k (I64 acc) ∧ nrd c l = (nrd (c - k) r).map (fun q => (acc ++ q.1, q.2))) := ⟨hm, hacc, hy, ho, hrd⟩
    have hsz := hbr.size
    clear hm hacc hy ho hrd
    by_cases hkc : k < c
    · have hkI : (k : Int) < (c : Int) := by omega
      obtain ⟨u, hu⟩ : ∃ u, (dec 0 0 r).1 = u := ⟨_, rfl⟩
      obtain ⟨z, hz⟩ : ∃ z, (dec 0 0 r).2.1 = z := ⟨_, rfl⟩
      obtain ⟨e, he⟩ : ∃ e, (dec 0 0 r).2.2 = e := ⟨_, rfl⟩
      have hd : dec 0 0 r = (u, z, e) := by rw [← hu, ← hz, ← he]
      have HD : Hid (dec 0 0 r = (u, z, e)) := hd
      have HST := nrd_step (c - k - 1) r u z e hd
      have hck : c - k = (c - k - 1) + 1 := by omega
      by_cases he0 : e = 0
      · subst he0
        obtain ⟨_, f2, _, f4, _⟩ := vdec_form r HR.out.2.2.1.mem he
        rw [hz, HR.out.1] at f2
        rw [hu] at f4
        have hzI : (z : Int) ≤ (m : Int) := by omega
        clear hu hz he hd
        by_cases hub : u ≤ 1099511627777
        · have HN : Hid (nrd c l = (nrd (c - (k + 1)) (r.drop z)).map (fun q => ((acc ++ [u]) ++ q.1, q.2))) := by
            have h := HR.out.2.2.2.2
            rw [hck] at h
            have h2 := nrd_go c l acc r (c - k - 1) u z HD.out hub h
            rw [show c - (k + 1) = c - k - 1 from by omega]
            exact h2
          have huI : (u : Int) ≤ 1099511627777 := by omega
          have hu0 : (0 : Int) ≤ (u : Int) := by omega
          clear HST hck
          go_wp2_with (first
            | (go_at_call 38; refine (dec_at r m u z 0 x cp wr HR.out.1 HD.out (HR.out.2.2.1.keep hbr) (by rw [HR.out.1]; unfold maxLen; omega)).mono ?_; rintro e w1 ⟨rfl, rfl⟩)
            | (at_builtin; refine wpList_append_own _ rfl _ _ 53 rfl w.heap.size 3 j0 (.int .i64 0) 1 8 Tryd.underlying53 ji jz0 jz1 jz2 rfl (by decide) _ _ _ rfl (World.ownsRow.alloc HR.out.2.2.2.1 _) ⟨wr.heap.size, 0, none⟩ 1 1 [.int .i64 (u : Int)] rfl rfl (cell_new _ _ _) (one_new _) (by unfold maxLen; omega) (by omega) (by simp; omega) ?_; intro v6 w6 ho6 hg6 _; have HW6 : Hid (Below w.heap.size w w6) := grown_row (hbr.alloc hsz _) (World.ownsRow.alloc HR.out.2.2.2.1 _) (by simp; omega) hg6; have HE6 : Hid (w6.ownsRow w.heap.size 3 1 v6 (k + 1) (I64 (acc ++ [u]))) := (by show World.ownsRow _ _ _ _ _ _ _; have e : I64 (acc ++ [u]) = I64 acc ++ [.int .i64 (u : Int)] := (by simp [I64]); rw [e]; exact ho6); clear ho6 hg6)
            | ((with_reducible refine at_slice ?_); refine wpList_slice_l2 rfl _ _ rfl rfl rfl f2 hmc HR.out.1 ?_; intro y hy6; have HY7 : Hid (Bytes w y (r.drop z)) := hy6 w HR.out.2.2.1; clear hy6))
          go_roundw
          case rel => exact ⟨v6, y, m - z, cp - z, k + 1, acc ++ [u], r.drop z, rfl, rfl, by omega, by go_num, by rw [List.length_drop, HR.out.1], by omega, by omega, by rw [List.length_append, HR.out.2.1]; rfl, HY7.out, HE6.out, HN.out, HW6.out⟩
          case measure => simp [intOf]; omega
        · have HN : Hid (nrd c l = none) := by
            show _ = _
            rw [HR.out.2.2.2.2, hck, HST, if_neg (fun h => hub h.2)]
            rfl
          have huI : (1099511627777 : Int) < (u : Int) := by omega
          have hu64 : (u : Int) ≤ 18446744073709551615 := by omega
          clear HST hck
          go_wp2_with (go_at_call 38; refine (dec_at r m u z 0 x cp wr HR.out.1 HD.out (HR.out.2.2.1.keep hbr) (by rw [HR.out.1]; unfold maxLen; omega)).mono ?_; rintro e w1 ⟨rfl, rfl⟩)
          go_ret3
          exact ⟨.inr ⟨HN.out, rfl⟩, hbr⟩
      · have HN : Hid (nrd c l = none) := by
          show _ = _
          rw [HR.out.2.2.2.2, hck, HST, if_neg (fun h => he0 h.1)]
          rfl
        have heI : ((e : Int) != 0) = true := by simp; omega
        clear HST hck hu hz he hd
        go_wp2_with (go_at_call 38; refine (dec_at r m u z e x cp wr HR.out.1 HD.out (HR.out.2.2.1.keep hbr) (by rw [HR.out.1]; unfold maxLen; omega)).mono ?_; rintro e w1 ⟨rfl, rfl⟩)
        go_ret3
        exact ⟨.inr ⟨HN.out, rfl⟩, hbr⟩
    · obtain rfl : k = c := by omega
      have HN : Hid (nrd k l = some (acc, r)) := by
        show _ = _
        rw [HR.out.2.2.2.2, Nat.sub_self]
        simp [nrd]
      go_wp2
      go_ret3
      exact ⟨.inl ⟨acc, r, vn, x, cp, HN.out, by rw [HR.out.1]; rfl, HR.out.2.2.2.1, HR.out.2.2.1.keep hbr, by rw [HR.out.1]; exact hmc, HR.out.2.1⟩, hbr⟩
end Go.Proofs.YtfnkhpijcbpeoaaDoor
