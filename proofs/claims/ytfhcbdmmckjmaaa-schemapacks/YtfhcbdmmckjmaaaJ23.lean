/- Own texts, joined: Sr3. -/
import Derived.Test.YtfhcbdmmckjmaaaJ21
import Derived.Test.YtfhcbdmmckjmaaaJ19
import Derived.Test.YtfhcbdmmckjmaaaJ22
namespace Go.Proofs.Ytfhcbdmmckjmaaa
open Go.ChangeShapes Go.WideShapes Go.ChangeAt Go.RowKit
set_option linter.unusedVariables false
set_option maxRecDepth 20000 in
set_option maxHeartbeats 1000000 in
theorem renc06_any (v : Int) (E : Ev) (w : World) : Calls Try.prog 12 #[.int .i64 v, .agg (evA E)] w fun x w' => SencPost w v E x w' := by
  have HA : Hid (EvAt (w.alloc (.cells (evA E) 24)) w.heap.size E) := evAt_new w E
  have HAB : Hid (Below w.heap.size w (w.alloc (.cells (evA E) 24))) := (Below.refl _ _).alloc (Nat.le_refl _) _
  by_cases hc : chk v E = 0
  · have r := right_of hc
    have HR : Hid (Right v E) := r
    have HC : Hid (_) := hc
    have HENC : Hid (_) := efs_encs r
    have HFL : Hid (∀ f ∈ efs v E, f.num ≤ 18446744073709551615 ∧ f.bytes.length ≤ maxLen) := fun f hf => by
      obtain ⟨h1, _, h3⟩ := r.flds f (List.mem_filter.1 hf).1
      exact ⟨h1, by unfold maxLen; omega⟩
    have HE1 : Hid (senc v E = (ones (efs v E), 0)) := if_neg (by simp [hc])
    clear hc r
    go_enter Try.func12, Try.ntmps12
    go_wp2_with (first
      | ((with_reducible refine guard_load 24 ?_); first | refine wpList_load_ev rfl _ rfl HA1.out rfl ?_ | refine wpList_load_ev rfl _ rfl HA.out rfl ?_)
      | (go_at_call 11; refine (rcheck_ev v E _).mono ?_; rw [HC.out]; rintro _ w1 ⟨rfl, hb1⟩; have HA1 : Hid (EvAt w1 w.heap.size E) := HA.out.after hb1; have HB1 : Hid (Below w.heap.size w w1) := below_next HAB.out hb1; clear hb1)
      | (go_at_call 29; refine (rfields_any v E _ HR.out).mono ?_; rintro _ w2 ⟨vf, L, rfl, hL, hn, hr, hb2⟩; obtain ⟨fa, fc, hvf, hfs⟩ := hr.fs (fun p hp => HFL.out p.1 (by rw [← hL]; exact List.mem_map_of_mem hp)); subst hvf; have HL : Hid (_) := hL; have HFS : Hid (FsAt w2 fa L) := hfs; have HB2 : Hid (Below w.heap.size w w2) := below_next HB1.out hb2; clear hL hr hb2 hfs)
      | (go_at_call 28; refine (rtenc L fa L.length fc _ rfl HFS.out (by omega)).mono ?_; rw [HL.out, HENC.out]; rintro _ w3 ⟨v3, rfl, ho3, hb3⟩; have HO3 : Hid (Own w3 w.heap.size v3 (ones (efs v E))) := ⟨ho3.1, ho3.2.mono HB2.out.size⟩; have HB3 : Hid (Below w.heap.size w w3) := below_next HB2.out hb3; clear ho3 hb3))
    go_ret2
    exact ⟨_, by rw [HE1.out]; rfl, by rw [HE1.out]; exact HO3.out, HB3.out⟩
  · have HE1 : Hid (senc v E = ([], chk v E)) := if_pos hc
    obtain ⟨c, hC⟩ : ∃ c, chk v E = c := ⟨_, rfl⟩
    rw [hC] at hc HE1
    have HC : Hid (_) := hC
    have hcb : (c != 0) = true := by simpa using hc
    clear hC
    go_enter Try.func12, Try.ntmps12
    go_wp2_with (first
      | ((with_reducible refine guard_load 24 ?_); refine wpList_load_ev rfl _ rfl HA.out rfl ?_)
      | (go_at_call 11; refine (rcheck_ev v E _).mono ?_; rw [HC.out]; rintro _ w1 ⟨rfl, hb1⟩; have HB1 : Hid (Below w.heap.size w w1) := below_next HAB.out hb1; clear hb1))
    go_ret2
    exact ⟨_, by rw [HE1.out]; rfl, by rw [HE1.out]; exact ⟨by simp, World.ownsRow_nil _ _ _ 1⟩, HB1.out⟩
end Go.Proofs.Ytfhcbdmmckjmaaa
