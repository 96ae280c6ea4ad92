/- Own texts, joined: Sg6, Bulk. -/
import Derived.Test.YtaegmeilhdbnnaaDoorJ13
import Derived.Test.YtaegmeilhdbnnaaDoorJ06
import Derived.Test.YtaegmeilhdbnnaaDoorRows
namespace Go.Proofs.YtaegmeilhdbnnaaDoor
open Go.ChangeShapes Go.WideShapes Go.ChangeAt Go.RowKit
set_option linter.unusedVariables false
theorem hdrL_len (x y : Nat) : (hdrL x y).length = (nencs [x, y]).length + 20 := by unfold hdrL; exact frameL_length _ _ _
theorem pn_laid (k s : Nat) (body r : List Nat) (hb : ∀ y ∈ body, y < 256) (hk1 : 1 ≤ k) (hk7 : k ≤ 7) (hn : body.length ≤ 16384) (hs : s ≤ 1099511627776) : pn (frameL k s body ++ r) = body.length := by
  obtain ⟨a1, _, _, a4, _⟩ := dec_laid k s body r hb hk1 hk7 hn hs
  unfold decN at a4
  rw [if_pos a1] at a4
  omega
theorem ho_laid (x y : Nat) (r : List Nat) (hx1 : 1 ≤ x) (hx : x ≤ 999999) (hy1 : 1 ≤ y) (hy : y ≤ 1099511627777) : HoV (hdrL x y ++ r) = .tuple #[.int .i64 (x : Int), .int .i64 (y : Int), .int .i64 (((nencs [x, y]).length : Int) + 20), .int .i64 0] := by
  obtain ⟨q1, q2⟩ := hdr_body x y hx hy
  rw [ho_some (hdr_back x y r hx1 hx hy1 hy)]
  unfold hdrL
  rw [pn_laid 2 x (nencs [x, y]) r q1 (by omega) (by omega) (by omega) (by omega)]
set_option maxRecDepth 20000 in
set_option maxHeartbeats 2000000 in
theorem head14_any (w : World) (ht : Tab w) : Calls Tryd.prog 9 #[] w fun e w' => e = .returned (.bool true) ∧ Below w.heap.size w w' := by
  have HT : Hid (Tab w) := ht
  have HV : Hid (hdE 1 1 = 0 ∧ hdV 1 1 = hdrL 1 1) := ⟨rfl, rfl⟩
  have hlen : (hdrL 1 1).length = 22 := by rw [hdrL_len]; rfl
  have HL : Hid ((hdrL 1 1).length = 22 ∧ hdrL 1 1 ≠ []) := ⟨hlen, fun h => by rw [h] at hlen; simp at hlen⟩
  have HO : Hid (HoV (hdrL 1 1) = .tuple #[.int .i64 1, .int .i64 1, .int .i64 22, .int .i64 0]) := by
    have h := ho_laid 1 1 [] (by omega) (by omega) (by omega) (by omega)
    rw [List.append_nil] at h
    exact h
  clear ht hlen
  go_enter Tryd.func9, Tryd.ntmps9
  go_wp2_with (first
    | (go_at_call 11; refine (header_any 1 1 w HT.out).mono ?_; rw [HV.out.1, HV.out.2]; rintro e w1 ⟨v1, rfl, ho1, hb1⟩; obtain ⟨g1, c1, hv1, hc1, hy1⟩ := ho1.row HL.out.2; rw [HL.out.1] at hv1 hc1; subst hv1; have HY1 : Hid (Bytes w1 (some ⟨g1, 0, none⟩) (hdrL 1 1) ∧ 22 ≤ c1 ∧ Below w.heap.size w w1) := ⟨hy1, hc1, hb1⟩; clear ho1 hb1 hy1 hc1)
    | (go_at_call 14; refine (headerOf_any (hdrL 1 1) 22 _ _ _ HL.out.1 HY1.out.1 (by omega) HY1.out.2.1 (HT.out.keep HY1.out.2.2)).mono ?_; rw [HO.out]; rintro e w2 ⟨rfl, hb2⟩; have HB2 : Hid (Below w.heap.size w w2) := below_next HY1.out.2.2 hb2; clear hb2))
  go_ret
  exact ⟨rfl, HB2.out⟩
theorem copy_n (l : List Nat) (n : Nat) (a : Option Addr) (cap : Nat) (w : World) (hn : l.length = n) (hb : Bytes w a l) (hl : n ≤ 140737488351232) :
    Calls Tryd.prog 15 #[.slice a n cap] w fun e w' => ∃ a2 c2, e = .returned (.slice a2 n c2) ∧ n ≤ c2 ∧ Bytes w' a2 l ∧ Below w.heap.size w w' := by
  subst hn
  refine (copy_any l a cap w hb (by omega)).mono ?_
  rintro e w' ⟨v, rfl, ho, hb⟩
  obtain ⟨a2, c2, hv, hc, _, hy, _⟩ := ho.shape
  exact ⟨a2, c2, by rw [hv], hc, hy, hb⟩
end Go.Proofs.YtaegmeilhdbnnaaDoor
namespace Go.Proofs.YtaegmeilhdbnnaaDoor.bulks
theorem pos {H : Type} (d : DataW H) : 0 < Rows.uptoBulk d := by
  cases d with
  | lit x => cases x <;> simp [Rows.uptoBulk]
  | _ => simp [Rows.uptoBulk]
theorem places {H : Type} : ∀ l : List (DataW H), l.length ≤ Rows.uptoBulkAll l
  | [] => Nat.zero_le _
  | d :: r => by
    have h1 := pos d
    have h2 := places r
    simp only [Rows.uptoBulkAll, List.length_cons]
    omega
theorem slice_le {H : Type} (xs ys : List (DataW H)) : xs.length + ys.length + 1 ≤ Rows.uptoBulk (.slice xs ys) := by
  have h1 := places xs
  have h2 := places ys
  simp only [Rows.uptoBulk]
  omega
theorem bound {H : Type} {l : List (DataW H)} (hk : Rows.uptoSmall H l = true) : Rows.uptoBulkAll l ≤ 1048576 := of_decide_eq_true hk
end Go.Proofs.YtaegmeilhdbnnaaDoor.bulks
