/- Own texts, joined: Rj0. -/
import Derived.Test.YtldbdhhbmnbmaaaGreatM61
import Derived.Test.YtldbdhhbmnbmaaaGreatK54
import Derived.Test.YtldbdhhbmnbmaaaGreatM22
import Derived.Test.YtldbdhhbmnbmaaaGreatM64
namespace Go.Proofs.YtldbdhhbmnbmaaaGreat
open Go.ChangeShapes Go.WideShapes Go.ChangeAt Go.RowKit
set_option linter.unusedVariables false
set_option linter.unusedSimpArgs false
theorem SE.cs {w x : World} {s : St} {e : Ev} {a : Option Addr} {n cap : Nat} {K : Int} (h : SE w s e a n cap x) (hk : e.kind = K) : x.cell? ⟨w.heap.size, 0, none⟩ = some (.int .i64 s.order) ∧ x.cell? ⟨w.heap.size, 1, none⟩ = some (.int .i64 s.status) ∧ x.cell? ⟨w.heap.size, 5, none⟩ = some (.slice a n cap) ∧ x.cell? ⟨w.heap.size, 6, none⟩ = some (.int .i64 s.paid) ∧ x.cell? ⟨w.heap.size, 7, none⟩ = some (.int .i64 s.refunded) ∧ x.cell? ⟨w.heap.size, 8, none⟩ = some (.int .i64 s.events) ∧ x.cell? ⟨w.heap.size + 1, 0, none⟩ = some (.int .i64 K) ∧ x.cell? ⟨w.heap.size + 1, 1, none⟩ = some (.int .i64 e.order) ∧ x.cell? ⟨w.heap.size + 1, 2, none⟩ = some (.int .i64 e.item) ∧ x.cell? ⟨w.heap.size + 1, 3, none⟩ = some (.int .i64 e.qty) ∧ x.cell? ⟨w.heap.size + 1, 4, none⟩ = some (.int .i64 e.price) :=
  ⟨h.st.cell 0 _ rfl, h.st.cell 1 _ rfl, h.st.cell 5 _ rfl, h.st.cell 6 _ rfl, h.st.cell 7 _ rfl, h.st.cell 8 _ rfl, by rw [← hk]; exact h.ev.cell 0 _ rfl, h.ev.cell 1 _ rfl, h.ev.cell 2 _ rfl, h.ev.cell 3 _ rfl, h.ev.cell 4 _ rfl⟩
theorem wrap_id {x : Int} (h1 : -9223372036854775808 ≤ x) (h2 : x ≤ 9223372036854775807) : IntKind.i64.wrap x = x := by rw [wrap_i64]; omega
theorem SE.drewN {w x : World} {s : St} {e : Ev} {a : Option Addr} {n cap : Nat} (h : SE w s e a n cap x) (m : Nat) : SE w s e a n cap (x.drewN m) := h.keep (below_drewN (Below.refl _ _) m)
set_option maxRecDepth 20000 in
set_option maxHeartbeats 4000000 in
theorem rj_broken (s : St) (e : Ev) (a : Option Addr) (n cap : Nat) (w : World) (hn : s.lines.length = n) (hl : Lns w a s.lines) (hm : n ≤ maxLen) (hj : vldB s = false ∨ chk 5 e ≠ 0 ∨ s.events = 1099511627776) :
    Calls Tryz.prog 15 #[.agg (stA s (.slice a n cap)), .agg (evA e)] w fun r w' => r = .returned (.int .i64 (judS s e)) ∧ Below w.heap.size w w' := by
  have hR : judS s e = 1 := by unfold judS; rw [if_pos hj]
  rw [hR]
  obtain ⟨W, hW, HS⟩ := se_new w s e a n cap hl
  have HS1 : Hid (SE w s e a n cap W) := HS
  have HN : Hid (s.lines.length = n) := hn
  cases hv : vldB s with
  | false =>
    have HV : Hid (vldB s = false) := hv
    clear hn hl hv hj HS
    go_enter Tryz.func15, Tryz.ntmps15
    go_wp2_with (first | ((with_reducible refine guard_load 25 ?_); refine wpList_load_st rfl _ rfl HS1.out.st rfl ?_) | (go_at_call 29; refine (rvalid_any s a n cap _ HN.out HS1.out.ln hm).mono ?_; rw [HV.out]; rintro _ x2 ⟨rfl, hb2⟩; have HS2 : Hid (SE w s e a n cap x2) := SE.keep HS1.out hb2; clear hb2))
    go_ret
    exact ⟨rfl, HS2.out.bel⟩
  | true =>
    have HV : Hid (vldB s = true) := hv
    obtain ⟨c, hc⟩ : ∃ c, chk 5 e = c := ⟨_, rfl⟩
    have HC : Hid (chk 5 e = c) := hc
    by_cases h0 : c = 0
    · have he : s.events = 1099511627776 := by rcases hj with h | h | h; (rw [hv] at h; cases h); (exact absurd (hc.trans h0) h); exact h
      have heb : (s.events == 1099511627776) = true := by simpa using he
      have hcb : (c != 0) = false := by simpa using h0
      clear hn hl hv hj HS hc h0
      go_enter Tryz.func15, Tryz.ntmps15
      go_wp2_with (first | ((with_reducible refine guard_load 25 ?_); refine wpList_load_st rfl _ rfl HS1.out.st rfl ?_) | (go_at_call 29; refine (rvalid_any s a n cap _ HN.out HS1.out.ln hm).mono ?_; rw [HV.out]; rintro _ x2 ⟨rfl, hb2⟩; have HS2 : Hid (SE w s e a n cap x2) := SE.keep HS1.out hb2; clear hb2) | ((with_reducible refine guard_loadg 28 ?_); refine wpList_load_evg rfl _ rfl HS2.out.ev rfl ?_) | (go_at_call 30; refine (rcheck_ev 5 e _).mono ?_; rw [HC.out]; rintro _ x3 ⟨rfl, hb3⟩; have HS3 : Hid (SE w s e a n cap x3) := SE.keep HS2.out hb3; obtain ⟨c0, c1, c5, c6, c7, c8, d0, d1, d2, d3, d4⟩ := SE.cs HS3.out (rfl : e.kind = e.kind); clear hb3))
      go_ret
      exact ⟨rfl, HS3.out.bel⟩
    · have hcb : (c != 0) = true := by simpa using h0
      clear hn hl hv hj HS hc
      go_enter Tryz.func15, Tryz.ntmps15
      go_wp2_with (first | ((with_reducible refine guard_load 25 ?_); refine wpList_load_st rfl _ rfl HS1.out.st rfl ?_) | (go_at_call 29; refine (rvalid_any s a n cap _ HN.out HS1.out.ln hm).mono ?_; rw [HV.out]; rintro _ x2 ⟨rfl, hb2⟩; have HS2 : Hid (SE w s e a n cap x2) := SE.keep HS1.out hb2; clear hb2) | ((with_reducible refine guard_loadg 28 ?_); refine wpList_load_evg rfl _ rfl HS2.out.ev rfl ?_) | (go_at_call 30; refine (rcheck_ev 5 e _).mono ?_; rw [HC.out]; rintro _ x3 ⟨rfl, hb3⟩; have HS3 : Hid (SE w s e a n cap x3) := SE.keep HS2.out hb3; obtain ⟨c0, c1, c5, c6, c7, c8, d0, d1, d2, d3, d4⟩ := SE.cs HS3.out (rfl : e.kind = e.kind); clear hb3))
      go_ret
      exact ⟨rfl, HS3.out.bel⟩
set_option maxRecDepth 20000 in
set_option maxHeartbeats 4000000 in
theorem rj_foreign (s : St) (e : Ev) (a : Option Addr) (n cap : Nat) (w : World) (hn : s.lines.length = n) (hl : Lns w a s.lines) (hm : n ≤ maxLen) (hv : vldB s = true) (hc : chk 5 e = 0) (he : s.events ≠ 1099511627776) (ho : e.order ≠ s.order) :
    Calls Tryz.prog 15 #[.agg (stA s (.slice a n cap)), .agg (evA e)] w fun r w' => r = .returned (.int .i64 (judS s e)) ∧ Below w.heap.size w w' := by
  have hR : judS s e = 2 := by unfold judS; rw [if_neg (by rintro (h | h | h); (rw [hv] at h; cases h); exact h hc; exact he h), if_pos ho]
  rw [hR]
  obtain ⟨W, hW, HS⟩ := se_new w s e a n cap hl
  have HS1 : Hid (SE w s e a n cap W) := HS
  have HN : Hid (s.lines.length = n) := hn
  have HV : Hid (vldB s = true) := hv
  have HC : Hid (chk 5 e = 0) := hc
  have heb : (s.events == 1099511627776) = false := by simpa using he
  have hob : (e.order != s.order) = true := by simpa using ho
  clear hn hl hv hc HS
  go_enter Tryz.func15, Tryz.ntmps15
  go_wp2_with (first | ((with_reducible refine guard_load 25 ?_); refine wpList_load_st rfl _ rfl HS1.out.st rfl ?_) | (go_at_call 29; refine (rvalid_any s a n cap _ HN.out HS1.out.ln hm).mono ?_; rw [HV.out]; rintro _ x2 ⟨rfl, hb2⟩; have HS2 : Hid (SE w s e a n cap x2) := SE.keep HS1.out hb2; clear hb2) | ((with_reducible refine guard_loadg 28 ?_); refine wpList_load_evg rfl _ rfl HS2.out.ev rfl ?_) | (go_at_call 30; refine (rcheck_ev 5 e _).mono ?_; rw [HC.out]; rintro _ x3 ⟨rfl, hb3⟩; have HS3 : Hid (SE w s e a n cap x3) := SE.keep HS2.out hb3; obtain ⟨c0, c1, c5, c6, c7, c8, d0, d1, d2, d3, d4⟩ := SE.cs HS3.out (rfl : e.kind = e.kind); clear hb3))
  go_ret
  exact ⟨rfl, HS3.out.bel⟩
theorem jud_std {s : St} {e : Ev} {K : Int} (hv : vldB s = true) (hc : chk 5 e = 0) (he : s.events ≠ 1099511627776) (ho : e.order = s.order) (hk : e.kind = K) : judS s e = if stdR s K ≠ 0 then stdR s K else refR s e := by
  subst hk
  unfold judS
  rw [if_neg (by rintro (h | h | h); (rw [hv] at h; cases h); exact h hc; exact he h), if_neg (by omega)]
end Go.Proofs.YtldbdhhbmnbmaaaGreat
