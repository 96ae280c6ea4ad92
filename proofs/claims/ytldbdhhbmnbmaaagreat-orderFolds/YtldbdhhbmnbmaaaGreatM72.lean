/- Own texts, joined: Rja. -/
import Derived.Test.YtldbdhhbmnbmaaaGreatM68
import Derived.Test.YtldbdhhbmnbmaaaGreatM69
import Derived.Test.YtldbdhhbmnbmaaaGreatM70
import Derived.Test.YtldbdhhbmnbmaaaGreatM71
namespace Go.Proofs.YtldbdhhbmnbmaaaGreat
open Go.ChangeShapes Go.WideShapes Go.ChangeAt Go.RowKit
theorem rjudge_any (s : St) (e : Ev) (a : Option Addr) (n cap : Nat) (w : World) (hn : s.lines.length = n) (hl : Lns w a s.lines) (hm : n ≤ maxLen) :
    Calls Tryz.prog 15 #[.agg (stA s (.slice a n cap)), .agg (evA e)] w fun r w' => r = .returned (.int .i64 (judS s e)) ∧ Below w.heap.size w w' := by
  by_cases hj : vldB s = false ∨ chk 5 e ≠ 0 ∨ s.events = 1099511627776
  · exact rj_broken s e a n cap w hn hl hm hj
  · have hv : vldB s = true := by
      cases h : vldB s with
      | true => rfl
      | false => exact absurd (.inl h) hj
    have hc : chk 5 e = 0 := by
      by_cases h : chk 5 e = 0
      · exact h
      · exact absurd (.inr (.inl h)) hj
    have he : s.events ≠ 1099511627776 := fun h => hj (.inr (.inr h))
    by_cases ho : e.order = s.order
    · have hr := right_of hc
      have k0 := hr.kind0
      have k1 : e.kind ≤ 10 := by have := hr.kind1; have h5 : lastK 5 ≤ 10 := (by decide); omega
      have h : e.kind = 1 ∨ e.kind = 2 ∨ e.kind = 3 ∨ e.kind = 4 ∨ e.kind = 5 ∨ e.kind = 6 ∨ e.kind = 7 ∨ e.kind = 8 ∨ e.kind = 9 ∨ e.kind = 10 := by omega
      rcases h with h | h | h | h | h | h | h | h | h | h
      · exact rj_1 s e a n cap w hn hl hm hv hc he ho h
      · exact rj_2 s e a n cap w hn hl hm hv hc he ho h
      · exact rj_3 s e a n cap w hn hl hm hv hc he ho h
      · exact rj_4 s e a n cap w hn hl hm hv hc he ho h
      · exact rj_5 s e a n cap w hn hl hm hv hc he ho h
      · exact rj_6 s e a n cap w hn hl hm hv hc he ho h
      · exact rj_7 s e a n cap w hn hl hm hv hc he ho h
      · exact rj_8 s e a n cap w hn hl hm hv hc he ho h
      · exact rj_9 s e a n cap w hn hl hm hv hc he ho h
      · exact rj_10 s e a n cap w hn hl hm hv hc he ho h
    · exact rj_foreign s e a n cap w hn hl hm hv hc he ho
end Go.Proofs.YtldbdhhbmnbmaaaGreat
