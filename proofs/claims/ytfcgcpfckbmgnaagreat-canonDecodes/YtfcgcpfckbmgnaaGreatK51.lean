/- Own texts, joined: Rv4. -/
import Derived.Test.YtfcgcpfckbmgnaaGreatK29
import Derived.Test.YtfcgcpfckbmgnaaGreatK30
import Derived.Test.YtfcgcpfckbmgnaaGreatK31
import Derived.Test.YtfcgcpfckbmgnaaGreatK32
import Derived.Test.YtfcgcpfckbmgnaaGreatK33
import Derived.Test.YtfcgcpfckbmgnaaGreatK34
import Derived.Test.YtfcgcpfckbmgnaaGreatK35
import Derived.Test.YtfcgcpfckbmgnaaGreatK36
import Derived.Test.YtfcgcpfckbmgnaaGreatK37
import Derived.Test.YtfcgcpfckbmgnaaGreatK38
namespace Go.Proofs.YtfcgcpfckbmgnaaGreat
open Go.ChangeShapes Go.WideShapes Go.ChangeAt Go.RowKit
theorem rvalid_any (s : St) (a : Option Addr) (n cap : Nat) (w : World) (hn : s.lines.length = n) (hl : Lns w a s.lines) (hm : n ≤ maxLen) :
    Calls Tryz.prog 15 #[.agg (stA s (.slice a n cap))] w fun e w' => e = .returned (.bool (vldB s)) ∧ Below w.heap.size w w' := by
  by_cases h1 : NumOk s
  · by_cases h2 : chk 4 (whoE s.who) = 0
    · cases h3 : linesB s.lines with
      | false =>
        rw [vldB_no (fun h => by rw [h3] at h; exact absurd h.2.1 (by decide))]
        exact rvalid_lines s a n cap w hn hl hm h1 h2 h3
      | true =>
        by_cases h4 : 0 ≤ s.refunded ∧ s.refunded ≤ s.paid ∧ 0 ≤ s.paid ∧ s.paid ≤ dueS s
        · have hv : vldB s = (priorB s && fitsB s) := by
            have a1 : bndS s = true := (bndS_iff s).2 ⟨h1, h2⟩
            have a2 : wit 0 s.paid (dueS s) = true := by simp only [wit_true]; exact ⟨h4.2.2.1, h4.2.2.2⟩
            have a3 : wit 0 s.refunded s.paid = true := by simp only [wit_true]; exact ⟨h4.1, h4.2.1⟩
            unfold vldB
            rw [a1, h3, a2, a3]
            simp only [Bool.true_and]
          rw [hv]
          by_cases hst : s.status = 2
          · by_cases hp1 : s.prior = 1
            · by_cases hp : 0 < s.paid
              · cases hq : (s.paid == dueS s) with
                | false => exact rvalid_restA0 s a n cap w hn hl hm h1 h2 h3 h4 hst hp1 hp hq
                | true => exact rvalid_restA1 s a n cap w hn hl hm h1 h2 h3 h4 hst hp1 hp hq
              · exact rvalid_restA2 s a n cap w hn hl hm h1 h2 h3 h4 hst hp1 hp
            · by_cases hp3 : s.prior = 3
              · by_cases hp : 0 < s.paid
                · cases hq : (s.paid == dueS s) with
                  | false => exact rvalid_restB0 s a n cap w hn hl hm h1 h2 h3 h4 hst hp1 hp3 hp hq
                  | true => exact rvalid_restB1 s a n cap w hn hl hm h1 h2 h3 h4 hst hp1 hp3 hp hq
                · exact rvalid_restB2 s a n cap w hn hl hm h1 h2 h3 h4 hst hp1 hp3 hp
              · exact rvalid_restD s a n cap w hn hl hm h1 h2 h3 h4 hst hp1 hp3
          · by_cases hp0 : s.prior = 0
            · by_cases hp : 0 < s.paid
              · cases hq : (s.paid == dueS s) with
                | false => exact rvalid_restC0 s a n cap w hn hl hm h1 h2 h3 h4 hst hp0 hp hq
                | true => exact rvalid_restC1 s a n cap w hn hl hm h1 h2 h3 h4 hst hp0 hp hq
              · exact rvalid_restC2 s a n cap w hn hl hm h1 h2 h3 h4 hst hp0 hp
            · exact rvalid_restE s a n cap w hn hl hm h1 h2 h3 h4 hst hp0
        · rw [vldB_no (fun h => h4 (by
            have b1 := h.2.2.2.1
            have b2 := h.2.2.2.2.1
            simp only [wit_true] at b1 b2
            exact ⟨b2.1, b2.2, b1.1, b1.2⟩))]
          exact rvalid_money s a n cap w hn hl hm h1 h2 h3 h4
    · rw [vldB_no (fun h => h2 ((bndS_iff s).1 h.1).2)]
      exact rvalid_who s a n cap w hn hl hm h1 h2
  · rw [vldB_no (fun h => h1 ((bndS_iff s).1 h.1).1)]
    exact rvalid_num s a n cap w hn hl hm h1
end Go.Proofs.YtfcgcpfckbmgnaaGreat
