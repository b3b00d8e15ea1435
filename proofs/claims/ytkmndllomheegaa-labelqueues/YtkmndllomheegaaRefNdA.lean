/-
  The document's answers (layer 8): Block, Right, Put.
-/
import Derived.Test.YtkmndllomheegaaRefBkB
import Derived.Test.YtkmndllomheegaaNdNums
namespace Go.Proofs.Ytkmndllomheegaa
set_option linter.unusedVariables false
set_option linter.unusedSimpArgs false
open Go.RowKit

set_option maxHeartbeats 400000 in
theorem rblock_any (k : Int) (w : World) : Calls Try.prog 25 #[.int .i64 k] w fun e w' => e = .returned (.bool (Nd.kidB k)) ∧ w' = w := by
  by_cases c1 : 2 ≤ k
  · by_cases c2 : k ≤ 3071
    · have hv : Nd.kidB k = true := decide_eq_true ⟨c1, c2⟩
      rw [hv]; clear hv
      go_enter Try.func25, Try.ntmps25
      go_wp2
      go_ret
      exact ⟨rfl, rfl⟩
    · have hv : Nd.kidB k = false := decide_eq_false (by omega)
      rw [hv]; clear hv
      go_enter Try.func25, Try.ntmps25
      go_wp2
      go_ret
      exact ⟨rfl, rfl⟩
  · have hv : Nd.kidB k = false := decide_eq_false (by omega)
    rw [hv]; clear hv
    go_enter Try.func25, Try.ntmps25
    go_wp2
    go_ret
    exact ⟨rfl, rfl⟩

end Go.Proofs.Ytkmndllomheegaa
