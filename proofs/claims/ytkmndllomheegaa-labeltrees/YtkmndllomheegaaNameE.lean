/-
  Which runes are a name's; which texts are names: the program's and the document's answers.
-/
import Derived.Test.YtkmndllomheegaaNameD
namespace Go.Proofs.Ytkmndllomheegaa
set_option linter.unusedVariables false
set_option linter.unusedSimpArgs false
open Go.RowKit

/-- where a rune lies among the bounds. -/
theorem of_cases (r : Int) : (r < 45 ∧ ofR r = false) ∨ (r = 45 ∧ ofR r = true) ∨ (45 < r ∧ r < 48 ∧ ofR r = false) ∨ (48 ≤ r ∧ r ≤ 57 ∧ ofR r = true) ∨ (57 < r ∧ r < 65 ∧ ofR r = false) ∨ (65 ≤ r ∧ r ≤ 90 ∧ ofR r = true) ∨ (90 < r ∧ r < 95 ∧ ofR r = false) ∨ (r = 95 ∧ ofR r = true) ∨ (95 < r ∧ r < 97 ∧ ofR r = false) ∨ (97 ≤ r ∧ r ≤ 122 ∧ ofR r = true) ∨ (122 < r ∧ r < 161 ∧ ofR r = false) ∨ (161 ≤ r ∧ r ≤ 65519 ∧ ofR r = true) ∨ (65519 < r ∧ ofR r = false) := by
  simp only [ofR, decide_eq_true_eq, decide_eq_false_iff_not]
  omega

set_option maxHeartbeats 2000000 in
theorem nof_any (r : Int) (w : World) : Calls Try.prog 42 #[.int .i32 r] w fun e w' => e = .returned (.bool (ofR r)) ∧ w' = w := by
  rcases of_cases r with ⟨h1, h⟩ | ⟨rfl, h⟩ | ⟨h1, h2, h⟩ | ⟨h1, h2, h⟩ | ⟨h1, h2, h⟩ | ⟨h1, h2, h⟩ | ⟨h1, h2, h⟩ | ⟨rfl, h⟩ | ⟨h1, h2, h⟩ | ⟨h1, h2, h⟩ | ⟨h1, h2, h⟩ | ⟨h1, h2, h⟩ | ⟨h1, h⟩
  all_goals
    have HH := hide h
    clear h
    go_enter Try.func42, Try.ntmps42
    go_wp2
    go_ret
    exact ⟨by rw [HH.out]; first | rfl | (congr 2; simp; omega), rfl⟩

set_option maxHeartbeats 2000000 in
theorem rof_any (r : Int) (w : World) : Calls Try.prog 41 #[.int .i64 r] w fun e w' => e = .returned (.bool (ofR r)) ∧ w' = w := by
  rcases of_cases r with ⟨h1, h⟩ | ⟨rfl, h⟩ | ⟨h1, h2, h⟩ | ⟨h1, h2, h⟩ | ⟨h1, h2, h⟩ | ⟨h1, h2, h⟩ | ⟨h1, h2, h⟩ | ⟨rfl, h⟩ | ⟨h1, h2, h⟩ | ⟨h1, h2, h⟩ | ⟨h1, h2, h⟩ | ⟨h1, h2, h⟩ | ⟨h1, h⟩
  all_goals
    have HH := hide h
    clear h
    go_enter Try.func41, Try.ntmps41
    go_wp2
    go_ret
    exact ⟨by rw [HH.out]; first | rfl | (congr 2; simp; omega), rfl⟩
end Go.Proofs.Ytkmndllomheegaa
