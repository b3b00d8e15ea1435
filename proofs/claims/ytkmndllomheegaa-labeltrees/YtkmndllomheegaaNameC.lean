/-
  name.Runes: what it answers.
-/
import Derived.Test.YtkmndllomheegaaNameP
import Derived.Test.YtkmndllomheegaaGround
namespace Go.Proofs.Ytkmndllomheegaa
set_option linter.unusedVariables false
set_option linter.unusedSimpArgs false
open Go.RowKit

theorem info_i64 : (Try.prog.info? 3).map (fun i => (i.zero, i.size, i.bytes)) = some (some (.int .i64 0), 1, 8) := by kernel_rfl

/-- a text's runes as numbers. -/
def runeNums (m : List Nat) : List Int := m.map Int.ofNat
theorem runeNums_length (m : List Nat) : (runeNums m).length = m.length := by simp [runeNums]
theorem runeNums_snoc (m : List Nat) (r : Nat) : (runeNums (m ++ [r])) = runeNums m ++ [(r : Int)] := by simp [runeNums]

end Go.Proofs.Ytkmndllomheegaa
