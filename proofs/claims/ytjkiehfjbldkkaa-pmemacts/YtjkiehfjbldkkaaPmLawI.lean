/-
  Layer 5's statements: PmemActs, whatever comes in.
-/
import Derived.Test.YtjkiehfjbldkkaaPmLawC
namespace Go.Proofs.Ytjkiehfjbldkkaa
set_option linter.unusedVariables false
set_option linter.unusedSimpArgs false
open Go.RowKit

theorem acts_any {w : World} (n : Int) {a : Option Addr} {len cap : Nat} {xs : List Ac} (hA : Acts w a len cap xs) :
    Calls Try.prog 3 #[.int .i64 n, .slice a len cap] w fun e w' => e = .returned (.bool true) ∧ Below w.heap.size w w' := by
  cases h : smallB xs 60 with
  | false => exact acts_great n hA (.inl h)
  | true =>
    by_cases h1 : 20 < n ∧ n ≤ 4096
    · exact acts_great n hA (.inr ⟨h, h1⟩)
    · by_cases h2 : n < 0 ∨ 4096 < n
      · exact acts_no n hA h h2
      · obtain ⟨m, rfl⟩ : ∃ m : Nat, n = m := ⟨n.toNat, by omega⟩
        exact acts_yes m (by omega) hA h
end Go.Proofs.Ytjkiehfjbldkkaa
