/-
  The statements' Rest: what is left of a number, from 0 on.
-/
import Derived.Test.YtmildaofmgeceaaGround
namespace Go.Proofs.Ytmildaofmgeceaa
set_option linter.unusedVariables false
set_option linter.unusedSimpArgs false
open Go.RowKit

theorem rest_num (a n : Int) (hn : 1 ≤ n) (hn2 : n ≤ 1000000) : (wrap64 (a.tmod n + n)).tmod n = a % n := by
  have h0 := Int.emod_nonneg a (show n ≠ 0 by omega)
  have h1 := Int.emod_lt_of_pos a (show 0 < n by omega)
  have hx : a.tmod n = a % n ∨ a.tmod n = a % n - n := by
    rw [Int.tmod_eq_emod]
    split
    · exact .inl (by omega)
    · exact .inr (by omega)
  have hw : wrap64 (a.tmod n + n) = a.tmod n + n := by
    unfold wrap64
    omega
  rw [hw, Int.tmod_eq_emod_of_nonneg (by omega)]
  rcases hx with e | e
  · rw [e, Int.add_emod_right, Int.emod_emod]
  · rw [e, Int.sub_add_cancel, Int.emod_emod]

set_option maxHeartbeats 400000 in
theorem rest_any (a n : Int) (w : World) (hn : 1 ≤ n) (hn2 : n ≤ 1000000) (ha : (Lit.int .i64 a).wf = true) :
    Calls Try.prog 17 #[.int .i64 a, .int .i64 n] w fun e w' => e = .returned (.int .i64 (a % n)) ∧ w' = w := by
  obtain ⟨h1, h2⟩ := bd_i64 ha
  clear ha
  have h0 : (n == 0) = false := by simp; omega
  go_enter Try.func17, Try.ntmps17
  go_wp2
  go_ret
  exact ⟨congrArg (fun x => Ending.returned (Value.int .i64 x)) (rest_num a n hn hn2), rfl⟩

/-- Rest by a whole number: what is left is one below it. -/
theorem rest_nat (a : Int) (n : Nat) (w : World) (hn : 1 ≤ n) (hn2 : n ≤ 1000000) (ha : (Lit.int .i64 a).wf = true) :
    ∃ k : Nat, k < n ∧ ∀ w, Calls Try.prog 17 #[.int .i64 a, .int .i64 n] w fun e w' => e = .returned (.int .i64 k) ∧ w' = w := by
  have h0 := Int.emod_nonneg a (show (n : Int) ≠ 0 by omega)
  have h1 := Int.emod_lt_of_pos a (show 0 < (n : Int) by omega)
  refine ⟨(a % n).toNat, by omega, fun w => ?_⟩
  have h := rest_any a n w (by omega) (by omega) ha
  rwa [show a % (n : Int) = ((a % (n : Int)).toNat : Nat) by omega] at h

end Go.Proofs.Ytmildaofmgeceaa
