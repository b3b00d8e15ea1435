/-
  page.between, RightSeat: what they answer.
-/
import Derived.Test.YtjehcgkmapapbaaRefPgE
import Derived.Test.YtjehcgkmapapbaaBkProg
import Derived.Test.YtjehcgkmapapbaaOwnMore
import Derived.Test.YtjehcgkmapapbaaPgEq
namespace Go.Proofs.Ytjehcgkmapapbaa
set_option linter.unusedVariables false
set_option linter.unusedSimpArgs false
open Go.RowKit

set_option maxHeartbeats 1000000 in
theorem pbetween_any (v a b : Int) (w : World) : Calls Try.prog 21 #[.int .i64 v, .int .i64 a, .int .i64 b] w fun e w' => e = .returned (.bool (decide (a ≤ v ∧ v ≤ b))) ∧ w' = w := by
  by_cases c1 : a ≤ v
  · have hv : decide (a ≤ v ∧ v ≤ b) = decide (v ≤ b) := decide_eq_decide.2 ⟨fun h => h.2, fun h => ⟨c1, h⟩⟩
    rw [hv]; clear hv
    go_enter Try.func21, Try.ntmps21
    go_wp2_with fail
    go_ret
    exact ⟨rfl, rfl⟩
  · have hv : decide (a ≤ v ∧ v ≤ b) = false := decide_eq_false fun h => c1 h.1
    rw [hv]; clear hv
    go_enter Try.func21, Try.ntmps21
    go_wp2_with fail
    go_ret
    exact ⟨rfl, rfl⟩

set_option maxRecDepth 100000 in
set_option maxHeartbeats 1000000 in
theorem rightseat_any (b : Bool) (g n : Int) (w : World) : Calls Try.prog 8 #[.agg #[.bool b, .int .i64 g, .int .i64 n]] w fun e w' => e = .returned (.bool (Pg.seatB ⟨b, g, n⟩)) ∧ Below w.heap.size w w' := by
  have HB : Hid (Below w.heap.size w (w.alloc (.cells #[.bool b, .int .i64 g, .int .i64 n] 23))) := (Below.refl _ _).alloc (Nat.le_refl _) _
  have H1 := hide (fun W => pbetween_any g 1 4294967295 W)
  cases b with
  | true =>
    have H2 := hide (fun W => pbetween_any n 2 3071 W)
    by_cases c1 : 1 ≤ g ∧ g ≤ 4294967295
    · have hv : Pg.seatB ⟨true, g, n⟩ = decide (2 ≤ n ∧ n ≤ 3071) := by
        unfold Pg.seatB
        simp only [if_pos rfl]
        rw [decide_eq_true (by omega), Bool.true_and]
        exact decide_eq_decide.2 ⟨fun h => h.2, fun h => ⟨by omega, h⟩⟩
      rw [decide_eq_true c1] at H1
      rw [hv]; clear hv
      generalize decide (2 ≤ n ∧ n ≤ 3071) = q at *
      go_enter Try.func8, Try.ntmps8
      go_wp2_with (first | (go_at_call_of 21 (Value.int .i64 4294967295); refine (H1.out _).mono ?_; rintro e w' ⟨rfl, hw'⟩; obtain rfl := hw'.symm) | (go_at_call_of 21 (Value.int .i64 3071); refine (H2.out _).mono ?_; rintro e w' ⟨rfl, hw'⟩; obtain rfl := hw'.symm))
      go_ret
      exact ⟨rfl, HB.out⟩
    · have hv : Pg.seatB ⟨true, g, n⟩ = false := by
        unfold Pg.seatB
        simp only [if_pos rfl]
        simp only [if_true]
        by_cases h0 : 0 ≤ g ∧ g ≤ 4294967295
        · rw [decide_eq_false (p := 0 < g ∧ 2 ≤ n ∧ n ≤ 3071) (by omega), Bool.and_false]
        · rw [decide_eq_false h0, Bool.false_and]
      rw [decide_eq_false c1] at H1
      rw [hv]; clear hv
      go_enter Try.func8, Try.ntmps8
      go_wp2_with (first | (go_at_call_of 21 (Value.int .i64 4294967295); refine (H1.out _).mono ?_; rintro e w' ⟨rfl, hw'⟩; obtain rfl := hw'.symm) | (go_at_call_of 21 (Value.int .i64 3071); refine (H2.out _).mono ?_; rintro e w' ⟨rfl, hw'⟩; obtain rfl := hw'.symm))
      go_ret
      exact ⟨rfl, HB.out⟩
  | false =>
    have H2 := hide (fun W => pbetween_any n 0 1792 W)
    by_cases c0 : g = 0
    · subst c0
      have hv : Pg.seatB ⟨false, 0, n⟩ = (n == 0) := by
        unfold Pg.seatB
        simp only [Bool.false_eq_true, if_false]
        rw [decide_eq_true (by omega), Bool.true_and]
        rw [Bool.eq_iff_iff]
        simp
        omega
      rw [hv]; clear hv
      go_enter Try.func8, Try.ntmps8
      go_wp2_with fail
      go_ret
      exact ⟨rfl, HB.out⟩
    have d0 : (g == 0) = false := by simpa using c0
    by_cases c1 : 1 ≤ g ∧ g ≤ 4294967295
    · have hv : Pg.seatB ⟨false, g, n⟩ = decide (0 ≤ n ∧ n ≤ 1792) := by
        unfold Pg.seatB
        simp only [Bool.false_eq_true, if_false]
        rw [decide_eq_true (by omega), Bool.true_and]
        exact decide_eq_decide.2 ⟨fun h => ⟨h.1, h.2.1⟩, fun h => ⟨h.1, h.2, .inl c0⟩⟩
      rw [decide_eq_true c1] at H1
      rw [hv]; clear hv
      generalize decide (0 ≤ n ∧ n ≤ 1792) = q at *
      go_enter Try.func8, Try.ntmps8
      go_wp2_with (first | (go_at_call_of 21 (Value.int .i64 4294967295); refine (H1.out _).mono ?_; rintro e w' ⟨rfl, hw'⟩; obtain rfl := hw'.symm) | (go_at_call_of 21 (Value.int .i64 1792); refine (H2.out _).mono ?_; rintro e w' ⟨rfl, hw'⟩; obtain rfl := hw'.symm))
      go_ret
      exact ⟨rfl, HB.out⟩
    · have hv : Pg.seatB ⟨false, g, n⟩ = false := by
        unfold Pg.seatB
        rw [decide_eq_false (p := 0 ≤ g ∧ _) (by simp only; omega), Bool.false_and]
      rw [decide_eq_false c1] at H1
      rw [hv]; clear hv
      go_enter Try.func8, Try.ntmps8
      go_wp2_with (first | (go_at_call_of 21 (Value.int .i64 4294967295); refine (H1.out _).mono ?_; rintro e w' ⟨rfl, hw'⟩; obtain rfl := hw'.symm) | (go_at_call_of 21 (Value.int .i64 1792); refine (H2.out _).mono ?_; rintro e w' ⟨rfl, hw'⟩; obtain rfl := hw'.symm))
      go_ret
      exact ⟨rfl, HB.out⟩
end Go.Proofs.Ytjehcgkmapapbaa
