/-
  The document's answers (layer 12): Right, Need, Charts, Leaves, Fans, Bound.
-/
import Derived.Test.YtmildaofmgeceaaGround
import Derived.Test.YtmildaofmgeceaaGmNums
import Derived.Test.YtmildaofmgeceaaRegs
import Derived.BigQuiet
namespace Go.Proofs.Ytmildaofmgeceaa
set_option linter.unusedVariables false
set_option linter.unusedSimpArgs false
open Go.RowKit

/-- the first of six that fails. -/
theorem gm_cases (b s g : Int) (h : Gm.right b s g = false) : b < 16 ∨ (16 ≤ b ∧ 3072 < b) ∨ (16 ≤ b ∧ b ≤ 3072 ∧ s < 1) ∨ (16 ≤ b ∧ b ≤ 3072 ∧ 1 ≤ s ∧ 1792 < s) ∨ (16 ≤ b ∧ b ≤ 3072 ∧ 1 ≤ s ∧ s ≤ 1792 ∧ g < 1) ∨ (16 ≤ b ∧ b ≤ 3072 ∧ 1 ≤ s ∧ s ≤ 1792 ∧ 1 ≤ g ∧ 4294967295 < g) := by
  have := of_decide_eq_false h
  omega

set_option maxRecDepth 100000 in
set_option maxHeartbeats 1000000 in
theorem rgmright_any (b s g : Int) (w : World) : Calls Try.prog 22 #[.agg #[.int .i64 b, .int .i64 s, .int .i64 g]] w fun e w' => e = .returned (.bool (Gm.right b s g)) ∧ Below w.heap.size w w' := by
  have HB : Hid (Below w.heap.size w (w.alloc (.cells #[.int .i64 b, .int .i64 s, .int .i64 g] 23))) := (Below.refl _ _).alloc (Nat.le_refl _) _
  cases hr : Gm.right b s g with
  | true =>
    obtain ⟨⟨h1, h2⟩, ⟨h3, h4⟩, h5, h6⟩ := of_decide_eq_true hr
    clear hr
    go_enter Try.func22, Try.ntmps22
    go_wp2_with fail
    go_ret
    exact ⟨by simp [h6], HB.out⟩
  | false =>
    rcases gm_cases b s g hr with h | ⟨h1, h⟩ | ⟨h1, h2, h⟩ | ⟨h1, h2, h3, h⟩ | ⟨h1, h2, h3, h4, h⟩ | ⟨h1, h2, h3, h4, h5, h⟩
    all_goals
      clear hr
      go_enter Try.func22, Try.ntmps22
      go_wp2_with fail
      go_ret
      exact ⟨by simp <;> omega, HB.out⟩

set_option maxHeartbeats 1000000 in
theorem need_any (n each : Nat) (w : World) (he : 1 ≤ each) (he2 : each ≤ 1000) (hn : n ≤ 10000) :
    Calls Try.prog 39 #[.int .i64 n, .int .i64 each] w fun e w' => e = .returned (.int .i64 (Gm.need n each : Nat)) ∧ w' = w := by
  have HST := hide (fun k (h : n ≤ k * each) (hk : ∀ i, i < k → i * each < n) => Gm.need_stop (n := n) (each := each) (k := k) he h hk)
  go_enter Try.func39, Try.ntmps39
  go_wp2_with fail
  go_loop [5] (fun k => ∃ j : Nat, j ≤ 10000 ∧ k = .int .i64 j ∧ ∀ i, i < j → i * each < n) (fun k => 10001 - (intOf k).toNat)
  case atStart => exact ⟨0, Nat.zero_le _, rfl, fun i hi => absurd hi (Nat.not_lt_zero i)⟩
  case round =>
    obtain ⟨j, hj, rfl, hall⟩ := hrel
    obtain ⟨t, ht⟩ : ∃ t : Nat, j * each = t := ⟨_, rfl⟩
    have htI : (j : Int) * (each : Int) = (t : Int) := by rw [← ht]; exact (Int.natCast_mul j each).symm
    have htb : t ≤ 10000000 := by rw [← ht]; exact Nat.le_trans (Nat.mul_le_mul hj he2) (by decide)
    have hjt : j ≤ t := by rw [← ht]; exact Nat.le_mul_of_pos_right j he
    have HALL := hide hall
    have HT := hide ht
    clear hall ht
    by_cases hlt : t < n
    · have hlI : (t : Int) < (n : Int) := by omega
      have hj1 : j + 1 ≤ 10000 := by omega
      clear hjt
      go_wp2_with fail
      go_round
      case rel =>
        refine ⟨j + 1, hj1, by go_num, fun i hi => ?_⟩
        rcases Nat.lt_succ_iff_lt_or_eq.1 hi with h | rfl
        · exact HALL.out i h
        · rw [HT.out]; exact hlt
      case measure => simp [intOf]; omega
    · have hlI : ¬ (t : Int) < (n : Int) := by omega
      have HE := hide (HST.out j (by rw [HT.out]; omega) HALL.out)
      clear hjt
      go_wp2_with fail
      go_ret
      exact ⟨by rw [HE.out]; rfl, rfl⟩


set_option maxHeartbeats 1000000 in
theorem rcharts_any (b s g : Int) (w : World) (hb : 0 ≤ b ∧ b ≤ 3072) : Calls Try.prog 23 #[.agg #[.int .i64 b, .int .i64 s, .int .i64 g]] w fun e w' => e = .returned (.int .i64 (Gm.charts b.toNat : Nat)) ∧ Below w.heap.size w w' := by
  obtain ⟨n, rfl⟩ : ∃ n : Nat, b = n := ⟨b.toNat, by omega⟩
  have HB : Hid (Below w.heap.size w (w.alloc (.cells #[.int .i64 n, .int .i64 s, .int .i64 g] 23))) := (Below.refl _ _).alloc (Nat.le_refl _) _
  have HN := hide (fun W => need_any n 384 W (by decide) (by decide) (by omega))
  rw [show ((384 : Nat) : Int) = 384 from rfl] at HN
  have HC : Hid (Gm.need n 384 = Gm.charts n) := rfl
  rw [HC.out] at HN
  rw [Int.toNat_natCast]
  go_enter Try.func23, Try.ntmps23
  go_wp2_with fail
  refine (HN.out _).mono ?_
  rintro e w5 ⟨rfl, hw5⟩
  obtain rfl := hw5.symm
  go_wp2_with fail
  go_ret
  exact ⟨rfl, HB.out⟩

end Go.Proofs.Ytmildaofmgeceaa
