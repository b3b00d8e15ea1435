/-
  strconv.FormatInt at base 16, of a number from 0 to 1114111: its digits.
-/
import Derived.Test.YtpekemiplldlpaaDoorTabs
import Derived.Test.YtpekemiplldlpaaDoorStrs
import Derived.Test.YtpekemiplldlpaaDoorBytes
import Derived.Laws.Bits64b
namespace Go.Proofs.YtpekemiplldlpaaDoor
set_option linter.unusedVariables false
set_option linter.unusedSimpArgs false
open Go.RowKit

/-- a digit. -/
def hxd (d : Nat) : Int := if d < 10 then 48 + d else 87 + d
/-- a number's digits, at most so many. -/
def hexF : Nat → Nat → List Int
  | 0, _ => []
  | f + 1, n => if n < 16 then [hxd n] else hexF f (n / 16) ++ [hxd (n % 16)]
def hexd (n : Nat) : List Int := hexF 8 n

theorem hexF_bytes (f n : Nat) : Nums.Bytes (hexF f n) := by
  induction f generalizing n with
  | zero => intro z h; cases h
  | succ f ih =>
    intro z h
    unfold hexF at h
    split at h
    · simp at h
      subst h
      unfold hxd
      split <;> omega
    · rcases List.mem_append.1 h with h | h
      · exact ih _ z h
      · simp at h
        subst h
        unfold hxd
        split <;> omega
theorem hexF_len (f n : Nat) : (hexF f n).length ≤ f := by
  induction f generalizing n with
  | zero => simp [hexF]
  | succ f ih =>
    unfold hexF
    split
    · simp
    · have := ih (n / 16)
      simp
      omega

theorem hex_step {j u : Nat} {l full : List Int} (h16 : 16 ≤ u) (hj : j ≤ 7) (hu : u < 16 ^ (8 - j)) (h : full = hexF (8 - j) u ++ l) :
    j + 1 ≤ 7 ∧ u / 16 < 16 ^ (8 - (j + 1)) ∧ full = hexF (8 - (j + 1)) (u / 16) ++ (hxd (u % 16) :: l) := by
  have hj' : j + 1 ≤ 7 := by
    rcases Nat.lt_or_ge j 7 with h' | h'
    · omega
    · obtain rfl : j = 7 := by omega
      simp at hu
      omega
  obtain ⟨q, hq⟩ : ∃ q, 8 - j = q + 1 := ⟨8 - (j + 1), by omega⟩
  rw [hq] at hu h
  rw [show 8 - (j + 1) = q by omega]
  refine ⟨hj', by rw [Nat.pow_succ] at hu; omega, ?_⟩
  rw [h]
  conv => lhs; unfold hexF
  rw [if_neg (by omega), List.append_assoc]
  rfl
theorem hex_last {j u : Nat} {l full : List Int} (h16 : u < 16) (hj : j ≤ 7) (h : full = hexF (8 - j) u ++ l) : full = hxd u :: l := by
  obtain ⟨q, hq⟩ : ∃ q, 8 - j = q + 1 := ⟨8 - (j + 1), by omega⟩
  rw [hq] at h
  rw [h]
  conv => lhs; unfold hexF
  rw [if_pos h16]
  rfl

theorem and15 (u : Nat) (h : u < 18446744073709551616) : bits BinOp.and IntKind.u64 (u : Int) 15 = ((u % 16 : Nat) : Int) := by
  have := bits_and_u64_nat u 15 h (by decide)
  rw [show ((15 : Nat) : Int) = 15 from rfl] at this
  rw [this, show (15 : Nat) = 2 ^ 4 - 1 from rfl, Nat.and_two_pow_sub_one_eq_mod]

theorem tz16 (w : World) (ht : Tabs w) : Calls Tryd.prog 45 #[.int .u64 16] w fun e w' => e = .returned (.int .i64 4) ∧ w' = w := by
  have hc := ht.four
  have key : IntKind.u64.wrap (bits BinOp.and IntKind.u64 16 (IntKind.u64.wrap (-16)) * 285870213051353865) / 288230376151711744 = 15 := by decide +kernel
  go_enter Tryd.func45, Tryd.ntmps45
  go_wp2_with (simp only [key])
  go_ret
  exact ⟨rfl, rfl⟩
theorem tz16u (w : World) (ht : Tabs w) : Calls Tryd.prog 43 #[.int .u64 16] w fun e w' => e = .returned (.int .i64 4) ∧ w' = w := by
  have HT := hide (tz16 w ht)
  go_enter Tryd.func43, Tryd.ntmps43
  go_wp2_with fail
  refine HT.out.mono ?_
  rintro e w1 ⟨rfl, hw⟩
  obtain rfl := hw.symm
  go_wp2_with fail
  go_ret
  exact ⟨rfl, rfl⟩
theorem pow16 (w : World) : Calls Tryd.prog 42 #[.int .i64 16] w fun e w' => e = .returned (.bool true) ∧ w' = w := by
  have key : bits BinOp.and IntKind.i64 16 15 = 0 := by decide +kernel
  go_enter Tryd.func42, Tryd.ntmps42
  go_wp2_with (simp only [key])
  go_ret
  exact ⟨rfl, rfl⟩
end Go.Proofs.YtpekemiplldlpaaDoor
