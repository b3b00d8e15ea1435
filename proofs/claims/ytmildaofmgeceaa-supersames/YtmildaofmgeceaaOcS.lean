/-
  The document's Octet and Lay (layer 1), where a seat bears only some of the first layer's functions.
-/
import Derived.Test.YtmildaofmgeceaaOcAll
namespace Go.Proofs.Ytmildaofmgeceaa
set_option linter.unusedVariables false
set_option linter.unusedSimpArgs false
open Go.RowKit

set_option maxHeartbeats 1000000 in
theorem octet_any (v : Int) (i : Nat) (w : World) (h0 : 0 ≤ v) (h1 : v ≤ 18446744073709551615) (hi : i ≤ 1000) :
    Calls Try.prog 47 #[.int .u64 v, .int .i64 i] w fun e w' => e = .returned (.int .u8 (v / 256 ^ i % 256)) ∧ w' = w := by
  go_enter Try.func47, Try.ntmps47
  go_wp2
  go_loop [0, 5] (fun x j => ∃ k : Nat, k ≤ i ∧ j = .int .i64 k ∧ x = .int .u64 (v / 256 ^ k)) (fun _ j => i - (intOf j).toNat)
  case atStart => exact ⟨0, Nat.zero_le _, rfl, by simp⟩
  case round =>
    obtain ⟨k, hk, rfl, rfl⟩ := hrel
    have hp := Nums.pow_pos k
    have b0 : 0 ≤ v / 256 ^ k := Int.ediv_nonneg h0 (by omega)
    have b1 : v / 256 ^ k ≤ v := Int.ediv_le_self _ h0
    have HE : Hid (v / 256 ^ k / 256 = v / 256 ^ (k + 1)) := by
      show _ = _
      rw [Int.ediv_ediv_of_nonneg (by omega), Int.pow_succ]
    generalize hX : v / 256 ^ k = x at *
    have HX := hide hX
    clear hX
    by_cases hlt : k < i
    · have hi1 : (k : Int) < (i : Int) := by omega
      go_wp2
      go_round
      case rel => exact ⟨k + 1, by omega, by go_num, by rw [HE.out]⟩
      case measure => simp [intOf]; omega
    · have hi1 : ¬ (k : Int) < (i : Int) := by omega
      obtain rfl : k = i := by omega
      go_wp2
      go_ret
      exact ⟨by rw [HX.out]; rfl, rfl⟩

set_option maxHeartbeats 1000000 in
theorem reflay_any (v : Int) (n : Nat) (w : World) (h0 : 0 ≤ v) (h1 : v ≤ 18446744073709551615) (hn : n ≤ 8) :
    Calls Try.prog 32 #[.int .u64 v, .int .i64 n] w fun e w' => e = .returned (.string (strOfNums (Nums.lay v n))) ∧ Below w.heap.size w w' := by
  go_enter Try.func32, Try.ntmps32
  go_wp2
  go_loopw [5, 6] (fun s i wr => ∃ k : Nat, k ≤ n ∧ i = .int .i64 k ∧ s = .string (strOfNums (Nums.lay v k)) ∧ Below w.heap.size w wr) (fun _ i _ => n - (intOf i).toNat)
  case atStart => exact ⟨0, Nat.zero_le _, rfl, rfl, Below.refl _ _⟩
  case round =>
    obtain ⟨k, hk, rfl, rfl, hb⟩ := hrel
    by_cases hlt : k < n
    · have hi1 : (k : Int) < (n : Int) := by omega
      have hoc := octet_any v k wr h0 h1 (by omega)
      obtain ⟨z, hz⟩ : ∃ z, z = v / 256 ^ k % 256 := ⟨_, rfl⟩
      rw [← hz] at hoc
      have HZ := hide hz
      have HO := hide hoc
      clear hz hoc
      have hsz := size_str (Nums.lay v k)
      rw [Nums.length_lay] at hsz
      generalize hS : strOfNums (Nums.lay v k) = S at *
      have HS := hide hS
      clear hS
      have hcv : (convert 30 9 (.slice (some ⟨wr.heap.size, 0, none⟩) 1 1)).run Try.prog (wr.alloc (.cells #[.int .u8 z] 5)) = .ok (.string (strOfNums [z])) (wr.alloc (.cells #[.int .u8 z] 5)) :=
        conv_bytes 1 (row_of_block (e := 5) (zs := [z]) (heap_alloc_new wr _) rfl)
      have hsz1 := size_str [z]
      generalize hT : strOfNums [z] = T at *
      have HT := hide hT
      clear hT
      go_wp2_with (go_at_call 47; refine (unhide HO).mono ?_; rintro e w' ⟨rfl, hw'⟩; obtain rfl := hw'.symm)
      go_roundw
      case rel => exact ⟨k + 1, by omega, by go_num, by rw [← HS.out, ← HT.out, str_append, Nums.lay_succ, HZ.out], hb.alloc hb.size _⟩
      case measure => simp [intOf]; omega
    · have hi1 : ¬ (k : Int) < (n : Int) := by omega
      obtain rfl : k = n := by omega
      go_wp2
      go_ret
      exact ⟨rfl, hb⟩
end Go.Proofs.Ytmildaofmgeceaa
