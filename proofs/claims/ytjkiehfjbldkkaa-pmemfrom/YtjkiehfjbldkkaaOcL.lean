/-
  octet.Lay: what it answers, for all arguments.
-/
import Derived.Test.YtjkiehfjbldkkaaBytes
namespace Go.Proofs.Ytjkiehfjbldkkaa
set_option linter.unusedVariables false
set_option linter.unusedSimpArgs false
open Go.RowKit

set_option maxHeartbeats 400000 in
theorem lay_no (v n : Int) (w : World) (h2 : n < 0 ∨ 8 < n) :
    Calls Try.prog 57 #[.int .u64 v, .int .i64 n] w fun e w' => e = .returned (.slice none 0 0) ∧ w' = w := by
  rcases h2 with h2 | h2
  · go_enter Try.func57, Try.ntmps57
    go_wp2
    go_ret
    exact ⟨rfl, rfl⟩
  · have h3 : ¬ n < 0 := by omega
    go_enter Try.func57, Try.ntmps57
    go_wp2
    go_ret
    exact ⟨rfl, rfl⟩

theorem lay_step (v : Int) (k n : Nat) (h : k < n) : (Nums.lay v k ++ List.replicate (n - k) 0).set k (v / 2 ^ (8 * k) % 256) = Nums.lay v (k + 1) ++ List.replicate (n - (k + 1)) 0 := by
  obtain ⟨m, rfl⟩ : ∃ m, n = k + 1 + m := ⟨n - (k + 1), by omega⟩
  have e1 : k + 1 + m - k = m + 1 := by omega
  have e2 : k + 1 + m - (k + 1) = m := by omega
  rw [e1, e2, Nums.lay_succ, pow2_256, List.set_append_right _ _ (by simp [Nums.length_lay])]
  simp [Nums.length_lay, List.replicate_succ]

set_option maxHeartbeats 1000000 in
theorem lay_yes (v : Int) (n : Nat) (w : World) (hv : (Lit.int .u64 v).wf = true) (hn : n ≤ 8) :
    Calls Try.prog 57 #[.int .u64 v, .int .i64 n] w fun e w' => e = .returned (.slice (some ⟨w.heap.size, 0, none⟩) n n) ∧ w' = w.alloc (.cells (blk .u8 (Nums.lay v n)) 5) := by
  obtain ⟨hv0, hv1⟩ := bd_u64 hv
  clear hv
  have hmk := make_bytes n (by omega)
  have hn1 : (n : Int) ≤ 8 := by omega
  have hn2 : ¬ 8 < (n : Int) := by omega
  go_enter Try.func57, Try.ntmps57
  go_wp2
  clear hmk
  go_loopw [17] (fun i wr => ∃ k : Nat, k ≤ n ∧ i = .int .i64 k ∧ wr = w.alloc (.cells (blk .u8 (Nums.lay v k ++ List.replicate (n - k) 0)) 5)) (fun i _ => n - (intOf i).toNat)
  case atStart => exact ⟨0, Nat.zero_le _, rfl, by simp [Nums.lay]⟩
  case round =>
    obtain ⟨k, hk, rfl, rfl⟩ := hrel
    by_cases hlt : k < n
    · have hi : (k : Int) < (n : Int) := by omega
      obtain ⟨L, hL⟩ : ∃ L, L = Nums.lay v k ++ List.replicate (n - k) 0 := ⟨_, rfl⟩
      have hLl : L.length = n := by rw [hL]; simp [Nums.length_lay]; omega
      rw [← hL]
      have HL := hide hL
      have hget := blk_get .u8 L k (by omega)
      clear hL
      go_wp2
      go_roundw
      case rel => exact ⟨k + 1, by omega, by go_num, by rw [blk_set, HL.out, lay_step v k n hlt]⟩
      case measure => simp [intOf]; omega
    · have hi : ¬ (k : Int) < (n : Int) := by omega
      obtain rfl : k = n := by omega
      go_wp2
      go_ret
      exact ⟨rfl, by simp⟩
end Go.Proofs.Ytjkiehfjbldkkaa
