/-
  crc.Table: what it answers.
-/
import Derived.Test.YtmildaofmgeceaaCrcA
namespace Go.Proofs.Ytmildaofmgeceaa
set_option linter.unusedVariables false
set_option linter.unusedSimpArgs false
open Go.RowKit

/-- the table. -/
def tab : List Nat := (List.range 16).map fun i => Crc.steps i 4
theorem tab_length : tab.length = 16 := rfl
theorem tab_lt : ∀ t ∈ tab, t < 4294967296 := by decide
theorem tab_get (i : Nat) (h : i < 16) : tab.getD i 0 = Crc.steps i 4 := by
  simp [tab, h]
theorem tk_tab (x z : Nat) : tk tab x z = Crc.steps (x ^^^ z) 8 := by
  unfold tk
  rw [tab_get _ (Nat.mod_lt _ (by decide)), tab_get _ (Nat.mod_lt _ (by decide))]
  exact Crc.take_steps _

/-- the table, k of its numbers laid. -/
def part (k : Nat) : List Int := (tab.take k).map Int.ofNat ++ List.replicate (16 - k) 0
theorem part_step : ∀ k, k < 16 → (part k).set k ((Crc.steps k 4 : Nat) : Int) = part (k + 1) := by decide
theorem part_length : ∀ k, k < 16 → (part k).length = 16 := by decide
theorem part_all : part 16 = tab.map Int.ofNat := by decide

set_option maxHeartbeats 1000000 in
theorem table_any (w : World) :
    Calls Try.prog 52 #[] w fun e w' => e = .returned (.agg (blk .u32 (tab.map Int.ofNat))) ∧ Below w.heap.size w w' := by
  go_enter Try.func52, Try.ntmps52
  go_wp2_with fail
  go_loopw [2, 3, 4] (fun _ _ i wr => ∃ k : Nat, k ≤ 16 ∧ i = .int .i64 k ∧ wr = (w.alloc (.cells (blk .u32 (List.replicate 16 0)) 75)).alloc (.cells (blk .u32 (part k)) 75)) (fun _ _ i _ => 16 - (intOf i).toNat)
  case atStart => exact ⟨0, Nat.zero_le _, rfl, rfl⟩
  case round =>
    obtain ⟨k, hk, rfl, rfl⟩ := hrel
    by_cases hlt : k < 16
    · have hi : (k : Int) < 16 := by omega
      have hP := part_length k hlt
      have hget := blk_get .u32 (part k) k (by omega)
      have hset := hide (part_step k hlt)
      have hsz := size_blk .u32 (part k)
      rw [hP] at hsz
      generalize hQ : part k = Q at *
      clear hQ hP
      go_wp2_with fail
      go_loop [3, 9] (fun v i => ∃ j : Nat, j ≤ 4 ∧ i = .int .i64 j ∧ v = .int .u32 (Crc.steps k j)) (fun _ i => 4 - (intOf i).toNat)
      case atStart => exact ⟨0, Nat.zero_le _, rfl, rfl⟩
      case round =>
        obtain ⟨j, hj, rfl, rfl⟩ := hrel
        have hlt' := Crc.steps_lt j (show k < 4294967296 by omega)
        by_cases hj4 : j < 4
        · have hji : (j : Int) < 4 := by omega
          have HL := hide (steps_last k j)
          generalize hy : Crc.steps k j = y at *
          clear hy
          go_wp2_with fail
          refine (step_any y _ hlt').mono ?_
          rintro e w1 ⟨rfl, hw1⟩
          obtain rfl := hw1.symm
          rw [HL.out]
          go_wp2_with fail
          go_round
          case rel => exact ⟨j + 1, by omega, by go_num, rfl⟩
          case measure => simp [intOf]; omega
        · have hji : ¬ (j : Int) < 4 := by omega
          obtain rfl : j = 4 := by omega
          have HS := hset.out
          clear hset
          generalize Crc.steps k 4 = y at *
          have HS' := hide HS
          clear HS
          go_wp2_with fail
          go_roundw
          case rel => exact ⟨k + 1, by omega, by go_num, by rw [blk_set, HS'.out]; rfl⟩
          case measure => simp [intOf]; omega
    · have hi : ¬ (k : Int) < 16 := by omega
      obtain rfl : k = 16 := by omega
      rw [part_all]
      have hB : (blk .u32 (tab.map Int.ofNat)).size = 16 := rfl
      have hO := blk_one .u32 (tab.map Int.ofNat)
      have hA : (blk .u32 (List.replicate 16 0)).size = 16 := rfl
      generalize hBB : blk .u32 (tab.map Int.ofNat) = B at *
      have HB := hide hBB
      clear hBB
      generalize blk .u32 (List.replicate 16 0) = A at *
      have hl : ((w.alloc (.cells A 75)).alloc (.cells B 75)).heap[w.heap.size + 1]? = some (.cells B 75 (0, 0)) := heap_alloc2_new w _ _
      have hs : ((w.alloc (.cells A 75)).alloc (.cells B 75)).heap[w.heap.size]? = some (.cells A 75 (0, 0)) := by
        rw [heap_alloc_old _ _ (by simp)]
        exact heap_alloc_new w _
      have hI : (Try.prog.info? 75).map (·.size) = some B.size := by rw [hB]; exact info_tab
      have HO := hide hO
      clear hO
      go_wp2_with (first | (refine wpList_load_row rfl 75 _ rfl (w.heap.size + 1) rfl 75 B (0, 0) _ hl Try.underlying75 rfl hI ?_) | (refine wpList_store_row rfl 75 _ _ rfl w.heap.size B rfl rfl 75 A hs hI (by omega) HO.out ?_))
      refine bodyPost_ret (results_cell_row rfl _ _ w.heap.size 75 B (0, 0) _ rfl (setRow_heap _ _ A B _ _ hs) Try.underlying75 rfl hI) rfl ?_
      exact ⟨by rw [HB.out], below_setRow (((Below.refl _ _).alloc (Nat.le_refl _) _).alloc (by simp) _) (Nat.le_refl _) _⟩
end Go.Proofs.Ytmildaofmgeceaa
