/-
  The walk of the statement on laying and reading.
-/
import Derived.Test.YtpphhkgkohlbbaaOctG
import Derived.Deep.QuietTactic
import Derived.BigQuiet
namespace Go.Proofs.Ytpphhkgkohlbbaa
set_option linter.unusedVariables false
set_option linter.unusedSimpArgs false
open Go.RowKit

theorem below_drewN (w : World) (n : Nat) : Below w.heap.size w (w.drewN n) := ⟨rfl, rfl, rfl, Nat.le_refl _, fun _ _ => rfl⟩

set_option maxHeartbeats 1000000 in
theorem lays_walk_great (v n : Int) (a : Option Addr) (len cap : Nat) (w : World) (hl : ¬ len ≤ 1000) (hm : len ≤ maxLen) :
    Calls Try.prog 3 #[.int .u64 v, .int .i64 n, .slice a len cap] w fun e w' => e = .returned (.bool true) ∧ Below w.heap.size w w' := by
  have h1 : (1000 : Int) < (len : Int) := by omega
  unfold maxLen at hm
  go_enter Try.func3, Try.ntmps3
  go_wp2_with fail
  refine (awake_any w).mono ?_
  rintro e w1 ⟨rfl, hb1⟩
  go_wp2_with fail
  refine (awake_any w1).mono ?_
  rintro e w2 ⟨rfl, hb2⟩
  go_wp2_with fail
  go_ret
  exact ⟨rfl, hb1.trans (hb2.mono hb1.size)⟩

set_option maxHeartbeats 1000000 in
theorem lays_walk_no (v n : Int) (a : Option Addr) (len cap : Nat) (zs : List Int) (w : World) (hA : Arg .u8 w a len cap zs) (hl : len ≤ 1000) (hn : n < 0 ∨ 8 < n) :
    Calls Try.prog 3 #[.int .u64 v, .int .i64 n, .slice a len cap] w fun e w' => e = .returned (.bool true) ∧ Below w.heap.size w w' := by
  have h1 : ¬ (1000 : Int) < (len : Int) := by omega
  have hm : len ≤ maxLen := by unfold maxLen; omega
  have HA := hide hA
  have HN := hide hn
  clear hA
  have hn' : n < 0 ∨ (¬ n < 0 ∧ 8 < n) := by omega
  clear hn
  rcases hn' with hn | ⟨hn0, hn⟩
  all_goals
    go_enter Try.func3, Try.ntmps3
    go_wp2_with fail
    refine (awake_any w).mono ?_
    rintro e w1 ⟨rfl, hb1⟩
    go_wp2_with fail
    have hA1 := HA.out.below hb1
    have hz := hA1.bytes
    have hr1 := hA1.2.2.1
    have hcv := fun nq => conv_bytes cap (hr1.below (below_drewN w1 nq))
    have hrd := fun nq => read_any a len cap zs (w1.drewN nq) hm (hr1.below (below_drewN w1 nq)) hz
    have hnu := fun nq => number_any zs (w1.drewN nq) (by rw [hr1.1]; exact hm) hz
    have HRD := hide hrd
    have HNU := hide hnu
    clear hrd hnu hA1 hz hr1 HA
    generalize strOfNums zs = S at *
    generalize Nums.rd (zs.take 8) = y at *
    go_quiet (first | (go_at_call 9; refine Calls.quiet_of_same (lay_no v n _ HN.out)) | (go_at_call 10; refine Calls.quiet_of_same (HRD.out _)) | (go_at_call 11; refine Calls.quiet_of_same (HNU.out _)))
    go_wp2
    go_ret
    exact ⟨rfl, hb1.trans ((below_drewN w1 nq).mono hb1.size)⟩

set_option maxHeartbeats 2000000 in
theorem lays_walk_yes (v : Int) (n : Nat) (a : Option Addr) (len cap : Nat) (zs : List Int) (w : World) (hv : (Lit.int .u64 v).wf = true) (hA : Arg .u8 w a len cap zs) (hl : len ≤ 1000) (hn8 : n ≤ 8) :
    Calls Try.prog 3 #[.int .u64 v, .int .i64 n, .slice a len cap] w fun e w' => e = .returned (.bool true) ∧ Below w.heap.size w w' := by
  have h1 : ¬ (1000 : Int) < (len : Int) := by omega
  have hm : len ≤ maxLen := by unfold maxLen; omega
  have hn1 : ¬ (n : Int) < 0 := by omega
  have hn2 : ¬ 8 < (n : Int) := by omega
  have HA := hide hA
  have HV := hide hv
  have HVB := hide (bd_u64 hv)
  clear hA hv
  go_enter Try.func3, Try.ntmps3
  go_wp2_with fail
  refine (awake_any w).mono ?_
  rintro e w1 ⟨rfl, hb1⟩
  go_wp2_with fail
  have hA1 := HA.out.below hb1
  have hz := hA1.bytes
  have hr1 := hA1.2.2.1
  have hcb := fun W (h : Below w1.heap.size w1 W) => conv_bytes cap (hr1.below h)
  have hrd := fun W (h : Below w1.heap.size w1 W) => read_any a len cap zs W hm (hr1.below h) hz
  have hnu := fun W => number_any zs W (by rw [hr1.1]; exact hm) hz
  have hly := fun W => lay_yes v n W HV.out hn8
  have hrl := fun W => reflay_any v n W HVB.out.1 HVB.out.2 hn8
  have hcl : ∀ W : World, W.heap[w1.heap.size]? = some (.cells (blk .u8 (Nums.lay v n)) 5 (0, 0)) → (convert 23 9 (.slice (some ⟨w1.heap.size, 0, none⟩) n n)).run Try.prog W = .ok (.string (strOfNums (Nums.lay v n))) W := fun W h => conv_bytes n (row_of_block h (Nums.length_lay n v))
  have hcw : ∀ W : World, (convert 23 9 (.slice (some ⟨W.heap.size, 0, none⟩) n n)).run Try.prog (W.alloc (.cells (blk .u8 (Nums.lay v n)) 5)) = .ok (.string (strOfNums (Nums.lay v n))) (W.alloc (.cells (blk .u8 (Nums.lay v n)) 5)) := fun W => conv_bytes n (row_of_block (heap_alloc_new W _) (Nums.length_lay n v))
  obtain ⟨B, hB⟩ : ∃ B, B = Obj.cells (blk .u8 (Nums.lay v n)) 5 := ⟨_, rfl⟩
  have hg0 := heap_alloc_new w1 B
  rw [hB] at hg0
  rw [← hB] at hly hcl hcw hg0
  clear hB
  have HCB := hide hcb
  have HRD := hide hrd
  have HNU := hide hnu
  have HLY := hide hly
  have HRL := hide hrl
  have HCL := hide hcl
  clear hcb hrd hnu hly hrl hcl hA1 hz hr1 HA HV HVB
  generalize strOfNums zs = S at *
  generalize strOfNums (Nums.lay v n) = L at *
  generalize Nums.rd (zs.take 8) = y at *
  have bd : Below w1.heap.size w1 w1.drew := (Below.refl _ _).drew
  have bda : Below w1.heap.size w1 (w1.alloc B).drew := ((Below.refl _ _).alloc (Nat.le_refl _) _).drew
  have hcl1 := HCL.out (w1.alloc B).drew hg0
  have hcb1 := HCB.out _ bd
  have hcb2 := HCB.out _ bda
  have hB3 : Below w1.heap.size w1 w1 := Below.refl _ _
  go_region_with (first
    | (go_at_call 9; refine (HLY.out _).mono ?_; rintro e w2 ⟨rfl, rfl⟩)
    | (go_at_call 12; refine (HRL.out _).mono ?_; rintro e w3 ⟨rfl, hb3⟩; (first
        | (have hb4 : Below w1.heap.size w1 w3 := bd.trans hb3; have hcb3 := HCB.out _ hb4; have hcb4 := HCB.out _ (hb4.alloc hb4.size B))
        | (have hb4 : Below w1.heap.size w1 w3 := bda.trans (hb3.mono (by simp)); have hcb3 := HCB.out _ hb4; have hcl3 := HCL.out w3 ((hb3.block w1.heap.size (by simp)).trans hg0))))
    | (go_at_call 10; refine (HRD.out _ ?_).mono ?_; (first | with_reducible exact bda | assumption | exact Below.alloc (by assumption) (by assumption) _); rintro e w2 ⟨rfl, hw2⟩; obtain rfl := hw2.symm)
    | (go_at_call 11; refine (HNU.out _).mono ?_; rintro e w2 ⟨rfl, hw2⟩; obtain rfl := hw2.symm))
  all_goals
    have hfin := hide hb4
    clear hcl1 hcb1 hcb2 hcw
    go_wp2
    go_ret
    exact ⟨rfl, hb1.trans (hfin.out.mono hb1.size)⟩

theorem lays_walk (v n : Int) (a : Option Addr) (len cap : Nat) (zs : List Int) (w : World) (hv : (Lit.int .u64 v).wf = true) (hA : Arg .u8 w a len cap zs) :
    Calls Try.prog 3 #[.int .u64 v, .int .i64 n, .slice a len cap] w fun e w' => e = .returned (.bool true) ∧ Below w.heap.size w w' := by
  by_cases hl : len ≤ 1000
  · by_cases hn : n < 0 ∨ 8 < n
    · exact lays_walk_no v n a len cap zs w hA hl hn
    · obtain ⟨i, rfl⟩ : ∃ i : Nat, n = i := ⟨n.toNat, by omega⟩
      exact lays_walk_yes v i a len cap zs w hv hA hl (by omega)
  · exact lays_walk_great v n a len cap w hl (Nat.le_trans hA.1 hA.2.1)
end Go.Proofs.Ytpphhkgkohlbbaa
