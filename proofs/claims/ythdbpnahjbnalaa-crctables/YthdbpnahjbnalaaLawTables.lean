/-
  CrcTables' walk.
-/
import Derived.Test.YthdbpnahjbnalaaCrcE
import Derived.Test.YthdbpnahjbnalaaRest
import Derived.Test.YthdbpnahjbnalaaRegs
namespace Go.Proofs.Ythdbpnahjbnalaa
set_option linter.unusedVariables false
set_option linter.unusedSimpArgs false
open Go.RowKit

theorem steps4 (x : Nat) (w : World) (h : x < 4294967296) :
    Calls Try.prog 15 #[.int .u32 x, .int .i64 4] w fun e w' => e = .returned (.int .u32 (Crc.steps x 4)) ∧ w' = w := ref_steps_any x 4 w h (by decide)

theorem info_u32 : (Try.prog.info? 25).map (·.size) = some 1 := by kernel_rfl

theorem index_tab (B : Array Value) (k y : Nat) (hk : k < 16) (h : B[k]? = some (.int .u32 y)) (W : World) :
    (Instr.index 31 (.agg B) (.int .i64 k)).run Try.prog W = .ok (.int .u32 y) W := by
  cases hq : Try.prog.info? 25 with
  | none => have := info_u32; simp [hq] at this
  | some i =>
    have hs : i.size = 1 := by have := info_u32; simpa [hq] using this
    have hkk : (k : Int) < 16 := by omega
    simp [Instr.index, run_underlying Try.underlying31, run_underlying Try.underlying25, asIntOf, hkk, go_sem, sizeOf, typeInfo, hq, hs, part, isAgg, h]
    intro hge
    omega

set_option maxHeartbeats 1000000 in
theorem tables_walk (i : Int) (w : World) (hi : (Lit.int .i64 i).wf = true) :
    Calls Try.prog 4 #[.int .i64 i] w fun e w' => e = .returned (.bool true) ∧ Below w.heap.size w w' := by
  obtain ⟨k, hk, hR⟩ := rest_nat i 16 w (by decide) (by decide) hi
  have HR := hide hR
  clear hR hi
  go_enter Try.func4, Try.ntmps4
  go_wp2_with fail
  refine (awake_any w).mono ?_
  rintro e w1 ⟨rfl, hb1⟩
  have HB1 := hide hb1
  clear hb1
  go_wp2_with fail
  refine (HR.out w1).mono ?_
  rintro e w2 ⟨rfl, hw2⟩
  obtain rfl := hw2.symm
  clear HR
  have HTb := hide (fun x : Later w1 => table_any x.val)
  have HSt := hide (fun x : Later w1 => steps4 k x.val (by omega))
  have hget : (blk .u32 (tab.map Int.ofNat))[k]? = some (.int .u32 (Crc.steps k 4 : Nat)) := by
    rw [blk_get _ _ _ (by simp [tab_length]; omega), ← tab_get k hk]
    simp [List.getElem?_eq_getElem (show k < tab.length by rw [tab_length]; exact hk)]
  have hsz : (blk .u32 (tab.map Int.ofNat)).size = 16 := rfl
  generalize blk .u32 (tab.map Int.ofNat) = B at *
  generalize Crc.steps k 4 = y at *
  have hki : (k : Int) < 16 := by omega
  have hix := fun x : Later w1 => index_tab B k y hk hget x.val
  clear hget
  have hwr : IntKind.u32.wrap (k : Int) = k := by rw [IntKind.wrap_u32]; omega
  have hlater := later_some w1
  go_wp2_with fail
  refine wp_region_later (by kernel_rfl) (by kernel_rfl) ?_
  repeat (quiet_step (first | (go_at_call 14; refine calls_later (HTb.out _)) | (go_at_call 15; refine calls_later_same (HSt.out _))))
  refine wpQuiet_nil ?_
  intro w9 hw9
  obtain ⟨⟨w9', hb9⟩, rfl⟩ := hw9
  go_wp2
  go_ret
  exact ⟨rfl, HB1.out.trans (hb9.mono HB1.out.size)⟩
end Go.Proofs.Ythdbpnahjbnalaa
