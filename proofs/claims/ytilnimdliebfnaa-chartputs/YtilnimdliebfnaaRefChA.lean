/-
  The document's answers (layer 10): Right, Put; a chart's cells.
-/
import Derived.Test.YtilnimdliebfnaaChNums
import Derived.Test.YtilnimdliebfnaaRefBkB
import Derived.Test.YtilnimdliebfnaaEqRow
import Derived.Test.YtilnimdliebfnaaOwnMore
import Derived.Test.YtilnimdliebfnaaRegs
import Derived.BigQuiet
namespace Go.Proofs.Ytilnimdliebfnaa
set_option linter.unusedVariables false
set_option linter.unusedSimpArgs false
open Go.RowKit

/-- the cells of a chart. -/
def chartC (p : Int) (l : List Int) : Array Value := (Value.int .i64 p :: l.map (Value.int .u8)).toArray
theorem chartC_size (p : Int) (l : List Int) : (chartC p l).size = l.length + 1 := by simp [chartC]
theorem chartC_one (p : Int) (l : List Int) : (chartC p l).all (·.oneCell') = true := by
  rw [Array.all_eq_true_iff_forall_mem]
  intro v hv
  simp only [chartC, List.mem_toArray, List.mem_cons, List.mem_map] at hv
  rcases hv with rfl | ⟨x, _, rfl⟩ <;> rfl
theorem info_chart : (Try.prog.info? 24).map (·.size) = some 49 := by kernel_rfl
theorem chart_size (p : Int) {l : List Int} (hl : l.length = 48) : (Try.prog.info? 24).map (·.size) = some (chartC p l).size := by rw [chartC_size, hl]; exact info_chart
theorem boxed_chart {X : World} {B : Nat} {p : Int} {l : List Int} {T : TypeId} (h : X.heap[B]? = some (.cells (chartC p l) T (0, 0))) : X.cell? ⟨B, 0, none⟩ = some (.int .i64 p) ∧ ∀ j, j < l.length → X.cell? ⟨B, j + 1, none⟩ = some (.int .u8 (l.getD j 0)) := by
  refine ⟨by simp [World.cell?, h, chartC], fun j hj => ?_⟩
  simp [World.cell?, h, chartC, List.getD_eq_getElem?_getD, hj]
theorem row_chart {X : World} {B : Nat} {p : Int} {l : List Int} {T : TypeId} (h : X.heap[B]? = some (.cells (chartC p l) T (0, 0))) {n : Nat} (hn : l.length = n) : Row .u8 X (some ⟨B, 1, none⟩) n l := by
  refine ⟨hn, .inr ⟨B, 1, rfl, (Array.getElem?_eq_some_iff.1 h).1, fun i hi => ?_⟩⟩
  rw [Nat.add_comm 1 i]
  exact (boxed_chart h).2 i (by omega)
theorem chartC_setP (p q : Int) (l : List Int) : (chartC p l).setIfInBounds 0 (.int .i64 q) = chartC q l := by simp [chartC]
theorem chartC_setB (p : Int) (l : List Int) (j : Nat) (z : Int) : (chartC p l).setIfInBounds (j + 1) (.int .u8 z) = chartC p (l.set j z) := by simp [chartC, List.map_set]

set_option maxRecDepth 100000 in
set_option maxHeartbeats 1000000 in
theorem rchright_any (p : Int) (l : List Int) (w : World) (hl : l.length = 48) : Calls Try.prog 9 #[.agg (chartC p l)] w fun e w' => e = .returned (.bool (Ch.right p)) ∧ Below w.heap.size w w' := by
  obtain ⟨X, hX⟩ : ∃ X, X = w.alloc (.cells (chartC p l) 24) := ⟨_, rfl⟩
  have HB : Hid (Below w.heap.size w X) := by show Below _ _ _; rw [hX]; exact (Below.refl _ _).alloc (Nat.le_refl _) _
  have hg : X.heap[w.heap.size]? = some (.cells (chartC p l) 24 (0, 0)) := by rw [hX]; exact heap_alloc_new w _
  have c0 := (boxed_chart hg).1
  rw [hX] at c0
  clear hg
  have hv : Ch.right p = (decide (0 ≤ p) && decide (p ≤ 7)) := by unfold Ch.right; rw [Bool.decide_and]
  rw [hv]
  clear hv
  by_cases h1 : 0 ≤ p
  · go_enter Try.func9, Try.ntmps9
    go_wp2_with fail
    go_ret
    refine ⟨by rw [decide_eq_true h1]; rfl, ?_⟩
    rw [← hX]
    exact HB.out
  · go_enter Try.func9, Try.ntmps9
    go_wp2_with fail
    go_ret
    refine ⟨by rw [decide_eq_false (by omega)]; rfl, ?_⟩
    rw [← hX]
    exact HB.out

set_option maxRecDepth 100000 in
set_option maxHeartbeats 1000000 in
theorem rchput_any (p : Int) (l : List Int) (w : World) (hl : l.length = 48) (hp : Ch.right p = true) (hz : Nums.Bytes l) : Calls Try.prog 11 #[.agg (chartC p l)] w fun e w' => e = .returned (.string (strOfNums (Ch.block p l))) ∧ Below w.heap.size w w' := by
  have hp' := of_decide_eq_true hp
  obtain ⟨X, hX⟩ : ∃ X, X = w.alloc (.cells (chartC p l) 24) := ⟨_, rfl⟩
  have HB : Hid (Below w.heap.size w X) := by show Below _ _ _; rw [hX]; exact (Below.refl _ _).alloc (Nat.le_refl _) _
  have hg : X.heap[w.heap.size]? = some (.cells (chartC p l) 24 (0, 0)) := by rw [hX]; exact heap_alloc_new w _
  have hgx : ∀ x : Later X, x.val.heap[w.heap.size]? = some (.cells (chartC p l) 24 (0, 0)) := fun x => (x.property.block _ (Array.getElem?_eq_some_iff.1 hg).1).trans hg
  have c0 : ∀ x : Later X, x.val.cell? ⟨w.heap.size, 0, none⟩ = some (.int .i64 p) := fun x => (boxed_chart (hgx x)).1
  have hcv := fun x : Later X => conv_bytes 48 (row_chart (hgx x) hl)
  have HS := hide (fun x : Later X => rseal_any 4 p l x.val (by decide) (by omega) hz (by omega))
  have hne := later_some X
  clear hg hgx
  go_enter Try.func11, Try.ntmps11
  go_wp2_with fail
  rw [← hX]
  refine wp_region_later (by kernel_rfl) (by kernel_rfl) ?_
  repeat (go_big_quiet_step (first | rfl | (go_at_call 26; refine calls_later (HS.out _))))
  refine wpQuiet_nil ?_
  intro w9 hw9
  obtain ⟨⟨w9', hb9⟩, rfl⟩ := hw9
  have HB9 := hide (HB.out.trans (hb9.mono HB.out.size))
  clear c0 hcv hne hb9
  go_wp2_with fail
  go_ret
  exact ⟨rfl, HB9.out⟩
end Go.Proofs.Ytilnimdliebfnaa
