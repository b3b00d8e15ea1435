/-
  Layer 10's statements: the first question.
-/
import Derived.Test.YtilnimdliebfnaaChProg
import Derived.Test.YtilnimdliebfnaaChEq
import Derived.Test.YtilnimdliebfnaaTails
namespace Go.Proofs.Ytilnimdliebfnaa
set_option linter.unusedVariables false
set_option linter.unusedSimpArgs false
open Go.RowKit

def bitsOne : List Int := Ch.setB Ch.nil 0 true
theorem one_list : (Ch.list 1 bitsOne).length = 1 := by kernel_rfl
set_option maxRecDepth 100000 in
set_option maxHeartbeats 2000000 in
theorem chawake_any (w : World) : Calls Try.prog 7 #[] w fun e w' => e = .returned (.bool true) ∧ Below w.heap.size w w' := by
  have hl : bitsOne.length = 48 := rfl
  have hz : Nums.Bytes bitsOne := Ch.setB_bytes Ch.nil_bytes 0 true
  have HM : Hid (∀ W, Calls Try.prog 20 #[.agg #[Value.int .i64 1, Value.int .u8 0, Value.int .u8 0, Value.int .u8 0, Value.int .u8 0, Value.int .u8 0, Value.int .u8 0, Value.int .u8 0, Value.int .u8 0, Value.int .u8 0, Value.int .u8 0, Value.int .u8 0, Value.int .u8 0, Value.int .u8 0, Value.int .u8 0, Value.int .u8 0, Value.int .u8 0, Value.int .u8 0, Value.int .u8 0, Value.int .u8 0, Value.int .u8 0, Value.int .u8 0, Value.int .u8 0, Value.int .u8 0, Value.int .u8 0, Value.int .u8 0, Value.int .u8 0, Value.int .u8 0, Value.int .u8 0, Value.int .u8 0, Value.int .u8 0, Value.int .u8 0, Value.int .u8 0, Value.int .u8 0, Value.int .u8 0, Value.int .u8 0, Value.int .u8 0, Value.int .u8 0, Value.int .u8 0, Value.int .u8 0, Value.int .u8 0, Value.int .u8 0, Value.int .u8 0, Value.int .u8 0, Value.int .u8 0, Value.int .u8 0, Value.int .u8 0, Value.int .u8 0, Value.int .u8 0], .int .i64 384, .bool true] W fun e w' => e = .returned (.tuple #[.agg (chartC 1 bitsOne), .bool true]) ∧ Below W.heap.size W w') := fun W => cmark_yes 1 Ch.nil 384 true W rfl Ch.nil_bytes (by decide)
  have HH := hide (fun W => chas_any 1 bitsOne 384 W hl hz (by decide) (by decide))
  rw [show Ch.hasB 1 bitsOne 384 = true by kernel_rfl] at HH
  have HC := hide (fun W => ccount_any 1 bitsOne W hl hz)
  rw [one_list] at HC
  have HSF := hide (chart_size 1 hl)
  have HB1 : Hid (bitsOne.getD 0 0 = 1) := by show _ = _; decide +kernel
  go_enter Try.func7, Try.ntmps7
  go_wp2_with fail
  refine (HM.out w).mono ?_
  rintro e w1 ⟨rfl, hb1⟩
  obtain ⟨X, hX⟩ : ∃ X, X = (w1.alloc (.cells #[Value.int .i64 0, Value.int .u8 0, Value.int .u8 0, Value.int .u8 0, Value.int .u8 0, Value.int .u8 0, Value.int .u8 0, Value.int .u8 0, Value.int .u8 0, Value.int .u8 0, Value.int .u8 0, Value.int .u8 0, Value.int .u8 0, Value.int .u8 0, Value.int .u8 0, Value.int .u8 0, Value.int .u8 0, Value.int .u8 0, Value.int .u8 0, Value.int .u8 0, Value.int .u8 0, Value.int .u8 0, Value.int .u8 0, Value.int .u8 0, Value.int .u8 0, Value.int .u8 0, Value.int .u8 0, Value.int .u8 0, Value.int .u8 0, Value.int .u8 0, Value.int .u8 0, Value.int .u8 0, Value.int .u8 0, Value.int .u8 0, Value.int .u8 0, Value.int .u8 0, Value.int .u8 0, Value.int .u8 0, Value.int .u8 0, Value.int .u8 0, Value.int .u8 0, Value.int .u8 0, Value.int .u8 0, Value.int .u8 0, Value.int .u8 0, Value.int .u8 0, Value.int .u8 0, Value.int .u8 0, Value.int .u8 0] 24)).setRow w1.heap.size (chartC 1 bitsOne) := ⟨_, rfl⟩
  have hbX : Below w1.heap.size w1 X := by rw [hX]; exact below_setRow ((Below.refl _ _).alloc (Nat.le_refl _) _) (Nat.le_refl _) _
  have hx0 : X.heap[w1.heap.size]? = some (.cells (chartC 1 bitsOne) 24 (0, 0)) := by rw [hX]; exact setRow_heap _ _ _ _ _ _ (heap_alloc_new w1 _)
  have HX0 := hide hx0
  have HBX := hide (hb1.trans (hbX.mono hb1.size))
  have c1 : X.cell? ⟨w1.heap.size, 1, none⟩ = some (.int .u8 1) := by
    have h := (boxed_chart hx0).2 0 (by rw [hl]; decide)
    rw [HB1.out] at h
    exact h
  clear hb1 hbX hx0
  go_wp2_with (first
    | (refine wpList_store_row rfl 24 _ _ rfl w1.heap.size (chartC 1 bitsOne) rfl rfl 24 _ (heap_alloc_new w1 _) HSF.out rfl (chartC_one _ _) ?_; rw [← hX]; clear hX)
    | (refine wpList_load_row_on (by rfl) 24 _ rfl w1.heap.size rfl 24 _ (0, 0) _ HX0.out Try.underlying24 rfl HSF.out ?_))
  refine (HH.out _).mono ?_
  rintro e w2 ⟨rfl, hb2⟩
  have HX2 := hide ((hb2.block _ (Array.getElem?_eq_some_iff.1 HX0.out).1).trans HX0.out)
  have HB2 := hide (HBX.out.trans (hb2.mono HBX.out.size))
  clear hb2 c1
  go_wp2_with (refine wpList_load_row_on (by rfl) 24 _ rfl w1.heap.size rfl 24 _ (0, 0) _ HX2.out Try.underlying24 rfl HSF.out ?_)
  refine (HC.out _).mono ?_
  rintro e w3 ⟨rfl, hb3⟩
  have HB3 := hide (HB2.out.trans (hb3.mono HB2.out.size))
  clear hb3
  go_wp2_with fail
  go_ret
  exact ⟨rfl, HB3.out⟩
end Go.Proofs.Ytilnimdliebfnaa
