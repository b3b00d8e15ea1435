/-
  Layer 10's statements: ChartMarks.
-/
import Derived.Test.YtilnimdliebfnaaChLawD
namespace Go.Proofs.Ytilnimdliebfnaa
set_option linter.unusedVariables false
set_option linter.unusedSimpArgs false
open Go.RowKit

set_option maxRecDepth 100000 in
set_option maxHeartbeats 4000000 in
theorem chartmarks_no (p : Int) (l : List Int) (at' : Int) (on : Bool) (w : World) (hl : l.length = 48) (hpw : (Lit.int .i64 p).wf = true) (hat : (Lit.int .i64 at').wf = true) (hm : markP p l at' = false) :
    Calls Try.prog 6 #[.agg (chartC p l), .int .i64 at', .bool on] w fun e w' => e = .returned (.bool true) ∧ Below w.heap.size w w' := by
  obtain ⟨W, hW⟩ : ∃ W, W = w.alloc (.cells (chartC p l) 24) := ⟨_, rfl⟩
  have hB0 : Below w.heap.size w W := by rw [hW]; exact (Below.refl _ _).alloc (Nat.le_refl _) _
  have hg0 : W.heap[w.heap.size]? = some (.cells (chartC p l) 24 (0, 0)) := by rw [hW]; exact heap_alloc_new w _
  have HB0 := hide hB0
  have HG0 := hide hg0
  have hlt0 : w.heap.size < W.heap.size := (Array.getElem?_eq_some_iff.1 hg0).1
  have HSF := hide (chart_size p hl)
  have HAW := hide (fun X => chawake_any X)
  have HRT := hide (fun X => rchright_any p l X hl)
  have HM := hide (fun X => cmark_no p l at' on X hl hat hpw hm)
  have hEQ : ∀ W, (binOp .eql 24 (.agg (chartC 0 Ch.nil)) (.agg #[Value.int .i64 0, Value.int .u8 0, Value.int .u8 0, Value.int .u8 0, Value.int .u8 0, Value.int .u8 0, Value.int .u8 0, Value.int .u8 0, Value.int .u8 0, Value.int .u8 0, Value.int .u8 0, Value.int .u8 0, Value.int .u8 0, Value.int .u8 0, Value.int .u8 0, Value.int .u8 0, Value.int .u8 0, Value.int .u8 0, Value.int .u8 0, Value.int .u8 0, Value.int .u8 0, Value.int .u8 0, Value.int .u8 0, Value.int .u8 0, Value.int .u8 0, Value.int .u8 0, Value.int .u8 0, Value.int .u8 0, Value.int .u8 0, Value.int .u8 0, Value.int .u8 0, Value.int .u8 0, Value.int .u8 0, Value.int .u8 0, Value.int .u8 0, Value.int .u8 0, Value.int .u8 0, Value.int .u8 0, Value.int .u8 0, Value.int .u8 0, Value.int .u8 0, Value.int .u8 0, Value.int .u8 0, Value.int .u8 0, Value.int .u8 0, Value.int .u8 0, Value.int .u8 0, Value.int .u8 0, Value.int .u8 0])).run Try.prog W = .ok (.bool true) W := fun W => by
    have h := run_eql_chart 0 0 Ch.nil Ch.nil rfl rfl W
    rw [decide_eq_true ⟨rfl, rfl⟩] at h
    exact h
  clear hB0 hg0
  go_enter Try.func6, Try.ntmps6
  go_wp2_with fail
  rw [← hW]
  refine (HAW.out _).mono ?_
  rintro e w1 ⟨rfl, hb1⟩
  have HG1 := hide ((hb1.block _ hlt0).trans HG0.out)
  have HB1 := hide (HB0.out.trans (hb1.mono HB0.out.size))
  clear hb1 hW
  go_wp2_with (refine wpList_load_row_on (by rfl) 24 _ rfl w.heap.size rfl 24 _ (0, 0) _ HG1.out Try.underlying24 rfl HSF.out ?_)
  refine (HM.out _).mono ?_
  rintro e w2 ⟨rfl, hb2⟩
  obtain ⟨X2, hX2⟩ : ∃ X2, X2 = (w2.alloc (.cells #[Value.int .i64 0, Value.int .u8 0, Value.int .u8 0, Value.int .u8 0, Value.int .u8 0, Value.int .u8 0, Value.int .u8 0, Value.int .u8 0, Value.int .u8 0, Value.int .u8 0, Value.int .u8 0, Value.int .u8 0, Value.int .u8 0, Value.int .u8 0, Value.int .u8 0, Value.int .u8 0, Value.int .u8 0, Value.int .u8 0, Value.int .u8 0, Value.int .u8 0, Value.int .u8 0, Value.int .u8 0, Value.int .u8 0, Value.int .u8 0, Value.int .u8 0, Value.int .u8 0, Value.int .u8 0, Value.int .u8 0, Value.int .u8 0, Value.int .u8 0, Value.int .u8 0, Value.int .u8 0, Value.int .u8 0, Value.int .u8 0, Value.int .u8 0, Value.int .u8 0, Value.int .u8 0, Value.int .u8 0, Value.int .u8 0, Value.int .u8 0, Value.int .u8 0, Value.int .u8 0, Value.int .u8 0, Value.int .u8 0, Value.int .u8 0, Value.int .u8 0, Value.int .u8 0, Value.int .u8 0, Value.int .u8 0] 24)).setRow w2.heap.size (chartC 0 Ch.nil) := ⟨_, rfl⟩
  have hbX : Below w2.heap.size w2 X2 := by rw [hX2]; exact below_setRow ((Below.refl _ _).alloc (Nat.le_refl _) _) (Nat.le_refl _) _
  have HX2 : Hid (X2.heap[w2.heap.size]? = some (.cells (chartC 0 Ch.nil) 24 (0, 0))) := by show _ = _; rw [hX2]; exact setRow_heap _ _ _ _ _ _ (heap_alloc_new w2 _)
  have hb2' := hb2.trans (hbX.mono hb2.size)
  have HB2 := hide (HB1.out.trans (hb2'.mono HB1.out.size))
  have hg2 := (hb2'.block _ (Array.getElem?_eq_some_iff.1 HG1.out).1).trans HG1.out
  have HG2 := hide hg2
  clear hb2 hbX hb2' hg2
  go_wp2_with (first
    | (refine wpList_store_row rfl 24 _ _ rfl w2.heap.size (chartC 0 Ch.nil) rfl rfl 24 _ (heap_alloc_new w2 _) info_chart rfl (chartC_one _ _) ?_; rw [← hX2]; clear hX2)
    | (refine wpList_load_row_on (by rfl) 24 _ rfl w.heap.size rfl 24 _ (0, 0) _ HG2.out Try.underlying24 rfl HSF.out ?_))
  refine (HRT.out _).mono ?_
  rintro e w3 ⟨rfl, hb3⟩
  have HX3 := hide ((hb3.block _ (Array.getElem?_eq_some_iff.1 HX2.out).1).trans HX2.out)
  have HB3 := hide (HB2.out.trans (hb3.mono HB2.out.size))
  have c0 := (boxed_chart ((hb3.block _ (Array.getElem?_eq_some_iff.1 HG2.out).1).trans HG2.out)).1
  clear hb3
  by_cases hp : Ch.right p = true
  · have hp' := of_decide_eq_true hp
    rw [hp]
    have w1' : IntKind.i64.wrap (384 * p) = 384 * p := by rw [IntKind.wrap_i64]; omega
    have w2' : IntKind.i64.wrap (384 * p + 384) = 384 * p + 384 := by rw [IntKind.wrap_i64]; omega
    have hno : ¬ (384 * p ≤ at' ∧ at' < 384 * p + 384) := fun e => by
      unfold markP at hm
      rw [hp, decide_eq_true e] at hm
      exact absurd hm (by decide)
    by_cases h1 : at' < 384 * p
    · clear hno hm
      go_wp2_with (refine wpList_load_row_on (by rfl) 24 _ rfl w2.heap.size rfl 24 _ (0, 0) _ HX3.out Try.underlying24 rfl info_chart ?_)
      go_ret
      exact ⟨rfl, HB3.out⟩
    · have h2 : 384 * p + 384 ≤ at' := by omega
      clear hno hm
      go_wp2_with (refine wpList_load_row_on (by rfl) 24 _ rfl w2.heap.size rfl 24 _ (0, 0) _ HX3.out Try.underlying24 rfl info_chart ?_)
      go_ret
      exact ⟨rfl, HB3.out⟩
  · have hp' : Ch.right p = false := by simpa using hp
    rw [hp']
    clear hm
    go_wp2_with (refine wpList_load_row_on (by rfl) 24 _ rfl w2.heap.size rfl 24 _ (0, 0) _ HX3.out Try.underlying24 rfl info_chart ?_)
    go_ret
    exact ⟨rfl, HB3.out⟩
end Go.Proofs.Ytilnimdliebfnaa
