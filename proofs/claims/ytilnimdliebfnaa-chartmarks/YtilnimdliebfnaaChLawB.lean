/-
  Layer 10's statements: ChartPuts.
-/
import Derived.Test.YtilnimdliebfnaaChLawA
namespace Go.Proofs.Ytilnimdliebfnaa
set_option linter.unusedVariables false
set_option linter.unusedSimpArgs false
open Go.RowKit

set_option maxRecDepth 100000 in
set_option maxHeartbeats 4000000 in
theorem chartputs_any (p : Int) (l : List Int) (w : World) (hl : l.length = 48) (hz : Nums.Bytes l) :
    Calls Try.prog 3 #[.agg (chartC p l)] w fun e w' => e = .returned (.bool true) ∧ Below w.heap.size w w' := by
  obtain ⟨W, hW⟩ : ∃ W, W = w.alloc (.cells (chartC p l) 24) := ⟨_, rfl⟩
  have hB0 : Below w.heap.size w W := by rw [hW]; exact (Below.refl _ _).alloc (Nat.le_refl _) _
  have hg0 : W.heap[w.heap.size]? = some (.cells (chartC p l) 24 (0, 0)) := by rw [hW]; exact heap_alloc_new w _
  have HB0 := hide hB0
  have HG0 := hide hg0
  have hlt0 : w.heap.size < W.heap.size := (Array.getElem?_eq_some_iff.1 hg0).1
  have HLL := hide hl
  have HSF := hide (chart_size p hl)
  have HAW := hide (fun X => chawake_any X)
  have HRT := hide (fun X => rchright_any p l X hl)
  have HSZ : Hid ((#[] : Array Value).size + 49 = (chartC p l).size) := by show _ = _; rw [chartC_size, hl]; rfl
  clear hB0 hg0
  go_enter Try.func3, Try.ntmps3
  go_wp2_with fail
  rw [← hW]
  refine (HAW.out _).mono ?_
  rintro e w1 ⟨rfl, hb1⟩
  have HG1 := hide ((hb1.block _ hlt0).trans HG0.out)
  have HB1 := hide (HB0.out.trans (hb1.mono HB0.out.size))
  clear hb1 hW
  by_cases hr : Ch.right p = true
  · have HP := hide (cput_yes p l w1 hl hz hr)
    obtain ⟨hgot, htp, htl⟩ := Ch.got_block hr hl
    have HBL := hide (Ch.block_length (p := p) hl)
    have HBB := hide (Ch.block_bytes hr hz)
    have HRP := hide (fun X => rchput_any p l X hl hr hz)
    have hEQ : ∀ W, (binOp .eql 24 (.agg (chartC p l)) (.agg (chartC p l))).run Try.prog W = .ok (.bool true) W := fun W => by
      have h := run_eql_chart p p l l hl hl W
      rw [decide_eq_true ⟨rfl, rfl⟩] at h
      exact h
    rw [hr] at HRT
    have HGOT := hide hgot
    have HTP := hide htp
    have HTL := hide htl
    clear hr hgot htp htl
    generalize Ch.block p l = bl at *
    go_wp2_with (refine wpList_load_row_on (by rfl) 24 _ rfl w.heap.size rfl 24 _ (0, 0) _ HG1.out Try.underlying24 rfl HSF.out ?_)
    refine HP.out.mono ?_
    rintro e w2 ⟨h, c, tail, rfl, hc, hcm, hh, hblk, hb2⟩
    have HA2 := hide (arg_tail hblk HBB.out HBL.out hc hcm)
    have HB2 := hide (HB1.out.trans (hb2.mono HB1.out.size))
    have HG2 := hide ((hb2.block _ (Array.getElem?_eq_some_iff.1 HG1.out).1).trans HG1.out)
    clear hb2 hblk
    go_wp2_with (refine wpList_load_row_on (by rfl) 24 _ rfl w.heap.size rfl 24 _ (0, 0) _ HG2.out Try.underlying24 rfl HSF.out ?_)
    refine (HRT.out _).mono ?_
    rintro e w3 ⟨rfl, hb3⟩
    have HA3 := hide (HA2.out.below hb3)
    have HB3 := hide (HB2.out.trans (hb3.mono HB2.out.size))
    have HG3 := hide ((hb3.block _ (Array.getElem?_eq_some_iff.1 HG2.out).1).trans HG2.out)
    have HGT := hide (cget_any HA3.out (by decide))
    rw [HGOT.out, HTP.out, HTL.out] at HGT
    clear hb3
    go_wp2_with fail
    refine HGT.out.mono ?_
    rintro e w4 ⟨rfl, hb4⟩
    obtain ⟨X4, hX4⟩ : ∃ X4, X4 = (w4.alloc (.cells #[Value.int .i64 0, Value.int .u8 0, Value.int .u8 0, Value.int .u8 0, Value.int .u8 0, Value.int .u8 0, Value.int .u8 0, Value.int .u8 0, Value.int .u8 0, Value.int .u8 0, Value.int .u8 0, Value.int .u8 0, Value.int .u8 0, Value.int .u8 0, Value.int .u8 0, Value.int .u8 0, Value.int .u8 0, Value.int .u8 0, Value.int .u8 0, Value.int .u8 0, Value.int .u8 0, Value.int .u8 0, Value.int .u8 0, Value.int .u8 0, Value.int .u8 0, Value.int .u8 0, Value.int .u8 0, Value.int .u8 0, Value.int .u8 0, Value.int .u8 0, Value.int .u8 0, Value.int .u8 0, Value.int .u8 0, Value.int .u8 0, Value.int .u8 0, Value.int .u8 0, Value.int .u8 0, Value.int .u8 0, Value.int .u8 0, Value.int .u8 0, Value.int .u8 0, Value.int .u8 0, Value.int .u8 0, Value.int .u8 0, Value.int .u8 0, Value.int .u8 0, Value.int .u8 0, Value.int .u8 0, Value.int .u8 0] 24)).setRow w4.heap.size (chartC p l) := ⟨_, rfl⟩
    have hbX : Below w4.heap.size w4 X4 := by rw [hX4]; exact below_setRow ((Below.refl _ _).alloc (Nat.le_refl _) _) (Nat.le_refl _) _
    have HX4 : Hid (X4.heap[w4.heap.size]? = some (.cells (chartC p l) 24 (0, 0))) := by show _ = _; rw [hX4]; exact setRow_heap _ _ _ _ _ _ (heap_alloc_new w4 _)
    have hb4' := hb4.trans (hbX.mono hb4.size)
    have HB4 := hide (HB3.out.trans (hb4'.mono HB3.out.size))
    have HG4 := hide ((hb4'.block _ (Array.getElem?_eq_some_iff.1 HG3.out).1).trans HG3.out)
    have HA4 := hide (HA3.out.below hb4')
    clear hb4 hbX hb4'
    have hcv := fun x : Later X4 => conv_bytes c (HA4.out.below x.property).2.2.1
    generalize strOfNums bl = Y at *
    have hgf : ∀ X, (∃ x : Later X4, X = x.val) → X.heap[w.heap.size]? = some (.cells (chartC p l) 24 (0, 0)) := fun X hx => by
      obtain ⟨x, rfl⟩ := hx
      exact (x.property.block _ (Array.getElem?_eq_some_iff.1 HG4.out).1).trans HG4.out
    have hgx : ∀ X, (∃ x : Later X4, X = x.val) → X.heap[w4.heap.size]? = some (.cells (chartC p l) 24 (0, 0)) := fun X hx => by
      obtain ⟨x, rfl⟩ := hx
      exact (x.property.block _ (Array.getElem?_eq_some_iff.1 HX4.out).1).trans HX4.out
    have HGF := hide hgf
    have HGX := hide hgx
    have hne := later_some X4
    have HPX := hide (fun x : Later X4 => HRP.out x.val)
    clear hgf hgx
    go_wp2_with (refine wpList_store_row rfl 24 _ _ rfl w4.heap.size (chartC p l) rfl rfl 24 _ (heap_alloc_new w4 _) HSF.out HSZ.out (chartC_one _ _) ?_)
    rw [← hX4]
    clear hX4
    refine wp_region_later (by kernel_rfl) (by kernel_rfl) ?_
    repeat (first
      | (refine wpQuiet_load_row_on (by rfl) 24 _ rfl w.heap.size rfl 24 _ (0, 0) _ HGF.out Try.underlying24 rfl HSF.out ?_; simp only [Act.put, List.setIfInBounds_toArray, List.set_cons_zero, List.set_cons_succ])
      | (refine wpQuiet_load_row_on (by rfl) 24 _ rfl w4.heap.size rfl 24 _ (0, 0) _ HGX.out Try.underlying24 rfl HSF.out ?_; simp only [Act.put, List.setIfInBounds_toArray, List.set_cons_zero, List.set_cons_succ])
      | go_big_quiet_step (first | rfl | (go_at_call 11; refine calls_later (HPX.out _))))
    refine wpQuiet_nil ?_
    intro w9 hw9
    obtain ⟨⟨w9', hb9⟩, rfl⟩ := hw9
    have HB9 := hide (HB4.out.trans (hb9.mono HB4.out.size))
    clear hb9
    go_wp2_with fail
    go_ret
    exact ⟨rfl, HB9.out⟩
  · have hr' : Ch.right p = false := by simpa using hr
    have HP := hide (cput_no p l w1 hl hr')
    rw [hr'] at HRT
    clear hr hr'
    go_wp2_with (refine wpList_load_row_on (by rfl) 24 _ rfl w.heap.size rfl 24 _ (0, 0) _ HG1.out Try.underlying24 rfl HSF.out ?_)
    refine HP.out.mono ?_
    rintro e w2 ⟨rfl, hb2⟩
    have HB2 := hide (HB1.out.trans (hb2.mono HB1.out.size))
    have HG2 := hide ((hb2.block _ (Array.getElem?_eq_some_iff.1 HG1.out).1).trans HG1.out)
    clear hb2
    go_wp2_with (refine wpList_load_row_on (by rfl) 24 _ rfl w.heap.size rfl 24 _ (0, 0) _ HG2.out Try.underlying24 rfl HSF.out ?_)
    refine (HRT.out _).mono ?_
    rintro e w3 ⟨rfl, hb3⟩
    have HB3 := hide (HB2.out.trans (hb3.mono HB2.out.size))
    clear hb3
    go_wp2_with fail
    go_ret
    exact ⟨rfl, HB3.out⟩
end Go.Proofs.Ytilnimdliebfnaa
