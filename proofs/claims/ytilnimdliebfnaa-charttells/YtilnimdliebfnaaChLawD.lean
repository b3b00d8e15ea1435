/-
  Layer 10's statements: ChartTells.
-/
import Derived.Test.YtilnimdliebfnaaChLawC
import Derived.Test.YtilnimdliebfnaaRest
import Derived.Test.YtilnimdliebfnaaRefNdC
namespace Go.Proofs.Ytilnimdliebfnaa
set_option linter.unusedVariables false
set_option linter.unusedSimpArgs false
open Go.RowKit

set_option maxRecDepth 100000 in
set_option maxHeartbeats 4000000 in
theorem charttells_any (p : Int) (l : List Int) (at' : Int) (w : World) (hl : l.length = 48) (hz : Nums.Bytes l) (hpw : (Lit.int .i64 p).wf = true) (hat : (Lit.int .i64 at').wf = true) :
    Calls Try.prog 5 #[.agg (chartC p l), .int .i64 at'] w fun e w' => e = .returned (.bool true) ∧ Below w.heap.size w w' := by
  obtain ⟨W, hW⟩ : ∃ W, W = w.alloc (.cells (chartC p l) 24) := ⟨_, rfl⟩
  have hB0 : Below w.heap.size w W := by rw [hW]; exact (Below.refl _ _).alloc (Nat.le_refl _) _
  have hg0 : W.heap[w.heap.size]? = some (.cells (chartC p l) 24 (0, 0)) := by rw [hW]; exact heap_alloc_new w _
  have HB0 := hide hB0
  have HG0 := hide hg0
  have hlt0 : w.heap.size < W.heap.size := (Array.getElem?_eq_some_iff.1 hg0).1
  have HLL := hide hl
  have HZZ := hide hz
  have HSF := hide (chart_size p hl)
  have HAW := hide (fun X => chawake_any X)
  have HLS := hide (fun X : World => rchlist_any (w := X) p l hl hz)
  have HRT := hide (fun X => rchright_any p l X hl)
  obtain ⟨r, hr, hrest⟩ := rest_nat at' 384 w (by decide) (by decide) hat
  rw [show ((384 : Nat) : Int) = 384 from rfl] at hrest
  have HRS := hide hrest
  have HCL := hide (fun X => clist_any p l X hl hz)
  have HCC := hide (fun X => ccount_any p l X hl hz)
  have HHA := hide (fun X => chas_any p l at' X hl hz hat hpw)
  have HHP := hide (fun X => chas_any p l p X hl hz hpw hpw)
  have HHK : Hid (Ch.right p = true → ∀ X, Calls Try.prog 18 #[.agg (chartC p l), .int .i64 (384 * p + (r : Int))] X fun e w' => e = .returned (.bool (Ch.hasB p l (384 * p + (r : Int)))) ∧ Below X.heap.size X w') := fun h X => by
    have h' := of_decide_eq_true h
    exact chas_any p l _ X hl hz (wf_of_bd ⟨by omega, by omega⟩) hpw
  have hbe : ∀ b : Bool, (b == b) = true := fun b => by cases b <;> rfl
  clear hB0 hg0 hrest
  go_enter Try.func5, Try.ntmps5
  go_wp2_with fail
  rw [← hW]
  refine (HAW.out _).mono ?_
  rintro e w1 ⟨rfl, hb1⟩
  have HG1 := hide ((hb1.block _ hlt0).trans HG0.out)
  have HB1 := hide (HB0.out.trans (hb1.mono HB0.out.size))
  clear hb1 hW
  go_wp2_with (refine wpList_load_row_on (by rfl) 24 _ rfl w.heap.size rfl 24 _ (0, 0) _ HG1.out Try.underlying24 rfl HSF.out ?_)
  refine (HLS.out _).mono ?_
  rintro e w2 ⟨la, ln, lc, rfl, hL, hb2⟩
  have hg2 := (hb2.block _ (Array.getElem?_eq_some_iff.1 HG1.out).1).trans HG1.out
  have HG2 := hide hg2
  have HB2 := hide (HB1.out.trans (hb2.mono HB1.out.size))
  have HL2 := hide hL
  have c0 := (boxed_chart hg2).1
  clear hb2 hg2 hL
  go_wp2_with (refine wpList_load_row_on (by rfl) 24 _ rfl w.heap.size rfl 24 _ (0, 0) _ HG2.out Try.underlying24 rfl HSF.out ?_)
  refine (HRT.out _).mono ?_
  rintro e w3 ⟨rfl, hb3⟩
  have hg3 := (hb3.block _ (Array.getElem?_eq_some_iff.1 HG2.out).1).trans HG2.out
  have HG3 := hide hg3
  have HB3 := hide (HB2.out.trans (hb3.mono HB2.out.size))
  have HL3 := hide (HL2.out.below hb3)
  clear c0 hb3
  have c0 := (boxed_chart hg3).1
  clear hg3
  by_cases hp : Ch.right p = true
  · rw [hp]
    have HHK := hide (HHK.out hp)
    have hp' := of_decide_eq_true hp
    have w1' : IntKind.i64.wrap (384 * p) = 384 * p := by rw [IntKind.wrap_i64]; omega
    have w2' : IntKind.i64.wrap (384 * p + (r : Int)) = 384 * p + (r : Int) := by rw [IntKind.wrap_i64]; omega
    go_wp2_with fail
    go_region_held3 (fun w' => w'.cell? ⟨w.heap.size, 0, none⟩ = some (.int .i64 p)) (go_keep) ((go_at_call 14; refine (HRS.out _).mono ?_; rintro e w' ⟨rfl, hw'⟩; obtain rfl := hw'.symm))
    all_goals
      have HGR : Hid (w3.drew.heap[w.heap.size]? = some (.cells (chartC p l) 24 (0, 0))) := HG3.out
      have HBR : Hid (Below w.heap.size w w3.drew) := HB3.out.drew
      have HLR : Hid (Arg .i64 w3.drew la ln lc (Ch.list p l)) := HL3.out.below ((Below.refl _ _).drew)
      clear c0
      go_wp2_with (refine wpList_load_row_on (by rfl) 24 _ rfl w.heap.size rfl 24 _ (0, 0) _ HGR.out Try.underlying24 rfl HSF.out ?_)
      refine (HCL.out _).mono ?_
      rintro e w4 ⟨a4, n4, c4, rfl, hA4, hb4⟩
      have HGR := hide ((hb4.block _ (Array.getElem?_eq_some_iff.1 HGR.out).1).trans HGR.out)
      have HBR := hide (HBR.out.trans (hb4.mono HBR.out.size))
      have HLR := hide (HLR.out.below hb4)
      have HI := hide (ints_any (cap := c4) (cap' := lc) (by have := hA4.2.2.1.1; have := Ch.list_le p l; omega) (by have := HLR.out.2.2.1.1; have := Ch.list_le p l; omega) hA4.2.2.1 HLR.out.2.2.1)
      rw [decide_eq_true rfl] at HI
      clear hb4 hA4
      go_wp2_with fail
      refine HI.out.mono ?_
      rintro e w5 ⟨rfl, hb5⟩
      have HGR := hide ((hb5.block _ (Array.getElem?_eq_some_iff.1 HGR.out).1).trans HGR.out)
      have HBR := hide (HBR.out.trans (hb5.mono HBR.out.size))
      have HLR := hide (HLR.out.below hb5)
      clear hb5 HI
      go_wp2_with (refine wpList_load_row_on (by rfl) 24 _ rfl w.heap.size rfl 24 _ (0, 0) _ HGR.out Try.underlying24 rfl HSF.out ?_)
      refine (HCC.out _).mono ?_
      rintro e w6 ⟨rfl, hb6⟩
      have HGR := hide ((hb6.block _ (Array.getElem?_eq_some_iff.1 HGR.out).1).trans HGR.out)
      have HBR := hide (HBR.out.trans (hb6.mono HBR.out.size))
      have HLR := hide (HLR.out.below hb6)
      have hll6 : (Ch.list p l).length = ln := HLR.out.2.2.1.1
      rw [hll6]
      clear hb6
      go_wp2_with (refine wpList_load_row_on (by rfl) 24 _ rfl w.heap.size rfl 24 _ (0, 0) _ HGR.out Try.underlying24 rfl HSF.out ?_)
      refine (HHA.out _).mono ?_
      rintro e w7 ⟨rfl, hb7⟩
      have HGR := hide ((hb7.block _ (Array.getElem?_eq_some_iff.1 HGR.out).1).trans HGR.out)
      have HBR := hide (HBR.out.trans (hb7.mono HBR.out.size))
      have HLR := hide (HLR.out.below hb7)
      have HRA := hide (rchhas_any HLR.out (by have := Ch.list_le p l; omega) at')
      rw [Ch.has_list] at HRA
      clear hb7
      go_wp2_with fail
      refine HRA.out.mono ?_
      rintro e w7' ⟨rfl, hw7⟩
      obtain rfl := hw7.symm
      go_wp2_with (refine wpList_load_row_on (by rfl) 24 _ rfl w.heap.size rfl 24 _ (0, 0) _ HGR.out Try.underlying24 rfl HSF.out ?_)
      refine (HHK.out _).mono ?_
      rintro e w8 ⟨rfl, hb8⟩
      have HBR := hide (HBR.out.trans (hb8.mono HBR.out.size))
      have HLR := hide (HLR.out.below hb8)
      have HRK := hide (rchhas_any HLR.out (by have := Ch.list_le p l; omega) (384 * p + (r : Int)))
      rw [Ch.has_list] at HRK
      clear hb8
      go_wp2_with fail
      refine HRK.out.mono ?_
      rintro e w8' ⟨rfl, hw8⟩
      obtain rfl := hw8.symm
      go_wp2_with fail
      go_ret
      exact ⟨rfl, HBR.out⟩
  · have hp' : Ch.right p = false := by simpa using hp
    rw [hp']
    have HGR := HG3
    have HBR := HB3
    have HLR := HL3
    clear c0
    go_wp2_with (refine wpList_load_row_on (by rfl) 24 _ rfl w.heap.size rfl 24 _ (0, 0) _ HGR.out Try.underlying24 rfl HSF.out ?_)
    refine (HCL.out _).mono ?_
    rintro e w4 ⟨a4, n4, c4, rfl, hA4, hb4⟩
    have HGR := hide ((hb4.block _ (Array.getElem?_eq_some_iff.1 HGR.out).1).trans HGR.out)
    have HBR := hide (HBR.out.trans (hb4.mono HBR.out.size))
    have HLR := hide (HLR.out.below hb4)
    have HI := hide (ints_any (cap := c4) (cap' := lc) (by have := hA4.2.2.1.1; have := Ch.list_le p l; omega) (by have := HLR.out.2.2.1.1; have := Ch.list_le p l; omega) hA4.2.2.1 HLR.out.2.2.1)
    rw [decide_eq_true rfl] at HI
    clear hb4 hA4
    go_wp2_with fail
    refine HI.out.mono ?_
    rintro e w5 ⟨rfl, hb5⟩
    have HGR := hide ((hb5.block _ (Array.getElem?_eq_some_iff.1 HGR.out).1).trans HGR.out)
    have HBR := hide (HBR.out.trans (hb5.mono HBR.out.size))
    have HLR := hide (HLR.out.below hb5)
    clear hb5 HI
    go_wp2_with (refine wpList_load_row_on (by rfl) 24 _ rfl w.heap.size rfl 24 _ (0, 0) _ HGR.out Try.underlying24 rfl HSF.out ?_)
    refine (HCC.out _).mono ?_
    rintro e w6 ⟨rfl, hb6⟩
    have HGR := hide ((hb6.block _ (Array.getElem?_eq_some_iff.1 HGR.out).1).trans HGR.out)
    have HBR := hide (HBR.out.trans (hb6.mono HBR.out.size))
    have HLR := hide (HLR.out.below hb6)
    have hll6 : (Ch.list p l).length = ln := HLR.out.2.2.1.1
    rw [hll6]
    clear hb6
    go_wp2_with (refine wpList_load_row_on (by rfl) 24 _ rfl w.heap.size rfl 24 _ (0, 0) _ HGR.out Try.underlying24 rfl HSF.out ?_)
    refine (HHA.out _).mono ?_
    rintro e w7 ⟨rfl, hb7⟩
    have HGR := hide ((hb7.block _ (Array.getElem?_eq_some_iff.1 HGR.out).1).trans HGR.out)
    have HBR := hide (HBR.out.trans (hb7.mono HBR.out.size))
    have HLR := hide (HLR.out.below hb7)
    have HRA := hide (rchhas_any HLR.out (by have := Ch.list_le p l; omega) at')
    rw [Ch.has_list] at HRA
    clear hb7
    go_wp2_with fail
    refine HRA.out.mono ?_
    rintro e w7' ⟨rfl, hw7⟩
    obtain rfl := hw7.symm
    go_wp2_with (refine wpList_load_row_on (by rfl) 24 _ rfl w.heap.size rfl 24 _ (0, 0) _ HGR.out Try.underlying24 rfl HSF.out ?_)
    refine (HHP.out _).mono ?_
    rintro e w8 ⟨rfl, hb8⟩
    have HBR := hide (HBR.out.trans (hb8.mono HBR.out.size))
    have HLR := hide (HLR.out.below hb8)
    have HRK := hide (rchhas_any HLR.out (by have := Ch.list_le p l; omega) p)
    rw [Ch.has_list] at HRK
    clear hb8
    go_wp2_with fail
    refine HRK.out.mono ?_
    rintro e w8' ⟨rfl, hw8⟩
    obtain rfl := hw8.symm
    go_wp2_with fail
    go_ret
    exact ⟨rfl, HBR.out⟩
end Go.Proofs.Ytilnimdliebfnaa
