/-
  Layer 11's statements: LabelQueues.
-/
import Derived.Test.YtkmndllomheegaaLbLawB
namespace Go.Proofs.Ytkmndllomheegaa
set_option linter.unusedVariables false
set_option linter.unusedSimpArgs false
open Go.RowKit

set_option maxRecDepth 100000 in
set_option maxHeartbeats 2000000 in
theorem labelqueues_great (q : Lb.Q) (w : World) (hq : Lb.wfQ q) (hn : 200 < q.name.length) :
    Calls Try.prog 3 #[.agg (queueC q)] w fun e w' => e = .returned (.bool true) ∧ Below w.heap.size w w' := by
  obtain ⟨W, hW⟩ : ∃ W, W = w.alloc (.cells (queueC q) 25) := ⟨_, rfl⟩
  have hB0 : Below w.heap.size w W := by rw [hW]; exact (Below.refl _ _).alloc (Nat.le_refl _) _
  have hg0 : W.heap[w.heap.size]? = some (.cells (queueC q) 25 (0, 0)) := by rw [hW]; exact heap_alloc_new w _
  have HB0 := hide hB0
  have HG0 := hide hg0
  have hlt0 : w.heap.size < W.heap.size := (Array.getElem?_eq_some_iff.1 hg0).1
  have HAW := hide (fun X => lbawake_any X)
  have hsz := size_str q.name
  clear hB0 hg0
  go_enter Try.func3, Try.ntmps3
  go_wp2_with fail
  rw [← hW]
  refine (HAW.out _).mono ?_
  rintro e w1 ⟨rfl, hb1⟩
  have HB1 := hide (HB0.out.trans (hb1.mono HB0.out.size))
  have c0 := (boxed_queue ((hb1.block _ hlt0).trans HG0.out)).1
  clear hb1 hW
  generalize strOfNums q.name = S at *
  have hS : (200 : Int) < (S.size : Int) := by omega
  go_wp2_with fail
  refine (HAW.out _).mono ?_
  rintro e w2 ⟨rfl, hb2⟩
  have HB2 := hide (HB1.out.trans (hb2.mono HB1.out.size))
  clear hb2
  go_wp2_with fail
  go_ret
  exact ⟨rfl, HB2.out⟩

set_option maxRecDepth 100000 in
set_option maxHeartbeats 4000000 in
theorem labelqueues_small (q : Lb.Q) (w : World) (hq : Lb.wfQ q) (hc : (Lit.int .i64 q.count).wf = true) (hn : q.name.length ≤ 200) :
    Calls Try.prog 3 #[.agg (queueC q)] w fun e w' => e = .returned (.bool true) ∧ Below w.heap.size w w' := by
  obtain ⟨W, hW⟩ : ∃ W, W = w.alloc (.cells (queueC q) 25) := ⟨_, rfl⟩
  have hB0 : Below w.heap.size w W := by rw [hW]; exact (Below.refl _ _).alloc (Nat.le_refl _) _
  have hg0 : W.heap[w.heap.size]? = some (.cells (queueC q) 25 (0, 0)) := by rw [hW]; exact heap_alloc_new w _
  have HB0 := hide hB0
  have HG0 := hide hg0
  have hlt0 : w.heap.size < W.heap.size := (Array.getElem?_eq_some_iff.1 hg0).1
  have HAW := hide (fun X => lbawake_any X)
  have HSF := hide (queue_size hq)
  have HRR := hide (fun X => rlbright_any q X hq (by omega) hc)
  have HRP := hide (fun X => lbright_any q X hq (by omega) hc)
  have HEQ := hide (fun W => run_eql_queue q hq W)
  have hsz := size_str q.name
  clear hB0 hg0
  by_cases hr : Lb.rightQ q = true
  · have HP := hide (fun X => lbput_yes q X hq hr)
    have HRU := hide (fun X => rlbput_any q X hq hr)
    have HTL := hide (Lb.tells_block hq hr)
    have HGB := hide (Lb.got_block hq hr)
    have HBL := hide (Lb.block_length hq hr)
    have HBB := hide (Lb.block_bytes hq hr)
    rw [hr] at HRR HRP
    clear hr
    go_enter Try.func3, Try.ntmps3
    go_wp2_with fail
    rw [← hW]
    refine (HAW.out _).mono ?_
    rintro e w1 ⟨rfl, hb1⟩
    have HB1 := hide (HB0.out.trans (hb1.mono HB0.out.size))
    have HG1 := hide ((hb1.block _ hlt0).trans HG0.out)
    have c0 := (boxed_queue HG1.out).1
    clear hb1 hW
    generalize strOfNums q.name = S at *
    have hS : ¬ (200 : Int) < (S.size : Int) := by omega
    go_wp2_with (first | (refine wpList_load_row_on (by rfl) 25 _ rfl w.heap.size rfl 25 (queueC q) (0, 0) _ HG1.out Try.underlying25 rfl HSF.out ?_))
    refine (HP.out _).mono ?_
    rintro e w2 ⟨h, c, tail, rfl, hc2, hcm, hh, hblk, hb2⟩
    have HG2 := hide ((hb2.block _ (Array.getElem?_eq_some_iff.1 HG1.out).1).trans HG1.out)
    have HB2 := hide (HB1.out.trans (hb2.mono HB1.out.size))
    have HBK := hide hblk
    clear hb2 hblk hh c0 hS
    go_wp2_with (first | (refine wpList_load_row_on (by rfl) 25 _ rfl w.heap.size rfl 25 (queueC q) (0, 0) _ HG2.out Try.underlying25 rfl HSF.out ?_))
    refine (HRR.out _).mono ?_
    rintro e w3 ⟨rfl, hb3⟩
    have HG3 := hide ((hb3.block _ (Array.getElem?_eq_some_iff.1 HG2.out).1).trans HG2.out)
    have hblk3 := (hb3.block _ (Array.getElem?_eq_some_iff.1 HBK.out).1).trans HBK.out
    have hA3 := arg_tail hblk3 HBB.out HBL.out hc2 hcm
    have HGT := hide (lbget_any hA3 (by decide))
    rw [HTL.out, HGB.out] at HGT
    have HA3 := hide hA3
    have HB3 := hide (HB2.out.trans (hb3.mono HB2.out.size))
    clear hb3 hblk3 hA3
    go_wp2_with fail
    refine HGT.out.mono ?_
    rintro e w4 ⟨rfl, hb4⟩
    have HG4 := hide ((hb4.block _ (Array.getElem?_eq_some_iff.1 HG3.out).1).trans HG3.out)
    have HA4 := hide (HA3.out.below hb4)
    have HB4 := hide (HB3.out.trans (hb4.mono HB3.out.size))
    clear hb4
    obtain ⟨X5, hX5⟩ : ∃ X5, X5 = (w4.alloc (.cells #[Value.string ⟨#[]⟩, Value.int .i64 0, Value.int .i64 0, Value.int .i64 0, Value.int .i64 0, Value.int .i64 0, Value.int .i64 0, Value.int .i64 0, Value.int .i64 0, Value.int .i64 0, Value.int .i64 0, Value.int .i64 0, Value.int .i64 0, Value.int .i64 0] 25)).setRow w4.heap.size (queueC q) := ⟨_, rfl⟩
    have hbX : Below w4.heap.size w4 X5 := by rw [hX5]; exact below_setRow ((Below.refl _ _).alloc (Nat.le_refl _) _) (Nat.le_refl _) _
    have HX5 : Hid (X5.heap[w4.heap.size]? = some (.cells (queueC q) 25 (0, 0))) := by show _ = _; rw [hX5]; exact setRow_heap _ _ _ _ _ _ (heap_alloc_new w4 _)
    have HGX := hide ((hbX.block _ (Array.getElem?_eq_some_iff.1 HG4.out).1).trans HG4.out)
    have HAX := hide (HA4.out.below hbX)
    have HBX := hide (HB4.out.trans (hbX.mono HB4.out.size))
    have HSZ : Hid ((#[Value.string ⟨#[]⟩, Value.int .i64 0, Value.int .i64 0, Value.int .i64 0, Value.int .i64 0, Value.int .i64 0, Value.int .i64 0, Value.int .i64 0, Value.int .i64 0, Value.int .i64 0, Value.int .i64 0, Value.int .i64 0, Value.int .i64 0, Value.int .i64 0] : Array Value).size = (queueC q).size) := by show _ = _; rw [queueC_size, hq.2]; rfl
    have hne := later_some X5
    have HRX := hide (fun x : Later X5 => HRP.out x.val)
    have HPX := hide (fun x : Later X5 => HRU.out x.val)
    have hcv := fun x : Later X5 => conv_bytes c (HAX.out.2.2.1.below x.property)
    have hEQ := fun W => HEQ.out W
    have hgf : ∀ X, (∃ x : Later X5, X = x.val) → X.heap[w.heap.size]? = some (.cells (queueC q) 25 (0, 0)) := fun X hx => by
      obtain ⟨x, rfl⟩ := hx
      exact (x.property.block _ (Array.getElem?_eq_some_iff.1 HGX.out).1).trans HGX.out
    have hgx : ∀ X, (∃ x : Later X5, X = x.val) → X.heap[w4.heap.size]? = some (.cells (queueC q) 25 (0, 0)) := fun X hx => by
      obtain ⟨x, rfl⟩ := hx
      exact (x.property.block _ (Array.getElem?_eq_some_iff.1 HX5.out).1).trans HX5.out
    have HGF := hide hgf
    have HGY := hide hgx
    clear hbX hgf hgx
    generalize strOfNums (Lb.blockQ q) = Y at *
    go_wp2_with (refine wpList_store_row rfl 25 _ _ rfl w4.heap.size (queueC q) rfl rfl 25 _ (heap_alloc_new w4 _) HSF.out HSZ.out (queueC_one _) ?_; rw [← hX5]; clear hX5)
    refine wp_region_later (by kernel_rfl) (by kernel_rfl) ?_
    repeat (first
      | (refine wpQuiet_load_row_on (by rfl) 25 _ rfl w.heap.size rfl 25 _ (0, 0) _ HGF.out Try.underlying25 rfl HSF.out ?_; simp only [Act.put, List.setIfInBounds_toArray, List.set_cons_zero, List.set_cons_succ])
      | (refine wpQuiet_load_row_on (by rfl) 25 _ rfl w4.heap.size rfl 25 _ (0, 0) _ HGY.out Try.underlying25 rfl HSF.out ?_; simp only [Act.put, List.setIfInBounds_toArray, List.set_cons_zero, List.set_cons_succ])
      | go_big_quiet_step (first | rfl | (go_at_call 10; refine calls_later (HRX.out _)) | (go_at_call 12; refine calls_later (HPX.out _))))
    refine wpQuiet_nil ?_
    intro w9 hw9
    obtain ⟨⟨w9', hb9⟩, rfl⟩ := hw9
    have HB9 := hide (HBX.out.trans (hb9.mono HBX.out.size))
    clear hb9
    go_wp2_with fail
    go_ret
    exact ⟨rfl, HB9.out⟩
  · have hr' : Lb.rightQ q = false := by simpa using hr
    have HP := hide (fun X => lbput_no q X hq (by omega) hc hr')
    rw [hr'] at HRR HRP
    clear hr hr'
    go_enter Try.func3, Try.ntmps3
    go_wp2_with fail
    rw [← hW]
    refine (HAW.out _).mono ?_
    rintro e w1 ⟨rfl, hb1⟩
    have HB1 := hide (HB0.out.trans (hb1.mono HB0.out.size))
    have HG1 := hide ((hb1.block _ hlt0).trans HG0.out)
    have c0 := (boxed_queue HG1.out).1
    clear hb1 hW
    generalize strOfNums q.name = S at *
    have hS : ¬ (200 : Int) < (S.size : Int) := by omega
    go_wp2_with (first | (refine wpList_load_row_on (by rfl) 25 _ rfl w.heap.size rfl 25 (queueC q) (0, 0) _ HG1.out Try.underlying25 rfl HSF.out ?_))
    refine (HP.out _).mono ?_
    rintro e w2 ⟨rfl, hb2⟩
    have HG2 := hide ((hb2.block _ (Array.getElem?_eq_some_iff.1 HG1.out).1).trans HG1.out)
    have HB2 := hide (HB1.out.trans (hb2.mono HB1.out.size))
    clear hb2 c0 hS
    go_wp2_with (first | (refine wpList_load_row_on (by rfl) 25 _ rfl w.heap.size rfl 25 (queueC q) (0, 0) _ HG2.out Try.underlying25 rfl HSF.out ?_))
    refine (HRR.out _).mono ?_
    rintro e w3 ⟨rfl, hb3⟩
    have HG3 := hide ((hb3.block _ (Array.getElem?_eq_some_iff.1 HG2.out).1).trans HG2.out)
    have HB3 := hide (HB2.out.trans (hb3.mono HB2.out.size))
    clear hb3
    go_wp2_with (first | (refine wpList_load_row_on (by rfl) 25 _ rfl w.heap.size rfl 25 (queueC q) (0, 0) _ HG3.out Try.underlying25 rfl HSF.out ?_))
    refine (HRP.out _).mono ?_
    rintro e w4 ⟨rfl, hb4⟩
    have HB4 := hide (HB3.out.trans (hb4.mono HB3.out.size))
    clear hb4
    go_wp2_with fail
    go_ret
    exact ⟨rfl, HB4.out⟩

theorem labelqueues_any (q : Lb.Q) (w : World) (hq : Lb.wfQ q) (hc : (Lit.int .i64 q.count).wf = true) :
    Calls Try.prog 3 #[.agg (queueC q)] w fun e w' => e = .returned (.bool true) ∧ Below w.heap.size w w' := by
  by_cases h : q.name.length ≤ 200
  · exact labelqueues_small q w hq hc h
  · exact labelqueues_great q w hq (by omega)
end Go.Proofs.Ytkmndllomheegaa
