/-
  Layer 11's statements: the first question.
-/
import Derived.Test.YtkmndllomheegaaLbProg
import Derived.Test.YtkmndllomheegaaLbEq
import Derived.Test.YtkmndllomheegaaTails
namespace Go.Proofs.Ytkmndllomheegaa
set_option linter.unusedVariables false
set_option linter.unusedSimpArgs false
open Go.RowKit

def lbq0 : Lb.Q := ⟨[97], 5, [7, 0, 9, 0, 0, 0, 0, 0, 0, 0, 0, 0]⟩
theorem lbq0_right : Lb.rightQ lbq0 = true := by decide +kernel
theorem lbq0_wf : Lb.wfQ lbq0 := ⟨by intro z hz; rw [List.mem_singleton.1 hz]; decide, rfl⟩
theorem lbq0_cells : queueC lbq0 = #[Value.string ⟨#[97]⟩, Value.int .i64 5, Value.int .i64 7, Value.int .i64 0, Value.int .i64 9, Value.int .i64 0, Value.int .i64 0, Value.int .i64 0, Value.int .i64 0, Value.int .i64 0, Value.int .i64 0, Value.int .i64 0, Value.int .i64 0, Value.int .i64 0] := by
  unfold queueC lbq0
  rw [show strOfNums [97] = ⟨#[97]⟩ by decide +kernel]
  rfl
theorem lbd0_right : Lb.rightD [5] = true := by decide +kernel
theorem arg_one (w : World) {h : Nat} {x : Int} (hx : (Lit.int .i64 x).wf = true) (hg : w.heap[h]? = some (.cells #[.int .i64 x] 3 (0, 0))) : Arg .i64 w (some ⟨h, 0, none⟩) 1 1 [x] :=
  ⟨Nat.le_refl _, by unfold maxLen; decide, ⟨rfl, .inr ⟨h, 0, rfl, (Array.getElem?_eq_some_iff.1 hg).1, fun i hi => by
    obtain rfl : i = 0 := by omega
    simp [World.cell?, hg]⟩⟩, fun z hz => by rw [List.mem_singleton.1 hz]; exact hx, .inr ⟨_, _, rfl⟩⟩

set_option maxRecDepth 100000 in
set_option maxHeartbeats 2000000 in
theorem lbawake_any (w : World) : Calls Try.prog 7 #[] w fun e w' => e = .returned (.bool true) ∧ Below w.heap.size w w' := by
  obtain ⟨W, hW⟩ : ∃ W, W = w.alloc (.cells #[Value.string ⟨#[97]⟩, Value.int .i64 5, Value.int .i64 7, Value.int .i64 0, Value.int .i64 9, Value.int .i64 0, Value.int .i64 0, Value.int .i64 0, Value.int .i64 0, Value.int .i64 0, Value.int .i64 0, Value.int .i64 0, Value.int .i64 0, Value.int .i64 0] 25) := ⟨_, rfl⟩
  have hb0 : Below w.heap.size w W := by rw [hW]; exact (Below.refl _ _).alloc (Nat.le_refl _) _
  have hg0 : W.heap[w.heap.size]? = some (.cells (queueC lbq0) 25 (0, 0)) := by rw [lbq0_cells, hW]; exact heap_alloc_new w _
  have HP := hide (lbput_yes lbq0 W lbq0_wf lbq0_right)
  rw [lbq0_cells] at HP
  have HTL := hide (Lb.tells_block lbq0_wf lbq0_right)
  have HGB := hide (Lb.got_block lbq0_wf lbq0_right)
  have HBL := hide (Lb.block_length lbq0_wf lbq0_right)
  have HBB := hide (Lb.block_bytes lbq0_wf lbq0_right)
  have HB0 := hide hb0
  have HG0 := hide hg0
  clear hb0 hg0
  generalize Lb.blockQ lbq0 = bl at *
  go_enter Try.func7, Try.ntmps7
  go_wp2_with fail
  rw [← hW]
  refine HP.out.mono ?_
  rintro e w1 ⟨h, c, tail, rfl, hc, hcm, hh, hblk, hb1⟩
  have hA1 := arg_tail hblk HBB.out HBL.out hc hcm
  have HG := hide (lbget_any hA1 (by decide))
  rw [HTL.out, HGB.out] at HG
  have HB1 := hide (HB0.out.trans (hb1.mono HB0.out.size))
  have HN1 := hide ((hb1.block _ (Array.getElem?_eq_some_iff.1 HG0.out).1).trans HG0.out)
  clear hA1 hblk hb1 hW
  go_wp2_with fail
  refine HG.out.mono ?_
  rintro e w2 ⟨rfl, hb2⟩
  have HN2 := hide ((hb2.block _ (Array.getElem?_eq_some_iff.1 HN1.out).1).trans HN1.out)
  have HB2 := hide (HB1.out.trans (hb2.mono HB1.out.size))
  clear hb2
  obtain ⟨X2, hX2⟩ : ∃ X2, X2 = (w2.alloc (.cells #[Value.string ⟨#[]⟩, Value.int .i64 0, Value.int .i64 0, Value.int .i64 0, Value.int .i64 0, Value.int .i64 0, Value.int .i64 0, Value.int .i64 0, Value.int .i64 0, Value.int .i64 0, Value.int .i64 0, Value.int .i64 0, Value.int .i64 0, Value.int .i64 0] 25)).setRow w2.heap.size (queueC lbq0) := ⟨_, rfl⟩
  have hbX : Below w2.heap.size w2 X2 := by rw [hX2]; exact below_setRow ((Below.refl _ _).alloc (Nat.le_refl _) _) (Nat.le_refl _) _
  have HX2 : Hid (X2.heap[w2.heap.size]? = some (.cells (queueC lbq0) 25 (0, 0))) := by show _ = _; rw [hX2]; exact setRow_heap _ _ _ _ _ _ (heap_alloc_new w2 _)
  have HNX := hide ((hbX.block _ (Array.getElem?_eq_some_iff.1 HN2.out).1).trans HN2.out)
  have HBX := hide (HB2.out.trans (hbX.mono HB2.out.size))
  have HSF := hide (queue_size lbq0_wf)
  have HSZ : Hid ((#[Value.string ⟨#[]⟩, Value.int .i64 0, Value.int .i64 0, Value.int .i64 0, Value.int .i64 0, Value.int .i64 0, Value.int .i64 0, Value.int .i64 0, Value.int .i64 0, Value.int .i64 0, Value.int .i64 0, Value.int .i64 0, Value.int .i64 0, Value.int .i64 0] : Array Value).size = (queueC lbq0).size) := by show _ = _; rw [queueC_size]; rfl
  clear hbX
  go_wp2_with (refine wpList_store_row rfl 25 _ _ rfl w2.heap.size (queueC lbq0) rfl rfl 25 _ (heap_alloc_new w2 _) HSF.out HSZ.out (queueC_one _) ?_; rw [← hX2]; clear hX2)
  obtain ⟨X3, hX3⟩ : ∃ X3, X3 = X2.alloc (.cells #[Value.int .i64 5] 3) := ⟨_, rfl⟩
  have hb3 : Below X2.heap.size X2 X3 := by rw [hX3]; exact (Below.refl _ _).alloc (Nat.le_refl _) _
  have hg3 : X3.heap[X2.heap.size]? = some (.cells #[Value.int .i64 5] 3 (0, 0)) := by rw [hX3]; exact heap_alloc_new X2 _
  have HD := hide (lbputd_yes (arg_one X3 (by decide) hg3) lbd0_right)
  have HDL := hide (Lb.blockD_length lbd0_right)
  have HN3 := hide ((hb3.block _ (Array.getElem?_eq_some_iff.1 HNX.out).1).trans HNX.out)
  have HP3 := hide ((hb3.block _ (Array.getElem?_eq_some_iff.1 HX2.out).1).trans HX2.out)
  have HB3 := hide (HBX.out.trans (hb3.mono HBX.out.size))
  rw [← hX3]
  clear hb3 hg3 hX3
  refine HD.out.mono ?_
  rintro e w4 ⟨h', c', tail', rfl, hc', hcm', hh', hblk', hb4⟩
  have HN4 := hide ((hb4.block _ (Array.getElem?_eq_some_iff.1 HN3.out).1).trans HN3.out)
  have HP4 := hide ((hb4.block _ (Array.getElem?_eq_some_iff.1 HP3.out).1).trans HP3.out)
  have HB4 := hide (HB3.out.trans (hb4.mono HB3.out.size))
  clear hb4 hblk' hh'
  have hq4 := HN4.out
  rw [lbq0_cells] at hq4
  have k2 : w4.cell? ⟨w.heap.size, 2, none⟩ = some (.int .i64 7) := by simp [World.cell?, hq4]
  have k3 : w4.cell? ⟨w.heap.size, 3, none⟩ = some (.int .i64 0) := by simp [World.cell?, hq4]
  have k4 : w4.cell? ⟨w.heap.size, 4, none⟩ = some (.int .i64 9) := by simp [World.cell?, hq4]
  have k5 : w4.cell? ⟨w.heap.size, 5, none⟩ = some (.int .i64 0) := by simp [World.cell?, hq4]
  have k6 : w4.cell? ⟨w.heap.size, 6, none⟩ = some (.int .i64 0) := by simp [World.cell?, hq4]
  have k7 : w4.cell? ⟨w.heap.size, 7, none⟩ = some (.int .i64 0) := by simp [World.cell?, hq4]
  have k8 : w4.cell? ⟨w.heap.size, 8, none⟩ = some (.int .i64 0) := by simp [World.cell?, hq4]
  have k9 : w4.cell? ⟨w.heap.size, 9, none⟩ = some (.int .i64 0) := by simp [World.cell?, hq4]
  have k10 : w4.cell? ⟨w.heap.size, 10, none⟩ = some (.int .i64 0) := by simp [World.cell?, hq4]
  have k11 : w4.cell? ⟨w.heap.size, 11, none⟩ = some (.int .i64 0) := by simp [World.cell?, hq4]
  have k12 : w4.cell? ⟨w.heap.size, 12, none⟩ = some (.int .i64 0) := by simp [World.cell?, hq4]
  have k13 : w4.cell? ⟨w.heap.size, 13, none⟩ = some (.int .i64 0) := by simp [World.cell?, hq4]
  have hEQ := fun W => run_eql_queue lbq0 lbq0_wf W
  have HTR := hide (lbtrees_any [7, 0, 9, 0, 0, 0, 0, 0, 0, 0, 0, 0] w4 rfl (by decide))
  rw [show treesL [7, 0, 9, 0, 0, 0, 0, 0, 0, 0, 0, 0] = [7, 9] by decide] at HTR
  clear hq4
  go_wp2_with (first
    | (refine wpList_load_row_on (by rfl) 25 _ rfl w2.heap.size rfl 25 (queueC lbq0) (0, 0) _ HP4.out Try.underlying25 rfl HSF.out ?_)
    | (refine wpList_load_row_on (by rfl) 25 _ rfl w.heap.size rfl 25 (queueC lbq0) (0, 0) _ HN4.out Try.underlying25 rfl HSF.out ?_))
  refine HTR.out.mono ?_
  rintro e w5 ⟨ta, tn, tc, rfl, hTA, hb5⟩
  have htn : tn = 2 := hTA.2.2.1.1.symm
  subst htn
  have HB5 := hide (HB4.out.trans (hb5.mono HB4.out.size))
  clear hb5 hTA
  go_wp2_with fail
  go_ret
  exact ⟨rfl, HB5.out⟩
end Go.Proofs.Ytkmndllomheegaa
