/-
  Layer 9's statements: PageFans.
-/
import Derived.Test.YtjehcgkmapapbaaPgLawB
namespace Go.Proofs.Ytjehcgkmapapbaa
set_option linter.unusedVariables false
set_option linter.unusedSimpArgs false
open Go.RowKit

theorem zero_fan (l : List Int) (hl : l.length = 16) : decide (l = Pg.nilF) = l.all (· == 0) := by
  rw [Bool.eq_iff_iff, decide_eq_true_iff, List.all_eq_true]
  constructor
  · rintro rfl x hx
    rw [List.eq_of_mem_replicate hx]
    rfl
  · intro h
    rw [Pg.nilF, List.eq_replicate_iff]
    exact ⟨hl, fun x hx => by simpa using h x hx⟩

set_option maxRecDepth 100000 in
set_option maxHeartbeats 4000000 in
theorem pagefans_any (l : List Int) (w : World) (hl : l.length = 16) :
    Calls Try.prog 4 #[.agg (blk .i64 l)] w fun e w' => e = .returned (.bool true) ∧ Below w.heap.size w w' := by
  obtain ⟨W, hW⟩ : ∃ W, W = w.alloc (.cells (blk .i64 l) 40) := ⟨_, rfl⟩
  have hB0 : Below w.heap.size w W := by rw [hW]; exact (Below.refl _ _).alloc (Nat.le_refl _) _
  have hg0 : W.heap[w.heap.size]? = some (.cells (blk .i64 l) 40 (0, 0)) := by rw [hW]; exact heap_alloc_new w _
  have HB0 := hide hB0
  have HG0 := hide hg0
  have hlt0 : w.heap.size < W.heap.size := (Array.getElem?_eq_some_iff.1 hg0).1
  have HLL := hide hl
  have HSF := hide (fan_size hl)
  have HAW := hide (fun X => pgawake_any X)
  have HE := hide (fun X => empty_any l X hl)
  have HRF := hide (fun X => rfan_any l X hl)
  have hEZ : ∀ W, (binOp .eql 40 (.agg (blk .i64 l)) (.agg #[Value.int .i64 0, Value.int .i64 0, Value.int .i64 0, Value.int .i64 0, Value.int .i64 0, Value.int .i64 0, Value.int .i64 0, Value.int .i64 0, Value.int .i64 0, Value.int .i64 0, Value.int .i64 0, Value.int .i64 0, Value.int .i64 0, Value.int .i64 0, Value.int .i64 0, Value.int .i64 0])).run Try.prog W = .ok (.bool (l.all (· == 0))) W := fun W => by
    have h := run_eql_fan l Pg.nilF hl rfl W
    rw [zero_fan l hl] at h
    exact h
  have hEQ : ∀ W, (binOp .eql 40 (.agg (blk .i64 l)) (.agg (blk .i64 l))).run Try.prog W = .ok (.bool true) W := fun W => by
    have h := run_eql_fan l l hl hl W
    rw [decide_eq_true rfl] at h
    exact h
  have HSZ : Hid ((#[] : Array Value).size + 16 = (blk .i64 l).size) := by show _ = _; rw [size_blk, hl]; rfl
  generalize l.all (· == 0) = q at *
  clear hB0 hg0
  have hqq : (q == q) = true := by simp
  go_enter Try.func4, Try.ntmps4
  go_wp2_with fail
  rw [← hW]
  refine (HAW.out _).mono ?_
  rintro e w1 ⟨rfl, hb1⟩
  have HG1 := hide ((hb1.block _ hlt0).trans HG0.out)
  have HB1 := hide (HB0.out.trans (hb1.mono HB0.out.size))
  clear hb1 hW
  by_cases hr : Pg.fanR l = true
  · have HP := hide (putfan_yes l w1 hl hr)
    have HTL := hide (Pg.tells_fan hl hr)
    have HGB := hide (Pg.got_fan hl hr)
    have HBL := hide (Pg.fan_length hl)
    have HBB := hide (Pg.fan_bytes hl)
    rw [hr, if_pos rfl] at HRF
    clear hr
    generalize Pg.fan l = bl at *
    go_wp2_with (refine wpList_load_row_on (by rfl) 40 _ rfl w.heap.size rfl 40 _ (0, 0) _ HG1.out Try.underlying40 rfl HSF.out ?_)
    refine HP.out.mono ?_
    rintro e w2 ⟨h, c, tail, rfl, hc, hcm, hh, hblk, hb2⟩
    have HA2 := hide (arg_tail hblk HBB.out HBL.out hc hcm)
    have HB2 := hide (HB1.out.trans (hb2.mono HB1.out.size))
    have HG2 := hide ((hb2.block _ (Array.getElem?_eq_some_iff.1 HG1.out).1).trans HG1.out)
    clear hb2 hblk
    go_wp2_with (refine wpList_load_row_on (by rfl) 40 _ rfl w.heap.size rfl 40 _ (0, 0) _ HG2.out Try.underlying40 rfl HSF.out ?_)
    refine (HRF.out _).mono ?_
    rintro e w3 ⟨rfl, hb3⟩
    have HA3 := hide (HA2.out.below hb3)
    have HB3 := hide (HB2.out.trans (hb3.mono HB2.out.size))
    have HG3 := hide ((hb3.block _ (Array.getElem?_eq_some_iff.1 HG2.out).1).trans HG2.out)
    have HG := hide (getfan_any HA3.out (by decide))
    rw [HTL.out, HGB.out] at HG
    clear hb3
    go_wp2_with fail
    refine HG.out.mono ?_
    rintro e w4 ⟨rfl, hb4⟩
    obtain ⟨X4, hX4⟩ : ∃ X4, X4 = (w4.alloc (.cells #[Value.int .i64 0, Value.int .i64 0, Value.int .i64 0, Value.int .i64 0, Value.int .i64 0, Value.int .i64 0, Value.int .i64 0, Value.int .i64 0, Value.int .i64 0, Value.int .i64 0, Value.int .i64 0, Value.int .i64 0, Value.int .i64 0, Value.int .i64 0, Value.int .i64 0, Value.int .i64 0] 40)).setRow w4.heap.size (blk .i64 l) := ⟨_, rfl⟩
    have hbX : Below w4.heap.size w4 X4 := by rw [hX4]; exact below_setRow ((Below.refl _ _).alloc (Nat.le_refl _) _) (Nat.le_refl _) _
    have HX4 : Hid (X4.heap[w4.heap.size]? = some (.cells (blk .i64 l) 40 (0, 0))) := by show _ = _; rw [hX4]; exact setRow_heap _ _ _ _ _ _ (heap_alloc_new w4 _)
    have hb4' := hb4.trans (hbX.mono hb4.size)
    have HB4 := hide (HB3.out.trans (hb4'.mono HB3.out.size))
    have HG4 := hide ((hb4'.block _ (Array.getElem?_eq_some_iff.1 HG3.out).1).trans HG3.out)
    have HA4 := hide (HA3.out.below hb4')
    clear hb4 hbX hb4'
    have hcv := fun x : Later X4 => conv_bytes c (HA4.out.below x.property).2.2.1
    generalize strOfNums bl = Y at *
    have hgf : ∀ X, (∃ x : Later X4, X = x.val) → X.heap[w.heap.size]? = some (.cells (blk .i64 l) 40 (0, 0)) := fun X hx => by
      obtain ⟨x, rfl⟩ := hx
      exact (x.property.block _ (Array.getElem?_eq_some_iff.1 HG4.out).1).trans HG4.out
    have hgx : ∀ X, (∃ x : Later X4, X = x.val) → X.heap[w4.heap.size]? = some (.cells (blk .i64 l) 40 (0, 0)) := fun X hx => by
      obtain ⟨x, rfl⟩ := hx
      exact (x.property.block _ (Array.getElem?_eq_some_iff.1 HX4.out).1).trans HX4.out
    have HGF := hide hgf
    have HGX := hide hgx
    have hne := later_some X4
    have HEX := hide (fun x : Later X4 => HE.out x.val)
    clear hgf hgx
    go_wp2_with (refine wpList_store_row rfl 40 _ _ rfl w4.heap.size (blk .i64 l) rfl rfl 40 _ (heap_alloc_new w4 _) HSF.out HSZ.out (blk_one .i64 l) ?_)
    rw [← hX4]
    clear hX4
    refine wp_region_later (by kernel_rfl) (by kernel_rfl) ?_
    repeat (first
      | (refine wpQuiet_load_row_on (by rfl) 40 _ rfl w.heap.size rfl 40 _ (0, 0) _ HGF.out Try.underlying40 rfl HSF.out ?_; simp only [Act.put, List.setIfInBounds_toArray, List.set_cons_zero, List.set_cons_succ])
      | (refine wpQuiet_load_row_on (by rfl) 40 _ rfl w4.heap.size rfl 40 _ (0, 0) _ HGX.out Try.underlying40 rfl HSF.out ?_; simp only [Act.put, List.setIfInBounds_toArray, List.set_cons_zero, List.set_cons_succ])
      | go_big_quiet_step (first | rfl | (go_at_call 17; refine calls_later (HEX.out _))))
    refine wpQuiet_nil ?_
    intro w9 hw9
    obtain ⟨⟨w9', hb9⟩, rfl⟩ := hw9
    have HB9 := hide (HB4.out.trans (hb9.mono HB4.out.size))
    clear hb9
    go_wp2_with fail
    go_ret
    exact ⟨rfl, HB9.out⟩
  · have hr' : Pg.fanR l = false := by simpa using hr
    have HP := hide (putfan_no l w1 hl hr')
    rw [hr', if_neg (by decide)] at HRF
    clear hr hr'
    go_wp2_with (refine wpList_load_row_on (by rfl) 40 _ rfl w.heap.size rfl 40 _ (0, 0) _ HG1.out Try.underlying40 rfl HSF.out ?_)
    refine HP.out.mono ?_
    rintro e w2 ⟨rfl, hb2⟩
    have HB2 := hide (HB1.out.trans (hb2.mono HB1.out.size))
    have HG2 := hide ((hb2.block _ (Array.getElem?_eq_some_iff.1 HG1.out).1).trans HG1.out)
    clear hb2
    go_wp2_with (refine wpList_load_row_on (by rfl) 40 _ rfl w.heap.size rfl 40 _ (0, 0) _ HG2.out Try.underlying40 rfl HSF.out ?_)
    refine (HRF.out _).mono ?_
    rintro e w3 ⟨rfl, hb3⟩
    have HB3 := hide (HB2.out.trans (hb3.mono HB2.out.size))
    have HG3 := hide ((hb3.block _ (Array.getElem?_eq_some_iff.1 HG2.out).1).trans HG2.out)
    have HG := hide (getfan_any (arg_nil8 w3) (by decide))
    rw [gotF_nil, tellsF_nil] at HG
    clear hb3
    go_wp2_with fail
    refine HG.out.mono ?_
    rintro e w4 ⟨rfl, hb4⟩
    obtain ⟨X4, hX4⟩ : ∃ X4, X4 = (w4.alloc (.cells #[Value.int .i64 0, Value.int .i64 0, Value.int .i64 0, Value.int .i64 0, Value.int .i64 0, Value.int .i64 0, Value.int .i64 0, Value.int .i64 0, Value.int .i64 0, Value.int .i64 0, Value.int .i64 0, Value.int .i64 0, Value.int .i64 0, Value.int .i64 0, Value.int .i64 0, Value.int .i64 0] 40)).setRow w4.heap.size (blk .i64 Pg.nilF) := ⟨_, rfl⟩
    have hbX : Below w4.heap.size w4 X4 := by rw [hX4]; exact below_setRow ((Below.refl _ _).alloc (Nat.le_refl _) _) (Nat.le_refl _) _
    have hb4' := hb4.trans (hbX.mono hb4.size)
    have HB4 := hide (HB3.out.trans (hb4'.mono HB3.out.size))
    have HG4 := hide ((hb4'.block _ (Array.getElem?_eq_some_iff.1 HG3.out).1).trans HG3.out)
    clear hb4 hbX hb4'
    have hcv : ∀ x : Later X4, (convert 29 9 (.slice none 0 0)).run Try.prog x.val = .ok (.string ⟨#[]⟩) x.val := fun x => conv_bytes 0 (arg_nil8 x.val).2.2.1
    have hgf : ∀ X, (∃ x : Later X4, X = x.val) → X.heap[w.heap.size]? = some (.cells (blk .i64 l) 40 (0, 0)) := fun X hx => by
      obtain ⟨x, rfl⟩ := hx
      exact (x.property.block _ (Array.getElem?_eq_some_iff.1 HG4.out).1).trans HG4.out
    have HGF := hide hgf
    have hne := later_some X4
    have HEX := hide (fun x : Later X4 => HE.out x.val)
    clear hgf
    go_wp2_with (refine wpList_store_row rfl 40 _ _ rfl w4.heap.size (blk .i64 Pg.nilF) rfl rfl 40 _ (heap_alloc_new w4 _) (fan_size rfl) rfl (blk_one .i64 Pg.nilF) ?_)
    rw [← hX4]
    clear hX4
    refine wp_region_later (by kernel_rfl) (by kernel_rfl) ?_
    repeat (first
      | (refine wpQuiet_load_row_on (by rfl) 40 _ rfl w.heap.size rfl 40 _ (0, 0) _ HGF.out Try.underlying40 rfl HSF.out ?_; simp only [Act.put, List.setIfInBounds_toArray, List.set_cons_zero, List.set_cons_succ])
      | go_big_quiet_step (first | rfl | (go_at_call 17; refine calls_later (HEX.out _))))
    refine wpQuiet_nil ?_
    intro w9 hw9
    obtain ⟨⟨w9', hb9⟩, rfl⟩ := hw9
    have HB9 := hide (HB4.out.trans (hb9.mono HB4.out.size))
    clear hb9
    go_wp2_with fail
    go_ret
    exact ⟨rfl, HB9.out⟩
end Go.Proofs.Ytjehcgkmapapbaa
