/-
  Layer 11's statements: LabelTrees.
-/
import Derived.Test.YtkmndllomheegaaLbLawA
namespace Go.Proofs.Ytkmndllomheegaa
set_option linter.unusedVariables false
set_option linter.unusedSimpArgs false
open Go.RowKit

theorem trees_take (l : List Int) (j : Nat) (h : j < l.length) : treesL (l.take (j + 1)) = treesL (l.take j) ++ (if l.getD j 0 = 0 then [] else [l.getD j 0]) := by
  unfold treesL
  rw [List.take_succ_eq_append_getElem h, List.filter_append, List.getD_eq_getElem?_getD, List.getElem?_eq_getElem h]
  congr 1
  simp only [Option.getD_some]
  by_cases e : l[j] = 0
  · rw [if_pos e, e]; rfl
  · rw [if_neg e]
    simp [e]
theorem trees_le (l : List Int) (j : Nat) : (treesL (l.take j)).length ≤ j := Nat.le_trans (List.length_filter_le _ _) (by simp; omega)
theorem trees_wf {l : List Int} (h : ∀ x ∈ l, (Lit.int .i64 x).wf = true) : ∀ x ∈ treesL l, (Lit.int .i64 x).wf = true := fun x hx => h x (List.mem_filter.1 hx).1

set_option maxRecDepth 100000 in
set_option maxHeartbeats 2000000 in
theorem labeltrees_any (l : List Int) (w : World) (hl : l.length = 12) (hw : ∀ x ∈ l, (Lit.int .i64 x).wf = true) :
    Calls Try.prog 6 #[.agg (blk .i64 l)] w fun e w' => e = .returned (.bool true) ∧ Below w.heap.size w w' := by
  obtain ⟨W, hW⟩ : ∃ W, W = w.alloc (.cells (blk .i64 l) 23) := ⟨_, rfl⟩
  have hB0 : Below w.heap.size w W := by rw [hW]; exact (Below.refl _ _).alloc (Nat.le_refl _) _
  have hg0 : W.heap[w.heap.size]? = some (.cells (blk .i64 l) 23 (0, 0)) := by rw [hW]; exact heap_alloc_new w _
  have HB0 := hide hB0
  have HG0 := hide hg0
  have hlt0 : w.heap.size < W.heap.size := (Array.getElem?_eq_some_iff.1 hg0).1
  have HSF : Hid ((Try.prog.info? 23).map (·.size) = some (blk .i64 l).size) := by show _ = _; rw [size_blk, hl]; kernel_rfl
  have HAW := hide (fun X => lbawake_any X)
  have HW := hide hw
  clear hB0 hg0 hw
  go_enter Try.func6, Try.ntmps6
  go_wp2_with fail
  rw [← hW]
  refine (HAW.out _).mono ?_
  rintro e w1 ⟨rfl, hb1⟩
  have HB1 := hide (HB0.out.trans (hb1.mono HB0.out.size))
  have HG1 := hide ((hb1.block _ hlt0).trans HG0.out)
  clear hb1 hW
  obtain ⟨X2, hX2⟩ : ∃ X2, X2 = (w1.alloc (.cells #[Value.int .i64 0, Value.int .i64 0, Value.int .i64 0, Value.int .i64 0, Value.int .i64 0, Value.int .i64 0, Value.int .i64 0, Value.int .i64 0, Value.int .i64 0, Value.int .i64 0, Value.int .i64 0, Value.int .i64 0] 23)).setRow w1.heap.size (blk .i64 l) := ⟨_, rfl⟩
  have hbX : Below w1.heap.size w1 X2 := by rw [hX2]; exact below_setRow ((Below.refl _ _).alloc (Nat.le_refl _) _) (Nat.le_refl _) _
  have HX2 : Hid (X2.heap[w1.heap.size]? = some (.cells (blk .i64 l) 23 (0, 0))) := by show _ = _; rw [hX2]; exact setRow_heap _ _ _ _ _ _ (heap_alloc_new w1 _)
  have HN2 := hide ((hbX.block _ (Array.getElem?_eq_some_iff.1 HG1.out).1).trans HG1.out)
  have HB2 := hide (HB1.out.trans (hbX.mono HB1.out.size))
  have HSZ : Hid ((#[Value.int .i64 0, Value.int .i64 0, Value.int .i64 0, Value.int .i64 0, Value.int .i64 0, Value.int .i64 0, Value.int .i64 0, Value.int .i64 0, Value.int .i64 0, Value.int .i64 0, Value.int .i64 0, Value.int .i64 0] : Array Value).size = (blk .i64 l).size) := by show _ = _; rw [size_blk, hl]; rfl
  clear hbX
  obtain ⟨i0, hi0, hz0, hz1, hz2⟩ := info_parts info_int64
  go_wp2_with (first | (refine wpList_load_row rfl 23 _ rfl w.heap.size rfl 23 (blk .i64 l) (0, 0) _ HG1.out Try.underlying23 rfl HSF.out ?_) | (refine wpList_store_row rfl 23 _ _ rfl w1.heap.size (blk .i64 l) rfl rfl 23 _ (heap_alloc_new w1 _) HSF.out HSZ.out (blk_one .i64 l) ?_; rw [← hX2]; clear hX2))
  go_loopw [4, 5] (fun v i wr => ∃ j : Nat, j ≤ 12 ∧ i = .int .i64 j ∧ wr.ownsRow X2.heap.size 3 1 v (treesL (l.take j)).length ((treesL (l.take j)).map (Value.int .i64)) ∧ Below X2.heap.size X2 wr) (fun _ i _ => 12 - (intOf i).toNat)
  case atStart => exact ⟨0, Nat.zero_le _, rfl, ⟨rfl, .inl ⟨rfl, rfl⟩⟩, Below.refl _ _⟩
  case round =>
    obtain ⟨j, hj, rfl, hown, hb⟩ := hrel
    have HOWN := hide hown
    have HBB := hide hb
    have hgr := (hb.block _ (Array.getElem?_eq_some_iff.1 HN2.out).1).trans HN2.out
    by_cases hlt : j < 12
    · have hjI : (j : Int) < 12 := by omega
      have cj := (cell_blk hgr (i := j) (by omega)).1
      have HSU := hide (trees_take l j (by omega))
      have hLl := trees_le l j
      clear hown hb hgr
      generalize l.getD j 0 = z at *
      obtain ⟨L, hL⟩ : ∃ L, treesL (l.take j) = L := ⟨_, rfl⟩
      rw [hL] at HSU HOWN hLl
      clear hL
      by_cases hz : z = 0
      · rw [if_pos hz, List.append_nil] at HSU
        have hzb : (z != 0) = false := by simpa using hz
        clear hz
        go_wp2_with fail
        go_roundw
        case rel => exact ⟨j + 1, by omega, by go_num, by rw [HSU.out]; exact HOWN.out, HBB.out⟩
        case measure => simp [intOf]; omega
      · rw [if_neg hz] at HSU
        have hzb : (z != 0) = true := by simpa using hz
        have hsz := HBB.out.size
        clear hz
        go_wp2_with (at_builtin; refine wpList_append_own _ rfl _ _ 34 rfl X2.heap.size 3 i0 _ 1 8 Try.underlying34 hi0 hz0 hz1 hz2 rfl (by decide) u4 L.length (L.map (Value.int .i64)) rfl (HOWN.out.alloc _) ⟨wr.heap.size, 0, none⟩ 1 1 [.int .i64 z] rfl rfl (cell_one_new _ _ _) (by simp [Value.oneCell']) (by unfold maxLen; omega) (by omega) (by simp; omega) ?_; intro v' w5 hown2 hgrow hiff)
        have HON := hide hown2
        have HBN := hide (own_below (HOWN.out.alloc _) hgrow (by simp; omega) (HBB.out.alloc hsz _) (Nat.le_refl _))
        clear hown2 hgrow hiff
        go_wp2_with fail
        go_roundw
        case rel => exact ⟨j + 1, by omega, by go_num, by rw [HSU.out, List.length_append, List.map_append]; exact HON.out, HBN.out⟩
        case measure => simp [intOf]; omega
    · have hjI : ¬ (j : Int) < 12 := by omega
      obtain rfl : j = 12 := by omega
      have hta : l.take 12 = l := List.take_of_length_le (by omega)
      rw [hta] at hown
      obtain ⟨av, cv, rfl, hAV, _⟩ := arg_of_own hown (trees_wf HW.out)
      have hle : (treesL l).length ≤ 12 := by have := trees_le l 12; rwa [hta] at this
      have HG5 := hide hgr
      have HI5 := hide ((hb.block _ (Array.getElem?_eq_some_iff.1 HX2.out).1).trans HX2.out)
      have HB5 := hide (HB2.out.trans (hb.mono HB2.out.size))
      have HAV := hide hAV
      have HTR := hide (fun X => lbtrees_any l X hl HW.out)
      have hEQ := fun W => run_eql_roots l hl W
      clear hown hb hgr hAV HOWN HBB hta
      go_wp2_with (first | (refine wpList_load_row rfl 23 _ rfl w.heap.size rfl 23 (blk .i64 l) (0, 0) _ HG5.out Try.underlying23 rfl HSF.out ?_))
      refine (HTR.out _).mono ?_
      rintro e w5 ⟨ta, tn, tc, rfl, hTA, hb5⟩
      have htn : tn = (treesL l).length := hTA.2.2.1.1.symm
      subst htn
      have HI := hide (ints_any (cap := tc) (cap' := cv) (by omega) (by omega) hTA.2.2.1 (HAV.out.below hb5).2.2.1)
      rw [decide_eq_true (rfl : treesL l = treesL l)] at HI
      have HG6 := hide ((hb5.block _ (Array.getElem?_eq_some_iff.1 HG5.out).1).trans HG5.out)
      have HI6 := hide ((hb5.block _ (Array.getElem?_eq_some_iff.1 HI5.out).1).trans HI5.out)
      have HB6 := hide (HB5.out.trans (hb5.mono HB5.out.size))
      clear hb5 hTA
      generalize (treesL l).length = tl at *
      go_wp2_with fail
      refine HI.out.mono ?_
      rintro e w7 ⟨rfl, hb7⟩
      have HG7 := hide ((hb7.block _ (Array.getElem?_eq_some_iff.1 HG6.out).1).trans HG6.out)
      have HI7 := hide ((hb7.block _ (Array.getElem?_eq_some_iff.1 HI6.out).1).trans HI6.out)
      have HB7 := hide (HB6.out.trans (hb7.mono HB6.out.size))
      clear hb7
      go_wp2_with (first
        | (refine wpList_load_row_on (by rfl) 23 _ rfl w.heap.size rfl 23 (blk .i64 l) (0, 0) _ HG7.out Try.underlying23 rfl HSF.out ?_)
        | (refine wpList_load_row_on (by rfl) 23 _ rfl w1.heap.size rfl 23 (blk .i64 l) (0, 0) _ HI7.out Try.underlying23 rfl HSF.out ?_))
      go_ret
      exact ⟨rfl, HB7.out⟩
end Go.Proofs.Ytkmndllomheegaa
