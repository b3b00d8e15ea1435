/-
  The document's answers (layer 9): GetLeaf.
-/
import Derived.Test.YtjehcgkmapapbaaRefPgC
import Derived.Deep.RegionHeld3
namespace Go.Proofs.Ytjehcgkmapapbaa
set_option linter.unusedVariables false
set_option linter.unusedSimpArgs false
open Go.RowKit

theorem leaf_size {l : List Pg.Seat} (h : l.length = 7) : (Try.prog.info? 26).map (·.size) = some (leafC l).size := by rw [leafC_size, h]; exact info_leaf
theorem leafC_one (l : List Pg.Seat) : (leafC l).all (·.oneCell') = true := by
  rw [Array.all_eq_true_iff_forall_mem]
  intro v hv
  simp only [leafC, List.mem_toArray, List.mem_flatMap, seatC] at hv
  obtain ⟨x, _, hx⟩ := hv
  simp only [List.mem_cons, List.not_mem_nil, or_false] at hx
  rcases hx with rfl | rfl | rfl <;> rfl

set_option maxRecDepth 100000 in
set_option maxHeartbeats 2000000 in
theorem rgetleaf_other {w : World} {a : Option Addr} {len cap : Nat} {zs : List Int} (hA : Arg .u8 w a len cap zs) (hl : len ≤ 100000) (h : ¬ (Bk.isB zs = true ∧ zs.getD 4 0 = 2)) :
    Calls Try.prog 18 #[.slice a len cap] w fun e w' => e = .returned (.tuple #[.agg (leafC (Pg.tellsL zs)), .bool (Pg.gotL zs)]) ∧ Below w.heap.size w w' := by
  have hg : Pg.gotL zs = false := decide_eq_false fun e => h ⟨e.1, e.2.1⟩
  have ht : Pg.tellsL zs = Pg.nil := by unfold Pg.tellsL; rw [hg]; rfl
  obtain ⟨V, hV⟩ : ∃ V : Value, V = .tuple #[.agg (leafC (Pg.tellsL zs)), .bool (Pg.gotL zs)] := ⟨_, rfl⟩
  rw [← hV]
  rw [hg, ht] at hV
  have HV := hide hV
  obtain ⟨W, hW⟩ : ∃ W, W = w.alloc (.cells #[Value.bool false, Value.int .i64 0, Value.int .i64 0, Value.bool false, Value.int .i64 0, Value.int .i64 0, Value.bool false, Value.int .i64 0, Value.int .i64 0, Value.bool false, Value.int .i64 0, Value.int .i64 0, Value.bool false, Value.int .i64 0, Value.int .i64 0, Value.bool false, Value.int .i64 0, Value.int .i64 0, Value.bool false, Value.int .i64 0, Value.int .i64 0] 26) := ⟨_, rfl⟩
  have hb0 : Below w.heap.size w W := by rw [hW]; exact (Below.refl _ _).alloc (Nat.le_refl _) _
  have hg0 : W.heap[w.heap.size]? = some (.cells (leafC Pg.nil) 26 (0, 0)) := by rw [hW]; exact heap_alloc_new w _
  have HO := hide (ropen_any (hA.below hb0) hl)
  have HB0 := hide hb0
  have HG0 := hide hg0
  have hb4 := byte_of hA.bytes 4
  have hb5 := byte_of hA.bytes 5
  clear hA hg ht hb0 hg0 hV
  by_cases hB : Bk.isB zs = true
  · rw [if_pos hB] at HO
    have h4 : ¬ zs.getD 4 0 = 2 := fun e => h ⟨hB, e⟩
    clear h hB
    generalize zs.getD 4 0 = k at *
    generalize zs.getD 5 0 = t at *
    generalize strOfNums (zs.drop 8) = S at *
    have hk1 : (k != 2) = true := by simpa using h4
    go_enter Try.func18, Try.ntmps18
    go_wp2_with fail
    rw [← hW]
    refine HO.out.mono ?_
    rintro e w1 ⟨rfl, hb1⟩
    have HG9 := hide ((hb1.block _ ((Array.getElem?_eq_some_iff.1 HG0.out).1)).trans HG0.out)
    have HB9 := hide (HB0.out.trans (hb1.mono HB0.out.size))
    clear hb1
    go_wp2_with (refine wpList_store_row rfl 26 _ _ rfl w.heap.size #[Value.bool false, Value.int .i64 0, Value.int .i64 0, Value.bool false, Value.int .i64 0, Value.int .i64 0, Value.bool false, Value.int .i64 0, Value.int .i64 0, Value.bool false, Value.int .i64 0, Value.int .i64 0, Value.bool false, Value.int .i64 0, Value.int .i64 0, Value.bool false, Value.int .i64 0, Value.int .i64 0, Value.bool false, Value.int .i64 0, Value.int .i64 0] rfl rfl 26 (leafC Pg.nil) HG9.out info_leaf rfl (leafC_one Pg.nil) ?_)
    (try simp only [Exit.inBlock, Exit.then]); refine bodyPost_ret (results_row rfl Try.underlying26 _ _ w.heap.size #[Value.bool false, Value.int .i64 0, Value.int .i64 0, Value.bool false, Value.int .i64 0, Value.int .i64 0, Value.bool false, Value.int .i64 0, Value.int .i64 0, Value.bool false, Value.int .i64 0, Value.int .i64 0, Value.bool false, Value.int .i64 0, Value.int .i64 0, Value.bool false, Value.int .i64 0, Value.int .i64 0, Value.bool false, Value.int .i64 0, Value.int .i64 0] rfl (setRow_heap _ _ _ _ _ _ HG9.out) info_leaf) rfl ?_
    exact ⟨by rw [HV.out]; rfl, below_setRow HB9.out (Nat.le_refl _) _⟩
  · rw [if_neg hB] at HO
    clear h hB
    go_enter Try.func18, Try.ntmps18
    go_wp2_with fail
    rw [← hW]
    refine HO.out.mono ?_
    rintro e w1 ⟨rfl, hb1⟩
    have HG9 := hide ((hb1.block _ ((Array.getElem?_eq_some_iff.1 HG0.out).1)).trans HG0.out)
    have HB9 := hide (HB0.out.trans (hb1.mono HB0.out.size))
    clear hb1
    go_wp2_with (refine wpList_store_row rfl 26 _ _ rfl w.heap.size #[Value.bool false, Value.int .i64 0, Value.int .i64 0, Value.bool false, Value.int .i64 0, Value.int .i64 0, Value.bool false, Value.int .i64 0, Value.int .i64 0, Value.bool false, Value.int .i64 0, Value.int .i64 0, Value.bool false, Value.int .i64 0, Value.int .i64 0, Value.bool false, Value.int .i64 0, Value.int .i64 0, Value.bool false, Value.int .i64 0, Value.int .i64 0] rfl rfl 26 (leafC Pg.nil) HG9.out info_leaf rfl (leafC_one Pg.nil) ?_)
    (try simp only [Exit.inBlock, Exit.then]); refine bodyPost_ret (results_row rfl Try.underlying26 _ _ w.heap.size #[Value.bool false, Value.int .i64 0, Value.int .i64 0, Value.bool false, Value.int .i64 0, Value.int .i64 0, Value.bool false, Value.int .i64 0, Value.int .i64 0, Value.bool false, Value.int .i64 0, Value.int .i64 0, Value.bool false, Value.int .i64 0, Value.int .i64 0, Value.bool false, Value.int .i64 0, Value.int .i64 0, Value.bool false, Value.int .i64 0, Value.int .i64 0] rfl (setRow_heap _ _ _ _ _ _ HG9.out) info_leaf) rfl ?_
    exact ⟨by rw [HV.out]; rfl, below_setRow HB9.out (Nat.le_refl _) _⟩

end Go.Proofs.Ytjehcgkmapapbaa
