/-
  Layer 9's statements: PageReads.
-/
import Derived.Test.YtjehcgkmapapbaaPgLawC
namespace Go.Proofs.Ytjehcgkmapapbaa
set_option linter.unusedVariables false
set_option linter.unusedSimpArgs false
open Go.RowKit

set_option maxRecDepth 100000 in
set_option maxHeartbeats 2000000 in
theorem pagereads_great {w : World} {a : Option Addr} {len cap : Nat} (hl : len ≤ maxLen) (h : 200 < len) :
    Calls Try.prog 5 #[.slice a len cap] w fun e w' => e = .returned (.bool true) ∧ Below w.heap.size w w' := by
  have HAW := hide (fun X => pgawake_any X)
  have hI : (200 : Int) < (len : Int) := by omega
  go_enter Try.func5, Try.ntmps5
  go_wp2_with fail
  refine (HAW.out _).mono ?_
  rintro e w1 ⟨rfl, hb1⟩
  have HB1 := hide hb1
  clear hb1
  go_wp2_with fail
  refine (HAW.out _).mono ?_
  rintro e w2 ⟨rfl, hb2⟩
  have HB2 := hide (HB1.out.trans (hb2.mono HB1.out.size))
  clear hb2
  go_wp2_with fail
  go_ret
  exact ⟨rfl, HB2.out⟩

set_option maxRecDepth 100000 in
set_option maxHeartbeats 4000000 in
theorem pagereads_small {w : World} {a : Option Addr} {len cap : Nat} {zs : List Int} (hA : Arg .u8 w a len cap zs) (h : len ≤ 200) :
    Calls Try.prog 5 #[.slice a len cap] w fun e w' => e = .returned (.bool true) ∧ Below w.heap.size w w' := by
  have HAW := hide (fun X => pgawake_any X)
  have HA := hide hA
  have hI : ¬ (200 : Int) < (len : Int) := by omega
  have h1 := hide (show len ≤ 1000 by omega)
  have h2 := hide (show len ≤ 100000 by omega)
  have hap := @Pg.apart zs
  obtain ⟨L, hL⟩ : ∃ L, Pg.tellsL zs = L := ⟨_, rfl⟩
  obtain ⟨F, hF⟩ : ∃ F, Pg.tellsF zs = F := ⟨_, rfl⟩
  have HLL : Hid (L.length = 7) := by show _ = _; rw [← hL]; exact Pg.tellsL_length zs
  have HFL : Hid (F.length = 16) := by show _ = _; rw [← hF]; exact Pg.tellsF_length zs
  have HL := hide hL
  have HF := hide hF
  have HSF := hide (leaf_size HLL.out)
  have HSG := hide (fan_size HFL.out)
  have HSZ : Hid ((#[] : Array Value).size + 21 = (leafC L).size) := by show _ = _; rw [leafC_size, HLL.out]; rfl
  have HSY : Hid ((#[] : Array Value).size + 16 = (blk .i64 F).size) := by show _ = _; rw [size_blk, HFL.out]; rfl
  have hEL : ∀ W, (binOp .eql 26 (.agg (leafC L)) (.agg (leafC L))).run Try.prog W = .ok (.bool true) W := fun W => run_eql_leaf L HLL.out W
  have hEF : ∀ W, (binOp .eql 40 (.agg (blk .i64 F)) (.agg (blk .i64 F))).run Try.prog W = .ok (.bool true) W := fun W => by
    have h := run_eql_fan F F HFL.out HFL.out W
    rw [decide_eq_true rfl] at h
    exact h
  clear hA hL hF
  generalize hp : Pg.gotL zs = p at *
  generalize hq : Pg.gotF zs = q at *
  have HP := hide hp
  have HQ := hide hq
  clear hp hq
  have hpp : (p == p) = true := by simp
  have hqq : (q == q) = true := by simp
  go_enter Try.func5, Try.ntmps5
  go_wp2_with fail
  refine (HAW.out _).mono ?_
  rintro e w1 ⟨rfl, hb1⟩
  have HB1 := hide hb1
  have HG := hide (getleaf_any (HA.out.below hb1) h1.out)
  rw [HL.out, HP.out] at HG
  clear hb1
  go_wp2_with fail
  refine HG.out.mono ?_
  rintro e w2 ⟨rfl, hb2⟩
  obtain ⟨X2, hX2⟩ : ∃ X2, X2 = (w2.alloc (.cells #[Value.bool false, Value.int .i64 0, Value.int .i64 0, Value.bool false, Value.int .i64 0, Value.int .i64 0, Value.bool false, Value.int .i64 0, Value.int .i64 0, Value.bool false, Value.int .i64 0, Value.int .i64 0, Value.bool false, Value.int .i64 0, Value.int .i64 0, Value.bool false, Value.int .i64 0, Value.int .i64 0, Value.bool false, Value.int .i64 0, Value.int .i64 0] 26)).setRow w2.heap.size (leafC L) := ⟨_, rfl⟩
  have hbX : Below w2.heap.size w2 X2 := by rw [hX2]; exact below_setRow ((Below.refl _ _).alloc (Nat.le_refl _) _) (Nat.le_refl _) _
  have HX2 : Hid (X2.heap[w2.heap.size]? = some (.cells (leafC L) 26 (0, 0))) := by show _ = _; rw [hX2]; exact setRow_heap _ _ _ _ _ _ (heap_alloc_new w2 _)
  have hb2' := hb2.trans (hbX.mono hb2.size)
  have HB2 := hide (HB1.out.trans (hb2'.mono HB1.out.size))
  have HG2 := hide (rgetleaf_any (HA.out.below HB2.out) h2.out)
  rw [HL.out, HP.out] at HG2
  clear hb2 hbX hb2'
  go_wp2_with (refine wpList_store_row rfl 26 _ _ rfl w2.heap.size (leafC L) rfl rfl 26 _ (heap_alloc_new w2 _) HSF.out HSZ.out (leafC_one _) ?_)
  rw [← hX2]
  clear hX2
  refine HG2.out.mono ?_
  rintro e w3 ⟨rfl, hb3⟩
  obtain ⟨X3, hX3⟩ : ∃ X3, X3 = (w3.alloc (.cells #[Value.bool false, Value.int .i64 0, Value.int .i64 0, Value.bool false, Value.int .i64 0, Value.int .i64 0, Value.bool false, Value.int .i64 0, Value.int .i64 0, Value.bool false, Value.int .i64 0, Value.int .i64 0, Value.bool false, Value.int .i64 0, Value.int .i64 0, Value.bool false, Value.int .i64 0, Value.int .i64 0, Value.bool false, Value.int .i64 0, Value.int .i64 0] 26)).setRow w3.heap.size (leafC L) := ⟨_, rfl⟩
  have hbX : Below w3.heap.size w3 X3 := by rw [hX3]; exact below_setRow ((Below.refl _ _).alloc (Nat.le_refl _) _) (Nat.le_refl _) _
  have HX3 : Hid (X3.heap[w3.heap.size]? = some (.cells (leafC L) 26 (0, 0))) := by show _ = _; rw [hX3]; exact setRow_heap _ _ _ _ _ _ (heap_alloc_new w3 _)
  have hb3' := hb3.trans (hbX.mono hb3.size)
  have HB3 := hide (HB2.out.trans (hb3'.mono HB2.out.size))
  have HY3 := hide ((hb3'.block _ (Array.getElem?_eq_some_iff.1 HX2.out).1).trans HX2.out)
  have HG3 := hide (getfan_any (HA.out.below HB3.out) h1.out)
  rw [HF.out, HQ.out] at HG3
  clear hb3 hbX hb3'
  go_wp2_with (refine wpList_store_row rfl 26 _ _ rfl w3.heap.size (leafC L) rfl rfl 26 _ (heap_alloc_new w3 _) HSF.out HSZ.out (leafC_one _) ?_)
  rw [← hX3]
  clear hX3
  refine HG3.out.mono ?_
  rintro e w4 ⟨rfl, hb4⟩
  obtain ⟨X4, hX4⟩ : ∃ X4, X4 = (w4.alloc (.cells #[Value.int .i64 0, Value.int .i64 0, Value.int .i64 0, Value.int .i64 0, Value.int .i64 0, Value.int .i64 0, Value.int .i64 0, Value.int .i64 0, Value.int .i64 0, Value.int .i64 0, Value.int .i64 0, Value.int .i64 0, Value.int .i64 0, Value.int .i64 0, Value.int .i64 0, Value.int .i64 0] 40)).setRow w4.heap.size (blk .i64 F) := ⟨_, rfl⟩
  have hbX : Below w4.heap.size w4 X4 := by rw [hX4]; exact below_setRow ((Below.refl _ _).alloc (Nat.le_refl _) _) (Nat.le_refl _) _
  have HX4 : Hid (X4.heap[w4.heap.size]? = some (.cells (blk .i64 F) 40 (0, 0))) := by show _ = _; rw [hX4]; exact setRow_heap _ _ _ _ _ _ (heap_alloc_new w4 _)
  have hb4' := hb4.trans (hbX.mono hb4.size)
  have HB4 := hide (HB3.out.trans (hb4'.mono HB3.out.size))
  have HY4 := hide ((hb4'.block _ (Array.getElem?_eq_some_iff.1 HY3.out).1).trans HY3.out)
  have HZ4 := hide ((hb4'.block _ (Array.getElem?_eq_some_iff.1 HX3.out).1).trans HX3.out)
  have HG4 := hide (rgetfan_any (HA.out.below HB4.out) h2.out)
  rw [HF.out, HQ.out] at HG4
  clear hb4 hbX hb4'
  go_wp2_with (refine wpList_store_row rfl 40 _ _ rfl w4.heap.size (blk .i64 F) rfl rfl 40 _ (heap_alloc_new w4 _) HSG.out HSY.out (blk_one .i64 F) ?_)
  rw [← hX4]
  clear hX4
  refine HG4.out.mono ?_
  rintro e w5 ⟨rfl, hb5⟩
  obtain ⟨X5, hX5⟩ : ∃ X5, X5 = (w5.alloc (.cells #[Value.int .i64 0, Value.int .i64 0, Value.int .i64 0, Value.int .i64 0, Value.int .i64 0, Value.int .i64 0, Value.int .i64 0, Value.int .i64 0, Value.int .i64 0, Value.int .i64 0, Value.int .i64 0, Value.int .i64 0, Value.int .i64 0, Value.int .i64 0, Value.int .i64 0, Value.int .i64 0] 40)).setRow w5.heap.size (blk .i64 F) := ⟨_, rfl⟩
  have hbX : Below w5.heap.size w5 X5 := by rw [hX5]; exact below_setRow ((Below.refl _ _).alloc (Nat.le_refl _) _) (Nat.le_refl _) _
  have HX5 : Hid (X5.heap[w5.heap.size]? = some (.cells (blk .i64 F) 40 (0, 0))) := by show _ = _; rw [hX5]; exact setRow_heap _ _ _ _ _ _ (heap_alloc_new w5 _)
  have hb5' := hb5.trans (hbX.mono hb5.size)
  have HB5 := hide (HB4.out.trans (hb5'.mono HB4.out.size))
  have HY5 := hide ((hb5'.block _ (Array.getElem?_eq_some_iff.1 HY4.out).1).trans HY4.out)
  have HZ5 := hide ((hb5'.block _ (Array.getElem?_eq_some_iff.1 HZ4.out).1).trans HZ4.out)
  have HU5 := hide ((hb5'.block _ (Array.getElem?_eq_some_iff.1 HX4.out).1).trans HX4.out)
  clear hb5 hbX hb5'
  subst hX5
  have hcase : (p = true ∧ q = false) ∨ (p = false ∧ q = true) ∨ (p = false ∧ q = false) := by
    cases p with
    | true => exact .inl ⟨rfl, hap rfl⟩
    | false => cases q with
      | true => exact .inr (.inl ⟨rfl, rfl⟩)
      | false => exact .inr (.inr ⟨rfl, rfl⟩)
  clear hap
  rcases hcase with ⟨rfl, rfl⟩ | ⟨rfl, rfl⟩ | ⟨rfl, rfl⟩
  all_goals
    go_wp2_with (first
      | (refine wpList_store_row rfl 40 _ _ rfl w5.heap.size (blk .i64 F) rfl rfl 40 _ (heap_alloc_new w5 _) HSG.out HSY.out (blk_one .i64 F) ?_)
      | (refine wpList_load_row_on (by rfl) 26 _ rfl w2.heap.size rfl 26 _ (0, 0) _ HY5.out Try.underlying26 rfl HSF.out ?_)
      | (refine wpList_load_row_on (by rfl) 26 _ rfl w3.heap.size rfl 26 _ (0, 0) _ HZ5.out Try.underlying26 rfl HSF.out ?_)
      | (refine wpList_load_row_on (by rfl) 40 _ rfl w4.heap.size rfl 40 _ (0, 0) _ HU5.out Try.underlying40 rfl HSG.out ?_)
      | (refine wpList_load_row_on (by rfl) 40 _ rfl w5.heap.size rfl 40 _ (0, 0) _ HX5.out Try.underlying40 rfl HSG.out ?_))
    go_ret
    exact ⟨rfl, HB5.out⟩

theorem pagereads_own {w : World} {a : Option Addr} {len cap : Nat} {zs : List Int} (hA : Arg .u8 w a len cap zs) :
    Calls Try.prog 5 #[.slice a len cap] w fun e w' => e = .returned (.bool true) ∧ Below w.heap.size w w' := by
  by_cases h : len ≤ 200
  · exact pagereads_small hA h
  · exact pagereads_great (Nat.le_trans hA.1 hA.2.1) (by omega)
end Go.Proofs.Ytjehcgkmapapbaa
