/-
  Layer 10's statements: ChartGets.
-/
import Derived.Test.YtilnimdliebfnaaChLawB
namespace Go.Proofs.Ytilnimdliebfnaa
set_option linter.unusedVariables false
set_option linter.unusedSimpArgs false
open Go.RowKit

set_option maxRecDepth 100000 in
set_option maxHeartbeats 2000000 in
theorem chartgets_great {w : World} {a : Option Addr} {len cap : Nat} (hl : len ≤ maxLen) (h : 200 < len) :
    Calls Try.prog 4 #[.slice a len cap] w fun e w' => e = .returned (.bool true) ∧ Below w.heap.size w w' := by
  have HAW := hide (fun X => chawake_any X)
  have hI : (200 : Int) < (len : Int) := by omega
  go_enter Try.func4, Try.ntmps4
  go_wp2_with fail
  refine (HAW.out _).mono ?_
  rintro e w1 ⟨rfl, hb1⟩
  have HB1 := hide hb1
  clear hb1
  go_wp2_with fail
  refine (HAW.out _).mono ?_
  rintro e w2 ⟨rfl, hb2⟩
  have HB2 := hide (HB1.out.trans (hb2.mono HB1.out.size))
  clear hb2
  go_wp2_with fail
  go_ret
  exact ⟨rfl, HB2.out⟩

set_option maxRecDepth 100000 in
set_option maxHeartbeats 4000000 in
theorem chartgets_small {w : World} {a : Option Addr} {len cap : Nat} {zs : List Int} (hA : Arg .u8 w a len cap zs) (h : len ≤ 200) :
    Calls Try.prog 4 #[.slice a len cap] w fun e w' => e = .returned (.bool true) ∧ Below w.heap.size w w' := by
  have HAW := hide (fun X => chawake_any X)
  have HA := hide hA
  have hI : ¬ (200 : Int) < (len : Int) := by omega
  have h1 := hide (show len ≤ 1000 by omega)
  have h2 := hide (show len ≤ 100000 by omega)
  obtain ⟨P, hP⟩ : ∃ P, Ch.tellsP zs = P := ⟨_, rfl⟩
  obtain ⟨L, hL⟩ : ∃ L, Ch.tellsL zs = L := ⟨_, rfl⟩
  have HLL : Hid (L.length = 48) := by show _ = _; rw [← hL]; exact Ch.tells_length zs
  have HP := hide hP
  have HL := hide hL
  have HSF := hide (chart_size P HLL.out)
  have HSZ : Hid ((#[] : Array Value).size + 49 = (chartC P L).size) := by show _ = _; rw [chartC_size, HLL.out]; rfl
  have hEQ : ∀ W, (binOp .eql 24 (.agg (chartC P L)) (.agg (chartC P L))).run Try.prog W = .ok (.bool true) W := fun W => by
    have h := run_eql_chart P P L L HLL.out HLL.out W
    rw [decide_eq_true ⟨rfl, rfl⟩] at h
    exact h
  clear hA hL hP
  generalize hq : Ch.got zs = q at *
  have HQ := hide hq
  clear hq
  have hqq : (q == q) = true := by simp
  go_enter Try.func4, Try.ntmps4
  go_wp2_with fail
  refine (HAW.out _).mono ?_
  rintro e w1 ⟨rfl, hb1⟩
  have HB1 := hide hb1
  have HG := hide (cget_any (HA.out.below hb1) h1.out)
  rw [HP.out, HL.out, HQ.out] at HG
  clear hb1
  go_wp2_with fail
  refine HG.out.mono ?_
  rintro e w2 ⟨rfl, hb2⟩
  obtain ⟨X2, hX2⟩ : ∃ X2, X2 = (w2.alloc (.cells #[Value.int .i64 0, Value.int .u8 0, Value.int .u8 0, Value.int .u8 0, Value.int .u8 0, Value.int .u8 0, Value.int .u8 0, Value.int .u8 0, Value.int .u8 0, Value.int .u8 0, Value.int .u8 0, Value.int .u8 0, Value.int .u8 0, Value.int .u8 0, Value.int .u8 0, Value.int .u8 0, Value.int .u8 0, Value.int .u8 0, Value.int .u8 0, Value.int .u8 0, Value.int .u8 0, Value.int .u8 0, Value.int .u8 0, Value.int .u8 0, Value.int .u8 0, Value.int .u8 0, Value.int .u8 0, Value.int .u8 0, Value.int .u8 0, Value.int .u8 0, Value.int .u8 0, Value.int .u8 0, Value.int .u8 0, Value.int .u8 0, Value.int .u8 0, Value.int .u8 0, Value.int .u8 0, Value.int .u8 0, Value.int .u8 0, Value.int .u8 0, Value.int .u8 0, Value.int .u8 0, Value.int .u8 0, Value.int .u8 0, Value.int .u8 0, Value.int .u8 0, Value.int .u8 0, Value.int .u8 0, Value.int .u8 0] 24)).setRow w2.heap.size (chartC P L) := ⟨_, rfl⟩
  have hbX : Below w2.heap.size w2 X2 := by rw [hX2]; exact below_setRow ((Below.refl _ _).alloc (Nat.le_refl _) _) (Nat.le_refl _) _
  have HX2 : Hid (X2.heap[w2.heap.size]? = some (.cells (chartC P L) 24 (0, 0))) := by show _ = _; rw [hX2]; exact setRow_heap _ _ _ _ _ _ (heap_alloc_new w2 _)
  have hb2' := hb2.trans (hbX.mono hb2.size)
  have HB2 := hide (HB1.out.trans (hb2'.mono HB1.out.size))
  have HG2 := hide (rchget_any (HA.out.below HB2.out) h2.out)
  rw [HP.out, HL.out, HQ.out] at HG2
  clear hb2 hbX hb2'
  go_wp2_with (refine wpList_store_row rfl 24 _ _ rfl w2.heap.size (chartC P L) rfl rfl 24 _ (heap_alloc_new w2 _) HSF.out HSZ.out (chartC_one _ _) ?_)
  rw [← hX2]
  clear hX2
  refine HG2.out.mono ?_
  rintro e w3 ⟨rfl, hb3⟩
  obtain ⟨X3, hX3⟩ : ∃ X3, X3 = (w3.alloc (.cells #[Value.int .i64 0, Value.int .u8 0, Value.int .u8 0, Value.int .u8 0, Value.int .u8 0, Value.int .u8 0, Value.int .u8 0, Value.int .u8 0, Value.int .u8 0, Value.int .u8 0, Value.int .u8 0, Value.int .u8 0, Value.int .u8 0, Value.int .u8 0, Value.int .u8 0, Value.int .u8 0, Value.int .u8 0, Value.int .u8 0, Value.int .u8 0, Value.int .u8 0, Value.int .u8 0, Value.int .u8 0, Value.int .u8 0, Value.int .u8 0, Value.int .u8 0, Value.int .u8 0, Value.int .u8 0, Value.int .u8 0, Value.int .u8 0, Value.int .u8 0, Value.int .u8 0, Value.int .u8 0, Value.int .u8 0, Value.int .u8 0, Value.int .u8 0, Value.int .u8 0, Value.int .u8 0, Value.int .u8 0, Value.int .u8 0, Value.int .u8 0, Value.int .u8 0, Value.int .u8 0, Value.int .u8 0, Value.int .u8 0, Value.int .u8 0, Value.int .u8 0, Value.int .u8 0, Value.int .u8 0, Value.int .u8 0] 24)).setRow w3.heap.size (chartC P L) := ⟨_, rfl⟩
  have hbX : Below w3.heap.size w3 X3 := by rw [hX3]; exact below_setRow ((Below.refl _ _).alloc (Nat.le_refl _) _) (Nat.le_refl _) _
  have HX3 : Hid (X3.heap[w3.heap.size]? = some (.cells (chartC P L) 24 (0, 0))) := by show _ = _; rw [hX3]; exact setRow_heap _ _ _ _ _ _ (heap_alloc_new w3 _)
  have hb3' := hb3.trans (hbX.mono hb3.size)
  have HB3 := hide (HB2.out.trans (hb3'.mono HB2.out.size))
  have HY3 := hide ((hb3'.block _ (Array.getElem?_eq_some_iff.1 HX2.out).1).trans HX2.out)
  clear hb3 hbX hb3'
  subst hX3
  cases q
  all_goals
    go_wp2_with (first
      | (refine wpList_store_row rfl 24 _ _ rfl w3.heap.size (chartC P L) rfl rfl 24 _ (heap_alloc_new w3 _) HSF.out HSZ.out (chartC_one _ _) ?_)
      | (refine wpList_load_row_on (by rfl) 24 _ rfl w2.heap.size rfl 24 _ (0, 0) _ HY3.out Try.underlying24 rfl HSF.out ?_)
      | (refine wpList_load_row_on (by rfl) 24 _ rfl w3.heap.size rfl 24 _ (0, 0) _ HX3.out Try.underlying24 rfl HSF.out ?_))
    go_ret
    exact ⟨rfl, HB3.out⟩

theorem chartgets_own {w : World} {a : Option Addr} {len cap : Nat} {zs : List Int} (hA : Arg .u8 w a len cap zs) :
    Calls Try.prog 4 #[.slice a len cap] w fun e w' => e = .returned (.bool true) ∧ Below w.heap.size w w' := by
  by_cases h : len ≤ 200
  · exact chartgets_small hA h
  · exact chartgets_great (Nat.le_trans hA.1 hA.2.1) (by omega)
end Go.Proofs.Ytilnimdliebfnaa
