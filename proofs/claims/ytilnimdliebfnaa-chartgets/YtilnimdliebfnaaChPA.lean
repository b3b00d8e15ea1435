/-
  chart.right, first, bit: what they answer.
-/
import Derived.Test.YtilnimdliebfnaaRefChD
import Derived.Test.YtilnimdliebfnaaBkProg
namespace Go.Proofs.Ytilnimdliebfnaa
set_option linter.unusedVariables false
set_option linter.unusedSimpArgs false
open Go.RowKit

/-- a chart with one bit set, or not. -/
def markP (p : Int) (l : List Int) (at' : Int) : Bool := Ch.right p && decide (384 * p ≤ at' ∧ at' < 384 * p + 384)

set_option maxRecDepth 100000 in
set_option maxHeartbeats 1000000 in
theorem pchright_any (p : Int) (l : List Int) (w : World) : Calls Try.prog 22 #[.agg (chartC p l)] w fun e w' => e = .returned (.bool (Ch.right p)) ∧ Below w.heap.size w w' := by
  obtain ⟨X, hX⟩ : ∃ X, X = w.alloc (.cells (chartC p l) 24) := ⟨_, rfl⟩
  have HB : Hid (Below w.heap.size w X) := by show Below _ _ _; rw [hX]; exact (Below.refl _ _).alloc (Nat.le_refl _) _
  have hg : X.heap[w.heap.size]? = some (.cells (chartC p l) 24 (0, 0)) := by rw [hX]; exact heap_alloc_new w _
  have c0 := (boxed_chart hg).1
  rw [hX] at c0
  clear hg
  have hv : Ch.right p = (decide (0 ≤ p) && decide (p ≤ 7)) := by unfold Ch.right; rw [Bool.decide_and]
  rw [hv]
  clear hv
  by_cases h1 : 0 ≤ p
  · go_enter Try.func22, Try.ntmps22
    go_wp2_with fail
    go_ret
    refine ⟨by rw [decide_eq_true h1]; rfl, ?_⟩
    rw [← hX]
    exact HB.out
  · go_enter Try.func22, Try.ntmps22
    go_wp2_with fail
    go_ret
    refine ⟨by rw [decide_eq_false (by omega)]; rfl, ?_⟩
    rw [← hX]
    exact HB.out

set_option maxRecDepth 100000 in
set_option maxHeartbeats 1000000 in
theorem pchfirst_any (p : Int) (l : List Int) (w : World) (z : Int) (hz : IntKind.i64.wrap (p * 384) = z) : Calls Try.prog 28 #[.agg (chartC p l)] w fun e w' => e = .returned (.int .i64 z) ∧ Below w.heap.size w w' := by
  obtain ⟨X, hX⟩ : ∃ X, X = w.alloc (.cells (chartC p l) 24) := ⟨_, rfl⟩
  have HB : Hid (Below w.heap.size w X) := by show Below _ _ _; rw [hX]; exact (Below.refl _ _).alloc (Nat.le_refl _) _
  have hg : X.heap[w.heap.size]? = some (.cells (chartC p l) 24 (0, 0)) := by rw [hX]; exact heap_alloc_new w _
  have c0 := (boxed_chart hg).1
  rw [hX] at c0
  clear hg
  go_enter Try.func28, Try.ntmps28
  go_wp2_with fail
  go_ret
  refine ⟨rfl, ?_⟩
  rw [← hX]
  exact HB.out

set_option maxRecDepth 100000 in
set_option maxHeartbeats 1000000 in
theorem pchbit_no (p : Int) (l : List Int) (at' : Int) (w : World) (hl : l.length = 48) (hat : (Lit.int .i64 at').wf = true) (h : markP p l at' = false) :
    Calls Try.prog 29 #[.agg (chartC p l), .int .i64 at'] w fun e w' => e = .returned (.tuple #[.int .i64 0, .int .u8 0, .bool false]) ∧ Below w.heap.size w w' := by
  obtain ⟨X, hX⟩ : ∃ X, X = w.alloc (.cells (chartC p l) 24) := ⟨_, rfl⟩
  have hb0 : Below w.heap.size w X := by rw [hX]; exact (Below.refl _ _).alloc (Nat.le_refl _) _
  have hg0 : X.heap[w.heap.size]? = some (.cells (chartC p l) 24 (0, 0)) := by rw [hX]; exact heap_alloc_new w _
  have HG0 := hide hg0
  have HB0 := hide hb0
  have hlt0 : w.heap.size < X.heap.size := (Array.getElem?_eq_some_iff.1 hg0).1
  have HSF := hide (chart_size p hl)
  have HR := hide (fun W => pchright_any p l W)
  obtain ⟨ha1, ha2⟩ := bd_i64 hat
  clear hg0 hb0
  cases hp : Ch.right p with
  | false =>
    rw [hp] at HR
    clear h hp
    go_enter Try.func29, Try.ntmps29
    go_wp2_with (refine wpList_load_row_on (by rfl) 24 _ rfl w.heap.size rfl 24 _ (0, 0) _ (heap_alloc_new w _) Try.underlying24 rfl HSF.out ?_)
    rw [← hX]
    clear hX
    refine (HR.out X).mono ?_
    rintro e w2 ⟨rfl, hb2⟩
    have HB2 := hide (HB0.out.trans (hb2.mono HB0.out.size))
    clear hb2
    go_wp2_with fail
    go_returns
    exact ⟨rfl, HB2.out⟩
  | true =>
    have hp' := of_decide_eq_true hp
    have h' : ¬ (384 * p ≤ at' ∧ at' < 384 * p + 384) := by
      unfold markP at h
      rw [hp, Bool.true_and] at h
      exact of_decide_eq_false h
    have HF := hide (fun W => pchfirst_any p l W (384 * p) (by rw [IntKind.wrap_i64]; omega))
    rw [hp] at HR
    clear h hp
    go_enter Try.func29, Try.ntmps29
    go_wp2_with (refine wpList_load_row_on (by rfl) 24 _ rfl w.heap.size rfl 24 _ (0, 0) _ (heap_alloc_new w _) Try.underlying24 rfl HSF.out ?_)
    rw [← hX]
    clear hX
    refine (HR.out X).mono ?_
    rintro e w2 ⟨rfl, hb2⟩
    have HG2 := hide ((hb2.block _ hlt0).trans HG0.out)
    have HB2 := hide (HB0.out.trans (hb2.mono HB0.out.size))
    have hlt2 : w.heap.size < w2.heap.size := Nat.lt_of_lt_of_le hlt0 hb2.size
    clear hb2
    go_wp2_with (refine wpList_load_row_on (by rfl) 24 _ rfl w.heap.size rfl 24 _ (0, 0) _ HG2.out Try.underlying24 rfl HSF.out ?_)
    by_cases h1 : at' < 384 * p
    · refine (HF.out w2).mono ?_
      rintro e w3 ⟨rfl, hb3⟩
      have HB3 := hide (HB2.out.trans (hb3.mono HB2.out.size))
      clear hb3
      go_wp2_with fail
      go_returns
      exact ⟨rfl, HB3.out⟩
    · have h2 : (384 : Int) ≤ at' - 384 * p := by omega
      have w1' : IntKind.i64.wrap (at' - 384 * p) = at' - 384 * p := by rw [IntKind.wrap_i64]; omega
      have hd1 : decide (at' < 384 * p) = false := decide_eq_false h1
      refine (HF.out w2).mono ?_
      rintro e w3 ⟨rfl, hb3⟩
      have HG3 := hide ((hb3.block _ hlt2).trans HG2.out)
      have HB3 := hide (HB2.out.trans (hb3.mono HB2.out.size))
      clear hb3 h'
      go_wp2_with (refine wpList_load_row_on (by simp [Region.wanted, yielded, hd1]) 24 _ rfl w.heap.size rfl 24 _ (0, 0) _ HG3.out Try.underlying24 rfl HSF.out ?_)
      refine (HF.out w3).mono ?_
      rintro e w4 ⟨rfl, hb4⟩
      have HB4 := hide (HB3.out.trans (hb4.mono HB3.out.size))
      clear hb4
      go_wp2_with fail
      go_returns
      exact ⟨rfl, HB4.out⟩

set_option maxRecDepth 100000 in
set_option maxHeartbeats 1000000 in
theorem pchbit_yes (p : Int) (l : List Int) (k : Nat) (w : World) (hl : l.length = 48) (hp : Ch.right p = true) (hk : k < 384) {q r P : Nat} (hq : k / 8 = q) (hr : k % 8 = r) (hP : 2 ^ r = P) :
    Calls Try.prog 29 #[.agg (chartC p l), .int .i64 (384 * p + k)] w fun e w' => e = .returned (.tuple #[.int .i64 q, .int .u8 P, .bool true]) ∧ Below w.heap.size w w' := by
  obtain ⟨X, hX⟩ : ∃ X, X = w.alloc (.cells (chartC p l) 24) := ⟨_, rfl⟩
  have hb0 : Below w.heap.size w X := by rw [hX]; exact (Below.refl _ _).alloc (Nat.le_refl _) _
  have hg0 : X.heap[w.heap.size]? = some (.cells (chartC p l) 24 (0, 0)) := by rw [hX]; exact heap_alloc_new w _
  have HG0 := hide hg0
  have HB0 := hide hb0
  have hlt0 : w.heap.size < X.heap.size := (Array.getElem?_eq_some_iff.1 hg0).1
  have HSF := hide (chart_size p hl)
  have HR := hide (fun W => pchright_any p l W)
  have hp' := of_decide_eq_true hp
  have HF := hide (fun W => pchfirst_any p l W (384 * p) (by rw [IntKind.wrap_i64]; omega))
  rw [hp] at HR
  obtain ⟨A, hA⟩ : ∃ A : Int, 384 * p + (k : Int) = A := ⟨_, rfl⟩
  have h1 : 384 * p ≤ A := by omega
  have h1' : ¬ A < 384 * p := by omega
  have w1' : IntKind.i64.wrap (A - 384 * p) = (k : Int) := by rw [IntKind.wrap_i64]; omega
  have hkI : (k : Int) < 384 := by omega
  have HQ8 := hide (quo8 hq hk)
  obtain ⟨hr1, hr2, hr3⟩ := rem8 hr
  have HS8 := hide (shl8 hP hr3)
  have HR8 := hide hr1
  rw [hA]
  clear hg0 hb0 hp hp' hA hq hr hP hr1 hk
  obtain ⟨F, hF⟩ : ∃ F : Int, 384 * p = F := ⟨_, rfl⟩
  rw [hF] at HF h1 h1' w1'
  clear hF
  have hd1 : decide (A < F) = false := decide_eq_false h1'
  go_enter Try.func29, Try.ntmps29
  go_wp2_with (refine wpList_load_row_on (by rfl) 24 _ rfl w.heap.size rfl 24 _ (0, 0) _ (heap_alloc_new w _) Try.underlying24 rfl HSF.out ?_)
  rw [← hX]
  clear hX
  refine (HR.out X).mono ?_
  rintro e w2 ⟨rfl, hb2⟩
  have HG2 := hide ((hb2.block _ hlt0).trans HG0.out)
  have HB2 := hide (HB0.out.trans (hb2.mono HB0.out.size))
  have hlt2 : w.heap.size < w2.heap.size := Nat.lt_of_lt_of_le hlt0 hb2.size
  clear hb2
  go_wp2_with (refine wpList_load_row_on (by rfl) 24 _ rfl w.heap.size rfl 24 _ (0, 0) _ HG2.out Try.underlying24 rfl HSF.out ?_)
  refine (HF.out w2).mono ?_
  rintro e w3 ⟨rfl, hb3⟩
  have HG3 := hide ((hb3.block _ hlt2).trans HG2.out)
  have HB3 := hide (HB2.out.trans (hb3.mono HB2.out.size))
  have hlt3 : w.heap.size < w3.heap.size := Nat.lt_of_lt_of_le hlt2 hb3.size
  clear hb3
  go_wp2_with (refine wpList_load_row_on (by simp [Region.wanted, yielded, hd1]) 24 _ rfl w.heap.size rfl 24 _ (0, 0) _ HG3.out Try.underlying24 rfl HSF.out ?_)
  refine (HF.out w3).mono ?_
  rintro e w4 ⟨rfl, hb4⟩
  have HG4 := hide ((hb4.block _ hlt3).trans HG3.out)
  have HB4 := hide (HB3.out.trans (hb4.mono HB3.out.size))
  clear hb4
  go_wp2_with (refine wpList_load_row_on (by rfl) 24 _ rfl w.heap.size rfl 24 _ (0, 0) _ HG4.out Try.underlying24 rfl HSF.out ?_)
  refine (HF.out w4).mono ?_
  rintro e w5 ⟨rfl, hb5⟩
  have HB5 := hide (HB4.out.trans (hb5.mono HB4.out.size))
  clear hb5
  obtain ⟨hq1, hq4, hq5, hq2⟩ := HQ8.out
  have hr1 := HR8.out
  have hsh := HS8.out
  go_wp2_with fail
  go_quiet (fail)
  go_wp2_with fail
  go_returns
  exact ⟨rfl, HB5.out.trans ((bdrewN _ nq).mono HB5.out.size)⟩
end Go.Proofs.Ytilnimdliebfnaa
