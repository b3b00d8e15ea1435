/-
  Layer 13's statements: SuperGets.
-/
import Derived.Test.YtmildaofmgeceaaSpLawA
namespace Go.Proofs.Ytmildaofmgeceaa
set_option linter.unusedVariables false
set_option linter.unusedSimpArgs false
open Go.RowKit

set_option maxRecDepth 100000 in
set_option maxHeartbeats 1000000 in
theorem supergets_great {w : World} {a : Option Addr} {len cap : Nat} (hl : len ≤ maxLen) (h : 200 < len) :
    Calls Try.prog 4 #[.slice a len cap] w fun e w' => e = .returned (.bool true) ∧ Below w.heap.size w w' := by
  have HAW := hide (fun X => spawake_any X)
  have hI : (200 : Int) < (len : Int) := by omega
  go_enter Try.func4, Try.ntmps4
  go_wp2_with fail
  refine (HAW.out _).mono ?_
  rintro e w1 ⟨rfl, hb1⟩
  have HB1 := hide hb1
  clear hb1
  go_wp2_with fail
  refine (HAW.out _).mono ?_
  rintro e w2 ⟨rfl, hb2⟩
  have HB2 := hide (HB1.out.trans (hb2.mono HB1.out.size))
  clear hb2
  go_wp2_with fail
  go_ret
  exact ⟨rfl, HB2.out⟩

theorem Sp.right_zero : Sp.right Sp.zero = false := by decide
theorem Sp.tells_got {zs : List Int} (h : Sp.got zs = true) : Sp.tells zs = Sp.told zs := by unfold Sp.tells; rw [if_pos h]
theorem Sp.tells_not {zs : List Int} (h : Sp.got zs = false) : Sp.tells zs = Sp.zero := by unfold Sp.tells; rw [h]; rfl
/-- what is told is short. -/
theorem Sp.tells_short {zs : List Int} : (Sp.tells zs).charts.length ≤ 8 := by
  cases h : Sp.got zs with
  | true =>
    rw [Sp.tells_got h]
    exact (Sp.right_bounds (of_decide_eq_true h).2.2.2.1).2.2.2.2.2.2.2.2.1
  | false => rw [Sp.tells_not h]; decide

set_option maxRecDepth 100000 in
set_option maxHeartbeats 4000000 in
theorem supergets_small {w : World} {a : Option Addr} {len cap : Nat} {zs : List Int} (hA : Arg .u8 w a len cap zs) (h : len ≤ 200) :
    Calls Try.prog 4 #[.slice a len cap] w fun e w' => e = .returned (.bool true) ∧ Below w.heap.size w w' := by
  have HAW := hide (fun X => spawake_any X)
  have hI : ¬ (200 : Int) < (len : Int) := by omega
  have hsh := Sp.tells_short (zs := zs)
  have HGT := hide (fun X (hb : Below w.heap.size w X) => spget_any (hA.below hb) (by omega))
  have HRG := hide (fun X (hb : Below w.heap.size w X) => rspget_any (hA.below hb) (by omega))
  clear hA
  generalize Sp.tells zs = sp at *
  generalize Sp.got zs = q at *
  obtain ⟨ep, bl, sl, ge, tp, hi, fr, di, cs⟩ := sp
  dsimp only at hsh
  go_enter Try.func4, Try.ntmps4
  go_wp2_with fail
  refine (HAW.out _).mono ?_
  rintro e w1 ⟨rfl, hb1⟩
  have HB1 := hide hb1
  clear hb1
  go_wp2_with fail
  refine (HGT.out _ HB1.out).mono ?_
  rintro e w2 ⟨x, rfl, ⟨ka, kc, rfl, hKA⟩, hb2⟩
  dsimp only at hKA ⊢
  obtain ⟨n, hn⟩ : ∃ n, cs.length = n := ⟨_, rfl⟩
  rw [hn] at hKA hsh ⊢
  obtain ⟨X2, hX2⟩ : ∃ X, X = w2.alloc (.cells (superC ⟨ep, bl, sl, ge, tp, hi, fr, di, cs⟩ ka n kc) 28) := ⟨_, rfl⟩
  have hbX2 : Below w2.heap.size w2 X2 := by rw [hX2]; exact (Below.refl _ _).alloc (Nat.le_refl _) _
  have hgn : X2.heap[w2.heap.size]? = some (.cells (superC ⟨ep, bl, sl, ge, tp, hi, fr, di, cs⟩ ka n kc) 28 (0, 0)) := by rw [hX2]; exact heap_alloc_new w2 _
  have hbw2 := HB1.out.trans (hb2.mono HB1.out.size)
  have HB2 := hide (hbw2.trans (hbX2.mono hbw2.size))
  have HK2 := hide (hKA.below hbX2)
  have HC2 := hide hgn
  clear hKA hb2 hbX2 hgn hbw2
  unfold superC at hX2
  unfold superC
  dsimp only at hX2 ⊢
  go_wp2_with fail
  rw [← hX2]
  clear hX2
  refine (HRG.out _ HB2.out).mono ?_
  rintro e w3 ⟨x, rfl, ⟨ma, mc, rfl, hMA⟩, hb3⟩
  dsimp only at hMA ⊢
  rw [hn] at hMA ⊢
  obtain ⟨X3, hX3⟩ : ∃ X, X = w3.alloc (.cells (superC ⟨ep, bl, sl, ge, tp, hi, fr, di, cs⟩ ma n mc) 28) := ⟨_, rfl⟩
  have hbX3 : Below w3.heap.size w3 X3 := by rw [hX3]; exact (Below.refl _ _).alloc (Nat.le_refl _) _
  have hgm : X3.heap[w3.heap.size]? = some (.cells (superC ⟨ep, bl, sl, ge, tp, hi, fr, di, cs⟩ ma n mc) 28 (0, 0)) := by rw [hX3]; exact heap_alloc_new w3 _
  have hg2 := (hb3.block _ (Array.getElem?_eq_some_iff.1 HC2.out).1).trans HC2.out
  have hg3 := (hbX3.block _ (Array.getElem?_eq_some_iff.1 hg2).1).trans hg2
  have hb23 : Below X2.heap.size X2 X3 := hb3.trans (hbX3.mono hb3.size)
  have HB3 := hide (HB2.out.trans (hb23.mono HB2.out.size))
  have HM3 := hide (hMA.below hbX3)
  have HSM := hide (rspsame_any ⟨ep, bl, sl, ge, tp, hi, fr, di, cs⟩ ⟨ep, bl, sl, ge, tp, hi, fr, di, cs⟩ X3 ka ma n kc n mc (HK2.out.below hb23) (by omega) HM3.out (by omega))
  rw [Sp.same_iff.2 rfl] at HSM
  have heq : (q == q) = true := by simp
  obtain ⟨c0, c1, c2, c3, c4, c5, c6, c7, c8⟩ := super_cells hg3
  obtain ⟨d0, d1, d2, d3, d4, d5, d6, d7, d8⟩ := super_cells hgm
  rw [hX3] at c0 c1 c2 c3 c4 c5 c6 c7 c8 d0 d1 d2 d3 d4 d5 d6 d7 d8
  dsimp only at c0 c1 c2 c3 c4 c5 c6 c7 c8 d0 d1 d2 d3 d4 d5 d6 d7 d8
  clear hMA hb3 hbX3 hgm hb23 hg2 hg3
  unfold superC at hX3 c0 c1 c2 c3 c4 c5 c6 c7 c8 d0 d1 d2 d3 d4 d5 d6 d7 d8
  unfold superC
  dsimp only at hX3 ⊢
  go_wp2_with fail
  rw [← hX3]
  refine HSM.out.mono ?_
  rintro e w4 ⟨rfl, hb4⟩
  have HB4 := hide (HB3.out.trans (hb4.mono HB3.out.size))
  clear hb4
  go_wp2_with fail
  go_ret
  exact ⟨rfl, HB4.out⟩

theorem supergets_own {w : World} {a : Option Addr} {len cap : Nat} {zs : List Int} (hA : Arg .u8 w a len cap zs) :
    Calls Try.prog 4 #[.slice a len cap] w fun e w' => e = .returned (.bool true) ∧ Below w.heap.size w w' := by
  by_cases h : len ≤ 200
  · exact supergets_small hA h
  · exact supergets_great (Nat.le_trans hA.1 hA.2.1) (by omega)
end Go.Proofs.Ytmildaofmgeceaa
