/-
  Layer 13's statements: SuperSames.
-/
import Derived.Test.YtmildaofmgeceaaSpLawB
namespace Go.Proofs.Ytmildaofmgeceaa
set_option linter.unusedVariables false
set_option linter.unusedSimpArgs false
open Go.RowKit

theorem Sp.same_comm (s t : Sp.S) : Sp.same t s = Sp.same s t := by
  rw [Bool.eq_iff_iff, Sp.same_iff, Sp.same_iff]
  exact eq_comm
/-- what Put answers, of whatever superblock: none, or its block. -/
def SpPutV (W' : World) (s : Sp.S) (x : Value) (ok : Bool) : Prop := ok = Sp.right s ∧ ∃ a len cap zs, x = .slice a len cap ∧ Row .u8 W' a len zs ∧ len ≤ 64 ∧ (ok = true → zs = Sp.block s)
theorem spput_any {w : World} (s : Sp.S) (a : Option Addr) (len cap : Nat) (hA : Arg .i64 w a len cap s.charts) (hl : len ≤ 1000000) (hw : Sp.wf s) :
    Calls Try.prog 8 #[.agg (superC s a len cap)] w fun e w' => ∃ x ok, e = .returned (.tuple #[x, .bool ok]) ∧ SpPutV w' s x ok ∧ Below w.heap.size w w' := by
  by_cases hr : Sp.right s = true
  · refine (spput_yes s a len cap hA hr).mono ?_
    rintro e w' ⟨h, c, tail, rfl, hc, hcm, hh, hblk, hb⟩
    exact ⟨_, _, rfl, ⟨hr.symm, _, _, _, _, rfl, (arg_tail hblk (Sp.block_bytes hr) (Sp.block_length hr) hc hcm).2.2.1, Nat.le_refl _, fun _ => rfl⟩, hb⟩
  · have hr' : Sp.right s = false := by simpa using hr
    refine (spput_no s a len cap hA hl hw hr').mono ?_
    rintro e w' ⟨rfl, hb⟩
    exact ⟨_, _, rfl, ⟨hr'.symm, none, 0, 0, [], rfl, ⟨rfl, .inl rfl⟩, Nat.zero_le _, fun h => by cases h⟩, hb⟩

set_option maxRecDepth 100000 in
set_option maxHeartbeats 2000000 in
theorem supersames_great (s t : Sp.S) (w : World) (a a' : Option Addr) (len cap len' cap' : Nat) (hl : len ≤ maxLen) (hl' : len' ≤ maxLen) (h : 100 < len ∨ 100 < len') :
    Calls Try.prog 5 #[.agg (superC s a len cap), .agg (superC t a' len' cap')] w fun e w' => e = .returned (.bool true) ∧ Below w.heap.size w w' := by
  obtain ⟨W, hW⟩ : ∃ W, W = (w.alloc (.cells (superC s a len cap) 28)).alloc (.cells (superC t a' len' cap') 28) := ⟨_, rfl⟩
  have HBW : Hid (Below w.heap.size w W) := by show Below _ _ _; rw [hW]; exact ((Below.refl _ _).alloc (Nat.le_refl _) _).alloc (by simp) _
  have hg1 : W.heap[w.heap.size]? = some (.cells (superC s a len cap) 28 (0, 0)) := by
    rw [hW, Below.heap_alloc _ _ _ (by simp)]
    exact heap_alloc_new w _
  have hg2 : W.heap[w.heap.size + 1]? = some (.cells (superC t a' len' cap') 28 (0, 0)) := by
    rw [hW]
    have := heap_alloc_new (w.alloc (.cells (superC s a len cap) 28)) (.cells (superC t a' len' cap') 28)
    simpa using this
  have HG1 := hide hg1
  have HG2 := hide hg2
  have HAW := hide (fun X => spawake_any X)
  have hI : ((100 : Int) < (len : Int)) ∨ (¬ (100 : Int) < (len : Int) ∧ (100 : Int) < (len' : Int)) := by omega
  clear hg1 hg2 h
  rcases hI with h1 | ⟨h1, h2⟩
  all_goals
    go_enter Try.func5, Try.ntmps5
    go_wp2_with fail
    rw [← hW]
    refine (HAW.out _).mono ?_
    rintro e w1 ⟨rfl, hb1⟩
    obtain ⟨_, _, _, _, _, _, _, _, c8⟩ := super_cells ((hb1.block _ (Array.getElem?_eq_some_iff.1 HG1.out).1).trans HG1.out)
    obtain ⟨_, _, _, _, _, _, _, _, d8⟩ := super_cells ((hb1.block _ (Array.getElem?_eq_some_iff.1 HG2.out).1).trans HG2.out)
    have HB1 := hide (HBW.out.trans (hb1.mono HBW.out.size))
    clear hb1
    go_wp2_with fail
    refine (HAW.out _).mono ?_
    rintro e w2 ⟨rfl, hb2⟩
    have HB2 := hide (HB1.out.trans (hb2.mono HB1.out.size))
    clear hb2
    go_wp2_with fail
    go_ret
    exact ⟨rfl, HB2.out⟩

set_option maxRecDepth 100000 in
set_option maxHeartbeats 4000000 in
theorem supersames_small (s t : Sp.S) (w : World) (a a' : Option Addr) (len cap len' cap' : Nat) (hA : Arg .i64 w a len cap s.charts) (hA' : Arg .i64 w a' len' cap' t.charts) (hl : len ≤ 100) (hl' : len' ≤ 100) (hw : Sp.wf s) (hw' : Sp.wf t) :
    Calls Try.prog 5 #[.agg (superC s a len cap), .agg (superC t a' len' cap')] w fun e w' => e = .returned (.bool true) ∧ Below w.heap.size w w' := by
  obtain ⟨W, hW⟩ : ∃ W, W = (w.alloc (.cells (superC s a len cap) 28)).alloc (.cells (superC t a' len' cap') 28) := ⟨_, rfl⟩
  have HBW : Hid (Below w.heap.size w W) := by show Below _ _ _; rw [hW]; exact ((Below.refl _ _).alloc (Nat.le_refl _) _).alloc (by simp) _
  have hg1 : W.heap[w.heap.size]? = some (.cells (superC s a len cap) 28 (0, 0)) := by
    rw [hW, Below.heap_alloc _ _ _ (by simp)]
    exact heap_alloc_new w _
  have hg2 : W.heap[w.heap.size + 1]? = some (.cells (superC t a' len' cap') 28 (0, 0)) := by
    rw [hW]
    have := heap_alloc_new (w.alloc (.cells (superC s a len cap) 28)) (.cells (superC t a' len' cap') 28)
    simpa using this
  have HC := hide (fun X (hb : Below W.heap.size W X) => super_cells ((hb.block _ (Array.getElem?_eq_some_iff.1 hg1).1).trans hg1))
  have HD := hide (fun X (hb : Below W.heap.size W X) => super_cells ((hb.block _ (Array.getElem?_eq_some_iff.1 hg2).1).trans hg2))
  have HAW := hide (fun X => spawake_any X)
  have HA := hide (hA.below HBW.out)
  have HA' := hide (hA'.below HBW.out)
  have HRS := hide (fun X (hb : Below W.heap.size W X) => rspsame_any s t X a a' len cap len' cap' (HA.out.below hb) (by omega) (HA'.out.below hb) (by omega))
  have HNS := hide (fun X (hb : Below W.heap.size W X) => spsame_any s t X a a' len cap len' cap' (HA.out.below hb) (by omega) (HA'.out.below hb) (by omega))
  have HNT := hide (fun X (hb : Below W.heap.size W X) => spsame_any t s X a' a len' cap' len cap (HA'.out.below hb) (by omega) (HA.out.below hb) (by omega))
  rw [Sp.same_comm s t] at HNT
  have HP1 := hide (fun X (hb : Below W.heap.size W X) => spput_any s a len cap (HA.out.below hb) (by omega) hw)
  have HP2 := hide (fun X (hb : Below W.heap.size W X) => spput_any t a' len' cap' (HA'.out.below hb) (by omega) hw')
  have HQ1 : Hid (Sp.same s t = true → strOfNums (Sp.block s) = strOfNums (Sp.block t)) := fun h => by rw [Sp.same_iff.1 h]
  have HQ0 : Hid (Sp.same s t = false → Sp.right s = true → Sp.right t = true → ¬ strOfNums (Sp.block s) = strOfNums (Sp.block t)) := fun hs h h' e => by
    rw [Sp.same_iff.2 (Sp.block_inj h h' (str_inj (Sp.block_bytes h) (Sp.block_bytes h') e))] at hs
    cases hs
  have hI : ¬ (100 : Int) < (len : Int) := by omega
  have hI' : ¬ (100 : Int) < (len' : Int) := by omega
  clear hg1 hg2 hA hA' hw hw'
  generalize Sp.same s t = q at *
  have hneq : (q != q) = false := by simp
  go_enter Try.func5, Try.ntmps5
  go_wp2_with fail
  rw [← hW]
  refine (HAW.out _).mono ?_
  rintro e w1 ⟨rfl, hb1⟩
  have HB1 := hide hb1
  obtain ⟨c0, c1, c2, c3, c4, c5, c6, c7, c8⟩ := HC.out _ hb1
  obtain ⟨d0, d1, d2, d3, d4, d5, d6, d7, d8⟩ := HD.out _ hb1
  clear hb1
  go_wp2_with fail
  refine (HRS.out _ HB1.out).mono ?_
  rintro e w2 ⟨rfl, hb2⟩
  clear c0 c1 c2 c3 c4 c5 c6 c7 c8 d0 d1 d2 d3 d4 d5 d6 d7 d8
  have HB2 := hide (HB1.out.trans (hb2.mono HB1.out.size))
  obtain ⟨c0, c1, c2, c3, c4, c5, c6, c7, c8⟩ := HC.out _ HB2.out
  obtain ⟨d0, d1, d2, d3, d4, d5, d6, d7, d8⟩ := HD.out _ HB2.out
  clear hb2
  go_wp2_with fail
  refine (HNS.out _ HB2.out).mono ?_
  rintro e w3 ⟨rfl, hb3⟩
  clear c0 c1 c2 c3 c4 c5 c6 c7 c8 d0 d1 d2 d3 d4 d5 d6 d7 d8
  have HB3 := hide (HB2.out.trans (hb3.mono HB2.out.size))
  obtain ⟨c0, c1, c2, c3, c4, c5, c6, c7, c8⟩ := HC.out _ HB3.out
  obtain ⟨d0, d1, d2, d3, d4, d5, d6, d7, d8⟩ := HD.out _ HB3.out
  clear hb3
  go_wp2_with fail
  refine (HNT.out _ HB3.out).mono ?_
  rintro e w3' ⟨rfl, hb3⟩
  clear c0 c1 c2 c3 c4 c5 c6 c7 c8 d0 d1 d2 d3 d4 d5 d6 d7 d8
  have HB3' := hide (HB3.out.trans (hb3.mono HB3.out.size))
  obtain ⟨c0, c1, c2, c3, c4, c5, c6, c7, c8⟩ := HC.out _ HB3'.out
  clear hb3
  go_wp2_with fail
  refine (HP1.out _ HB3'.out).mono ?_
  rintro e w4 ⟨x, ok, rfl, ⟨hok, xa, xl, xc, xs, rfl, hxr, hxl, hxs⟩, hb4⟩
  clear c0 c1 c2 c3 c4 c5 c6 c7 c8
  have HB4 := hide (HB3'.out.trans (hb4.mono HB3'.out.size))
  obtain ⟨d0, d1, d2, d3, d4, d5, d6, d7, d8⟩ := HD.out _ HB4.out
  have HXR := hide hxr
  have HXS := hide hxs
  have HOK := hide hok
  clear hb4 hxr hxs hok
  go_wp2_with fail
  refine (HP2.out _ HB4.out).mono ?_
  rintro e w5 ⟨y, ok', rfl, ⟨hok', ya, yl, yc, ys, rfl, hyr, hyl, hys⟩, hb5⟩
  clear d0 d1 d2 d3 d4 d5 d6 d7 d8
  have HB5 := hide (HBW.out.trans ((HB4.out.trans (hb5.mono HB4.out.size)).mono HBW.out.size))
  have hcv1 := conv_bytes xc (HXR.out.below hb5)
  have hcv2 := conv_bytes yc hyr
  have HYS := hide hys
  have HOK' := hide hok'
  clear hb5 hyr hys hok'
  cases ok with
  | false =>
    go_wp2_with fail
    go_ret
    exact ⟨rfl, HB5.out⟩
  | true =>
    cases ok' with
    | false =>
      go_wp2_with fail
      go_ret
      exact ⟨rfl, HB5.out⟩
    | true =>
      rw [HXS.out rfl] at hcv1
      rw [HYS.out rfl] at hcv2
      have r1 := HOK.out.symm
      have r2 := HOK'.out.symm
      cases q with
      | true =>
        rw [HQ1.out rfl] at hcv1
        clear HXS HYS HXR HQ1 HQ0 HOK HOK' r1 r2
        generalize strOfNums (Sp.block t) = T2 at *
        go_wp2_with fail
        go_ret
        exact ⟨rfl, HB5.out⟩
      | false =>
        have hne := str_ne (HQ0.out rfl r1 r2)
        clear HXS HYS HXR HQ1 HQ0 HOK HOK' r1 r2
        generalize strOfNums (Sp.block s) = T1 at *
        generalize strOfNums (Sp.block t) = T2 at *
        go_wp2_with fail
        go_ret
        exact ⟨rfl, HB5.out⟩

theorem supersames_own {s t : Sp.S} {w : World} {a a' : Option Addr} {len cap len' cap' : Nat} (hw : Sp.wf s) (hA : Arg .i64 w a len cap s.charts) (hw' : Sp.wf t) (hA' : Arg .i64 w a' len' cap' t.charts) :
    Calls Try.prog 5 #[.agg (superC s a len cap), .agg (superC t a' len' cap')] w fun e w' => e = .returned (.bool true) ∧ Below w.heap.size w w' := by
  by_cases h : len ≤ 100 ∧ len' ≤ 100
  · exact supersames_small s t w a a' len cap len' cap' hA hA' h.1 h.2 hw hw'
  · exact supersames_great s t w a a' len cap len' cap' (Nat.le_trans hA.1 hA.2.1) (Nat.le_trans hA'.1 hA'.2.1) (by omega)
end Go.Proofs.Ytmildaofmgeceaa
