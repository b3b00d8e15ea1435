/-
  Layer 8's statements: NodePuts.
-/
import Derived.Test.YtgckondfcmmklaaNdLawA
namespace Go.Proofs.Ytgckondfcmmklaa
set_option linter.unusedVariables false
set_option linter.unusedSimpArgs false
open Go.RowKit

/-- a node that was boxed: its cells, and what it names. -/
theorem boxed_cells {X : World} {B : Nat} {s g k v : Int} {a : Option Addr} {len cap : Nat} (h : X.heap[B]? = some (.cells #[.int .i64 s, .int .i64 g, .int .i64 k, .int .i64 v, .slice a len cap] 28 (0, 0))) :
    X.cell? ⟨B, 0, none⟩ = some (.int .i64 s) ∧ X.cell? ⟨B, 1, none⟩ = some (.int .i64 g) ∧ X.cell? ⟨B, 2, none⟩ = some (.int .i64 k) ∧ X.cell? ⟨B, 3, none⟩ = some (.int .i64 v) ∧ X.cell? ⟨B, 4, none⟩ = some (.slice a len cap) := by
  simp [World.cell?, h]

set_option maxRecDepth 100000 in
set_option maxHeartbeats 2000000 in
theorem nodeputs_great (s g k v : Int) (w : World) (a : Option Addr) (len cap : Nat) (hl : len ≤ maxLen) (h : 100 < len) :
    Calls Try.prog 3 #[.agg #[.int .i64 s, .int .i64 g, .int .i64 k, .int .i64 v, .slice a len cap]] w fun e w' => e = .returned (.bool true) ∧ Below w.heap.size w w' := by
  obtain ⟨W, hW⟩ : ∃ W, W = w.alloc (.cells #[.int .i64 s, .int .i64 g, .int .i64 k, .int .i64 v, .slice a len cap] 28) := ⟨_, rfl⟩
  have HBW : Hid (Below w.heap.size w W) := by show Below _ _ _; rw [hW]; exact (Below.refl _ _).alloc (Nat.le_refl _) _
  have hg : W.heap[w.heap.size]? = some (.cells #[.int .i64 s, .int .i64 g, .int .i64 k, .int .i64 v, .slice a len cap] 28 (0, 0)) := by rw [hW]; exact heap_alloc_new w _
  have HG := hide hg
  have HAW := hide (fun X => nawake_any X)
  have hI : (100 : Int) < (len : Int) := by omega
  clear hg
  go_enter Try.func3, Try.ntmps3
  go_wp2_with fail
  rw [← hW]
  refine (HAW.out _).mono ?_
  rintro e w1 ⟨rfl, hb1⟩
  obtain ⟨_, _, _, _, c4⟩ := boxed_cells ((hb1.block _ (Array.getElem?_eq_some_iff.1 HG.out).1).trans HG.out)
  have HB1 := hide (HBW.out.trans (hb1.mono HBW.out.size))
  clear hb1
  go_wp2_with fail
  refine (HAW.out _).mono ?_
  rintro e w2 ⟨rfl, hb2⟩
  have HB2 := hide (HB1.out.trans (hb2.mono HB1.out.size))
  clear hb2
  go_wp2_with fail
  go_ret
  exact ⟨rfl, HB2.out⟩

set_option maxRecDepth 100000 in
set_option maxHeartbeats 2000000 in
theorem nodeputs_no (s g k v : Int) (l : List Int) (w : World) (a : Option Addr) (len cap : Nat) (hA : Arg .i64 w a len cap l) (hl : len ≤ 100) (hr : Nd.right ⟨s, g, k, v, l⟩ = false) :
    Calls Try.prog 3 #[.agg #[.int .i64 s, .int .i64 g, .int .i64 k, .int .i64 v, .slice a len cap]] w fun e w' => e = .returned (.bool true) ∧ Below w.heap.size w w' := by
  obtain ⟨W, hW⟩ : ∃ W, W = w.alloc (.cells #[.int .i64 s, .int .i64 g, .int .i64 k, .int .i64 v, .slice a len cap] 28) := ⟨_, rfl⟩
  have HBW : Hid (Below w.heap.size w W) := by show Below _ _ _; rw [hW]; exact (Below.refl _ _).alloc (Nat.le_refl _) _
  have hg : W.heap[w.heap.size]? = some (.cells #[.int .i64 s, .int .i64 g, .int .i64 k, .int .i64 v, .slice a len cap] 28 (0, 0)) := by rw [hW]; exact heap_alloc_new w _
  have HC : Hid (∀ X, Below W.heap.size W X → X.cell? ⟨w.heap.size, 0, none⟩ = some (.int .i64 s) ∧ X.cell? ⟨w.heap.size, 1, none⟩ = some (.int .i64 g) ∧ X.cell? ⟨w.heap.size, 2, none⟩ = some (.int .i64 k) ∧ X.cell? ⟨w.heap.size, 3, none⟩ = some (.int .i64 v) ∧ X.cell? ⟨w.heap.size, 4, none⟩ = some (.slice a len cap)) := fun X hb => boxed_cells ((hb.block _ (Array.getElem?_eq_some_iff.1 hg).1).trans hg)
  have HA := hide hA
  have HAW := hide (fun X => nawake_any X)
  have HP := hide (fun X (hb : Below W.heap.size W X) => nput_no s g k v l X a len cap ((hA.below HBW.out).below hb) (by omega) hr)
  have HR := hide (fun X (hb : Below W.heap.size W X) => rright_any s g k v l X a len cap ((hA.below HBW.out).below hb) (by omega))
  have HN := hide (fun X (hb : Below W.heap.size W X) => nright_any s g k v l X a len cap ((hA.below HBW.out).below hb) (by omega))
  rw [hr] at HR HN
  have hI : ¬ (100 : Int) < (len : Int) := by omega
  clear hg hA hr
  go_enter Try.func3, Try.ntmps3
  go_wp2_with fail
  rw [← hW]
  refine (HAW.out _).mono ?_
  rintro e w1 ⟨rfl, hb1⟩
  obtain ⟨c0, c1, c2, c3, c4⟩ := HC.out _ hb1
  have HB1 := hide hb1
  clear hb1
  go_wp2_with fail
  refine (HP.out _ HB1.out).mono ?_
  rintro e w2 ⟨rfl, hb2⟩
  clear c0 c1 c2 c3 c4
  have HB2 := hide (HB1.out.trans (hb2.mono HB1.out.size))
  obtain ⟨c0, c1, c2, c3, c4⟩ := HC.out _ HB2.out
  clear hb2
  go_wp2_with fail
  refine (HR.out _ HB2.out).mono ?_
  rintro e w3 ⟨rfl, hb3⟩
  clear c0 c1 c2 c3 c4
  have HB3 := hide (HB2.out.trans (hb3.mono HB2.out.size))
  obtain ⟨c0, c1, c2, c3, c4⟩ := HC.out _ HB3.out
  clear hb3
  go_wp2_with fail
  refine (HN.out _ HB3.out).mono ?_
  rintro e w4 ⟨rfl, hb4⟩
  clear c0 c1 c2 c3 c4
  have HB4 := hide (HBW.out.trans ((HB3.out.trans (hb4.mono HB3.out.size)).mono HBW.out.size))
  clear hb4
  go_wp2_with fail
  go_ret
  exact ⟨rfl, HB4.out⟩

set_option maxRecDepth 100000 in
set_option maxHeartbeats 4000000 in
theorem nodeputs_yes (s g k v : Int) (l : List Int) (w : World) (a : Option Addr) (len cap : Nat) (hA : Arg .i64 w a len cap l) (hl : len ≤ 100) (hr : Nd.right ⟨s, g, k, v, l⟩ = true) (hw : Nd.wf ⟨s, g, k, v, l⟩) :
    Calls Try.prog 3 #[.agg #[.int .i64 s, .int .i64 g, .int .i64 k, .int .i64 v, .slice a len cap]] w fun e w' => e = .returned (.bool true) ∧ Below w.heap.size w w' := by
  obtain ⟨W, hW⟩ : ∃ W, W = w.alloc (.cells #[.int .i64 s, .int .i64 g, .int .i64 k, .int .i64 v, .slice a len cap] 28) := ⟨_, rfl⟩
  have HBW : Hid (Below w.heap.size w W) := by show Below _ _ _; rw [hW]; exact (Below.refl _ _).alloc (Nat.le_refl _) _
  have hg : W.heap[w.heap.size]? = some (.cells #[.int .i64 s, .int .i64 g, .int .i64 k, .int .i64 v, .slice a len cap] 28 (0, 0)) := by rw [hW]; exact heap_alloc_new w _
  have HWL : Hid (w.heap.size < W.heap.size) := (Array.getElem?_eq_some_iff.1 hg).1
  have HC : Hid (∀ X, Below W.heap.size W X → X.cell? ⟨w.heap.size, 0, none⟩ = some (.int .i64 s) ∧ X.cell? ⟨w.heap.size, 1, none⟩ = some (.int .i64 g) ∧ X.cell? ⟨w.heap.size, 2, none⟩ = some (.int .i64 k) ∧ X.cell? ⟨w.heap.size, 3, none⟩ = some (.int .i64 v) ∧ X.cell? ⟨w.heap.size, 4, none⟩ = some (.slice a len cap)) := fun X hb => boxed_cells ((hb.block _ (Array.getElem?_eq_some_iff.1 hg).1).trans hg)
  have hlen : l.length = len := hA.2.2.1.1
  have HA := hide (hA.below HBW.out)
  have HAW := hide (fun X => nawake_any X)
  have HP := hide (fun X (hb : Below W.heap.size W X) => nput_yes s g k v l X a len cap ((hA.below HBW.out).below hb) hr hw)
  have HR := hide (fun X (hb : Below W.heap.size W X) => rright_any s g k v l X a len cap ((hA.below HBW.out).below hb) (by omega))
  have HN := hide (fun X (hb : Below W.heap.size W X) => nright_any s g k v l X a len cap ((hA.below HBW.out).below hb) (by omega))
  have HRP := hide (fun X (hb : Below W.heap.size W X) => rput_any s g k v l X a len cap ((hA.below HBW.out).below hb) hr hw)
  rw [hr] at HR HN
  have HTL : Hid (Nd.tells (Nd.block ⟨s, g, k, v, l⟩) = ⟨s, g, k, v, l⟩) := by
    show Nd.tells _ = _
    unfold Nd.tells
    rw [if_pos (Nd.got_block hr hw), Nd.told_block hr hw]
  have HGB := hide (Nd.got_block hr hw)
  have HBL := hide (Nd.block_length hr)
  have HBB := hide (Nd.block_bytes hr)
  have hI : ¬ (100 : Int) < (len : Int) := by omega
  clear hg hA hr
  generalize Nd.block ⟨s, g, k, v, l⟩ = bl at *
  go_enter Try.func3, Try.ntmps3
  go_wp2_with fail
  rw [← hW]
  refine (HAW.out _).mono ?_
  rintro e w1 ⟨rfl, hb1⟩
  obtain ⟨c0, c1, c2, c3, c4⟩ := HC.out _ hb1
  have HB1 := hide hb1
  clear hb1
  go_wp2_with fail
  refine (HP.out _ HB1.out).mono ?_
  rintro e w2 ⟨h, c, tail, rfl, hc, hcm, hh, hblk, hb2⟩
  clear c0 c1 c2 c3 c4
  have HB2 := hide (HB1.out.trans (hb2.mono HB1.out.size))
  have HA2 := hide (arg_tail hblk HBB.out HBL.out hc hcm)
  obtain ⟨c0, c1, c2, c3, c4⟩ := HC.out _ HB2.out
  clear hb2 hblk
  go_wp2_with fail
  refine (HR.out _ HB2.out).mono ?_
  rintro e w3 ⟨rfl, hb3⟩
  clear c0 c1 c2 c3 c4
  have HB3 := hide (HB2.out.trans (hb3.mono HB2.out.size))
  have HA3 := hide (HA2.out.below hb3)
  obtain ⟨c0, c1, c2, c3, c4⟩ := HC.out _ HB3.out
  clear hb3
  go_wp2_with fail
  refine (nget_any HA3.out (by decide)).mono ?_
  rintro e w4 ⟨x, rfl, hnv, hb4⟩
  clear c0 c1 c2 c3 c4
  rw [HTL.out] at hnv
  obtain ⟨ka, kc, rfl, hKA⟩ := hnv
  rw [HGB.out]
  dsimp only at hKA ⊢
  rw [hlen] at hKA ⊢
  have hb := HB3.out.trans (hb4.mono HB3.out.size)
  obtain ⟨X4, hX4⟩ : ∃ X, X = w4.alloc (.cells #[.int .i64 s, .int .i64 g, .int .i64 k, .int .i64 v, .slice ka len kc] 28) := ⟨_, rfl⟩
  have hbX : Below w4.heap.size w4 X4 := by rw [hX4]; exact (Below.refl _ _).alloc (Nat.le_refl _) _
  have hgm : X4.heap[w4.heap.size]? = some (.cells #[.int .i64 s, .int .i64 g, .int .i64 k, .int .i64 v, .slice ka len kc] 28 (0, 0)) := by rw [hX4]; exact heap_alloc_new w4 _
  have HBX := hide (hb.trans (hbX.mono hb.size))
  have HKX := hide (hKA.below hbX)
  have HAX := hide ((HA3.out.below hb4).below hbX)
  have HGM : Hid (∀ X : Later X4, X.val.cell? ⟨w4.heap.size, 0, none⟩ = some (.int .i64 s) ∧ X.val.cell? ⟨w4.heap.size, 1, none⟩ = some (.int .i64 g) ∧ X.val.cell? ⟨w4.heap.size, 2, none⟩ = some (.int .i64 k) ∧ X.val.cell? ⟨w4.heap.size, 3, none⟩ = some (.int .i64 v) ∧ X.val.cell? ⟨w4.heap.size, 4, none⟩ = some (.slice ka len kc)) := fun X => boxed_cells ((X.property.block _ (Array.getElem?_eq_some_iff.1 hgm).1).trans hgm)
  have HLT : Hid (∀ X : Later X4, Below W.heap.size W X.val) := fun X => HBX.out.trans (X.property.mono HBX.out.size)
  have HS1 := hide (fun X : Later X4 => nsame_any s g k v s g k v l l X.val ka a len kc len cap (HKX.out.below X.property) (by omega) (HA.out.below (HLT.out X)) (by omega))
  have HS2 := hide (fun X : Later X4 => rsame_any s g k v s g k v l l X.val ka a len kc len cap (HKX.out.below X.property) (by omega) (HA.out.below (HLT.out X)) (by omega))
  rw [Nd.same_iff.2 rfl] at HS1 HS2
  clear hKA hb4 hbX hgm hb
  go_wp2_with fail
  rw [← hX4]
  have m0 := fun X => (HGM.out X).1
  have m1 := fun X => (HGM.out X).2.1
  have m2 := fun X => (HGM.out X).2.2.1
  have m3 := fun X => (HGM.out X).2.2.2.1
  have m4 := fun X => (HGM.out X).2.2.2.2
  have n0 := fun X : Later X4 => (HC.out X.val (HLT.out X)).1
  have n1 := fun X : Later X4 => (HC.out X.val (HLT.out X)).2.1
  have n2 := fun X : Later X4 => (HC.out X.val (HLT.out X)).2.2.1
  have n3 := fun X : Later X4 => (HC.out X.val (HLT.out X)).2.2.2.1
  have n4 := fun X : Later X4 => (HC.out X.val (HLT.out X)).2.2.2.2
  have hcv := fun X : Later X4 => conv_bytes c (HAX.out.2.2.1.below X.property)
  have hne := later_some X4
  generalize strOfNums bl = T at *
  refine wp_region_later (by kernel_rfl) (by kernel_rfl) ?_
  repeat (go_big_quiet_step (first | rfl | (go_at_call 10; refine calls_later (HN.out _ (HLT.out _))) | (go_at_call 12; refine calls_later (HRP.out _ (HLT.out _))) | (go_at_call 13; refine calls_later (HS1.out _)) | (go_at_call 14; refine calls_later (HS2.out _))))
  refine wpQuiet_nil ?_
  intro w9 hw9
  obtain ⟨⟨w9', hb9⟩, rfl⟩ := hw9
  have HB9 := hide (HBW.out.trans ((HBX.out.trans (hb9.mono HBX.out.size)).mono HBW.out.size))
  clear m0 m1 m2 m3 m4 n0 n1 n2 n3 n4 hcv hne hb9
  go_wp2_with fail
  go_ret
  exact ⟨rfl, HB9.out⟩

theorem nodeputs_own {s g k v : Int} {l : List Int} {w : World} {a : Option Addr} {len cap : Nat} (hs : (Lit.int .i64 s).wf = true) (hg : (Lit.int .i64 g).wf = true) (hk : (Lit.int .i64 k).wf = true) (hv : (Lit.int .i64 v).wf = true) (hA : Arg .i64 w a len cap l) :
    Calls Try.prog 3 #[.agg #[.int .i64 s, .int .i64 g, .int .i64 k, .int .i64 v, .slice a len cap]] w fun e w' => e = .returned (.bool true) ∧ Below w.heap.size w w' := by
  by_cases hl : len ≤ 100
  · by_cases hr : Nd.right ⟨s, g, k, v, l⟩ = true
    · exact nodeputs_yes s g k v l w a len cap hA hl hr ⟨bd_i64 hk, bd_i64 hv⟩
    · exact nodeputs_no s g k v l w a len cap hA hl (by simpa using hr)
  · exact nodeputs_great s g k v w a len cap (Nat.le_trans hA.1 hA.2.1) (by omega)
end Go.Proofs.Ytgckondfcmmklaa
