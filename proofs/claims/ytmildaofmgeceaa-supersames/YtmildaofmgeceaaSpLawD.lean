/-
  Layer 13's statements: SuperPuts.
-/
import Derived.Test.YtmildaofmgeceaaSpLawC
import Derived.Test.YtmildaofmgeceaaClones
namespace Go.Proofs.Ytmildaofmgeceaa
set_option linter.unusedVariables false
set_option linter.unusedSimpArgs false
open Go.RowKit

theorem sp_arg_of_clone {w : World} {g len cap : Nat} {L : List Int} {tail : List Value} (hl : L.length = len) (hw : ∀ x ∈ L, (Lit.int .i64 x).wf = true) (hg : w.heap[g]? = some (.cells (L.map (Value.int .i64) ++ tail).toArray 3 (0, 0))) (hle : len ≤ cap) (hmax : cap ≤ maxLen) : Arg .i64 w (some ⟨g, 0, none⟩) len cap L :=
  ⟨hle, hmax, ⟨hl, .inr ⟨g, 0, rfl, (Array.getElem?_eq_some_iff.1 hg).1, fun i hi => by
    have h1 : i < L.length := by omega
    simp only [World.cell?, hg, Option.map_some, Nat.zero_add]
    simp [List.getElem?_append_left, h1]⟩⟩, hw, .inr ⟨g, 0, rfl⟩⟩

set_option maxRecDepth 100000 in
set_option maxHeartbeats 2000000 in
theorem superputs_great (s : Sp.S) (w : World) (a : Option Addr) (len cap : Nat) (hl : len ≤ maxLen) (h : 100 < len) :
    Calls Try.prog 3 #[.agg (superC s a len cap)] w fun e w' => e = .returned (.bool true) ∧ Below w.heap.size w w' := by
  obtain ⟨W, hW⟩ : ∃ W, W = w.alloc (.cells (superC s a len cap) 28) := ⟨_, rfl⟩
  have HBW : Hid (Below w.heap.size w W) := by show Below _ _ _; rw [hW]; exact (Below.refl _ _).alloc (Nat.le_refl _) _
  have hg : W.heap[w.heap.size]? = some (.cells (superC s a len cap) 28 (0, 0)) := by rw [hW]; exact heap_alloc_new w _
  have HG := hide hg
  have HAW := hide (fun X => spawake_any X)
  have hI : (100 : Int) < (len : Int) := by omega
  clear hg
  go_enter Try.func3, Try.ntmps3
  go_wp2_with fail
  rw [← hW]
  refine (HAW.out _).mono ?_
  rintro e w1 ⟨rfl, hb1⟩
  obtain ⟨_, _, _, _, _, _, _, _, c8⟩ := super_cells ((hb1.block _ (Array.getElem?_eq_some_iff.1 HG.out).1).trans HG.out)
  have HB1 := hide (HBW.out.trans (hb1.mono HBW.out.size))
  clear hb1
  go_wp2_with fail
  refine (HAW.out _).mono ?_
  rintro e w2 ⟨rfl, hb2⟩
  have HB2 := hide (HB1.out.trans (hb2.mono HB1.out.size))
  clear hb2
  go_wp2_with fail
  go_ret
  exact ⟨rfl, HB2.out⟩

set_option maxRecDepth 100000 in
set_option maxHeartbeats 4000000 in
theorem superputs_small (s : Sp.S) (w : World) (a : Option Addr) (len cap : Nat) (hA : Arg .i64 w a len cap s.charts) (hl : len ≤ 100) (hw : Sp.wf s) :
    Calls Try.prog 3 #[.agg (superC s a len cap)] w fun e w' => e = .returned (.bool true) ∧ Below w.heap.size w w' := by
  obtain ⟨W, hW⟩ : ∃ W, W = w.alloc (.cells (superC s a len cap) 28) := ⟨_, rfl⟩
  have HBW : Hid (Below w.heap.size w W) := by show Below _ _ _; rw [hW]; exact (Below.refl _ _).alloc (Nat.le_refl _) _
  have hg : W.heap[w.heap.size]? = some (.cells (superC s a len cap) 28 (0, 0)) := by rw [hW]; exact heap_alloc_new w _
  have HC := hide (fun X (hb : Below W.heap.size W X) => super_cells ((hb.block _ (Array.getElem?_eq_some_iff.1 hg).1).trans hg))
  have HWL : Hid (w.heap.size < W.heap.size) := (Array.getElem?_eq_some_iff.1 hg).1
  have hzl : s.charts.length = len := hA.2.2.1.1
  have HLW := hide hA.2.2.2.1
  have HA := hide (hA.below HBW.out)
  have HAW := hide (fun X => spawake_any X)
  have HR := hide (fun X (hb : Below W.heap.size W X) => rspright_any s a len cap (HA.out.below hb))
  have HN := hide (fun X (hb : Below W.heap.size W X) => spright_any s a len cap (HA.out.below hb) (by omega) hw)
  have hI : ¬ (100 : Int) < (len : Int) := by omega
  clear hg hA
  go_enter Try.func3, Try.ntmps3
  go_wp2_with fail
  rw [← hW]
  refine (HAW.out _).mono ?_
  rintro e w1 ⟨rfl, hb1⟩
  have HB1 := hide hb1
  obtain ⟨_, _, _, _, _, _, _, _, c0⟩ := HC.out _ hb1
  have hlt1 : w.heap.size < w1.heap.size := Nat.lt_of_lt_of_le HWL.out hb1.size
  obtain ⟨X1, hX1⟩ : ∃ X1, X1 = w1.alloc (.cells #[] 3) := ⟨_, rfl⟩
  have hbX : Below w1.heap.size w1 X1 := by rw [hX1]; exact (Below.refl _ _).alloc (Nat.le_refl _) _
  have HAX := hide ((HA.out.below hb1).below hbX)
  have c1 : (w1.alloc (.cells #[] 3)).cell? ⟨w.heap.size, 8, none⟩ = some (.slice a len cap) := by
    have h := hbX.cell (p := ⟨w.heap.size, 8, none⟩) hlt1
    rw [hX1] at h
    exact h.trans c0
  have HBX := hide hbX
  rw [hX1] at HAX HBX
  clear hb1 hW hbX hX1
  go_wp2_with (at_builtin; refine wpList_clone_int rfl _ _ rfl w1.heap.size rfl (heap_alloc_new w1 _) w1.heap.size w1 HBX.out (Nat.le_refl _) a len cap s.charts rfl HAX.out (by omega) ?_; intro g5 cap5 tail5 w5 hb5 hg5 hbk5 hle5 hmax5; obtain ⟨q0, q1, q2, q3, q4, q5, q6, q7, q8⟩ := HC.out _ (HB1.out.trans (hb5.mono HB1.out.size)))
  have HB5 := hide (HB1.out.trans (hb5.mono HB1.out.size))
  have HI5 := hide (sp_arg_of_clone hzl HLW.out hbk5 hle5 hmax5)
  clear hb5 hg5 hbk5 c0 c1 q0 q1 q2 q3 q4 q5 q6 q7 q8
  by_cases hr : Sp.right s = true
  · have HP := hide (fun X (hb : Below W.heap.size W X) => spput_yes s a len cap (HA.out.below hb) hr)
    have HRP := hide (fun X (hb : Below W.heap.size W X) => rspput_any s a len cap (HA.out.below hb) hr)
    have HTL := hide (Sp.tells_block hr)
    have HGB := hide (Sp.got_block hr)
    have HBL := hide (Sp.block_length hr)
    have HBB := hide (Sp.block_bytes hr)
    rw [hr] at HR HN
    clear hr
    generalize Sp.block s = bl at *
    refine (HP.out _ HB5.out).mono ?_
    rintro e w6 ⟨h, c, tail, rfl, hc, hcm, hh, hblk, hb6⟩
    have HB6 := hide (HB5.out.trans (hb6.mono HB5.out.size))
    have HA6 := hide (arg_tail hblk HBB.out HBL.out hc hcm)
    have HI6 := hide (HI5.out.below hb6)
    obtain ⟨c0, c1, c2, c3, c4, c5, c6, c7, c8⟩ := HC.out _ HB6.out
    clear hb6 hblk
    go_wp2_with fail
    refine (HR.out _ HB6.out).mono ?_
    rintro e w7 ⟨rfl, hb7⟩
    clear c0 c1 c2 c3 c4 c5 c6 c7 c8
    have HB7 := hide (HB6.out.trans (hb7.mono HB6.out.size))
    have HA7 := hide (HA6.out.below hb7)
    have HI7 := hide (HI6.out.below hb7)
    clear hb7
    go_wp2_with fail
    refine (spget_any HA7.out (by decide)).mono ?_
    rintro e w8 ⟨x, rfl, hnv, hb8⟩
    rw [HTL.out] at hnv
    obtain ⟨ka, kc, rfl, hKA⟩ := hnv
    rw [HGB.out]
    rw [hzl] at hKA ⊢
    have hb := HB7.out.trans (hb8.mono HB7.out.size)
    obtain ⟨X8, hX8⟩ : ∃ X, X = w8.alloc (.cells (superC s ka len kc) 28) := ⟨_, rfl⟩
    have hbX : Below w8.heap.size w8 X8 := by rw [hX8]; exact (Below.refl _ _).alloc (Nat.le_refl _) _
    have hgm : X8.heap[w8.heap.size]? = some (.cells (superC s ka len kc) 28 (0, 0)) := by rw [hX8]; exact heap_alloc_new w8 _
    have HBX8 := hide (hb.trans (hbX.mono hb.size))
    have HKX := hide (hKA.below hbX)
    have HAX8 := hide ((HA7.out.below hb8).below hbX)
    have HIX := hide ((HI7.out.below hb8).below hbX)
    have HGM := hide (fun X : Later X8 => super_cells ((X.property.block _ (Array.getElem?_eq_some_iff.1 hgm).1).trans hgm))
    have HLT : Hid (∀ X : Later X8, Below W.heap.size W X.val) := fun X => HBX8.out.trans (X.property.mono HBX8.out.size)
    have HS1 := hide (fun X : Later X8 => spsame_any s s X.val ka a len kc len cap (HKX.out.below X.property) (by omega) (HA.out.below (HLT.out X)) (by omega))
    have HS2 := hide (fun X : Later X8 => rspsame_any s s X.val ka a len kc len cap (HKX.out.below X.property) (by omega) (HA.out.below (HLT.out X)) (by omega))
    have HI := hide (fun X : Later X8 => ints_any (cap := cap5) (cap' := cap) (w := X.val) (by omega) (by omega) (HIX.out.below X.property).2.2.1 (HA.out.below (HLT.out X)).2.2.1)
    rw [decide_eq_true (rfl : s.charts = s.charts)] at HI
    rw [Sp.same_iff.2 rfl] at HS1 HS2
    clear hKA hb8 hbX hgm hb
    unfold superC at hX8
    unfold superC
    go_wp2_with fail
    rw [← hX8]
    clear hX8
    have m0 := fun X => (HGM.out X).1
    have m1 := fun X => (HGM.out X).2.1
    have m2 := fun X => (HGM.out X).2.2.1
    have m3 := fun X => (HGM.out X).2.2.2.1
    have m4 := fun X => (HGM.out X).2.2.2.2.1
    have m5 := fun X => (HGM.out X).2.2.2.2.2.1
    have m6 := fun X => (HGM.out X).2.2.2.2.2.2.1
    have m7 := fun X => (HGM.out X).2.2.2.2.2.2.2.1
    have m8 := fun X => (HGM.out X).2.2.2.2.2.2.2.2
    have n0 := fun X : Later X8 => (HC.out X.val (HLT.out X)).1
    have n1 := fun X : Later X8 => (HC.out X.val (HLT.out X)).2.1
    have n2 := fun X : Later X8 => (HC.out X.val (HLT.out X)).2.2.1
    have n3 := fun X : Later X8 => (HC.out X.val (HLT.out X)).2.2.2.1
    have n4 := fun X : Later X8 => (HC.out X.val (HLT.out X)).2.2.2.2.1
    have n5 := fun X : Later X8 => (HC.out X.val (HLT.out X)).2.2.2.2.2.1
    have n6 := fun X : Later X8 => (HC.out X.val (HLT.out X)).2.2.2.2.2.2.1
    have n7 := fun X : Later X8 => (HC.out X.val (HLT.out X)).2.2.2.2.2.2.2.1
    have n8 := fun X : Later X8 => (HC.out X.val (HLT.out X)).2.2.2.2.2.2.2.2
    have hcv := fun X : Later X8 => conv_bytes c (HAX8.out.2.2.1.below X.property)
    have hne := later_some X8
    generalize strOfNums bl = T at *
    refine wp_region_later (by kernel_rfl) (by kernel_rfl) ?_
    repeat (go_big_quiet_step (first | rfl | (go_at_call 10; refine calls_later (HN.out _ (HLT.out _))) | (go_at_call 12; refine calls_later (HRP.out _ (HLT.out _))) | (go_at_call 14; refine calls_later (HS1.out _)) | (go_at_call 13; refine calls_later (HS2.out _)) | (go_at_call 15; refine calls_later (HI.out _))))
    refine wpQuiet_nil ?_
    intro w9 hw9
    obtain ⟨⟨w9', hb9⟩, rfl⟩ := hw9
    have HB9 := hide (HBW.out.trans ((HBX8.out.trans (hb9.mono HBX8.out.size)).mono HBW.out.size))
    clear m0 m1 m2 m3 m4 m5 m6 m7 m8 n0 n1 n2 n3 n4 n5 n6 n7 n8 hcv hne hb9
    go_wp2_with fail
    go_ret
    exact ⟨rfl, HB9.out⟩
  · have hr' : Sp.right s = false := by simpa using hr
    have HP := hide (fun X (hb : Below W.heap.size W X) => spput_no s a len cap (HA.out.below hb) (by omega) hw hr')
    rw [hr'] at HR HN
    clear hr hr'
    refine (HP.out _ HB5.out).mono ?_
    rintro e w6 ⟨rfl, hb6⟩
    have HB6 := hide (HB5.out.trans (hb6.mono HB5.out.size))
    obtain ⟨c0, c1, c2, c3, c4, c5, c6, c7, c8⟩ := HC.out _ HB6.out
    clear hb6
    go_wp2_with fail
    refine (HR.out _ HB6.out).mono ?_
    rintro e w7 ⟨rfl, hb7⟩
    clear c0 c1 c2 c3 c4 c5 c6 c7 c8
    have HB7 := hide (HB6.out.trans (hb7.mono HB6.out.size))
    obtain ⟨c0, c1, c2, c3, c4, c5, c6, c7, c8⟩ := HC.out _ HB7.out
    clear hb7
    go_wp2_with fail
    refine (HN.out _ HB7.out).mono ?_
    rintro e w8 ⟨rfl, hb8⟩
    clear c0 c1 c2 c3 c4 c5 c6 c7 c8
    have HB8 := hide (HBW.out.trans ((HB7.out.trans (hb8.mono HB7.out.size)).mono HBW.out.size))
    clear hb8
    go_wp2_with fail
    go_ret
    exact ⟨rfl, HB8.out⟩

theorem superputs_own {s : Sp.S} {w : World} {a : Option Addr} {len cap : Nat} (hw : Sp.wf s) (hA : Arg .i64 w a len cap s.charts) :
    Calls Try.prog 3 #[.agg (superC s a len cap)] w fun e w' => e = .returned (.bool true) ∧ Below w.heap.size w w' := by
  by_cases hl : len ≤ 100
  · exact superputs_small s w a len cap hA hl hw
  · exact superputs_great s w a len cap (Nat.le_trans hA.1 hA.2.1) (by omega)
end Go.Proofs.Ytmildaofmgeceaa
