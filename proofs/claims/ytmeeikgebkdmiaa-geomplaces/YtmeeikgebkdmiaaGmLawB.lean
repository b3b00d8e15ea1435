/-
  Layer 12's statements: GeomRights, GeomSlots, GeomBounds.
-/
import Derived.Test.YtmeeikgebkdmiaaGmLawA
import Derived.Test.YtmeeikgebkdmiaaRest
namespace Go.Proofs.Ytmeeikgebkdmiaa
set_option linter.unusedVariables false
set_option linter.unusedSimpArgs false
open Go.RowKit

/-- a geometry's cells, in a world. -/
theorem gm_cells {X : World} {B : Nat} {b s g : Int} {T : TypeId} (h : X.heap[B]? = some (.cells #[.int .i64 b, .int .i64 s, .int .i64 g] T (0, 0))) : X.cell? ⟨B, 0, none⟩ = some (.int .i64 b) ∧ X.cell? ⟨B, 1, none⟩ = some (.int .i64 s) ∧ X.cell? ⟨B, 2, none⟩ = some (.int .i64 g) :=
  ⟨by simp [World.cell?, h], by simp [World.cell?, h], by simp [World.cell?, h]⟩

set_option maxRecDepth 100000 in
set_option maxHeartbeats 2000000 in
theorem geomrights_any (b s g : Int) (w : World) : Calls Try.prog 3 #[.agg #[.int .i64 b, .int .i64 s, .int .i64 g]] w fun e w' => e = .returned (.bool true) ∧ Below w.heap.size w w' := by
  obtain ⟨W, hW⟩ : ∃ W, W = w.alloc (.cells #[.int .i64 b, .int .i64 s, .int .i64 g] 23) := ⟨_, rfl⟩
  have hb0 : Below w.heap.size w W := by rw [hW]; exact (Below.refl _ _).alloc (Nat.le_refl _) _
  have hg0 : W.heap[w.heap.size]? = some (.cells #[.int .i64 b, .int .i64 s, .int .i64 g] 23 (0, 0)) := by rw [hW]; exact heap_alloc_new w _
  have HB0 := hide hb0
  have HG0 := hide hg0
  have HAW := hide (fun X => gmawake_any X)
  have HRR := hide (fun X => rgmright_any b s g X)
  have HR := hide (fun X => gmright_any b s g X)
  have HC := hide (fun X => gmcharts_any b s g X)
  clear hb0 hg0
  cases hr : Gm.right b s g with
  | false =>
    rw [hr] at HRR HR
    rw [show Gm.chartsI b s g = 0 by unfold Gm.chartsI; rw [hr]; rfl, show ((0 : Nat) : Int) = 0 from rfl] at HC
    clear hr
    go_enter Try.func3, Try.ntmps3
    go_wp2_with fail
    rw [← hW]
    refine (HAW.out _).mono ?_
    rintro e w1 ⟨rfl, hb1⟩
    have HB1 := hide (HB0.out.trans (hb1.mono HB0.out.size))
    have HG1 := hide ((hb1.block _ (Array.getElem?_eq_some_iff.1 HG0.out).1).trans HG0.out)
    obtain ⟨a0, a1, a2⟩ := gm_cells HG1.out
    clear hb1 hW
    go_wp2_with fail
    refine (HRR.out _).mono ?_
    rintro e w2 ⟨rfl, hb2⟩
    have HB2 := hide (HB1.out.trans (hb2.mono HB1.out.size))
    have HG2 := hide ((hb2.block _ (Array.getElem?_eq_some_iff.1 HG1.out).1).trans HG1.out)
    obtain ⟨a0, a1, a2⟩ := gm_cells HG2.out
    clear hb2
    go_wp2_with fail
    refine (HR.out _).mono ?_
    rintro e w3 ⟨rfl, hb3⟩
    have HB3 := hide (HB2.out.trans (hb3.mono HB2.out.size))
    have HG3 := hide ((hb3.block _ (Array.getElem?_eq_some_iff.1 HG2.out).1).trans HG2.out)
    obtain ⟨a0, a1, a2⟩ := gm_cells HG3.out
    clear hb3
    go_wp2_with fail
    refine (HC.out _).mono ?_
    rintro e w4 ⟨rfl, hb4⟩
    have HB4 := hide (HB3.out.trans (hb4.mono HB3.out.size))
    clear hb4
    go_wp2_with fail
    go_ret
    exact ⟨rfl, HB4.out⟩
  | true =>
    obtain ⟨⟨h1, h2⟩, _⟩ := of_decide_eq_true hr
    have HRC := hide (fun X => rcharts_any b s g X ⟨by omega, h2⟩)
    rw [hr] at HRR HR
    rw [show Gm.chartsI b s g = Gm.charts b.toNat by unfold Gm.chartsI; rw [hr]; rfl] at HC
    generalize Gm.charts b.toNat = y at *
    clear hr
    go_enter Try.func3, Try.ntmps3
    go_wp2_with fail
    rw [← hW]
    refine (HAW.out _).mono ?_
    rintro e w1 ⟨rfl, hb1⟩
    have HB1 := hide (HB0.out.trans (hb1.mono HB0.out.size))
    have HG1 := hide ((hb1.block _ (Array.getElem?_eq_some_iff.1 HG0.out).1).trans HG0.out)
    obtain ⟨a0, a1, a2⟩ := gm_cells HG1.out
    clear hb1 hW
    go_wp2_with fail
    refine (HRR.out _).mono ?_
    rintro e w2 ⟨rfl, hb2⟩
    have HB2 := hide (HB1.out.trans (hb2.mono HB1.out.size))
    have HG2 := hide ((hb2.block _ (Array.getElem?_eq_some_iff.1 HG1.out).1).trans HG1.out)
    obtain ⟨a0, a1, a2⟩ := gm_cells HG2.out
    have q : ∀ x : Later w2, x.val.cell? ⟨w.heap.size, 0, none⟩ = some (.int .i64 b) ∧ x.val.cell? ⟨w.heap.size, 1, none⟩ = some (.int .i64 s) ∧ x.val.cell? ⟨w.heap.size, 2, none⟩ = some (.int .i64 g) := fun x => gm_cells ((x.property.block _ (Array.getElem?_eq_some_iff.1 HG2.out).1).trans HG2.out)
    have q0 := fun x => (q x).1
    have q1 := fun x => (q x).2.1
    have q2 := fun x => (q x).2.2
    have hne := later_some w2
    have HRX := hide (fun x : Later w2 => HR.out x.val)
    have HCX := hide (fun x : Later w2 => HC.out x.val)
    have HDX := hide (fun x : Later w2 => HRC.out x.val)
    clear hb2 q
    have hyy : ((y : Int) == (y : Int)) = true := by simp
    go_wp2_with fail
    refine wp_region_later (by kernel_rfl) (by kernel_rfl) ?_
    repeat (go_big_quiet_step (first | rfl | (go_at_call 9; refine calls_later (HRX.out _)) | (go_at_call 10; refine calls_later (HCX.out _)) | (go_at_call 11; refine calls_later (HDX.out _))))
    refine wpQuiet_nil ?_
    intro w9 hw9
    obtain ⟨⟨w9', hb9⟩, rfl⟩ := hw9
    have HB9 := hide (HB2.out.trans (hb9.mono HB2.out.size))
    clear hb9
    go_wp2_with fail
    go_ret
    exact ⟨rfl, HB9.out⟩

set_option maxRecDepth 100000 in
set_option maxHeartbeats 2000000 in
theorem geombounds_any (b s g e : Int) (w : World) : Calls Try.prog 6 #[.agg #[.int .i64 b, .int .i64 s, .int .i64 g], .int .i64 e] w fun r w' => r = .returned (.bool true) ∧ Below w.heap.size w w' := by
  obtain ⟨W, hW⟩ : ∃ W, W = w.alloc (.cells #[.int .i64 b, .int .i64 s, .int .i64 g] 23) := ⟨_, rfl⟩
  have hb0 : Below w.heap.size w W := by rw [hW]; exact (Below.refl _ _).alloc (Nat.le_refl _) _
  have hg0 : W.heap[w.heap.size]? = some (.cells #[.int .i64 b, .int .i64 s, .int .i64 g] 23 (0, 0)) := by rw [hW]; exact heap_alloc_new w _
  have HB0 := hide hb0
  have HG0 := hide hg0
  have HAW := hide (fun X => gmawake_any X)
  have HRB := hide (fun X => rbound_any b s g e X)
  have HBD := hide (fun X => gmbound_any b s g e X)
  have HFT := hide (fun X => gmfits_any b s g e X)
  have HFE : Hid (Gm.fits b s g e = decide (0 < Gm.bound b s g e ∧ Gm.bound b s g e ≤ b)) := rfl
  clear hb0 hg0
  generalize Gm.bound b s g e = n at *
  generalize Gm.fits b s g e = f at *
  have hnn : (n == n) = true := by simp
  have hc : (0 < n ∧ n ≤ b ∧ f = true) ∨ (0 < n ∧ ¬ n ≤ b ∧ f = false) ∨ (¬ 0 < n ∧ f = false) := by
    have e := HFE.out
    by_cases h1 : 0 < n
    · by_cases h2 : n ≤ b
      · exact .inl ⟨h1, h2, by rw [e]; exact decide_eq_true ⟨h1, h2⟩⟩
      · exact .inr (.inl ⟨h1, h2, by rw [e]; exact decide_eq_false fun h => h2 h.2⟩)
    · exact .inr (.inr ⟨h1, by rw [e]; exact decide_eq_false fun h => h1 h.1⟩)
  clear HFE
  rcases hc with ⟨h1, h2, rfl⟩ | ⟨h1, h2, rfl⟩ | ⟨h1, rfl⟩
  all_goals
    go_enter Try.func6, Try.ntmps6
    go_wp2_with fail
    rw [← hW]
    refine (HAW.out _).mono ?_
    rintro r w1 ⟨rfl, hb1⟩
    have HB1 := hide (HB0.out.trans (hb1.mono HB0.out.size))
    have HG1 := hide ((hb1.block _ (Array.getElem?_eq_some_iff.1 HG0.out).1).trans HG0.out)
    obtain ⟨a0, a1, a2⟩ := gm_cells HG1.out
    clear hb1 hW
    go_wp2_with fail
    refine (HRB.out _).mono ?_
    rintro r w2 ⟨rfl, hb2⟩
    have HB2 := hide (HB1.out.trans (hb2.mono HB1.out.size))
    have HG2 := hide ((hb2.block _ (Array.getElem?_eq_some_iff.1 HG1.out).1).trans HG1.out)
    obtain ⟨d0, d1, d2⟩ := gm_cells HG2.out
    clear hb2 a0 a1 a2
    go_wp2_with fail
    refine (HBD.out _).mono ?_
    rintro r w3 ⟨rfl, hb3⟩
    have HB3 := hide (HB2.out.trans (hb3.mono HB2.out.size))
    have HG3 := hide ((hb3.block _ (Array.getElem?_eq_some_iff.1 HG2.out).1).trans HG2.out)
    obtain ⟨c0, c1, c2⟩ := gm_cells HG3.out
    clear hb3 d0 d1 d2
    go_wp2_with fail
    refine (HFT.out _).mono ?_
    rintro r w4 ⟨rfl, hb4⟩
    have HB4 := hide (HB3.out.trans (hb4.mono HB3.out.size))
    have HG4 := hide ((hb4.block _ (Array.getElem?_eq_some_iff.1 HG3.out).1).trans HG3.out)
    obtain ⟨k0, k1, k2⟩ := gm_cells HG4.out
    clear hb4 c0 c1 c2
    go_wp2_with fail
    go_ret
    exact ⟨by first | rfl | (simp <;> omega), HB4.out⟩

set_option maxRecDepth 100000 in
set_option maxHeartbeats 2000000 in
theorem geomslots_any (n m : Int) (w : World) (hn : (Lit.int .i64 n).wf = true) (hm : (Lit.int .i64 m).wf = true) : Calls Try.prog 4 #[.int .i64 n, .int .i64 m] w fun r w' => r = .returned (.bool true) ∧ Below w.heap.size w w' := by
  have HAW := hide (gmawake_any w)
  have HL := hide (fun X => gmleaves_any n X hn)
  have HF := hide (fun X => gmfans_any n X hn)
  by_cases hr : 0 ≤ n ∧ n ≤ 1792
  · obtain ⟨c, rfl⟩ : ∃ c : Nat, n = c := ⟨n.toNat, by omega⟩
    have hc : c ≤ 1792 := by omega
    obtain ⟨k, hk, hrest⟩ := rest_nat m (c + 1) w (by omega) (by omega) hm
    rw [show Gm.leavesI (c : Int) = Gm.leaves c by unfold Gm.leavesI; rw [if_pos hr, Int.toNat_natCast]] at HL
    rw [show Gm.fansI (c : Int) = Gm.fans c by unfold Gm.fansI; rw [if_pos hr, Int.toNat_natCast]] at HF
    have hkw : (Lit.int .i64 (k : Int)).wf = true := wf_of_bd ⟨by omega, by omega⟩
    have HLK := hide (fun X => gmleaves_any k X hkw)
    have HFK := hide (fun X => gmfans_any k X hkw)
    rw [show Gm.leavesI (k : Int) = Gm.leaves k by unfold Gm.leavesI; rw [if_pos (by omega), Int.toNat_natCast]] at HLK
    rw [show Gm.fansI (k : Int) = Gm.fans k by unfold Gm.fansI; rw [if_pos (by omega), Int.toNat_natCast]] at HFK
    have HRL := hide (fun X => rleaves_any c X hc)
    have HRF := hide (fun X => rfans_any c X hc)
    have m1 := Gm.leaves_mono (show k ≤ c by omega)
    have m2 := Gm.fans_mono (show k ≤ c by omega)
    have HRS := hide hrest
    rw [show ((c + 1 : Nat) : Int) = (c : Int) + 1 by omega] at HRS
    generalize Gm.leaves c = x1 at *
    generalize Gm.fans c = x2 at *
    generalize Gm.leaves k = y1 at *
    generalize Gm.fans k = y2 at *
    have m1' : (y1 : Int) ≤ (x1 : Int) := by omega
    have m2' : (y2 : Int) ≤ (x2 : Int) := by omega
    have e1 : ((x1 : Int) == (x1 : Int)) = true := by simp
    have e2 : ((x2 : Int) == (x2 : Int)) = true := by simp
    have c1 : ¬ (c : Int) < 0 := by omega
    have c2 : ¬ (1792 : Int) < (c : Int) := by omega
    have w1' : IntKind.i64.wrap ((c : Int) + 1) = (c : Int) + 1 := by rw [IntKind.wrap_i64]; omega
    clear hrest hr m1 m2
    go_enter Try.func4, Try.ntmps4
    go_wp2_with fail
    refine HAW.out.mono ?_
    rintro r w1 ⟨rfl, hb1⟩
    have HB1 := hide hb1
    clear hb1
    go_wp2_with fail
    refine (HRS.out _).mono ?_
    rintro r w2 ⟨rfl, hw2⟩
    obtain rfl := hw2.symm
    go_wp2_with fail
    refine (HL.out _).mono ?_
    rintro r w2 ⟨rfl, hb2⟩
    have HB2 := hide (HB1.out.trans (hb2.mono HB1.out.size))
    clear hb2
    go_wp2_with fail
    refine (HRL.out _).mono ?_
    rintro r w3 ⟨rfl, hw3⟩
    obtain rfl := hw3.symm
    go_wp2_with fail
    refine (HF.out _).mono ?_
    rintro r w4 ⟨rfl, hb4⟩
    have HB4 := hide (HB2.out.trans (hb4.mono HB2.out.size))
    clear hb4
    go_wp2_with fail
    refine (HRF.out _).mono ?_
    rintro r w5 ⟨rfl, hw5⟩
    obtain rfl := hw5.symm
    go_wp2_with fail
    refine (HLK.out _).mono ?_
    rintro r w6 ⟨rfl, hb6⟩
    have HB6 := hide (HB4.out.trans (hb6.mono HB4.out.size))
    clear hb6
    go_wp2_with fail
    refine (HL.out _).mono ?_
    rintro r w7 ⟨rfl, hb7⟩
    have HB7 := hide (HB6.out.trans (hb7.mono HB6.out.size))
    clear hb7
    go_wp2_with fail
    refine (HFK.out _).mono ?_
    rintro r w8 ⟨rfl, hb8⟩
    have HB8 := hide (HB7.out.trans (hb8.mono HB7.out.size))
    clear hb8
    go_wp2_with fail
    refine (HF.out _).mono ?_
    rintro r w9 ⟨rfl, hb9⟩
    have HB9 := hide (HB8.out.trans (hb9.mono HB8.out.size))
    clear hb9
    go_wp2_with fail
    go_ret
    exact ⟨by first | rfl | (simp <;> omega), HB9.out⟩
  · have hL0 : Gm.leavesI n = 0 := by unfold Gm.leavesI; rw [if_neg hr]
    have hF0 : Gm.fansI n = 0 := by unfold Gm.fansI; rw [if_neg hr]
    rw [hL0, show ((0 : Nat) : Int) = 0 from rfl] at HL
    rw [hF0, show ((0 : Nat) : Int) = 0 from rfl] at HF
    have hc : n < 0 ∨ (¬ n < 0 ∧ 1792 < n) := by omega
    clear hr hL0 hF0
    rcases hc with c1 | ⟨c1, c2⟩
    all_goals
      go_enter Try.func4, Try.ntmps4
      go_wp2_with fail
      refine HAW.out.mono ?_
      rintro r w1 ⟨rfl, hb1⟩
      have HB1 := hide hb1
      clear hb1
      go_wp2_with fail
      refine (HL.out _).mono ?_
      rintro r w2 ⟨rfl, hb2⟩
      have HB2 := hide (HB1.out.trans (hb2.mono HB1.out.size))
      clear hb2
      go_wp2_with fail
      refine (HF.out _).mono ?_
      rintro r w3 ⟨rfl, hb3⟩
      have HB3 := hide (HB2.out.trans (hb3.mono HB2.out.size))
      clear hb3
      go_wp2_with fail
      go_ret
      exact ⟨rfl, HB3.out⟩
end Go.Proofs.Ytmeeikgebkdmiaa
