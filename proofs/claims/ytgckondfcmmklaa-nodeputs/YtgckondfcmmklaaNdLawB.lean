/-
  Layer 8's statements: NodeOrders.
-/
import Derived.Test.YtgckondfcmmklaaNdLawA
namespace Go.Proofs.Ytgckondfcmmklaa
set_option linter.unusedVariables false
set_option linter.unusedSimpArgs false
open Go.RowKit

theorem ahead_iff {s g k s' g' k' : Int} : aheadB s g k s' g' k' = true ↔ k < k' ∨ (k = k' ∧ (s < s' ∨ (s = s' ∧ g < g'))) := by
  unfold aheadB
  by_cases h1 : k = k'
  · rw [if_pos h1]
    by_cases h2 : s = s'
    · rw [if_pos h2, decide_eq_true_eq]; omega
    · rw [if_neg h2, decide_eq_true_eq]; omega
  · rw [if_neg h1, decide_eq_true_eq]; omega
theorem cmp_cases (s g k s' g' k' : Int) : (cmpB s g k s' g' k' = -1 ∧ aheadB s g k s' g' k' = true ∧ aheadB s' g' k' s g k = false) ∨ (cmpB s g k s' g' k' = 0 ∧ aheadB s g k s' g' k' = false ∧ aheadB s' g' k' s g k = false ∧ s = s' ∧ g = g' ∧ k = k') ∨ (cmpB s g k s' g' k' = 1 ∧ aheadB s g k s' g' k' = false ∧ aheadB s' g' k' s g k = true) := by
  unfold cmpB
  have i1 := ahead_iff (s := s) (g := g) (k := k) (s' := s') (g' := g') (k' := k')
  have i2 := ahead_iff (s := s') (g := g') (k := k') (s' := s) (g' := g) (k' := k)
  cases h1 : aheadB s g k s' g' k' with
  | true =>
    cases h2 : aheadB s' g' k' s g k with
    | true => have a1 := i1.1 h1; have a2 := i2.1 h2; omega
    | false => exact .inl ⟨rfl, rfl, rfl⟩
  | false =>
    have n1 : ¬ (k < k' ∨ (k = k' ∧ (s < s' ∨ (s = s' ∧ g < g')))) := fun h => by rw [i1.2 h] at h1; cases h1
    cases h2 : aheadB s' g' k' s g k with
    | true => exact .inr (.inr ⟨rfl, rfl, rfl⟩)
    | false =>
      have n2 : ¬ (k' < k ∨ (k' = k ∧ (s' < s ∨ (s' = s ∧ g' < g)))) := fun h => by rw [i2.2 h] at h2; cases h2
      exact .inr (.inl ⟨rfl, rfl, rfl, by omega, by omega, by omega⟩)
/-- the order goes through a third one. -/
theorem cmp_third (s1 g1 k1 s2 g2 k2 s3 g3 k3 : Int) (h1 : cmpB s1 g1 k1 s2 g2 k2 ≤ 0) (h2 : cmpB s2 g2 k2 s3 g3 k3 ≤ 0) :
    (cmpB s1 g1 k1 s2 g2 k2 = 0 ∧ cmpB s2 g2 k2 s3 g3 k3 = 0 ∧ cmpB s1 g1 k1 s3 g3 k3 = 0) ∨ (¬ (cmpB s1 g1 k1 s2 g2 k2 = 0 ∧ cmpB s2 g2 k2 s3 g3 k3 = 0) ∧ cmpB s1 g1 k1 s3 g3 k3 = -1) := by
  have i1 := ahead_iff (s := s1) (g := g1) (k := k1) (s' := s2) (g' := g2) (k' := k2)
  have i2 := ahead_iff (s := s2) (g := g2) (k := k2) (s' := s3) (g' := g3) (k' := k3)
  have i3 := ahead_iff (s := s1) (g := g1) (k := k1) (s' := s3) (g' := g3) (k' := k3)
  rcases cmp_cases s1 g1 k1 s2 g2 k2 with ⟨e1, a1, _⟩ | ⟨e1, _, _, rfl, rfl, rfl⟩ | ⟨e1, _⟩
  · rcases cmp_cases s2 g2 k2 s3 g3 k3 with ⟨e2, a2, _⟩ | ⟨e2, _, _, rfl, rfl, rfl⟩ | ⟨e2, _⟩
    · refine .inr ⟨by omega, ?_⟩
      have b1 := i1.1 a1
      have b2 := i2.1 a2
      unfold cmpB
      rw [if_pos (i3.2 (by omega))]
    · exact .inr ⟨by omega, e1⟩
    · omega
  · rcases cmp_cases s1 g1 k1 s3 g3 k3 with ⟨e2, a2, _⟩ | ⟨e2, _, _, rfl, rfl, rfl⟩ | ⟨e2, _⟩
    · exact .inr ⟨by omega, e2⟩
    · exact .inl ⟨e1, e2, e2⟩
    · omega
  · omega

set_option maxRecDepth 100000 in
set_option maxHeartbeats 4000000 in
theorem nodeorders_any (s1 g1 k1 v1 s2 g2 k2 v2 s3 g3 k3 v3 : Int) (w : World) :
    Calls Try.prog 5 #[.agg #[.int .i64 s1, .int .i64 g1, .int .i64 k1, .int .i64 v1], .agg #[.int .i64 s2, .int .i64 g2, .int .i64 k2, .int .i64 v2], .agg #[.int .i64 s3, .int .i64 g3, .int .i64 k3, .int .i64 v3]] w fun e w' => e = .returned (.bool true) ∧ Below w.heap.size w w' := by
  obtain ⟨W, hW⟩ : ∃ W, W = ((w.alloc (.cells #[.int .i64 s1, .int .i64 g1, .int .i64 k1, .int .i64 v1] 25)).alloc (.cells #[.int .i64 s2, .int .i64 g2, .int .i64 k2, .int .i64 v2] 25)).alloc (.cells #[.int .i64 s3, .int .i64 g3, .int .i64 k3, .int .i64 v3] 25) := ⟨_, rfl⟩
  have hWs : W.heap.size = w.heap.size + 3 := by rw [hW]; simp
  have HBW : Hid (Below w.heap.size w W) := by show Below _ _ _; rw [hW]; exact (((Below.refl _ _).alloc (Nat.le_refl _) _).alloc (by simp) _).alloc (by simp; omega) _
  have hg1 : W.heap[w.heap.size]? = some (.cells #[.int .i64 s1, .int .i64 g1, .int .i64 k1, .int .i64 v1] 25 (0, 0)) := by
    rw [hW, Below.heap_alloc _ _ _ (by simp; omega), Below.heap_alloc _ _ _ (by simp)]
    exact heap_alloc_new w _
  have hg2 : W.heap[w.heap.size + 1]? = some (.cells #[.int .i64 s2, .int .i64 g2, .int .i64 k2, .int .i64 v2] 25 (0, 0)) := by
    rw [hW, Below.heap_alloc _ _ _ (by simp)]
    have := heap_alloc_new (w.alloc (.cells #[.int .i64 s1, .int .i64 g1, .int .i64 k1, .int .i64 v1] 25)) (.cells #[.int .i64 s2, .int .i64 g2, .int .i64 k2, .int .i64 v2] 25)
    simpa using this
  have hg3 : W.heap[w.heap.size + 2]? = some (.cells #[.int .i64 s3, .int .i64 g3, .int .i64 k3, .int .i64 v3] 25 (0, 0)) := by
    rw [hW]
    have := heap_alloc_new ((w.alloc (.cells #[.int .i64 s1, .int .i64 g1, .int .i64 k1, .int .i64 v1] 25)).alloc (.cells #[.int .i64 s2, .int .i64 g2, .int .i64 k2, .int .i64 v2] 25)) (.cells #[.int .i64 s3, .int .i64 g3, .int .i64 k3, .int .i64 v3] 25)
    simpa using this
  have HE : Hid (∀ X, Below W.heap.size W X → ∀ i, i < 4 → X.cell? ⟨w.heap.size, i, none⟩ = some (#[Value.int .i64 s1, .int .i64 g1, .int .i64 k1, .int .i64 v1].getD i undef) ∧ X.cell? ⟨w.heap.size + 1, i, none⟩ = some (#[Value.int .i64 s2, .int .i64 g2, .int .i64 k2, .int .i64 v2].getD i undef) ∧ X.cell? ⟨w.heap.size + 2, i, none⟩ = some (#[Value.int .i64 s3, .int .i64 g3, .int .i64 k3, .int .i64 v3].getD i undef)) := fun X hb i hi => by
    have e1 := (hb.block w.heap.size (by omega)).trans hg1
    have e2 := (hb.block (w.heap.size + 1) (by omega)).trans hg2
    have e3 := (hb.block (w.heap.size + 2) (by omega)).trans hg3
    match i, hi with
    | 0, _ => simp [World.cell?, e1, e2, e3]
    | 1, _ => simp [World.cell?, e1, e2, e3]
    | 2, _ => simp [World.cell?, e1, e2, e3]
    | 3, _ => simp [World.cell?, e1, e2, e3]
  have HAW := hide (nawake_any W)
  have H12 := hide (fun X => ncompare_any s1 g1 k1 v1 s2 g2 k2 v2 X)
  have H23 := hide (fun X => ncompare_any s2 g2 k2 v2 s3 g3 k3 v3 X)
  have H13 := hide (fun X => ncompare_any s1 g1 k1 v1 s3 g3 k3 v3 X)
  have HA12 := hide (fun X => rahead_any s1 g1 k1 v1 s2 g2 k2 v2 X)
  have HA21 := hide (fun X => rahead_any s2 g2 k2 v2 s1 g1 k1 v1 X)
  have hx := cmp_cases s1 g1 k1 s2 g2 k2
  have hy := cmp_cases s2 g2 k2 s3 g3 k3
  have hz := cmp_third s1 g1 k1 s2 g2 k2 s3 g3 k3
  clear hg1 hg2 hg3 hWs
  generalize cmpB s1 g1 k1 s2 g2 k2 = x at *
  generalize cmpB s2 g2 k2 s3 g3 k3 = y at *
  generalize cmpB s1 g1 k1 s3 g3 k3 = z at *
  generalize aheadB s1 g1 k1 s2 g2 k2 = p at *
  generalize aheadB s2 g2 k2 s1 g1 k1 = q at *
  have hy' : y = -1 ∨ y = 0 ∨ y = 1 := by omega
  have hx' : (x = -1 ∧ p = true ∧ q = false) ∨ (x = 0 ∧ p = false ∧ q = false) ∨ (x = 1 ∧ p = false ∧ q = true) := by
    rcases hx with h | h | h
    · exact .inl h
    · exact .inr (.inl ⟨h.1, h.2.1, h.2.2.1⟩)
    · exact .inr (.inr h)
  clear hx hy
  go_enter Try.func5, Try.ntmps5
  go_wp2_with fail
  rw [← hW]
  refine HAW.out.mono ?_
  rintro e w1 ⟨rfl, hb1⟩
  have HB1 := hide hb1
  have hcell := fun (X : Later w1) i hi => HE.out X.val (hb1.trans (X.property.mono hb1.size)) i hi
  have a0 := fun X => (hcell X 0 (by decide)).1
  have a1 := fun X => (hcell X 1 (by decide)).1
  have a2 := fun X => (hcell X 2 (by decide)).1
  have a3 := fun X => (hcell X 3 (by decide)).1
  have b0 := fun X => (hcell X 0 (by decide)).2.1
  have b1 := fun X => (hcell X 1 (by decide)).2.1
  have b2 := fun X => (hcell X 2 (by decide)).2.1
  have b3 := fun X => (hcell X 3 (by decide)).2.1
  have c0 := fun X => (hcell X 0 (by decide)).2.2
  have c1 := fun X => (hcell X 1 (by decide)).2.2
  have c2 := fun X => (hcell X 2 (by decide)).2.2
  have c3 := fun X => (hcell X 3 (by decide)).2.2
  simp only [Array.getD] at a0 a1 a2 a3 b0 b1 b2 b3 c0 c1 c2 c3
  have hne := later_some w1
  clear hcell hb1
  go_wp2_with fail
  refine wp_region_later (by kernel_rfl) (by kernel_rfl) ?_
  repeat (go_big_quiet_step (first | (go_at_call_of 16 (Value.agg #[.int .i64 s1, .int .i64 g1, .int .i64 k1, .int .i64 v1]); go_at_call_of 16 (Value.agg #[.int .i64 s2, .int .i64 g2, .int .i64 k2, .int .i64 v2]); refine calls_later (H12.out _)) | (go_at_call_of 16 (Value.agg #[.int .i64 s2, .int .i64 g2, .int .i64 k2, .int .i64 v2]); go_at_call_of 16 (Value.agg #[.int .i64 s3, .int .i64 g3, .int .i64 k3, .int .i64 v3]); refine calls_later (H23.out _)) | (go_at_call_of 16 (Value.agg #[.int .i64 s1, .int .i64 g1, .int .i64 k1, .int .i64 v1]); go_at_call_of 16 (Value.agg #[.int .i64 s3, .int .i64 g3, .int .i64 k3, .int .i64 v3]); refine calls_later (H13.out _))))
  refine wpQuiet_nil ?_
  intro w9 hw9
  obtain ⟨⟨w9', hb9⟩, rfl⟩ := hw9
  have hb := HB1.out.trans (hb9.mono HB1.out.size)
  have HB9 := hide hb
  clear a0 a1 a2 a3 b0 b1 b2 b3 c0 c1 c2 c3 hne hb9
  have hcell := HE.out _ hb
  have a0 := (hcell 0 (by decide)).1
  have a1 := (hcell 1 (by decide)).1
  have a2 := (hcell 2 (by decide)).1
  have a3 := (hcell 3 (by decide)).1
  have b0 := (hcell 0 (by decide)).2.1
  have b1 := (hcell 1 (by decide)).2.1
  have b2 := (hcell 2 (by decide)).2.1
  have b3 := (hcell 3 (by decide)).2.1
  simp only [Array.getD] at a0 a1 a2 a3 b0 b1 b2 b3
  clear hcell hb
  rcases hx' with ⟨rfl, rfl, rfl⟩ | ⟨rfl, rfl, rfl⟩ | ⟨rfl, rfl, rfl⟩
  · go_wp2_with fail
    refine (HA12.out _).mono ?_
    rintro e w10 ⟨rfl, hb10⟩
    have hb := HB9.out.trans (hb10.mono HB9.out.size)
    have HB10 := hide hb
    clear a0 a1 a2 a3 b0 b1 b2 b3 hb10
    have hcell := HE.out _ hb
    have a0 := (hcell 0 (by decide)).1
    have a1 := (hcell 1 (by decide)).1
    have a2 := (hcell 2 (by decide)).1
    have a3 := (hcell 3 (by decide)).1
    have b0 := (hcell 0 (by decide)).2.1
    have b1 := (hcell 1 (by decide)).2.1
    have b2 := (hcell 2 (by decide)).2.1
    have b3 := (hcell 3 (by decide)).2.1
    simp only [Array.getD] at a0 a1 a2 a3 b0 b1 b2 b3
    clear hcell hb
    go_wp2_with fail
    refine (HA21.out _).mono ?_
    rintro e w11 ⟨rfl, hb11⟩
    have HB11 := hide (HBW.out.trans ((HB10.out.trans (hb11.mono HB10.out.size)).mono HBW.out.size))
    clear a0 a1 a2 a3 b0 b1 b2 b3 hb11
    rcases hy' with rfl | rfl | rfl
    · obtain rfl : z = -1 := by
        rcases hz (by decide) (by decide) with h | h <;> omega
      clear hz
      go_wp2_with fail
      go_ret
      exact ⟨rfl, HB11.out⟩
    · obtain rfl : z = -1 := by
        rcases hz (by decide) (by decide) with h | h <;> omega
      clear hz
      go_wp2_with fail
      go_ret
      exact ⟨rfl, HB11.out⟩
    · clear hz
      go_wp2_with fail
      go_ret
      exact ⟨rfl, HB11.out⟩
  · go_wp2_with fail
    refine (HA12.out _).mono ?_
    rintro e w10 ⟨rfl, hb10⟩
    have hb := HB9.out.trans (hb10.mono HB9.out.size)
    have HB10 := hide hb
    clear a0 a1 a2 a3 b0 b1 b2 b3 hb10
    have hcell := HE.out _ hb
    have a0 := (hcell 0 (by decide)).1
    have a1 := (hcell 1 (by decide)).1
    have a2 := (hcell 2 (by decide)).1
    have a3 := (hcell 3 (by decide)).1
    have b0 := (hcell 0 (by decide)).2.1
    have b1 := (hcell 1 (by decide)).2.1
    have b2 := (hcell 2 (by decide)).2.1
    have b3 := (hcell 3 (by decide)).2.1
    simp only [Array.getD] at a0 a1 a2 a3 b0 b1 b2 b3
    clear hcell hb
    go_wp2_with fail
    refine (HA21.out _).mono ?_
    rintro e w11 ⟨rfl, hb11⟩
    have HB11 := hide (HBW.out.trans ((HB10.out.trans (hb11.mono HB10.out.size)).mono HBW.out.size))
    clear a0 a1 a2 a3 b0 b1 b2 b3 hb11
    rcases hy' with rfl | rfl | rfl
    · obtain rfl : z = -1 := by
        rcases hz (by decide) (by decide) with h | h <;> omega
      clear hz
      go_wp2_with fail
      go_ret
      exact ⟨rfl, HB11.out⟩
    · obtain rfl : z = 0 := by
        rcases hz (by decide) (by decide) with h | h
        · exact h.2.2
        · exact absurd h.1 (by simp)
      clear hz
      go_wp2_with fail
      go_ret
      exact ⟨rfl, HB11.out⟩
    · clear hz
      go_wp2_with fail
      go_ret
      exact ⟨rfl, HB11.out⟩
  · go_wp2_with fail
    refine (HA12.out _).mono ?_
    rintro e w10 ⟨rfl, hb10⟩
    have hb := HB9.out.trans (hb10.mono HB9.out.size)
    have HB10 := hide hb
    clear a0 a1 a2 a3 b0 b1 b2 b3 hb10
    have hcell := HE.out _ hb
    have a0 := (hcell 0 (by decide)).1
    have a1 := (hcell 1 (by decide)).1
    have a2 := (hcell 2 (by decide)).1
    have a3 := (hcell 3 (by decide)).1
    have b0 := (hcell 0 (by decide)).2.1
    have b1 := (hcell 1 (by decide)).2.1
    have b2 := (hcell 2 (by decide)).2.1
    have b3 := (hcell 3 (by decide)).2.1
    simp only [Array.getD] at a0 a1 a2 a3 b0 b1 b2 b3
    clear hcell hb
    go_wp2_with fail
    refine (HA21.out _).mono ?_
    rintro e w11 ⟨rfl, hb11⟩
    have HB11 := hide (HBW.out.trans ((HB10.out.trans (hb11.mono HB10.out.size)).mono HBW.out.size))
    clear a0 a1 a2 a3 b0 b1 b2 b3 hb11
    rcases hy' with rfl | rfl | rfl
    · clear hz
      go_wp2_with fail
      go_ret
      exact ⟨rfl, HB11.out⟩
    · clear hz
      go_wp2_with fail
      go_ret
      exact ⟨rfl, HB11.out⟩
    · clear hz
      go_wp2_with fail
      go_ret
      exact ⟨rfl, HB11.out⟩
end Go.Proofs.Ytgckondfcmmklaa
