/-
  node.Compare; cmp.Or: what they answer.
-/
import Derived.Test.YtgckondfcmmklaaNdPA
import Derived.Test.YtgckondfcmmklaaRel
namespace Go.Proofs.Ytgckondfcmmklaa
set_option linter.unusedVariables false
set_option linter.unusedSimpArgs false
open Go.RowKit

/-- the first that is not 0. -/
def orI (x y z : Int) : Int := if x ≠ 0 then x else if y ≠ 0 then y else z

theorem cmpB_parts (s g k s' g' k' : Int) : cmpB s g k s' g' k' = orI (cmpI k k') (cmpI s s') (cmpI g g') := by
  unfold cmpB aheadB orI cmpI
  by_cases h1 : k = k'
  · subst h1
    by_cases h2 : s = s'
    · subst h2
      simp
    · have h2' : ¬ s' = s := fun e => h2 e.symm
      by_cases h3 : s < s'
      · have h4 : ¬ s' < s := by omega
        simp [h2, h2', h3, h4]
      · have h4 : s' < s := by omega
        simp [h2, h2', h3, h4]
  · have h1' : ¬ k' = k := fun e => h1 e.symm
    by_cases h3 : k < k'
    · have h4 : ¬ k' < k := by omega
      simp [h1, h1', h3, h4]
    · have h4 : k' < k := by omega
      simp [h1, h1', h3, h4]

set_option maxHeartbeats 400000 in
theorem cmpor_any (x y z : Int) (w : World) (g : Nat) (hg : w.heap[g]? = some (.cells #[.int .i64 x, .int .i64 y, .int .i64 z] 3 (0, 0))) : Calls Try.prog 32 #[.slice (some ⟨g, 0, none⟩) 3 3] w fun e w' => e = .returned (.int .i64 (orI x y z)) ∧ w' = w := by
  have c0 : w.cell? ⟨g, 0, none⟩ = some (.int .i64 x) := by simp [World.cell?, hg]
  have c1 : w.cell? ⟨g, 1, none⟩ = some (.int .i64 y) := by simp [World.cell?, hg]
  have c2 : w.cell? ⟨g, 2, none⟩ = some (.int .i64 z) := by simp [World.cell?, hg]
  have HC : Hid (∀ j : Nat, j < 3 → w.cell? ⟨g, j, none⟩ = some (.int .i64 ([x, y, z].getD j 0))) := fun j hj => by
    obtain rfl | rfl | rfl : j = 0 ∨ j = 1 ∨ j = 2 := by omega
    · exact c0
    · exact c1
    · exact c2
  clear hg c0 c1 c2
  go_enter Try.func32, Try.ntmps32
  go_wp2_with fail
  go_loop [8] (fun i => ∃ j : Nat, j ≤ 3 ∧ i = .int .i64 j ∧ ∀ q, q < j → [x, y, z].getD q 0 = 0) (fun i => 3 - (intOf i).toNat)
  case atStart => exact ⟨0, Nat.zero_le _, rfl, fun q hq => absurd hq (Nat.not_lt_zero _)⟩
  case round =>
    obtain ⟨j, hj, rfl, hq⟩ := hrel
    by_cases hlt : j < 3
    · have hjI : (j : Int) < 3 := by omega
      have hcj := HC.out j hlt
      have HQ := hide hq
      have HO : Hid ([x, y, z].getD j 0 ≠ 0 → orI x y z = [x, y, z].getD j 0) := fun h => by
        unfold orI
        obtain rfl | rfl | rfl : j = 0 ∨ j = 1 ∨ j = 2 := by omega
        · exact if_pos h
        · have h0 : x = 0 := hq 0 (by omega)
          rw [if_neg (by simpa using h0), if_pos (show y ≠ 0 from h)]
          rfl
        · have h0 : x = 0 := hq 0 (by omega)
          have h1 : y = 0 := hq 1 (by omega)
          rw [if_neg (by simpa using h0), if_neg (by simpa using h1)]
          rfl
      have HN : Hid ([x, y, z].getD j 0 = 0 → ∀ q, q < j + 1 → [x, y, z].getD q 0 = 0) := fun h q hq' => by
        by_cases e : q = j
        · rw [e]; exact h
        · exact hq q (by omega)
      clear hq
      generalize hu : [x, y, z].getD j 0 = u at *
      clear hu
      by_cases h0 : u = 0
      · have HN' := hide (HN.out h0)
        subst h0
        clear HN HO
        go_wp2_with fail
        go_round
        case rel => exact ⟨j + 1, by omega, by go_num, HN'.out⟩
        case measure => simp [intOf]; omega
      · have hb : (u != 0) = true := by simpa using h0
        have HO' := hide (HO.out h0)
        clear HN HO
        go_wp2_with fail
        go_ret
        exact ⟨by rw [HO'.out]; rfl, rfl⟩
    · have hjI : ¬ (j : Int) < 3 := by omega
      obtain rfl : j = 3 := by omega
      have HO : Hid (orI x y z = 0) := by
        show orI x y z = 0
        have h0 : x = 0 := hq 0 (by omega)
        have h1 : y = 0 := hq 1 (by omega)
        have h2 : z = 0 := hq 2 (by omega)
        subst h0 h1 h2
        rfl
      clear hq
      go_wp2_with fail
      go_ret
      exact ⟨by rw [HO.out]; rfl, rfl⟩

/-- three numbers in a block of their own. -/
def Built3 (x y z : Int) (w : World) (v : Value) : Prop := ∃ g, v = .slice (some ⟨g, 0, none⟩) 3 3 ∧ w.heap[g]? = some (.cells #[.int .i64 x, .int .i64 y, .int .i64 z] 3 (0, 0))
theorem Built3.later (x y z : Int) (w w' : World) (v : Value) (h : Built3 x y z w v) (hb : Below w.heap.size w w') : Built3 x y z w' v := by
  obtain ⟨g, hv, hg⟩ := h
  exact ⟨g, hv, (hb.block g (Array.getElem?_eq_some_iff.1 hg).1).trans hg⟩

set_option maxRecDepth 100000 in
set_option maxHeartbeats 4000000 in
theorem ncompare_any (s g k v s' g' k' v' : Int) (w : World) :
    Calls Try.prog 16 #[.agg #[.int .i64 s, .int .i64 g, .int .i64 k, .int .i64 v], .agg #[.int .i64 s', .int .i64 g', .int .i64 k', .int .i64 v']] w fun e w' => e = .returned (.int .i64 (cmpB s g k s' g' k')) ∧ Below w.heap.size w w' := by
  obtain ⟨X, hX⟩ : ∃ X, X = ((w.alloc (.cells #[.int .i64 s, .int .i64 g, .int .i64 k, .int .i64 v] 25)).alloc (.cells #[.int .i64 s', .int .i64 g', .int .i64 k', .int .i64 v'] 25)) := ⟨_, rfl⟩
  have hBX : Below w.heap.size w X := by rw [hX]; exact ((Below.refl w.heap.size w).alloc (Nat.le_refl _) _).alloc (by simp) _
  have hg1 : X.heap[w.heap.size]? = some (.cells #[.int .i64 s, .int .i64 g, .int .i64 k, .int .i64 v] 25 (0, 0)) := by
    rw [hX, Below.heap_alloc _ _ _ (by simp)]
    exact heap_alloc_new w _
  have hg2 : X.heap[w.heap.size + 1]? = some (.cells #[.int .i64 s', .int .i64 g', .int .i64 k', .int .i64 v'] 25 (0, 0)) := by
    rw [hX]
    have := heap_alloc_new (w.alloc (.cells #[.int .i64 s, .int .i64 g, .int .i64 k, .int .i64 v] 25)) (.cells #[.int .i64 s', .int .i64 g', .int .i64 k', .int .i64 v'] 25)
    simpa using this
  have hXs : X.heap.size = w.heap.size + 2 := by rw [hX]; simp
  rw [cmpB_parts]
  have c0 : X.cell? ⟨w.heap.size, 0, none⟩ = some (.int .i64 s) := by simp [World.cell?, hg1]
  have c1 : X.cell? ⟨w.heap.size, 1, none⟩ = some (.int .i64 g) := by simp [World.cell?, hg1]
  have c2 : X.cell? ⟨w.heap.size, 2, none⟩ = some (.int .i64 k) := by simp [World.cell?, hg1]
  have d0 : X.cell? ⟨w.heap.size + 1, 0, none⟩ = some (.int .i64 s') := by simp [World.cell?, hg2]
  have d1 : X.cell? ⟨w.heap.size + 1, 1, none⟩ = some (.int .i64 g') := by simp [World.cell?, hg2]
  have d2 : X.cell? ⟨w.heap.size + 1, 2, none⟩ = some (.int .i64 k') := by simp [World.cell?, hg2]
  have HK := hide (fun W => cmpcompare_any k k' W)
  have HS := hide (fun W => cmpcompare_any s s' W)
  have HG := hide (fun W => cmpcompare_any g g' W)
  generalize cmpI k k' = rk at *
  generalize cmpI s s' = rs at *
  generalize cmpI g g' = rg at *
  have HBX := hide hBX
  have l1 : w.heap.size < X.heap.size := by omega
  have l2 : w.heap.size + 1 < X.heap.size := by omega
  clear hg1 hg2 hBX
  go_enter Try.func16, Try.ntmps16
  go_wp2_with fail
  rw [← hX]
  clear hX
  refine wp_region_lex (C := fun w' => Below X.heap.size X w') (by kernel_rfl) (by kernel_rfl) (fun w' w'' h h' => h.trans (h'.mono h.size)) (Below.refl _ _) ?_
  refine lex_val (.pointer (some ⟨w.heap.size, 2, none⟩)) (fun a W hc hS hM => ?_) ?_
  · have e1 : a.eval (.tmp 2) = .pointer (some ⟨w.heap.size, 0, none⟩) := (hS.base 2 rfl).trans rfl
    clear hM hS hc
    generalize a.eval = ev at *
    clear a
    go_simp
  refine lex_val (.int .i64 k) (fun a W hc hS hM => ?_) ?_
  · have e1 : a.eval (.tmp 5) = .pointer (some ⟨w.heap.size, 2, none⟩) := hM.val 0 5 rfl rfl rfl rfl
    have e2 : W.cell? ⟨w.heap.size, 2, none⟩ = some (.int .i64 k) := (Below.cell hc (by first | exact l1 | exact l2)).trans c2
    clear hM hS hc
    generalize a.eval = ev at *
    clear a
    go_simp
  refine lex_val (.pointer (some ⟨w.heap.size + 1, 2, none⟩)) (fun a W hc hS hM => ?_) ?_
  · have e1 : a.eval (.tmp 3) = .pointer (some ⟨w.heap.size + 1, 0, none⟩) := (hS.base 3 rfl).trans rfl
    clear hM hS hc
    generalize a.eval = ev at *
    clear a
    go_simp
  refine lex_val (.int .i64 k') (fun a W hc hS hM => ?_) ?_
  · have e1 : a.eval (.tmp 7) = .pointer (some ⟨w.heap.size + 1, 2, none⟩) := hM.val 2 7 rfl rfl rfl rfl
    have e2 : W.cell? ⟨w.heap.size + 1, 2, none⟩ = some (.int .i64 k') := (Below.cell hc (by first | exact l1 | exact l2)).trans d2
    clear hM hS hc
    generalize a.eval = ev at *
    clear a
    go_simp
  refine lex_call (.int .i64 rk) 33 (fun a W hc hS hM => ?_) ?_
  · have e1 : a.eval (.tmp 6) = .int .i64 k := hM.val 1 6 rfl rfl rfl rfl
    have e2 : a.eval (.tmp 8) = .int .i64 k' := hM.val 3 8 rfl rfl rfl rfl
    have ef : a.eval (.func 33) = .func (.func 33) #[] #[] := rfl
    refine ⟨#[.int .i64 k, .int .i64 k'], ?_, (HK.out W).mono fun e w' ⟨he, hw⟩ => ⟨he, by rw [hw]; exact Below.refl _ _⟩⟩
    clear hM hS hc
    generalize a.eval = ev at *
    clear a
    go_simp
  refine lex_val (.pointer (some ⟨w.heap.size, 0, none⟩)) (fun a W hc hS hM => ?_) ?_
  · have e1 : a.eval (.tmp 2) = .pointer (some ⟨w.heap.size, 0, none⟩) := (hS.base 2 rfl).trans rfl
    clear hM hS hc
    generalize a.eval = ev at *
    clear a
    go_simp
  refine lex_val (.pointer (some ⟨w.heap.size, 0, none⟩)) (fun a W hc hS hM => ?_) ?_
  · have e1 : a.eval (.tmp 10) = .pointer (some ⟨w.heap.size, 0, none⟩) := hM.val 5 10 rfl rfl rfl rfl
    clear hM hS hc
    generalize a.eval = ev at *
    clear a
    go_simp
  refine lex_val (.int .i64 s) (fun a W hc hS hM => ?_) ?_
  · have e1 : a.eval (.tmp 11) = .pointer (some ⟨w.heap.size, 0, none⟩) := hM.val 6 11 rfl rfl rfl rfl
    have e2 : W.cell? ⟨w.heap.size, 0, none⟩ = some (.int .i64 s) := (Below.cell hc (by first | exact l1 | exact l2)).trans c0
    clear hM hS hc
    generalize a.eval = ev at *
    clear a
    go_simp
  refine lex_val (.pointer (some ⟨w.heap.size + 1, 0, none⟩)) (fun a W hc hS hM => ?_) ?_
  · have e1 : a.eval (.tmp 3) = .pointer (some ⟨w.heap.size + 1, 0, none⟩) := (hS.base 3 rfl).trans rfl
    clear hM hS hc
    generalize a.eval = ev at *
    clear a
    go_simp
  refine lex_val (.pointer (some ⟨w.heap.size + 1, 0, none⟩)) (fun a W hc hS hM => ?_) ?_
  · have e1 : a.eval (.tmp 13) = .pointer (some ⟨w.heap.size + 1, 0, none⟩) := hM.val 8 13 rfl rfl rfl rfl
    clear hM hS hc
    generalize a.eval = ev at *
    clear a
    go_simp
  refine lex_val (.int .i64 s') (fun a W hc hS hM => ?_) ?_
  · have e1 : a.eval (.tmp 14) = .pointer (some ⟨w.heap.size + 1, 0, none⟩) := hM.val 9 14 rfl rfl rfl rfl
    have e2 : W.cell? ⟨w.heap.size + 1, 0, none⟩ = some (.int .i64 s') := (Below.cell hc (by first | exact l1 | exact l2)).trans d0
    clear hM hS hc
    generalize a.eval = ev at *
    clear a
    go_simp
  refine lex_call (.int .i64 rs) 33 (fun a W hc hS hM => ?_) ?_
  · have e1 : a.eval (.tmp 12) = .int .i64 s := hM.val 7 12 rfl rfl rfl rfl
    have e2 : a.eval (.tmp 15) = .int .i64 s' := hM.val 10 15 rfl rfl rfl rfl
    have ef : a.eval (.func 33) = .func (.func 33) #[] #[] := rfl
    refine ⟨#[.int .i64 s, .int .i64 s'], ?_, (HS.out W).mono fun e w' ⟨he, hw⟩ => ⟨he, by rw [hw]; exact Below.refl _ _⟩⟩
    clear hM hS hc
    generalize a.eval = ev at *
    clear a
    go_simp
  refine lex_val (.pointer (some ⟨w.heap.size, 0, none⟩)) (fun a W hc hS hM => ?_) ?_
  · have e1 : a.eval (.tmp 2) = .pointer (some ⟨w.heap.size, 0, none⟩) := (hS.base 2 rfl).trans rfl
    clear hM hS hc
    generalize a.eval = ev at *
    clear a
    go_simp
  refine lex_val (.pointer (some ⟨w.heap.size, 1, none⟩)) (fun a W hc hS hM => ?_) ?_
  · have e1 : a.eval (.tmp 17) = .pointer (some ⟨w.heap.size, 0, none⟩) := hM.val 12 17 rfl rfl rfl rfl
    clear hM hS hc
    generalize a.eval = ev at *
    clear a
    go_simp
  refine lex_val (.int .i64 g) (fun a W hc hS hM => ?_) ?_
  · have e1 : a.eval (.tmp 18) = .pointer (some ⟨w.heap.size, 1, none⟩) := hM.val 13 18 rfl rfl rfl rfl
    have e2 : W.cell? ⟨w.heap.size, 1, none⟩ = some (.int .i64 g) := (Below.cell hc (by first | exact l1 | exact l2)).trans c1
    clear hM hS hc
    generalize a.eval = ev at *
    clear a
    go_simp
  refine lex_val (.pointer (some ⟨w.heap.size + 1, 0, none⟩)) (fun a W hc hS hM => ?_) ?_
  · have e1 : a.eval (.tmp 3) = .pointer (some ⟨w.heap.size + 1, 0, none⟩) := (hS.base 3 rfl).trans rfl
    clear hM hS hc
    generalize a.eval = ev at *
    clear a
    go_simp
  refine lex_val (.pointer (some ⟨w.heap.size + 1, 1, none⟩)) (fun a W hc hS hM => ?_) ?_
  · have e1 : a.eval (.tmp 20) = .pointer (some ⟨w.heap.size + 1, 0, none⟩) := hM.val 15 20 rfl rfl rfl rfl
    clear hM hS hc
    generalize a.eval = ev at *
    clear a
    go_simp
  refine lex_val (.int .i64 g') (fun a W hc hS hM => ?_) ?_
  · have e1 : a.eval (.tmp 21) = .pointer (some ⟨w.heap.size + 1, 1, none⟩) := hM.val 16 21 rfl rfl rfl rfl
    have e2 : W.cell? ⟨w.heap.size + 1, 1, none⟩ = some (.int .i64 g') := (Below.cell hc (by first | exact l1 | exact l2)).trans d1
    clear hM hS hc
    generalize a.eval = ev at *
    clear a
    go_simp
  refine lex_call (.int .i64 rg) 33 (fun a W hc hS hM => ?_) ?_
  · have e1 : a.eval (.tmp 19) = .int .i64 g := hM.val 14 19 rfl rfl rfl rfl
    have e2 : a.eval (.tmp 22) = .int .i64 g' := hM.val 17 22 rfl rfl rfl rfl
    have ef : a.eval (.func 33) = .func (.func 33) #[] #[] := rfl
    refine ⟨#[.int .i64 g, .int .i64 g'], ?_, (HG.out W).mono fun e w' ⟨he, hw⟩ => ⟨he, by rw [hw]; exact Below.refl _ _⟩⟩
    clear hM hS hc
    generalize a.eval = ev at *
    clear a
    go_simp
  refine lex_make (Built3 rk rs rg) (Built3.later rk rs rg) (fun a W hc hS hM => ?_) ?_
  · have e1 : a.eval (.tmp 9) = .int .i64 rk := hM.val 4 9 rfl rfl rfl rfl
    have e2 : a.eval (.tmp 16) = .int .i64 rs := hM.val 11 16 rfl rfl rfl rfl
    have e3 : a.eval (.tmp 23) = .int .i64 rg := hM.val 18 23 rfl rfl rfl rfl
    refine ⟨.slice (some ⟨W.heap.size, 0, none⟩) 3 3, W.alloc (.cells #[.int .i64 rk, .int .i64 rs, .int .i64 rg] 3), ?_, (Below.refl _ _).alloc (Nat.le_refl _) _, ⟨_, rfl, heap_alloc_new W _⟩⟩
    clear hM hS hc
    generalize a.eval = ev at *
    clear a
    go_simp
  refine lex_call (.int .i64 (orI rk rs rg)) 32 (fun a W hc hS hM => ?_) ?_
  · have hBt : Built3 rk rs rg W (a.eval (.tmp 24)) := hM.rel 19 24 rfl rfl rfl rfl
    have ef : a.eval (.func 32) = .func (.func 32) #[] #[] := rfl
    obtain ⟨b, hv, hg⟩ := hBt
    refine ⟨#[.slice (some ⟨b, 0, none⟩) 3 3], ?_, (cmpor_any rk rs rg W b hg).mono fun e w' ⟨he, hw⟩ => ⟨he, by rw [hw]; exact Below.refl _ _⟩⟩
    clear hg
    clear hM hS hc
    generalize a.eval = ev at *
    clear a
    go_simp
  refine lex_assign 20 25 rfl rfl rfl rfl rfl ?_
  refine lex_end fun a w' hc hS hall => ?_
  have h6 : a.eval (.tmp 4) = .int .i64 (orI rk rs rg) := hall 21 4 rfl rfl
  have hde := hS.defers
  go_wp2_with fail
  refine bodyPost_ret (results_tmp rfl _ _ _) hde ?_
  exact ⟨congrArg Ending.returned h6, HBX.out.trans (hc.mono HBX.out.size)⟩
end Go.Proofs.Ytgckondfcmmklaa
