/-
  Layer 9's statements: PageSeats.
-/
import Derived.Test.YtjehcgkmapapbaaPgLawD
import Derived.Test.YtjehcgkmapapbaaRest
namespace Go.Proofs.Ytjehcgkmapapbaa
set_option linter.unusedVariables false
set_option linter.unusedSimpArgs false
open Go.RowKit

theorem leafR_set {l : List Pg.Seat} (hr : Pg.leafR l = true) (k : Nat) (hk : k < l.length) (x : Pg.Seat) : Pg.leafR (l.set k x) = Pg.seatB x := by
  unfold Pg.leafR at *
  rw [Bool.eq_iff_iff, List.all_eq_true]
  constructor
  · intro h
    exact h x (List.mem_set hk x)
  · intro h y hy
    rcases List.mem_or_eq_of_mem_set hy with hy | rfl
    · exact List.all_eq_true.1 hr y hy
    · exact h

set_option maxRecDepth 100000 in
set_option maxHeartbeats 4000000 in
theorem pageseats_any (l : List Pg.Seat) (at' : Int) (b : Bool) (g n : Int) (w : World) (hl : l.length = 7) (hat : (Lit.int .i64 at').wf = true) :
    Calls Try.prog 6 #[.agg (leafC l), .int .i64 at', .agg #[.bool b, .int .i64 g, .int .i64 n]] w fun e w' => e = .returned (.bool true) ∧ Below w.heap.size w w' := by
  obtain ⟨W, hW⟩ : ∃ W, W = (w.alloc (.cells (leafC l) 26)).alloc (.cells #[.bool b, .int .i64 g, .int .i64 n] 23) := ⟨_, rfl⟩
  have hB0 : Below w.heap.size w W := by rw [hW]; exact ((Below.refl _ _).alloc (Nat.le_refl _) _).alloc (by simp) _
  have hg0 : W.heap[w.heap.size]? = some (.cells (leafC l) 26 (0, 0)) := by
    rw [hW, Below.heap_alloc _ _ _ (by simp)]
    exact heap_alloc_new w _
  have hx0 : W.heap[w.heap.size + 1]? = some (.cells #[.bool b, .int .i64 g, .int .i64 n] 23 (0, 0)) := by
    rw [hW]
    have := heap_alloc_new (w.alloc (.cells (leafC l) 26)) (.cells #[.bool b, .int .i64 g, .int .i64 n] 23)
    simpa using this
  have HB0 := hide hB0
  have HG0 := hide hg0
  have HX0 := hide hx0
  have hlt0 : w.heap.size + 1 < W.heap.size := (Array.getElem?_eq_some_iff.1 hx0).1
  have HLL := hide hl
  have HSF := hide (leaf_size hl)
  have HAW := hide (fun X => pgawake_any X)
  obtain ⟨k, hk, hrest⟩ := rest_nat at' 7 w (by decide) (by decide) hat
  rw [show ((7 : Nat) : Int) = 7 from rfl] at hrest
  have HRS := hide hrest
  clear hB0 hg0 hx0 hat hrest
  go_enter Try.func6, Try.ntmps6
  go_wp2_with fail
  rw [← hW]
  refine (HAW.out _).mono ?_
  rintro e w1 ⟨rfl, hb1⟩
  have HG1 := hide ((hb1.block _ (by omega)).trans HG0.out)
  have HX1 := hide ((hb1.block _ hlt0).trans HX0.out)
  have HB1 := hide (HB0.out.trans (hb1.mono HB0.out.size))
  clear hb1 hW
  go_wp2_with fail
  refine (HRS.out _).mono ?_
  rintro e w1' ⟨rfl, hw1⟩
  obtain rfl := hw1.symm
  by_cases hr : Pg.leafR l = true
  rotate_left
  · have HP := hide (putleaf_no l w1 hl (by simpa using hr))
    go_wp2_with (refine wpList_load_row_on (by rfl) 26 _ rfl w.heap.size rfl 26 _ (0, 0) _ HG1.out Try.underlying26 rfl HSF.out ?_)
    refine HP.out.mono ?_
    rintro e w2 ⟨rfl, hb2⟩
    have HB2 := hide (HB1.out.trans (hb2.mono HB1.out.size))
    clear hb2
    go_wp2_with fail
    go_ret
    exact ⟨rfl, HB2.out⟩
  have HP := hide (putleaf_yes l w1 hl hr)
  go_wp2_with (refine wpList_load_row_on (by rfl) 26 _ rfl w.heap.size rfl 26 _ (0, 0) _ HG1.out Try.underlying26 rfl HSF.out ?_)
  refine HP.out.mono ?_
  rintro e w2 ⟨h, c, tail, rfl, hc, hcm, hh, hblk, hb2⟩
  have HB2 := hide (HB1.out.trans (hb2.mono HB1.out.size))
  have HG2 := hide ((hb2.block _ (Array.getElem?_eq_some_iff.1 HG1.out).1).trans HG1.out)
  have HX2 := hide ((hb2.block _ (Array.getElem?_eq_some_iff.1 HX1.out).1).trans HX1.out)
  obtain ⟨X2, hX2⟩ : ∃ X2, X2 = (w2.alloc (.cells #[Value.bool false, Value.int .i64 0, Value.int .i64 0, Value.bool false, Value.int .i64 0, Value.int .i64 0, Value.bool false, Value.int .i64 0, Value.int .i64 0, Value.bool false, Value.int .i64 0, Value.int .i64 0, Value.bool false, Value.int .i64 0, Value.int .i64 0, Value.bool false, Value.int .i64 0, Value.int .i64 0, Value.bool false, Value.int .i64 0, Value.int .i64 0] 26)).setRow w2.heap.size (leafC l) := ⟨_, rfl⟩
  have hbX : Below w2.heap.size w2 X2 := by rw [hX2]; exact below_setRow ((Below.refl _ _).alloc (Nat.le_refl _) _) (Nat.le_refl _) _
  have hm2 : X2.heap[w2.heap.size]? = some (.cells (leafC l) 26 (0, 0)) := by rw [hX2]; exact setRow_heap _ _ _ _ _ _ (heap_alloc_new w2 _)
  have HM2 := hide hm2
  have HBX := hide (HB2.out.trans (hbX.mono HB2.out.size))
  have HGX := hide ((hbX.block _ (Array.getElem?_eq_some_iff.1 HG2.out).1).trans HG2.out)
  have hx2 := (hbX.block _ (Array.getElem?_eq_some_iff.1 HX2.out).1).trans HX2.out
  have hs2 : w.heap.size + 1 < w2.heap.size := (Array.getElem?_eq_some_iff.1 HX2.out).1
  have hbL : Below w2.heap.size w2 (w2.alloc (.cells #[Value.bool false, Value.int .i64 0, Value.int .i64 0, Value.bool false, Value.int .i64 0, Value.int .i64 0, Value.bool false, Value.int .i64 0, Value.int .i64 0, Value.bool false, Value.int .i64 0, Value.int .i64 0, Value.bool false, Value.int .i64 0, Value.int .i64 0, Value.bool false, Value.int .i64 0, Value.int .i64 0, Value.bool false, Value.int .i64 0, Value.int .i64 0] 26)) := (Below.refl _ _).alloc (Nat.le_refl _) _
  have HL2 := hide ((hbL.block _ (Array.getElem?_eq_some_iff.1 HG2.out).1).trans HG2.out)
  have hSZ : (#[Value.bool false, Value.int .i64 0, Value.int .i64 0, Value.bool false, Value.int .i64 0, Value.int .i64 0, Value.bool false, Value.int .i64 0, Value.int .i64 0, Value.bool false, Value.int .i64 0, Value.int .i64 0, Value.bool false, Value.int .i64 0, Value.int .i64 0, Value.bool false, Value.int .i64 0, Value.int .i64 0, Value.bool false, Value.int .i64 0, Value.int .i64 0] : Array Value).size = (leafC l).size := by rw [leafC_size, hl]; rfl
  have HSZ := hide hSZ
  have hkl : k < l.length := by omega
  have hkI : (k : Int) < 7 := by omega
  obtain ⟨c0, c1, c2⟩ := boxed_leaf hm2 hkl
  have f0 : X2.frozen? ⟨w2.heap.size, k * 3, none⟩ = false := by simp [World.frozen?, hm2]
  have f1 : X2.frozen? ⟨w2.heap.size, k * 3 + 1, none⟩ = false := by simp [World.frozen?, hm2]
  have f2 : X2.frozen? ⟨w2.heap.size, k * 3 + 2, none⟩ = false := by simp [World.frozen?, hm2]
  have d0 : X2.cell? ⟨w.heap.size + 1, 0, none⟩ = some (.bool b) := by simp [World.cell?, hx2]
  have d1 : X2.cell? ⟨w.heap.size + 1, 1, none⟩ = some (.int .i64 g) := by simp [World.cell?, hx2]
  have d2 : X2.cell? ⟨w.heap.size + 1, 2, none⟩ = some (.int .i64 n) := by simp [World.cell?, hx2]
  obtain ⟨old, hold⟩ : ∃ x, l[k] = x := ⟨_, rfl⟩
  rw [hold] at c0 c1 c2
  have HOLD := hide hold
  obtain ⟨M, hM⟩ : ∃ M : List Pg.Seat, M = l.set k ⟨b, g, n⟩ := ⟨_, rfl⟩
  obtain ⟨X3, hX3⟩ : ∃ X3, X3 = ((X2.setCell ⟨w2.heap.size, k * 3, none⟩ (.bool b)).setCell ⟨w2.heap.size, k * 3 + 1, none⟩ (.int .i64 g)).setCell ⟨w2.heap.size, k * 3 + 2, none⟩ (.int .i64 n) := ⟨_, rfl⟩
  have hm3 : X3.heap[w2.heap.size]? = some (.cells (leafC M) 26 (0, 0)) := by
    rw [hX3, heap_set (heap_set (heap_set hm2 _ _) _ _) _ _, hM]
    exact congrArg (fun c => some (Obj.cells c 26 (0, 0))) (leafC_set l k ⟨b, g, n⟩)
  have hb3 : Below w2.heap.size X2 X3 := by
    rw [hX3]
    exact (((Below.refl w2.heap.size X2).setCell (p := ⟨w2.heap.size, k * 3, none⟩) (Nat.le_refl _) _).setCell (p := ⟨w2.heap.size, k * 3 + 1, none⟩) (Nat.le_refl _) _).setCell (p := ⟨w2.heap.size, k * 3 + 2, none⟩) (Nat.le_refl _) _
  have HM3 : Hid (X3.heap[w2.heap.size]? = some (.cells (leafC M) 26 (0, 0))) := hm3
  have HB3 := hide (HBX.out.trans (hb3.mono (by have := HB2.out.size; omega)))
  have HG3 := hide ((hb3.block _ (by omega)).trans HGX.out)
  have HX3 := hide ((hb3.block _ (by omega)).trans hx2)
  have HLM : Hid (M.length = 7) := by show _ = _; rw [hM, List.length_set]; exact hl
  have HRM : Hid (Pg.leafR M = Pg.seatB ⟨b, g, n⟩) := by show _ = _; rw [hM]; exact leafR_set hr k hkl _
  have HBK : Hid (M.set k l[k] = l) := by
    show _ = _
    rw [hM, List.set_set, List.set_getElem_self]
  have HSM := hide (leaf_size HLM.out)
  have HSE := hide (fun X => rseat_any b g n X)
  clear hb2 hblk hbX hSZ hbL hm2 hx2 hb3 hm3 hM hold
  rw [hX3] at HM3
  go_wp2_with (first
    | (refine wpList_load_row_on (by rfl) 26 _ rfl w.heap.size rfl 26 _ (0, 0) _ HG2.out Try.underlying26 rfl HSF.out ?_)
    | (refine wpList_load_row_on (by rfl) 26 _ rfl w.heap.size rfl 26 _ (0, 0) _ HL2.out Try.underlying26 rfl HSF.out ?_)
    | (refine wpList_store_row rfl 26 _ _ rfl w2.heap.size (leafC l) rfl rfl 26 _ (heap_alloc_new w2 _) HSF.out HSZ.out (leafC_one _) ?_; rw [← hX2]; clear hX2)
    | (refine wpList_load_row_on (by rfl) 26 _ rfl w2.heap.size rfl 26 _ (0, 0) _ HM3.out Try.underlying26 rfl HSM.out ?_))
  rw [← hX3]
  clear c0 c1 c2 f0 f1 f2 d0 d1 d2 hX3 HM3 HM2 HBX HGX HL2 HSZ
  cases hq : Pg.seatB ⟨b, g, n⟩ with
  | false =>
    rw [hq] at HRM HSE
    have HP3 := hide (putleaf_no M X3 HLM.out HRM.out)
    clear hq
    refine HP3.out.mono ?_
    rintro e w4 ⟨rfl, hb4⟩
    have HB4 := hide (HB3.out.trans (hb4.mono HB3.out.size))
    have HX4 := hide ((hb4.block _ (Array.getElem?_eq_some_iff.1 HX3.out).1).trans HX3.out)
    have HG := hide (getleaf_any (arg_nil8 w4) (by decide))
    rw [gotL_nil, tellsL_nil] at HG
    clear hb4
    go_wp2_with fail
    refine HG.out.mono ?_
    rintro e w5 ⟨rfl, hb5⟩
    obtain ⟨X5, hX5⟩ : ∃ X5, X5 = (w5.alloc (.cells #[Value.bool false, Value.int .i64 0, Value.int .i64 0, Value.bool false, Value.int .i64 0, Value.int .i64 0, Value.bool false, Value.int .i64 0, Value.int .i64 0, Value.bool false, Value.int .i64 0, Value.int .i64 0, Value.bool false, Value.int .i64 0, Value.int .i64 0, Value.bool false, Value.int .i64 0, Value.int .i64 0, Value.bool false, Value.int .i64 0, Value.int .i64 0] 26)).setRow w5.heap.size (leafC Pg.nil) := ⟨_, rfl⟩
    have hbX : Below w5.heap.size w5 X5 := by rw [hX5]; exact below_setRow ((Below.refl _ _).alloc (Nat.le_refl _) _) (Nat.le_refl _) _
    have HM5 : Hid (X5.heap[w5.heap.size]? = some (.cells (leafC Pg.nil) 26 (0, 0))) := by show _ = _; rw [hX5]; exact setRow_heap _ _ _ _ _ _ (heap_alloc_new w5 _)
    have hb5' := hb5.trans (hbX.mono hb5.size)
    have HB5 := hide (HB4.out.trans (hb5'.mono HB4.out.size))
    have hx5 := (hb5'.block _ (Array.getElem?_eq_some_iff.1 HX4.out).1).trans HX4.out
    have d0 : X5.cell? ⟨w.heap.size + 1, 0, none⟩ = some (.bool b) := by simp [World.cell?, hx5]
    have d1 : X5.cell? ⟨w.heap.size + 1, 1, none⟩ = some (.int .i64 g) := by simp [World.cell?, hx5]
    have d2 : X5.cell? ⟨w.heap.size + 1, 2, none⟩ = some (.int .i64 n) := by simp [World.cell?, hx5]
    have hEQ : ∀ W, (binOp .eql 26 (.agg (leafC Pg.nil)) (.agg #[Value.bool false, Value.int .i64 0, Value.int .i64 0, Value.bool false, Value.int .i64 0, Value.int .i64 0, Value.bool false, Value.int .i64 0, Value.int .i64 0, Value.bool false, Value.int .i64 0, Value.int .i64 0, Value.bool false, Value.int .i64 0, Value.int .i64 0, Value.bool false, Value.int .i64 0, Value.int .i64 0, Value.bool false, Value.int .i64 0, Value.int .i64 0])).run Try.prog W = .ok (.bool true) W := fun W => run_eql_leaf Pg.nil rfl W
    clear hb5 hbX hb5' hx5
    go_wp2_with (refine wpList_store_row rfl 26 _ _ rfl w5.heap.size (leafC Pg.nil) rfl rfl 26 _ (heap_alloc_new w5 _) (leaf_size rfl) rfl (leafC_one _) ?_; rw [← hX5]; clear hX5)
    refine (HSE.out _).mono ?_
    rintro e w6 ⟨rfl, hb6⟩
    have HM6 := hide ((hb6.block _ (Array.getElem?_eq_some_iff.1 HM5.out).1).trans HM5.out)
    have HB6 := hide (HB5.out.trans (hb6.mono HB5.out.size))
    clear d0 d1 d2 hb6
    go_wp2_with (refine wpList_load_row_on (by rfl) 26 _ rfl w5.heap.size rfl 26 _ (0, 0) _ HM6.out Try.underlying26 rfl (leaf_size rfl) ?_)
    go_ret
    exact ⟨rfl, HB6.out⟩
  | true =>
    rw [hq] at HRM HSE
    have HP3 := hide (putleaf_yes M X3 HLM.out HRM.out)
    have HTL := hide (Pg.tells_leaf HLM.out HRM.out)
    have HGB := hide (Pg.got_leaf HLM.out HRM.out)
    have HBL := hide (Pg.leaf_length HLM.out)
    have HBB := hide (Pg.leaf_bytes HLM.out)
    clear hq
    generalize Pg.leaf M = bl at *
    refine HP3.out.mono ?_
    rintro e w4 ⟨h4, c4, tail4, rfl, hc4, hcm4, hh4, hblk4, hb4⟩
    have HB4 := hide (HB3.out.trans (hb4.mono HB3.out.size))
    have HX4 := hide ((hb4.block _ (Array.getElem?_eq_some_iff.1 HX3.out).1).trans HX3.out)
    have HG4 := hide ((hb4.block _ (Array.getElem?_eq_some_iff.1 HG3.out).1).trans HG3.out)
    have HG := hide (getleaf_any (arg_tail hblk4 HBB.out HBL.out hc4 hcm4) (by decide))
    rw [HTL.out, HGB.out] at HG
    clear hb4 hblk4 hc4 hcm4 hh4
    go_wp2_with fail
    refine HG.out.mono ?_
    rintro e w5 ⟨rfl, hb5⟩
    obtain ⟨X5, hX5⟩ : ∃ X5, X5 = (w5.alloc (.cells #[Value.bool false, Value.int .i64 0, Value.int .i64 0, Value.bool false, Value.int .i64 0, Value.int .i64 0, Value.bool false, Value.int .i64 0, Value.int .i64 0, Value.bool false, Value.int .i64 0, Value.int .i64 0, Value.bool false, Value.int .i64 0, Value.int .i64 0, Value.bool false, Value.int .i64 0, Value.int .i64 0, Value.bool false, Value.int .i64 0, Value.int .i64 0] 26)).setRow w5.heap.size (leafC M) := ⟨_, rfl⟩
    have hbX : Below w5.heap.size w5 X5 := by rw [hX5]; exact below_setRow ((Below.refl _ _).alloc (Nat.le_refl _) _) (Nat.le_refl _) _
    have HM5 : Hid (X5.heap[w5.heap.size]? = some (.cells (leafC M) 26 (0, 0))) := by show _ = _; rw [hX5]; exact setRow_heap _ _ _ _ _ _ (heap_alloc_new w5 _)
    have hb5' := hb5.trans (hbX.mono hb5.size)
    have HB5 := hide (HB4.out.trans (hb5'.mono HB4.out.size))
    have hx5 := (hb5'.block _ (Array.getElem?_eq_some_iff.1 HX4.out).1).trans HX4.out
    have HG5 := hide ((hb5'.block _ (Array.getElem?_eq_some_iff.1 HG4.out).1).trans HG4.out)
    have d0 : X5.cell? ⟨w.heap.size + 1, 0, none⟩ = some (.bool b) := by simp [World.cell?, hx5]
    have d1 : X5.cell? ⟨w.heap.size + 1, 1, none⟩ = some (.int .i64 g) := by simp [World.cell?, hx5]
    have d2 : X5.cell? ⟨w.heap.size + 1, 2, none⟩ = some (.int .i64 n) := by simp [World.cell?, hx5]
    have hs5 : w.heap.size + 1 < w5.heap.size := Nat.lt_of_lt_of_le (Array.getElem?_eq_some_iff.1 HX4.out).1 hb5.size
    have HS5 := hide hs5
    have HZ5 : Hid ((#[] : Array Value).size + 21 = (leafC M).size) := by show _ = _; rw [leafC_size, HLM.out]; rfl
    clear hb5 hbX hb5' hx5 hs5
    go_wp2_with (refine wpList_store_row rfl 26 _ _ rfl w5.heap.size (leafC M) rfl rfl 26 _ (heap_alloc_new w5 _) HSM.out HZ5.out (leafC_one _) ?_; rw [← hX5]; clear hX5)
    refine (HSE.out _).mono ?_
    rintro e w6 ⟨rfl, hb6⟩
    have hm6 := (hb6.block _ (Array.getElem?_eq_some_iff.1 HM5.out).1).trans HM5.out
    have hg6 := (hb6.block _ (Array.getElem?_eq_some_iff.1 HG5.out).1).trans HG5.out
    have HB6 := hide (HB5.out.trans (hb6.mono HB5.out.size))
    have hkM : k < M.length := by have := HLM.out; omega
    obtain ⟨e0, e1, e2⟩ := boxed_leaf hm6 hkM
    generalize M[k] = om at e0 e1 e2
    obtain ⟨l0, l1, l2⟩ := boxed_leaf hg6 hkl
    rw [HOLD.out] at l0 l1 l2
    have f0 : w6.frozen? ⟨w5.heap.size, k * 3, none⟩ = false := by simp [World.frozen?, hm6]
    have f1 : w6.frozen? ⟨w5.heap.size, k * 3 + 1, none⟩ = false := by simp [World.frozen?, hm6]
    have f2 : w6.frozen? ⟨w5.heap.size, k * 3 + 2, none⟩ = false := by simp [World.frozen?, hm6]
    obtain ⟨ob, og, on⟩ := old
    dsimp only at l0 l1 l2
    obtain ⟨X7, hX7⟩ : ∃ X7, X7 = ((w6.setCell ⟨w5.heap.size, k * 3, none⟩ (.bool ob)).setCell ⟨w5.heap.size, k * 3 + 1, none⟩ (.int .i64 og)).setCell ⟨w5.heap.size, k * 3 + 2, none⟩ (.int .i64 on) := ⟨_, rfl⟩
    have hm7 : X7.heap[w5.heap.size]? = some (.cells (leafC l) 26 (0, 0)) := by
      rw [hX7, heap_set (heap_set (heap_set hm6 _ _) _ _) _ _]
      have hh := leafC_set M k ⟨ob, og, on⟩
      have hbk := HBK.out
      rw [HOLD.out] at hbk
      rw [hbk] at hh
      exact congrArg (fun c => some (Obj.cells c 26 (0, 0))) hh
    have hb7 : Below w5.heap.size w6 X7 := by
      rw [hX7]
      exact (((Below.refl w5.heap.size w6).setCell (p := ⟨w5.heap.size, k * 3, none⟩) (Nat.le_refl _) _).setCell (p := ⟨w5.heap.size, k * 3 + 1, none⟩) (Nat.le_refl _) _).setCell (p := ⟨w5.heap.size, k * 3 + 2, none⟩) (Nat.le_refl _) _
    have hg7 := (hb7.block _ (by have := HS5.out; omega)).trans hg6
    have HB7 := hide (HB6.out.trans (hb7.mono (by have := HS5.out; omega)))
    rw [hX7] at hm7 hg7
    have HM7 := hide hm7
    have HG7 := hide hg7
    have hEQ : ∀ W, (binOp .eql 26 (.agg (leafC l)) (.agg (leafC l))).run Try.prog W = .ok (.bool true) W := fun W => run_eql_leaf l HLL.out W
    clear d0 d1 d2 hb6 hm6 hg6 hb7 hm7 hg7
    go_wp2_with (first
      | (refine wpList_load_row_on (by rfl) 26 _ rfl w5.heap.size rfl 26 _ (0, 0) _ HM7.out Try.underlying26 rfl HSF.out ?_)
      | (refine wpList_load_row_on (by rfl) 26 _ rfl w.heap.size rfl 26 _ (0, 0) _ HG7.out Try.underlying26 rfl HSF.out ?_))
    rw [← hX7]
    go_ret
    exact ⟨rfl, HB7.out⟩
end Go.Proofs.Ytjehcgkmapapbaa
