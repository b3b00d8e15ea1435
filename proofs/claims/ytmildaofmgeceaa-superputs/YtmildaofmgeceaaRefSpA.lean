/-
  The document's answers (layer 13): Right, of a superblock: where its head or its numbers fail.
-/
import Derived.Test.YtmildaofmgeceaaSpNums
import Derived.Test.YtmildaofmgeceaaRefGmA
import Derived.Test.YtmildaofmgeceaaOwnMore
import Derived.Test.YtmildaofmgeceaaEqRow
import Derived.Deep.RegionHeld3
namespace Go.Proofs.Ytmildaofmgeceaa
set_option linter.unusedVariables false
set_option linter.unusedSimpArgs false
open Go.RowKit

/-- a superblock's cells, its charts in memory. -/
def superC (s : Sp.S) (a : Option Addr) (len cap : Nat) : Array Value := #[.int .i64 s.epoch, .int .i64 s.blocks, .int .i64 s.slots, .int .i64 s.gens, .int .i64 s.top, .int .i64 s.high, .int .i64 s.free, .int .i64 s.dir, .slice a len cap]
theorem super_cells {X : World} {B : Nat} {s : Sp.S} {a : Option Addr} {len cap : Nat} {T : TypeId} (h : X.heap[B]? = some (.cells (superC s a len cap) T (0, 0))) :
    X.cell? ⟨B, 0, none⟩ = some (.int .i64 s.epoch) ∧ X.cell? ⟨B, 1, none⟩ = some (.int .i64 s.blocks) ∧ X.cell? ⟨B, 2, none⟩ = some (.int .i64 s.slots) ∧ X.cell? ⟨B, 3, none⟩ = some (.int .i64 s.gens) ∧ X.cell? ⟨B, 4, none⟩ = some (.int .i64 s.top) ∧ X.cell? ⟨B, 5, none⟩ = some (.int .i64 s.high) ∧ X.cell? ⟨B, 6, none⟩ = some (.int .i64 s.free) ∧ X.cell? ⟨B, 7, none⟩ = some (.int .i64 s.dir) ∧ X.cell? ⟨B, 8, none⟩ = some (.slice a len cap) := by
  refine ⟨?_, ?_, ?_, ?_, ?_, ?_, ?_, ?_, ?_⟩ <;> simp [World.cell?, h, superC]

set_option maxRecDepth 100000 in
set_option maxHeartbeats 2000000 in
theorem rspright_head (s : Sp.S) (w : World) (a : Option Addr) (len cap : Nat) (h : Sp.headB s = false) :
    Calls Try.prog 9 #[.agg (superC s a len cap)] w fun e w' => e = .returned (.bool false) ∧ Below w.heap.size w w' := by
  obtain ⟨W, hW⟩ : ∃ W, W = w.alloc (.cells (superC s a len cap) 28) := ⟨_, rfl⟩
  have hb0 : Below w.heap.size w W := by rw [hW]; exact (Below.refl _ _).alloc (Nat.le_refl _) _
  have hg0 : W.heap[w.heap.size]? = some (.cells (superC s a len cap) 28 (0, 0)) := by rw [hW]; exact heap_alloc_new w _
  have HB0 := hide hb0
  obtain ⟨c0, c1, c2, c3, _, _, _, _, _⟩ := super_cells hg0
  rw [hW] at c0 c1 c2 c3
  obtain ⟨ep, bl, sl, ge, tp, hi, fr, di, cs⟩ := s
  have hc : ep < 1 ∨ (1 ≤ ep ∧ 4611686018427387904 < ep) ∨ (1 ≤ ep ∧ ep ≤ 4611686018427387904 ∧ Gm.right bl sl ge = false) := by
    unfold Sp.headB at h
    by_cases h1 : 1 ≤ ep ∧ ep ≤ 4611686018427387904
    · rw [decide_eq_true h1, Bool.true_and] at h
      exact .inr (.inr ⟨h1.1, h1.2, h⟩)
    · omega
  dsimp only at c0 c1 c2 c3
  have HR := hide (fun X => rgmright_any bl sl ge X)
  clear hb0 hg0 h
  rcases hc with h | ⟨h1, h⟩ | ⟨h1, h2, h⟩
  · go_enter Try.func9, Try.ntmps9
    go_wp2_with fail
    go_ret
    rw [← hW]
    exact ⟨rfl, HB0.out⟩
  · have e1 : decide (ep < 1) = false := by simp; omega
    have e2 : decide (4611686018427387904 < ep) = true := by simp; omega
    clear h1 h
    go_enter Try.func9, Try.ntmps9
    go_wp2_with fail
    go_ret
    rw [← hW]
    exact ⟨rfl, HB0.out⟩
  · have e1 : decide (ep < 1) = false := by simp; omega
    have e2 : decide (4611686018427387904 < ep) = false := by simp; omega
    rw [h] at HR
    clear h1 h2 h
    go_enter Try.func9, Try.ntmps9
    go_wp2_with fail
    refine (HR.out _).mono ?_
    rw [← hW]
    rintro r w1 ⟨rfl, hb1⟩
    have HB1 := hide (HB0.out.trans (hb1.mono HB0.out.size))
    clear hb1
    go_wp2_with fail
    go_ret
    exact ⟨rfl, HB1.out⟩

set_option maxRecDepth 100000 in
set_option maxHeartbeats 4000000 in
theorem rspright_mid (s : Sp.S) (w : World) (a : Option Addr) (len cap : Nat) (hh : Sp.headB s = true) (hl : s.charts.length = len) (h : Sp.midB s = false) :
    Calls Try.prog 9 #[.agg (superC s a len cap)] w fun e w' => e = .returned (.bool false) ∧ Below w.heap.size w w' := by
  obtain ⟨W, hW⟩ : ∃ W, W = w.alloc (.cells (superC s a len cap) 28) := ⟨_, rfl⟩
  have hb0 : Below w.heap.size w W := by rw [hW]; exact (Below.refl _ _).alloc (Nat.le_refl _) _
  have hg0 : W.heap[w.heap.size]? = some (.cells (superC s a len cap) 28 (0, 0)) := by rw [hW]; exact heap_alloc_new w _
  have HB0 := hide hb0
  have HG0 := hide hg0
  obtain ⟨c0, c1, c2, c3, _, _, _, _, _⟩ := super_cells hg0
  rw [hW] at c0 c1 c2 c3
  obtain ⟨ep, bl, sl, ge, tp, hi, fr, di, cs⟩ := s
  obtain ⟨hh1, hh2⟩ := Bool.and_eq_true_iff.1 hh
  have hep := of_decide_eq_true hh1
  have hgm := of_decide_eq_true hh2
  dsimp only at hep hgm hh2 hl
  have hc : hi < 0 ∨ (0 ≤ hi ∧ sl < hi) ∨ (0 ≤ hi ∧ hi ≤ sl ∧ fr < 0) ∨ (0 ≤ hi ∧ hi ≤ sl ∧ 0 ≤ fr ∧ hi < fr) ∨ (0 ≤ hi ∧ hi ≤ sl ∧ 0 ≤ fr ∧ fr ≤ hi ∧ ¬ len = Gm.charts bl.toNat) := by
    have := of_decide_eq_false h
    dsimp only at this
    rw [hl] at this
    omega
  dsimp only at c0 c1 c2 c3
  have HR := hide (fun X => rgmright_any bl sl ge X)
  rw [hh2] at HR
  have HC := hide (fun X => rcharts_any bl sl ge X ⟨by omega, hgm.1.2⟩)
  have e1 : decide (ep < 1) = false := by simp; omega
  have e2 : decide (4611686018427387904 < ep) = false := by simp; omega
  have HCS : Hid (∀ X : World, Below W.heap.size W X → X.cell? ⟨w.heap.size, 1, none⟩ = some (.int .i64 bl) ∧ X.cell? ⟨w.heap.size, 2, none⟩ = some (.int .i64 sl) ∧ X.cell? ⟨w.heap.size, 3, none⟩ = some (.int .i64 ge) ∧ X.cell? ⟨w.heap.size, 5, none⟩ = some (.int .i64 hi) ∧ X.cell? ⟨w.heap.size, 6, none⟩ = some (.int .i64 fr) ∧ X.cell? ⟨w.heap.size, 8, none⟩ = some (.slice a len cap)) := fun X hX => by
    obtain ⟨_, k1, k2, k3, _, k5, k6, _, k8⟩ := super_cells ((hX.block _ (Array.getElem?_eq_some_iff.1 HG0.out).1).trans HG0.out)
    exact ⟨k1, k2, k3, k5, k6, k8⟩
  clear hb0 hg0 h hh hh1 hh2 hep hgm hl
  generalize Gm.charts bl.toNat = nc at *
  have hd : (decide (hi < 0) = true) ∨ (decide (hi < 0) = false ∧ decide (sl < hi) = true) ∨ (decide (hi < 0) = false ∧ decide (sl < hi) = false ∧ decide (fr < 0) = true) ∨ (decide (hi < 0) = false ∧ decide (sl < hi) = false ∧ decide (fr < 0) = false ∧ decide (hi < fr) = true) ∨ (decide (hi < 0) = false ∧ decide (sl < hi) = false ∧ decide (fr < 0) = false ∧ decide (hi < fr) = false ∧ ((len : Int) != (nc : Int)) = true) := by
    simp only [decide_eq_true_eq, decide_eq_false_iff_not, bne_iff_ne]
    omega
  clear hc
  rcases hd with h | ⟨h1, h⟩ | ⟨h1, h2, h⟩ | ⟨h1, h2, h3, h⟩ | ⟨h1, h2, h3, h4, h⟩
  rotate_left 4
  · 
    go_enter Try.func9, Try.ntmps9
    go_wp2_with fail
    rw [← hW]
    refine (HR.out _).mono ?_
    rintro r w1 ⟨rfl, hb1⟩
    have HB1 := hide (HB0.out.trans (hb1.mono HB0.out.size))
    have hq : ∀ x : Later w1, Below W.heap.size W x.val := fun x => hb1.trans (x.property.mono hb1.size)
    have k1 := fun x : Later w1 => (HCS.out x.val (hq x)).1
    have k2 := fun x : Later w1 => (HCS.out x.val (hq x)).2.1
    have k3 := fun x : Later w1 => (HCS.out x.val (hq x)).2.2.1
    have k5 := fun x : Later w1 => (HCS.out x.val (hq x)).2.2.2.1
    have k6 := fun x : Later w1 => (HCS.out x.val (hq x)).2.2.2.2.1
    have k8 := fun x : Later w1 => (HCS.out x.val (hq x)).2.2.2.2.2
    have hne := later_some w1
    have HCX := hide (fun x : Later w1 => HC.out x.val)
    clear hb1 hW hq
    go_wp2_with fail
    refine wp_region_later (by kernel_rfl) (by kernel_rfl) ?_
    repeat (go_big_quiet_step (first | rfl | (go_at_call 23; refine calls_later (HCX.out _))))
    refine wpQuiet_nil ?_
    intro w9 hw9
    obtain ⟨⟨w9', hb9⟩, rfl⟩ := hw9
    have HB9 := hide (HB1.out.trans (hb9.mono HB1.out.size))
    clear hb9
    go_wp2_with fail
    go_ret
    exact ⟨rfl, HB9.out⟩
  all_goals
    go_enter Try.func9, Try.ntmps9
    go_wp2_with fail
    rw [← hW]
    refine (HR.out _).mono ?_
    rintro r w1 ⟨rfl, hb1⟩
    have HB1 := hide (HB0.out.trans (hb1.mono HB0.out.size))
    have hq : ∀ x : Later w1, Below W.heap.size W x.val := fun x => hb1.trans (x.property.mono hb1.size)
    have k1 := fun x : Later w1 => (HCS.out x.val (hq x)).1
    have k2 := fun x : Later w1 => (HCS.out x.val (hq x)).2.1
    have k3 := fun x : Later w1 => (HCS.out x.val (hq x)).2.2.1
    have k5 := fun x : Later w1 => (HCS.out x.val (hq x)).2.2.2.1
    have k6 := fun x : Later w1 => (HCS.out x.val (hq x)).2.2.2.2.1
    have k8 := fun x : Later w1 => (HCS.out x.val (hq x)).2.2.2.2.2
    have hne := later_some w1
    have HCX := hide (fun x : Later w1 => HC.out x.val)
    clear hb1 hW hq
    go_wp2_with fail
    refine wp_region_later (by kernel_rfl) (by kernel_rfl) ?_
    repeat (go_big_quiet_step (first | rfl | (go_at_call 23; refine calls_later (HCX.out _))))
    refine wpQuiet_nil ?_
    intro w9 hw9
    obtain ⟨⟨w9', hb9⟩, rfl⟩ := hw9
    have HB9 := hide (HB1.out.trans (hb9.mono HB1.out.size))
    clear hb9
    go_wp2_with fail
    go_ret
    exact ⟨rfl, HB9.out⟩
end Go.Proofs.Ytmildaofmgeceaa
