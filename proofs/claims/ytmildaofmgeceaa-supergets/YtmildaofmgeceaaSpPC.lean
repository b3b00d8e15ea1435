/-
  super.Right: what it answers.
-/
import Derived.Test.YtmildaofmgeceaaSpPA
import Derived.Test.YtmildaofmgeceaaRefSpA
import Derived.Test.YtmildaofmgeceaaRegs
namespace Go.Proofs.Ytmildaofmgeceaa
set_option linter.unusedVariables false
set_option linter.unusedSimpArgs false
open Go.RowKit

/-- numbers that an int can be. -/
def Sp.wf (s : Sp.S) : Prop := (Lit.int .i64 s.epoch).wf = true ∧ ((Lit.int .i64 s.blocks).wf = true ∧ (Lit.int .i64 s.slots).wf = true ∧ (Lit.int .i64 s.gens).wf = true) ∧ (Lit.int .i64 s.top).wf = true ∧ (Lit.int .i64 s.high).wf = true ∧ (Lit.int .i64 s.free).wf = true ∧ (Lit.int .i64 s.dir).wf = true

/-- what the program asks of a superblock, one behind the other. -/
theorem sp_right_asked (s : Sp.S) : Sp.right s = (decide (1 ≤ s.epoch ∧ s.epoch ≤ 4611686018427387904) && (Gm.right s.blocks s.slots s.gens && (decide (0 ≤ s.high ∧ s.high ≤ s.slots) && (decide (0 ≤ s.free ∧ s.free ≤ s.high) && ((if s.high = 0 then decide (s.top = 0) else Sp.inB s.blocks s.top) && ((decide (s.dir = 0) || Sp.inB s.blocks s.dir) && (decide (s.charts.length = Gm.charts s.blocks.toNat) && (s.charts.all (Sp.inB s.blocks) && Sp.unlikeTo s.charts s.charts.length)))))))) := by
  obtain ⟨ep, bl, sl, ge, tp, hi, fr, di, cs⟩ := s
  unfold Sp.right Sp.headB Sp.midB Sp.needs
  simp only [Bool.decide_and, List.all_append]
  generalize Gm.right bl sl ge = q1
  generalize decide (1 ≤ ep) = q2
  generalize decide (ep ≤ 4611686018427387904) = q3
  generalize decide (0 ≤ hi) = q4
  generalize decide (hi ≤ sl) = q5
  generalize decide (0 ≤ fr) = q6
  generalize decide (fr ≤ hi) = q7
  generalize decide (cs.length = Gm.charts bl.toNat) = q8
  generalize cs.all (Sp.inB bl) = q9
  generalize Sp.unlikeTo cs cs.length = q10
  by_cases e1 : hi = 0 <;> by_cases e2 : di = 0 <;> by_cases e3 : tp = 0 <;> simp [e1, e2, e3] <;> generalize Sp.inB bl _ = q11 at * <;> cases q1 <;> cases q2 <;> cases q3 <;> cases q4 <;> cases q5 <;> cases q6 <;> cases q7 <;> cases q8 <;> cases q9 <;> cases q10 <;> simp

set_option maxRecDepth 100000 in
set_option maxHeartbeats 4000000 in
theorem spright_early {w W : World} (ep bl sl ge tp hi fr di : Int) (cs : List Int) (a : Option Addr) (len cap : Nat) (hW : W = w.alloc (.cells (superC ⟨ep, bl, sl, ge, tp, hi, fr, di, cs⟩ a len cap) 28))
    (hn : (decide (1 ≤ ep ∧ ep ≤ 4611686018427387904) && (Gm.right bl sl ge && (decide (0 ≤ hi ∧ hi ≤ sl) && decide (0 ≤ fr ∧ fr ≤ hi)))) = false) :
    Calls Try.prog 10 #[.agg (superC ⟨ep, bl, sl, ge, tp, hi, fr, di, cs⟩ a len cap)] w fun e w' => e = .returned (.bool false) ∧ Below w.heap.size w w' := by
  have hb0 : Below w.heap.size w W := by rw [hW]; exact (Below.refl _ _).alloc (Nat.le_refl _) _
  have hg0 : W.heap[w.heap.size]? = some (.cells (superC ⟨ep, bl, sl, ge, tp, hi, fr, di, cs⟩ a len cap) 28 (0, 0)) := by rw [hW]; exact heap_alloc_new w _
  have HB0 := hide hb0
  have hlt : w.heap.size < W.heap.size := (Array.getElem?_eq_some_iff.1 hg0).1
  have C := fun x : Later W => super_cells ((x.property.block _ hlt).trans hg0)
  have k0 := fun x : Later W => (C x).1
  have k1 := fun x : Later W => (C x).2.1
  have k2 := fun x : Later W => (C x).2.2.1
  have k3 := fun x : Later W => (C x).2.2.2.1
  have k4 := fun x : Later W => (C x).2.2.2.2.1
  have k5 := fun x : Later W => (C x).2.2.2.2.2.1
  have k6 := fun x : Later W => (C x).2.2.2.2.2.2.1
  have k7 := fun x : Later W => (C x).2.2.2.2.2.2.2.1
  have k8 := fun x : Later W => (C x).2.2.2.2.2.2.2.2
  have HE := hide (fun x : Later W => spwithin_any ep 1 4611686018427387904 x.val)
  have HH := hide (fun x : Later W => spwithin_any hi 0 sl x.val)
  have HF := hide (fun x : Later W => spwithin_any fr 0 hi x.val)
  have HGM := hide (fun x : Later W => gmright_any bl sl ge x.val)
  have hne := later_some W
  clear C hb0 hg0 hlt
  dsimp only at k0 k1 k2 k3 k4 k5 k6 k7 k8
  generalize decide (1 ≤ ep ∧ ep ≤ 4611686018427387904) = q0 at *
  generalize Gm.right bl sl ge = q1 at *
  generalize decide (0 ≤ hi ∧ hi ≤ sl) = q2 at *
  generalize decide (0 ≤ fr ∧ fr ≤ hi) = q3 at *
  cases q0 with
  | false =>
    clear hn
    go_enter Try.func10, Try.ntmps10; go_wp2_with fail; rw [← hW]; refine wp_region_later (by kernel_rfl) (by kernel_rfl) ?_; dsimp only [List.append]
    repeat (go_big_quiet_step (first | rfl | (go_at_call_of 25 (Value.int .i64 4611686018427387904); refine calls_later_same (HE.out _)) | (go_at_call_of 25 (Value.int .i64 sl); refine calls_later_same (HH.out _)) | (go_at_call_of 25 (Value.int .i64 fr); refine calls_later_same (HF.out _)) | (go_at_call 26; refine calls_later (HGM.out _)) | (go_at_call 27; refine calls_later (HGC.out _)) | (go_at_call_of 24 (Value.int .i64 tp); refine calls_later_same (HTP.out _)) | (go_at_call_of 24 (Value.int .i64 di); refine calls_later_same (HDI.out _)) | (go_at_call 28; refine calls_later_same (HUN.out _))))
    refine wpQuiet_nil ?_; intro w9 hw9; obtain ⟨⟨w9', hb9⟩, rfl⟩ := hw9; have HB9 := hide (HB0.out.trans (hb9.mono HB0.out.size)); clear hb9; go_wp2_with fail; all_goals (go_ret; exact ⟨rfl, HB9.out⟩)
  | true =>
    cases q1 with
    | false =>
      clear hn
      go_enter Try.func10, Try.ntmps10; go_wp2_with fail; rw [← hW]; refine wp_region_later (by kernel_rfl) (by kernel_rfl) ?_; dsimp only [List.append]
      repeat (go_big_quiet_step (first | rfl | (go_at_call_of 25 (Value.int .i64 4611686018427387904); refine calls_later_same (HE.out _)) | (go_at_call_of 25 (Value.int .i64 sl); refine calls_later_same (HH.out _)) | (go_at_call_of 25 (Value.int .i64 fr); refine calls_later_same (HF.out _)) | (go_at_call 26; refine calls_later (HGM.out _)) | (go_at_call 27; refine calls_later (HGC.out _)) | (go_at_call_of 24 (Value.int .i64 tp); refine calls_later_same (HTP.out _)) | (go_at_call_of 24 (Value.int .i64 di); refine calls_later_same (HDI.out _)) | (go_at_call 28; refine calls_later_same (HUN.out _))))
      refine wpQuiet_nil ?_; intro w9 hw9; obtain ⟨⟨w9', hb9⟩, rfl⟩ := hw9; have HB9 := hide (HB0.out.trans (hb9.mono HB0.out.size)); clear hb9; go_wp2_with fail; all_goals (go_ret; exact ⟨rfl, HB9.out⟩)
    | true =>
      cases q2 with
      | false =>
        clear hn
        go_enter Try.func10, Try.ntmps10; go_wp2_with fail; rw [← hW]; refine wp_region_later (by kernel_rfl) (by kernel_rfl) ?_; dsimp only [List.append]
        repeat (go_big_quiet_step (first | rfl | (go_at_call_of 25 (Value.int .i64 4611686018427387904); refine calls_later_same (HE.out _)) | (go_at_call_of 25 (Value.int .i64 sl); refine calls_later_same (HH.out _)) | (go_at_call_of 25 (Value.int .i64 fr); refine calls_later_same (HF.out _)) | (go_at_call 26; refine calls_later (HGM.out _)) | (go_at_call 27; refine calls_later (HGC.out _)) | (go_at_call_of 24 (Value.int .i64 tp); refine calls_later_same (HTP.out _)) | (go_at_call_of 24 (Value.int .i64 di); refine calls_later_same (HDI.out _)) | (go_at_call 28; refine calls_later_same (HUN.out _))))
        refine wpQuiet_nil ?_; intro w9 hw9; obtain ⟨⟨w9', hb9⟩, rfl⟩ := hw9; have HB9 := hide (HB0.out.trans (hb9.mono HB0.out.size)); clear hb9; go_wp2_with fail; all_goals (go_ret; exact ⟨rfl, HB9.out⟩)
      | true =>
        cases q3 with
        | false =>
          clear hn
          go_enter Try.func10, Try.ntmps10; go_wp2_with fail; rw [← hW]; refine wp_region_later (by kernel_rfl) (by kernel_rfl) ?_; dsimp only [List.append]
          repeat (go_big_quiet_step (first | rfl | (go_at_call_of 25 (Value.int .i64 4611686018427387904); refine calls_later_same (HE.out _)) | (go_at_call_of 25 (Value.int .i64 sl); refine calls_later_same (HH.out _)) | (go_at_call_of 25 (Value.int .i64 fr); refine calls_later_same (HF.out _)) | (go_at_call 26; refine calls_later (HGM.out _)) | (go_at_call 27; refine calls_later (HGC.out _)) | (go_at_call_of 24 (Value.int .i64 tp); refine calls_later_same (HTP.out _)) | (go_at_call_of 24 (Value.int .i64 di); refine calls_later_same (HDI.out _)) | (go_at_call 28; refine calls_later_same (HUN.out _))))
          refine wpQuiet_nil ?_; intro w9 hw9; obtain ⟨⟨w9', hb9⟩, rfl⟩ := hw9; have HB9 := hide (HB0.out.trans (hb9.mono HB0.out.size)); clear hb9; go_wp2_with fail; all_goals (go_ret; exact ⟨rfl, HB9.out⟩)
        | true => exact absurd hn (by decide)
end Go.Proofs.Ytmildaofmgeceaa
