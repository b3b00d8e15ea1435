/-
  Layer 12's statements: the first question; GeomPlaces.
-/
import Derived.Test.YtmeeikgebkdmiaaGmProg
namespace Go.Proofs.Ytmeeikgebkdmiaa
set_option linter.unusedVariables false
set_option linter.unusedSimpArgs false
open Go.RowKit

set_option maxRecDepth 100000 in
set_option maxHeartbeats 2000000 in
theorem gmawake_any (w : World) : Calls Try.prog 7 #[] w fun e w' => e = .returned (.bool true) ∧ Below w.heap.size w w' := by
  have HP := hide (gmplace_any 120 w (by decide))
  rw [show gmX 120 = 1 by decide, show gmY 120 = 1 by decide, show gmZ 120 = 1 by decide, show gmIn 120 = true by decide] at HP
  have HL := hide (fun W => gmleaves_any 8 W (by decide))
  rw [show ((Gm.leavesI 8 : Nat) : Int) = 2 by decide] at HL
  have HB := hide (fun W => gmbound_any 400 64 1 50 W)
  rw [show Gm.bound 400 64 1 50 = 404 by decide] at HB
  go_enter Try.func7, Try.ntmps7
  go_wp2_with fail
  refine HP.out.mono ?_
  rintro e w1 ⟨rfl, hb1⟩
  have HB1 := hide hb1
  clear hb1
  go_wp2_with fail
  refine (HL.out _).mono ?_
  rintro e w2 ⟨rfl, hb2⟩
  have HB2 := hide (HB1.out.trans (hb2.mono HB1.out.size))
  clear hb2
  go_wp2_with fail
  refine (HB.out _).mono ?_
  rintro e w3 ⟨rfl, hb3⟩
  have HB3 := hide (HB2.out.trans (hb3.mono HB2.out.size))
  clear hb3
  go_wp2_with fail
  go_ret
  exact ⟨rfl, HB3.out⟩

set_option maxRecDepth 100000 in
set_option maxHeartbeats 2000000 in
theorem geomplaces_any (slot : Int) (w : World) (hs : (Lit.int .i64 slot).wf = true) : Calls Try.prog 5 #[.int .i64 slot] w fun e w' => e = .returned (.bool true) ∧ Below w.heap.size w w' := by
  have HAW := hide (gmawake_any w)
  have HP := hide (fun W => gmplace_any slot W hs)
  cases hi : gmIn slot with
  | true =>
    have hin := of_decide_eq_true hi
    have hx : gmX slot = slot / 112 := by unfold gmX; rw [hi, if_pos rfl]
    have hy : gmY slot = slot / 7 % 16 := by unfold gmY; rw [hi, if_pos rfl]
    have hz : gmZ slot = slot % 7 := by unfold gmZ; rw [hi, if_pos rfl]
    rw [hi, hx, hy, hz] at HP
    have b1 : 0 ≤ slot / 112 ∧ slot / 112 < 16 := by omega
    have b2 : 0 ≤ slot / 7 % 16 ∧ slot / 7 % 16 < 16 := by omega
    have b3 : 0 ≤ slot % 7 ∧ slot % 7 < 7 := by omega
    have b4 : 112 * (slot / 112) + 7 * (slot / 7 % 16) + slot % 7 = slot := by omega
    generalize slot / 112 = x at *
    generalize slot / 7 % 16 = y at *
    generalize slot % 7 = z at *
    have c1 : ¬ slot < 0 := by omega
    have c2 : ¬ 1791 < slot := by omega
    obtain ⟨d1, d2⟩ := b1
    obtain ⟨d3, d4⟩ := b2
    obtain ⟨d5, d6⟩ := b3
    have hsum : (112 * x + 7 * y + z == slot) = true := by simpa using b4
    clear hi hx hy hz
    go_enter Try.func5, Try.ntmps5
    go_wp2_with fail
    refine HAW.out.mono ?_
    rintro e w1 ⟨rfl, hb1⟩
    have HB1 := hide hb1
    clear hb1
    go_wp2_with fail
    refine (HP.out _).mono ?_
    rintro e w2 ⟨rfl, hb2⟩
    have HB2 := hide (HB1.out.trans (hb2.mono HB1.out.size))
    clear hb2
    go_wp2_with fail
    go_ret
    exact ⟨by simp <;> omega, HB2.out⟩
  | false =>
    have hin := of_decide_eq_false hi
    have hx : gmX slot = 0 := by unfold gmX; rw [hi]; rfl
    have hy : gmY slot = 0 := by unfold gmY; rw [hi]; rfl
    have hz : gmZ slot = 0 := by unfold gmZ; rw [hi]; rfl
    rw [hi, hx, hy, hz] at HP
    have hc : slot < 0 ∨ (¬ slot < 0 ∧ 1791 < slot) := by omega
    clear hi hx hy hz
    rcases hc with c1 | ⟨c1, c2⟩
    all_goals
      go_enter Try.func5, Try.ntmps5
      go_wp2_with fail
      refine HAW.out.mono ?_
      rintro e w1 ⟨rfl, hb1⟩
      have HB1 := hide hb1
      clear hb1
      go_wp2_with fail
      refine (HP.out _).mono ?_
      rintro e w2 ⟨rfl, hb2⟩
      have HB2 := hide (HB1.out.trans (hb2.mono HB1.out.size))
      clear hb2
      go_wp2_with fail
      go_ret
      exact ⟨rfl, HB2.out⟩
end Go.Proofs.Ytmeeikgebkdmiaa
