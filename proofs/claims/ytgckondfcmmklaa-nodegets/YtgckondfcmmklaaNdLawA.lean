/-
  Layer 8's statements: the first question.
-/
import Derived.Test.YtgckondfcmmklaaNdProg
import Derived.Test.YtgckondfcmmklaaTails
namespace Go.Proofs.Ytgckondfcmmklaa
set_option linter.unusedVariables false
set_option linter.unusedSimpArgs false
open Go.RowKit

set_option maxRecDepth 100000 in
set_option maxHeartbeats 2000000 in
theorem nawake_any (w : World) : Calls Try.prog 7 #[] w fun e w' => e = .returned (.bool true) ∧ Below w.heap.size w w' := by
  obtain ⟨W, hW⟩ : ∃ W, W = (w.alloc (.cells #[.int .i64 9] 3)).alloc (.cells #[.int .i64 3, .int .i64 1, .int .i64 (-5), .int .i64 7, .slice (some ⟨w.heap.size, 0, none⟩) 1 1] 28) := ⟨_, rfl⟩
  have hWs : W.heap.size = w.heap.size + 2 := by rw [hW]; simp
  have hb0 : Below w.heap.size w W := by rw [hW]; exact ((Below.refl _ _).alloc (Nat.le_refl _) _).alloc (by simp) _
  have hgk : W.heap[w.heap.size]? = some (.cells #[.int .i64 9] 3 (0, 0)) := by
    rw [hW, Below.heap_alloc _ _ _ (by simp)]
    exact heap_alloc_new w _
  have hgn : W.heap[w.heap.size + 1]? = some (.cells #[.int .i64 3, .int .i64 1, .int .i64 (-5), .int .i64 7, .slice (some ⟨w.heap.size, 0, none⟩) 1 1] 28 (0, 0)) := by
    rw [hW]
    have := heap_alloc_new (w.alloc (.cells #[.int .i64 9] 3)) (.cells #[.int .i64 3, .int .i64 1, .int .i64 (-5), .int .i64 7, .slice (some ⟨w.heap.size, 0, none⟩) 1 1] 28)
    simpa using this
  have hA : Arg .i64 W (some ⟨w.heap.size, 0, none⟩) 1 1 [9] := ⟨Nat.le_refl _, by unfold maxLen; decide, ⟨rfl, .inr ⟨w.heap.size, 0, rfl, by omega, fun i hi => by
    obtain rfl : i = 0 := by omega
    simp [World.cell?, hgk]⟩⟩, fun z hz => by rw [List.mem_singleton.1 hz]; decide, .inr ⟨_, _, rfl⟩⟩
  have hr : Nd.right ⟨3, 1, -5, 7, [9]⟩ = true := by decide
  have hwf : Nd.wf ⟨3, 1, -5, 7, [9]⟩ := by unfold Nd.wf; decide
  have HP := hide (nput_yes 3 1 (-5) 7 [9] W (some ⟨w.heap.size, 0, none⟩) 1 1 hA hr hwf)
  have HTL : Hid (Nd.tells (Nd.block ⟨3, 1, -5, 7, [9]⟩) = ⟨3, 1, -5, 7, [9]⟩) := by
    show Nd.tells _ = _
    unfold Nd.tells
    rw [if_pos (Nd.got_block hr hwf), Nd.told_block hr hwf]
  have HGB := hide (Nd.got_block hr hwf)
  have HBL := hide (Nd.block_length hr)
  have HBB := hide (Nd.block_bytes hr)
  have HB0 := hide hb0
  have HGN := hide hgn
  have HCM := hide (fun W => ncompare_any 3 1 (-5) 7 0 0 0 0 W)
  rw [show cmpB 3 1 (-5) 0 0 0 = -1 by decide] at HCM
  clear hA hr hwf hb0 hgk hgn
  generalize Nd.block ⟨3, 1, -5, 7, [9]⟩ = bl at *
  go_enter Try.func7, Try.ntmps7
  go_wp2_with fail
  rw [← hW]
  refine HP.out.mono ?_
  rintro e w1 ⟨h, c, tail, rfl, hc, hcm, hh, hblk, hb1⟩
  have hA1 := arg_tail hblk HBB.out HBL.out hc hcm
  have HG := hide (nget_any hA1 (by decide))
  have HB1 := hide (HB0.out.trans (hb1.mono HB0.out.size))
  have HN1 := hide ((hb1.block (w.heap.size + 1) (by omega)).trans HGN.out)
  clear hA1 hblk hb1
  go_wp2_with fail
  refine HG.out.mono ?_
  rintro e w2 ⟨v, rfl, hnv, hb2⟩
  rw [HTL.out] at hnv
  obtain ⟨ka, kc, rfl, hKA⟩ := hnv
  rw [HGB.out]
  have HN2 := (hb2.block (w.heap.size + 1) (Array.getElem?_eq_some_iff.1 HN1.out).1).trans HN1.out
  have HB2 := hide (HB1.out.trans (hb2.mono HB1.out.size))
  have hlt2 : w.heap.size + 1 < w2.heap.size := (Array.getElem?_eq_some_iff.1 HN2).1
  have hne2 : ¬ w.heap.size + 1 = w2.heap.size := by omega
  have hne3 : ¬ w2.heap.size = w.heap.size + 1 := by omega
  have c0 : w2.cell? ⟨w.heap.size + 1, 0, none⟩ = some (.int .i64 3) := by simp [World.cell?, HN2]
  have c1 : w2.cell? ⟨w.heap.size + 1, 1, none⟩ = some (.int .i64 1) := by simp [World.cell?, HN2]
  have c2 : w2.cell? ⟨w.heap.size + 1, 2, none⟩ = some (.int .i64 (-5)) := by simp [World.cell?, HN2]
  have c3 : w2.cell? ⟨w.heap.size + 1, 3, none⟩ = some (.int .i64 7) := by simp [World.cell?, HN2]
  have HB3 := hide (HB2.out.alloc HB2.out.size (.cells #[.int .i64 3, .int .i64 1, .int .i64 (-5), .int .i64 7, .slice ka 1 kc] 28))
  clear hb2 HN2 hKA
  dsimp only [List.length]
  go_wp2_with fail
  refine (HCM.out _).mono ?_
  rintro e w3 ⟨rfl, hb3⟩
  have HB4 := hide (HB3.out.trans (hb3.mono HB3.out.size))
  clear hb3
  go_wp2_with fail
  go_ret
  exact ⟨rfl, HB4.out⟩
end Go.Proofs.Ytgckondfcmmklaa
