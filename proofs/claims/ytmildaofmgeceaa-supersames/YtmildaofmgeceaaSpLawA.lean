/-
  Layer 13's statements: the first question.
-/
import Derived.Test.YtmildaofmgeceaaSpProg
import Derived.Test.YtmildaofmgeceaaTails
namespace Go.Proofs.Ytmildaofmgeceaa
set_option linter.unusedVariables false
set_option linter.unusedSimpArgs false
open Go.RowKit

def sps0 : Sp.S := ⟨1, 16, 1, 1, 0, 0, 0, 0, [2]⟩
theorem sps0_right : Sp.right sps0 = true := by decide +kernel

set_option maxRecDepth 100000 in
set_option maxHeartbeats 2000000 in
theorem spawake_any (w : World) : Calls Try.prog 7 #[] w fun e w' => e = .returned (.bool true) ∧ Below w.heap.size w w' := by
  obtain ⟨W, hW⟩ : ∃ W, W = (w.alloc (.cells #[.int .i64 2] 3)).alloc (.cells #[Value.int .i64 1, Value.int .i64 16, Value.int .i64 1, Value.int .i64 1, Value.int .i64 0, Value.int .i64 0, Value.int .i64 0, Value.int .i64 0, Value.slice (some ⟨w.heap.size, 0, none⟩) 1 1] 28) := ⟨_, rfl⟩
  have hWs : W.heap.size = w.heap.size + 2 := by rw [hW]; simp
  have hb0 : Below w.heap.size w W := by rw [hW]; exact ((Below.refl _ _).alloc (Nat.le_refl _) _).alloc (by simp) _
  have hgk : W.heap[w.heap.size]? = some (.cells #[.int .i64 2] 3 (0, 0)) := by
    rw [hW, Below.heap_alloc _ _ _ (by simp)]
    exact heap_alloc_new w _
  have hA : Arg .i64 W (some ⟨w.heap.size, 0, none⟩) 1 1 [2] := ⟨Nat.le_refl _, by unfold maxLen; decide, ⟨rfl, .inr ⟨w.heap.size, 0, rfl, by omega, fun i hi => by
    obtain rfl : i = 0 := by omega
    simp [World.cell?, hgk]⟩⟩, fun z hz => by rw [List.mem_singleton.1 hz]; decide, .inr ⟨_, _, rfl⟩⟩
  have HP := hide (spput_yes sps0 (some ⟨w.heap.size, 0, none⟩) 1 1 hA sps0_right)
  have HTL := hide (Sp.tells_block sps0_right)
  have HGB := hide (Sp.got_block sps0_right)
  have HBL := hide (Sp.block_length sps0_right)
  have HBB := hide (Sp.block_bytes sps0_right)
  have HB0 := hide hb0
  clear hA hb0 hgk hWs
  generalize Sp.block sps0 = bl at *
  go_enter Try.func7, Try.ntmps7
  go_wp2_with fail
  rw [← hW]
  refine HP.out.mono ?_
  rintro e w1 ⟨h, c, tail, rfl, hc, hcm, hh, hblk, hb1⟩
  have hA1 := arg_tail hblk HBB.out HBL.out hc hcm
  have HG := hide (spget_any hA1 (by decide))
  have HB1 := hide (HB0.out.trans (hb1.mono HB0.out.size))
  clear hA1 hblk hb1
  go_wp2_with fail
  refine HG.out.mono ?_
  rintro e w2 ⟨v, rfl, hnv, hb2⟩
  rw [HTL.out] at hnv
  obtain ⟨ka, kc, rfl, hKA⟩ := hnv
  rw [HGB.out]
  have HB2 := hide (HB1.out.trans (hb2.mono HB1.out.size))
  have HB3 := hide (HB2.out.alloc HB2.out.size (.cells (superC sps0 ka 1 kc) 28))
  clear hb2 hKA
  unfold superC sps0
  dsimp only [List.length]
  go_wp2_with fail
  go_ret
  exact ⟨rfl, HB3.out⟩
end Go.Proofs.Ytmildaofmgeceaa
