/-
  Layer 7's statements: the first question; BlockSeals.
-/
import Derived.Test.YtenkmggddacnaaaBkProg
namespace Go.Proofs.Ytenkmggddacnaaa
set_option linter.unusedVariables false
set_option linter.unusedSimpArgs false
open Go.RowKit

theorem wfu8 {x : Int} (h : 0 ≤ x ∧ x ≤ 255) : (Lit.int .u8 x).wf = true := by
  simpa [Lit.wf, IntKind.min, IntKind.max, IntKind.signed, IntKind.bits] using h
theorem lt_of_heap {w : World} {g : Nat} {o : Obj} (h : w.heap[g]? = some o) : g < w.heap.size := (Array.getElem?_eq_some_iff.1 h).1
/-- octets that lie at the head of a block, as an argument. -/
theorem arg_tail {w : World} {g c : Nat} {zs : List Int} {tail : List Value} {T : TypeId} (h : w.heap[g]? = some (.cells (zs.map (Value.int .u8) ++ tail).toArray T (0, 0))) (hz : Nums.Bytes zs) {n : Nat} (hn : zs.length = n) (hc : n ≤ c) (hm : c ≤ maxLen) : Arg .u8 w (some ⟨g, 0, none⟩) n c zs := by
  refine ⟨hc, hm, ⟨hn, .inr ⟨g, 0, rfl, lt_of_heap h, fun i hi => ?_⟩⟩, fun z hzz => wfu8 (hz z hzz), .inr ⟨g, 0, rfl⟩⟩
  simp [World.cell?, h, List.getElem?_append, show i < zs.length by omega]
theorem isB_noughts : Bk.isB (List.replicate 64 0) = false := by decide +kernel
theorem isB_bounds {zs : List Int} (hz : Nums.Bytes zs) (h : Bk.isB zs = true) : (1 ≤ zs.getD 4 0 ∧ zs.getD 4 0 ≤ 255) ∧ (0 ≤ zs.getD 5 0 ∧ zs.getD 5 0 ≤ 255) := by
  obtain ⟨h1, h2, _⟩ := of_decide_eq_true h
  have hb : ∀ i, i < 64 → 0 ≤ zs.getD i 0 ∧ zs.getD i 0 ≤ 255 := fun i hi => by
    rw [List.getD_eq_getElem?_getD, List.getElem?_eq_getElem (by omega)]
    exact hz _ (List.getElem_mem _)
  have h4 := hb 4 (by decide)
  have h5 := hb 5 (by decide)
  refine ⟨⟨?_, h4.2⟩, h5⟩
  have : zs.getD 4 0 ≠ 0 := h2
  omega

set_option maxRecDepth 100000 in
set_option maxHeartbeats 2000000 in
theorem bawake_any (w : World) : Calls Try.prog 7 #[] w fun e w' => e = .returned (.bool true) ∧ Below w.heap.size w w' := by
  have hmk := make_bytes 64 (by decide)
  rw [show ((64 : Nat) : Int) = 64 from rfl] at hmk
  have hA : Arg .u8 (w.alloc (.cells #[.int .u8 3] 5)) (some ⟨w.heap.size, 0, none⟩) 1 1 [3] := arg_tail (zs := [3]) (tail := []) (heap_alloc_new w _) (fun z hz => by rw [List.mem_singleton.1 hz]; decide) rfl (Nat.le_refl _) (by unfold maxLen; decide)
  have HS := hide (bseal_yes 1 2 (by decide) (by decide) hA (by decide))
  have HB0 := hide ((Below.refl w.heap.size w).alloc (Nat.le_refl _) (.cells #[.int .u8 3] 5))
  clear hA
  go_enter Try.func7, Try.ntmps7
  go_wp2_with fail
  refine HS.out.mono ?_
  rintro e w1 ⟨g, c, tail, rfl, hc, hcm, hg, hblk, hb1⟩
  have HB1 := hide (HB0.out.trans (hb1.mono HB0.out.size))
  have hA1 := arg_tail hblk (Bk.shut_bytes (by decide) (by decide) (fun z hz => by rw [List.mem_singleton.1 hz]; decide)) (Bk.shut_length (by decide)) hc hcm
  have hK := bkind_any hA1 (by decide)
  rw [if_pos (Bk.shut_isB (by decide) (by decide)), Bk.shut_parts.1] at hK
  have HK := hide hK
  clear hA1 hK hblk hb1
  go_wp2_with fail
  refine HK.out.mono ?_
  rintro e w2 ⟨rfl, hb2⟩
  have HB2 := hide (HB1.out.trans (hb2.mono HB1.out.size))
  clear hb2
  have hA2 : Arg .u8 (w2.alloc (.cells (blk .u8 (List.replicate 64 0)) 5)) (some ⟨w2.heap.size, 0, none⟩) 64 64 (List.replicate 64 0) := arg_tail (zs := List.replicate 64 0) (tail := []) (by rw [List.append_nil]; exact heap_alloc_new w2 _) (Nums.bytes_replicate 64) (by simp) (Nat.le_refl _) (by unfold maxLen; decide)
  have hK := bkind_any hA2 (by decide)
  rw [isB_noughts, if_neg (by decide)] at hK
  have HK2 := hide hK
  have HB3 := hide (HB2.out.alloc HB2.out.size (.cells (blk .u8 (List.replicate 64 0)) 5))
  clear hA2 hK
  go_wp2_with fail
  refine HK2.out.mono ?_
  rintro e w3 ⟨rfl, hb3⟩
  have HB4 := hide (HB3.out.trans (hb3.mono HB3.out.size))
  clear hb3
  go_wp2_with fail
  go_ret
  exact ⟨rfl, HB4.out⟩
end Go.Proofs.Ytenkmggddacnaaa
